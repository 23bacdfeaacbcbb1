import Derived.BigQuiet
import Derived.Test.YtjbfgnhkgjigpaaDoorGa1
import Derived.Test.YtjbfgnhkgjigpaaDoorGa3
import Derived.Test.YtjbfgnhkgjigpaaDoorGa5
import Derived.Test.YtjbfgnhkgjigpaaDoorGa7
import Derived.Test.YtjbfgnhkgjigpaaDoorGa9
namespace Vm
theorem textL_len (A : List At) : (textL A).length = bytesA A := by
  induction A with
  | nil => rfl
  | cons a A ih =>
    have e : textL (a :: A) = utfL (chA a) ++ textL A := rfl
    have e2 : bytesA (a :: A) = lenA a + bytesA A := by simp [bytesA]
    rw [e, e2, List.length_append, utfL_length, ih]; rfl
theorem textL_append (A B : List At) : textL (A ++ B) = textL A ++ textL B := by simp [textL]
theorem textL_at {A : List At} {k : Nat} {x : At} (h : A[k]? = some x) (j : Nat) (hj : j < lenA x) : (textL A)[bytesA (A.take k) + j]? = (utfL (chA x))[j]? := by
  have hk : k < A.length := by
    rcases Nat.lt_or_ge k A.length with g | g
    · exact g
    · rw [List.getElem?_eq_none g] at h; cases h
  have e : A = A.take k ++ (x :: A.drop (k + 1)) := by
    have hx : A[k] = x := by rw [List.getElem?_eq_getElem hk] at h; exact Option.some.inj h
    rw [← hx, List.getElem_cons_drop hk, List.take_append_drop]
  have e2 : textL A = textL (A.take k) ++ (utfL (chA x) ++ textL (A.drop (k + 1))) := by
    conv => lhs; rw [e, textL_append]
    rfl
  rw [e2, ← textL_len, List.getElem?_append_right (by omega), Nat.add_sub_cancel_left, List.getElem?_append_left (by rw [utfL_length]; exact hj)]
/-- What the statement's loop makes of the first byte: how many bytes there are, and what is left of it. -/
def dn (c : Int) : Nat := if 240 ≤ c then 4 else if 224 ≤ c then 3 else if 192 ≤ c then 2 else 1
def dc (c : Int) : Int := if 240 ≤ c then c % 8 else if 224 ≤ c then c % 16 else if 192 ≤ c then c % 32 else c
/-- The number out of the first k bytes of a list. -/
def dpart (l : List Int) : Nat → Int
  | 0 => 0
  | 1 => dc (l.getD 0 0)
  | k + 2 => 64 * dpart l (k + 1) + l.getD (k + 1) 0 % 64
theorem dn_utf {r : Int} (h : validB r = true) : dn ((utfL r).getD 0 0) = utfLen r := by
  have hv : 0 ≤ r ∧ r ≤ 1114111 := by rw [validB_iff] at h; omega
  unfold utfL utfLen dn
  split
  · simp only [List.getD_cons_zero]; rw [if_neg (by omega), if_neg (by omega), if_neg (by omega)]
  · split
    · simp only [List.getD_cons_zero]; rw [if_neg (by omega), if_neg (by omega), if_pos (by omega)]
    · split
      · simp only [List.getD_cons_zero]; rw [if_neg (by omega), if_pos (by omega)]
      · simp only [List.getD_cons_zero]; rw [if_pos (by omega)]
theorem dpart_utf {r : Int} (h : validB r = true) : dpart (utfL r) (utfLen r) = r := by
  have hv : 0 ≤ r ∧ r ≤ 1114111 := by rw [validB_iff] at h; omega
  unfold utfL utfLen
  split
  · simp only [dpart, dc, List.getD_cons_zero]; rw [if_neg (by omega), if_neg (by omega), if_neg (by omega)]
  · split
    · simp only [dpart, dc, List.getD_cons_zero, List.getD_cons_succ]; rw [if_neg (by omega), if_neg (by omega), if_pos (by omega)]; omega
    · split
      · simp only [dpart, dc, List.getD_cons_zero, List.getD_cons_succ]; rw [if_neg (by omega), if_pos (by omega)]; omega
      · simp only [dpart, dc, List.getD_cons_zero, List.getD_cons_succ]; rw [if_pos (by omega)]; omega
end Vm

namespace Vm
def LfOk (a : At) : Prop := (chA a = 10 ↔ a.1 ≤ 2)
theorem single_lf (x : Sg) : LfOk (singleA x) := by
  unfold singleA LfOk chA
  split
  · simp
  · split
    · simp
    · simp; omega
theorem atomsF_lf : ∀ (S : List Sg) (h : Nat), ∀ a ∈ atomsF h S, LfOk a
  | [], h, a, ha => by
    simp only [atomsF] at ha
    split at ha
    · simp only [List.mem_singleton] at ha; subst ha; simp [LfOk, chA]
    · simp at ha
  | x :: r, h, a, ha => by
    simp only [atomsF] at ha
    split at ha
    · simp only [List.mem_cons] at ha
      rcases ha with rfl | ha
      · simp [LfOk, chA]
      · exact atomsF_lf r 0 a ha
    · simp only [List.mem_append] at ha
      rcases ha with ha | ha
      · split at ha
        · simp only [List.mem_singleton] at ha; subst ha; simp [LfOk, chA]
        · simp at ha
      · split at ha
        · exact atomsF_lf r x.2 a ha
        · simp only [List.mem_cons] at ha
          rcases ha with rfl | ha
          · exact single_lf x
          · exact atomsF_lf r 0 a ha
theorem atoms_lf (enc : Int) (l : Bytes) : ∀ a ∈ atoms enc l, LfOk a := atomsF_lf _ 0
/-- How many characters 65533. -/
def oddA (A : List At) : Nat := (A.filter (fun x => decide (chA x = 65533))).length
theorem oddA_take {A : List At} {k : Nat} {x : At} (h : A[k]? = some x) : oddA (A.take (k + 1)) = oddA (A.take k) + if chA x = 65533 then 1 else 0 := by
  rw [List.take_add_one, h]
  unfold oddA
  rw [List.filter_append, List.length_append]
  by_cases g : chA x = 65533 <;> simp [g]
theorem oddA_le (A : List At) : oddA A ≤ A.length := List.length_filter_le _ _
theorem esc_le {A : List At} (h : ∀ a ∈ A, AtOk a) : cntK A 4 ≤ oddA A := by
  induction A with
  | nil => simp [cntK, oddA]
  | cons a A ih =>
    have h1 := h a (by simp)
    have h2 := ih (fun x hx => h x (by simp [hx]))
    have e1 : cntK (a :: A) 4 = cntK A 4 + if a.1 = 4 then 1 else 0 := by
      unfold cntK; by_cases g : a.1 = 4 <;> simp [g]
    have e2 : oddA (a :: A) = oddA A + if chA a = 65533 then 1 else 0 := by
      unfold oddA; by_cases g : chA a = 65533 <;> simp [g]
    rw [e1, e2]
    by_cases g : a.1 = 4
    · rw [if_pos g, if_pos (show chA a = 65533 from h1.2.2.1 g)]; omega
    · rw [if_neg g]; split <;> omega
end Vm

namespace Go.Proofs.YtjbfgnhkgjigpaaDoor
open Go.RowKit

theorem nums_toList (l : List Int) : (strOfNums l).data.toList = numsB l := rfl
theorem nums_size (l : List Int) : (strOfNums l).size = l.length := by simp [strOfNums, ByteArray.size]
theorem byte_get {t : ByteArray} {l : List Int} (h : t = strOfNums l) (i : Nat) (n : Int) (hn : l[i]? = some n) (h0 : 0 ≤ n) (h1 : n ≤ 255) : ∃ g : i < t.size, (t[i].toNat : Int) = n := by
  subst h
  have g : i < l.length := by
    rcases Nat.lt_or_ge i l.length with g | g
    · exact g
    · rw [List.getElem?_eq_none g] at hn; cases hn
  refine ⟨by rw [nums_size]; exact g, ?_⟩
  have e : l[i] = n := by rw [List.getElem?_eq_getElem g] at hn; exact Option.some.inj hn
  have e2 : (strOfNums l)[i]'(by rw [nums_size]; exact g) = UInt8.ofNat n.toNat := by
    show (strOfNums l).data[i]'_ = _
    simp [strOfNums, e]
  rw [e2]
  have : (UInt8.ofNat n.toNat).toNat = n.toNat % 256 := by simp
  rw [this]; omega
theorem bytes_at {t : ByteArray} {A : List Vm.At} (h : t = strOfNums (Vm.textL A)) {k : Nat} {x : Vm.At} (hx : A[k]? = some x) (hv : Vm.validB (Vm.chA x) = true) (j : Nat) (hj : j < Vm.lenA x) :
    ∃ g : Vm.bytesA (A.take k) + j < t.size, (t[Vm.bytesA (A.take k) + j].toNat : Int) = (Vm.utfL (Vm.chA x)).getD j 0 := by
  have hl : j < (Vm.utfL (Vm.chA x)).length := by rw [Vm.utfL_length]; exact hj
  have hg := List.getElem?_eq_getElem hl
  have hb := Vm.utfL_bd hv _ (List.getElem_mem hl)
  obtain ⟨g, e⟩ := byte_get h (Vm.bytesA (A.take k) + j) _ ((Vm.textL_at hx j hj).trans hg) hb.1 hb.2
  exact ⟨g, by rw [e, List.getD_eq_getElem?_getD, hg]; rfl⟩
theorem ext_at {t : ByteArray} {A : List Vm.At} (h : t = strOfNums (Vm.textL A)) {k : Nat} {x : Vm.At} (hx : A[k]? = some x) :
    t.extract (Vm.bytesA (A.take k)) (Vm.bytesA (A.take k) + Vm.lenA x) = strOfNums (Vm.utfL (Vm.chA x)) := by
  have hk : k < A.length := by
    rcases Nat.lt_or_ge k A.length with g | g
    · exact g
    · rw [List.getElem?_eq_none g] at hx; cases hx
  have e : A = A.take k ++ (x :: A.drop (k + 1)) := by
    have hx' : A[k] = x := by rw [List.getElem?_eq_getElem hk] at hx; exact Option.some.inj hx
    rw [← hx', List.getElem_cons_drop hk, List.take_append_drop]
  have e2 : Vm.textL A = Vm.textL (A.take k) ++ (Vm.utfL (Vm.chA x) ++ Vm.textL (A.drop (k + 1))) := by
    conv => lhs; rw [e, Vm.textL_append]
    rfl
  subst h
  apply bytes_ext
  rw [ByteArray.data_extract, Array.toList_extract, nums_toList, nums_toList, e2]
  have hl : (numsB (Vm.textL (A.take k))).length = Vm.bytesA (A.take k) := by rw [← Vm.textL_len]; simp [numsB]
  have hu : (numsB (Vm.utfL (Vm.chA x))).length = Vm.lenA x := by unfold Vm.lenA; rw [← Vm.utfL_length]; simp [numsB]
  have hs : ∀ a b, numsB (a ++ b) = numsB a ++ numsB b := fun a b => by simp [numsB]
  rw [hs, hs, List.extract_eq_take_drop, ← hl, List.drop_left, Nat.add_sub_cancel_left, ← hu, List.take_left]
end Go.Proofs.YtjbfgnhkgjigpaaDoor

namespace Vm
theorem signsF_len (enc : Int) : ∀ (f : Nat) (l : Bytes), (signsF enc f l).length ≤ f
  | 0, _ => by simp [signsF]
  | f + 1, l => by
    simp only [signsF]
    split
    · simp
    · rename_i x _
      have := signsF_len enc f (l.drop x.2)
      rw [List.length_cons]; omega
theorem atomsF_len : ∀ (S : List Sg) (h : Nat), (atomsF h S).length ≤ S.length + if 0 < h then 1 else 0
  | [], h => by
    simp only [atomsF]
    split <;> simp
  | x :: r, h => by
    have i0 := atomsF_len r 0
    have ix := atomsF_len r x.2
    simp only [Nat.lt_irrefl, if_false, Nat.add_zero] at i0
    have ix' : (atomsF x.2 r).length ≤ r.length + 1 := Nat.le_trans ix (by split <;> omega)
    simp only [atomsF]
    by_cases c1 : 0 < h ∧ x.1 = 10
    · rw [if_pos c1, if_pos c1.1, List.length_cons, List.length_cons]; omega
    · rw [if_neg c1, List.length_append, List.length_cons]
      have a : (if 0 < h then [((2 : Int), (10 : Int), h)] else ([] : List At)).length = if 0 < h then 1 else 0 := by split <;> rfl
      rw [a]
      by_cases c2 : x.1 = 13
      · rw [if_pos c2]; omega
      · rw [if_neg c2, List.length_cons]; omega
theorem atoms_len (enc : Int) (l : Bytes) : (atoms enc l).length ≤ l.length := by
  have h := atomsF_len (signs enc l) 0
  have k := signsF_len enc l.length l
  simp only [Nat.lt_irrefl, if_false, Nat.add_zero] at h
  exact Nat.le_trans h k
end Vm

namespace Go.Proofs.YtjbfgnhkgjigpaaDoor
open Go.RowKit

theorem i64_and31 (x : Int) (h₀ : 0 ≤ x) (h₁ : x ≤ 2097151) : bits .and .i64 x 31 = x % 32 := bits_mask .i64 62 (by decide) wraps_i64x 5 (by decide) x h₀ (by omega)
theorem i64_and15 (x : Int) (h₀ : 0 ≤ x) (h₁ : x ≤ 2097151) : bits .and .i64 x 15 = x % 16 := bits_mask .i64 62 (by decide) wraps_i64x 4 (by decide) x h₀ (by omega)
theorem i64_and7 (x : Int) (h₀ : 0 ≤ x) (h₁ : x ≤ 2097151) : bits .and .i64 x 7 = x % 8 := bits_mask .i64 62 (by decide) wraps_i64x 3 (by decide) x h₀ (by omega)
/-- A world that bears all that w bears. -/
def Bl (w : World) : Type := {w' : World // Below w.heap.size w w'}
instance (w : World) : Nonempty (Bl w) := ⟨⟨w, Below.refl _ _⟩⟩
theorem wp_region_bl {P : Program} {id : Nat} {Q : Exit → Act → World → Prop} {a : Act} {w : World} {l : List Oper} (hm : P.follows .mixedOrders = true) (hB : Region.lexB .any l.toArray = true)
    (h : wpQuiet P l.toArray (fun w' => ∃ x : Bl w, w' = x.val) (fun a' => ∀ w', (∃ x : Bl w, w' = x.val) → Q .normal a' w') l a) : (Code.region id l.toArray true).wp P Q a w :=
  wp_region_quiet (C := fun w' => ∃ x : Bl w, w' = x.val) hm hB ⟨⟨w.drew, (Below.refl _ _).drew⟩, rfl⟩ (by simpa using h)
theorem Calls.bl_of {P : Program} {f : FuncId} {args : Array Value} {w : World} {x : Bl w} {v : Value}
    (h : Calls P f args x.val fun e w' => e = .returned v ∧ Below x.val.heap.size x.val w') : Calls P f args x.val fun e w'' => e = .returned v ∧ ∃ y : Bl w, w'' = y.val :=
  h.mono fun _ w' ⟨he, hm⟩ => ⟨he, ⟨w', x.2.trans (hm.mono x.2.size)⟩, rfl⟩
end Go.Proofs.YtjbfgnhkgjigpaaDoor

namespace Go.Proofs.YtjbfgnhkgjigpaaDoor
open Go.RowKit
variable {T : World → Prop} {D : World → Nat → Int → Bool → ByteArray → Prop}

theorem vi64 {a b : Int} (h : a = b) : Value.int .i64 a = .int .i64 b := by rw [h]
set_option maxRecDepth 100000 in
set_option maxHeartbeats 2000000 in
theorem counted_any (api : Api T D) (b : ByteArray) (c : Int) (w : World) (ht : T w) (hb : b.size ≤ 1073741824) (h1 : -9223372036854775808 ≤ c) (h2 : c ≤ 9223372036854775807) :
    Calls Tryd.prog 7 #[.string b, .int .i64 c] w fun e w' => e = .returned (.bool true) ∧ Below w.heap.size w w' := by
  have O := hide2 (opened_any api b c w ht (by omega) h1 h2)
  have hbs := ofBody_size b (encOf b (Vm.pick c 8))
  generalize encOf b (Vm.pick c 8) = enc at *
  generalize ofMark b enc = mark at *
  generalize ofBody b enc = body at *
  have a2 := fun p w => api.text p enc mark body w
  have a3 := fun p w => api.state p enc mark body w
  have hch := Vm.atoms_ch enc body.data.toList
  have hlf := Vm.atoms_lf enc body.data.toList
  have hok := Vm.atoms_ok enc body.data.toList
  have hbl : body.data.toList.length = body.size := rfl
  have hal : (Vm.atoms enc body.data.toList).length ≤ 1073741824 := Nat.le_trans (Vm.atoms_len enc body.data.toList) (by omega)
  unfold shown at a3
  obtain ⟨tl, htl⟩ : ∃ tl, tl = decide (Vm.sizeA (Vm.atoms enc body.data.toList) < body.size) := ⟨_, rfl⟩
  rw [← htl] at a3
  generalize Vm.atoms enc body.data.toList = A at *
  generalize Vm.endingOf (Vm.cntK A 0) (Vm.cntK A 1) (Vm.cntK A 2) = en at *
  obtain ⟨t, htx⟩ : ∃ t, t = strOfNums (Vm.textL A) := ⟨_, rfl⟩
  rw [← htx] at a2
  have A2 := hide2 a2
  have A3 := hide2 a3
  have HT := hide2 htx
  clear a2 a3 htx htl
  go_enter Tryd.func7, Tryd.ntmps7
  go_wp2_with fail
  refine O.out.mono ?_
  rintro e w1 ⟨p, rfl, hd, hb1⟩
  have ht1 := api.tab ht hb1
  go_wp2_with fail
  refine (A2.out p w1 ht1 hd).mono ?_
  rintro e w2 ⟨rfl, hb2⟩
  have ht2 := api.tab ht1 hb2
  have hd2 := api.low hd hb2
  have hb02 := hb1.trans (hb2.mono hb1.size)
  go_wp2_with fail
  refine (A3.out p w2 ht2 hd2).mono ?_
  rintro e w3 ⟨rfl, hb3⟩
  have hb03 := hb02.trans (hb3.mono hb02.size)
  have BX := hide2 (Bx9.new w3 50 (.int .i64 enc) (.bool mark) (.int .i64 (Vm.bytesA A)) (.int .i64 A.length) (.int .i64 (Vm.unitsA A)) (.int .i64 ((Vm.linesA A : Int) + 1)) (.int .i64 (Vm.cntK A 4)) (.bool tl) (.int .i64 en))
  have hba := (Below.refl w3.heap.size w3).alloc (Nat.le_refl _) (.cells #[.int .i64 enc, .bool mark, .int .i64 (Vm.bytesA A), .int .i64 A.length, .int .i64 (Vm.unitsA A), .int .i64 ((Vm.linesA A : Int) + 1), .int .i64 (Vm.cntK A 4), .bool tl, .int .i64 en] 50)
  have htsz : t.size = Vm.bytesA A := by rw [HT.out, ← Vm.textL_len]; simp [strOfNums, ByteArray.size]
  have HTS := hide2 htsz
  clear htsz
  go_wp2
  go_loopw [9, 10, 11, 12, 13] (fun x9 x10 x11 x12 x13 wx => ∃ k : Nat, k ≤ A.length ∧ x9 = .int .i64 k ∧ x10 = .int .i64 (Vm.unitsA (A.take k)) ∧ x11 = .int .i64 ((Vm.linesA (A.take k) : Int) + 1) ∧ x12 = .int .i64 (Vm.oddA (A.take k)) ∧ x13 = .int .i64 (Vm.bytesA (A.take k)) ∧ Bx9 wx w3.heap.size (.int .i64 enc) (.bool mark) (.int .i64 (Vm.bytesA A)) (.int .i64 A.length) (.int .i64 (Vm.unitsA A)) (.int .i64 ((Vm.linesA A : Int) + 1)) (.int .i64 (Vm.cntK A 4)) (.bool tl) (.int .i64 en) ∧ Below w3.heap.size w3 wx) (fun x9 _ _ _ _ _ => A.length - (intOf x9).toNat)
  case atStart => exact ⟨0, Nat.zero_le _, rfl, rfl, rfl, rfl, rfl, BX.out, hba⟩
  case round =>
    obtain ⟨k, hk, rfl, rfl, rfl, rfl, rfl, hbk, hbx⟩ := hrel
    by_cases hlt : k < A.length
    · obtain ⟨x, hx⟩ : ∃ x, A[k]? = some x := ⟨A[k], List.getElem?_eq_getElem hlt⟩
      have hmem := List.mem_of_getElem? hx
      have hv := (hch x hmem).1
      have h13 := (hch x hmem).2
      have hl := hlf x hmem
      have hvr : 0 ≤ Vm.chA x ∧ Vm.chA x ≤ 1114111 := ⟨(hok x hmem).2.2.2.2.1, (hok x hmem).2.2.2.2.2.1⟩
      have hby := bytes_at HT.out hx hv
      have hex := ext_at HT.out hx
      have T1 := hide2 (Vm.bytesA_take hx)
      have T2 := hide2 (Vm.unitsA_take hx)
      have T3 := hide2 (Vm.linesA_take hx)
      have T5 := hide2 (Vm.oddA_take hx)
      have HBY := hide2 hby
      have HEX := hide2 hex
      have m1 := Vm.bytesA_le (A.take k)
      have m2 := Vm.unitsA_le (A.take k)
      have m3 := Vm.linesA_le (A.take k)
      have m5 := Vm.oddA_le (A.take k)
      have mt : (A.take k).length ≤ k := by simp; omega
      clear hby hex hch hlf
      have hlen : Vm.lenA x = Vm.utfLen (Vm.chA x) := rfl
      generalize hrr : Vm.chA x = r at *
      have HRR := hide2 hrr
      have hend : ∀ (wx : World), Below wr.heap.size wr wx → ∀ (u l o n : Int), u = (Vm.unitsA (A.take k) : Int) + (if 65535 < r then 2 else 1) → l = (Vm.linesA (A.take k) : Int) + 1 + (if r = 10 then 1 else 0) → o = (Vm.oddA (A.take k) : Int) + (if r = 65533 then 1 else 0) → n = (Vm.bytesA (A.take k) : Int) + (Vm.utfLen r : Int) →
          (∃ k1 : Nat, k1 ≤ A.length ∧ Value.int .i64 ((k : Int) + 1) = .int .i64 k1 ∧ Value.int .i64 u = .int .i64 (Vm.unitsA (A.take k1)) ∧ Value.int .i64 l = .int .i64 ((Vm.linesA (A.take k1) : Int) + 1) ∧ Value.int .i64 o = .int .i64 (Vm.oddA (A.take k1)) ∧ Value.int .i64 n = .int .i64 (Vm.bytesA (A.take k1)) ∧ Bx9 wx w3.heap.size (.int .i64 enc) (.bool mark) (.int .i64 (Vm.bytesA A)) (.int .i64 A.length) (.int .i64 (Vm.unitsA A)) (.int .i64 ((Vm.linesA A : Int) + 1)) (.int .i64 (Vm.cntK A 4)) (.bool tl) (.int .i64 en) ∧ Below w3.heap.size w3 wx) ∧
          A.length - (intOf (Value.int .i64 ((k : Int) + 1))).toNat < A.length - (intOf (Value.int .i64 (k : Int))).toNat := by
        intro wx hwx u l o n hu hl' ho hn
        subst hu hl' ho hn
        have hun : Vm.unA x = if 65535 < r then 2 else 1 := by unfold Vm.unA; rw [hrr]
        have hlx : (if x.1 ≤ 2 then (1 : Nat) else 0) = if r = 10 then 1 else 0 := by
          have : (r = 10 ↔ x.1 ≤ 2) := by rw [← hrr]; exact hl
          by_cases g : r = 10
          · rw [if_pos g, if_pos (this.1 g)]
          · rw [if_neg g, if_neg (fun h => g (this.2 h))]
        refine ⟨⟨k + 1, by omega, rfl, vi64 ?_, vi64 ?_, vi64 ?_, vi64 ?_, hbk.below hwx, hbx.trans (hwx.mono hbx.size)⟩, ?_⟩
        · rw [T2.out, hun]; split <;> simp
        · rw [T3.out, hlx]; split <;> simp <;> omega
        · rw [T5.out]; split <;> simp
        · rw [T1.out, hlen]; simp
        · show A.length - ((k : Int) + 1).toNat < A.length - ((k : Int)).toNat
          omega
      have HEND := hide2 hend
      clear hend hrr
      generalize hi : Vm.bytesA (A.take k) = i at *
      have HI := hide2 hi
      clear hi
      by_cases c1 : r < 128
      · have hn : Vm.utfLen r = 1 := by unfold Vm.utfLen; rw [if_pos c1]
        have hu : Vm.utfL r = [r] := by unfold Vm.utfL; rw [if_pos c1]
        obtain ⟨g0, e0⟩ := HBY.out 0 (by omega)
        rw [hu] at e0
        simp only [Nat.add_zero, List.getD_cons_zero] at g0 e0
        have ex := HEX.out
        rw [hlen, hn, hu] at ex
        have g0I : (i : Int) < (t.size : Int) := by omega
        have g1I : ¬ (t.size : Int) < (i : Int) + 1 := by omega
        have EX := hide2 ex
        have d1 : ¬ 240 ≤ r := by omega
        have d2 : ¬ 224 ≤ r := by omega
        have d3 : ¬ 192 ≤ r := by omega
        clear ex
        go_wp2_with fail
        refine wp_loop_rounds 1 ?_
        rw [rounds_succ]
        go_wp2_with fail
        have hv1 : ¬ 1114111 < r := by omega
        have hv2 : ¬ 55296 ≤ r := by omega
        have hw1 : IntKind.i64.wrap ((i : Int) + 1) = (i : Int) + 1 := by rw [IntKind.wrap_i64]; omega
        have hx0 : (0 : Int) ≤ (i : Int) := by omega
        have hx1 : (i : Int) ≤ (i : Int) + 1 := by omega
        have hx2 : (i : Int) + 1 ≤ (t.size : Int) := by omega
        have hd1 : decide (1114111 < r) = false := by simp; omega
        have hd2 : decide (55296 ≤ r) = false := by simp; omega
        have hd3 : decide (r = 13) = false := by simpa using h13
        have hi1 : ((i : Int) + 1).toNat = i + 1 := by omega
        have hi0 : ((i : Int)).toNat = i := by omega
        have ex := EX.out
        have hmo : Tryd.prog.follows Departure.mixedOrders = true := by kernel_rfl
        refine wp_region_bl hmo (by kernel_rfl) ?_
        repeat (go_big_quiet_step (refine Calls.bl_of (kutf_any r _ hvr.1 (by omega))))
        refine wpQuiet_nil ?_
        intro _ hw'
        obtain ⟨x5, hx5⟩ := hw'
        subst hx5
        go_wp2_with fail
        all_goals simp only [beq_iff_eq, beq_eq_false_iff_ne, ne_eq] at *
        all_goals exact HEND.out _ x5.2 _ _ _ _ (by split <;> omega) (by split <;> omega) (by split <;> omega) (by rw [hn]; rfl)
      · by_cases c2 : r < 2048
        · have hn : Vm.utfLen r = 2 := by unfold Vm.utfLen; rw [if_neg c1, if_pos c2]
          have hu : Vm.utfL r = [192 + r / 64, 128 + r % 64] := by unfold Vm.utfL; rw [if_neg c1, if_pos c2]
          obtain ⟨g0, e0⟩ := HBY.out 0 (by omega)
          obtain ⟨g1, e1⟩ := HBY.out 1 (by omega)
          rw [hu] at e0 e1
          simp only [Nat.add_zero, List.getD_cons_zero, List.getD_cons_succ] at g0 e0 e1
          obtain ⟨s0, hs0⟩ : ∃ q, q = r / 64 := ⟨_, rfl⟩
          obtain ⟨a0, ha0⟩ : ∃ a, a = 192 + r / 64 := ⟨_, rfl⟩
          rw [← ha0] at e0
          obtain ⟨a1, ha1⟩ : ∃ a, a = 128 + r % 64 := ⟨_, rfl⟩
          rw [← ha1] at e1
          obtain ⟨f1, hf1⟩ : ∃ a, a = r % 64 := ⟨_, rfl⟩
          have hm0 : bits .and .i64 a0 31 = s0 := by rw [i64_and31 a0 (by omega) (by omega)]; omega
          have hm1 : bits .and .i64 a1 63 = f1 := by rw [i64_and63 a1 (by omega) (by omega)]; omega
          have hor1 : bits .or .i64 (s0 * 64) f1 = r := by rw [i64_or 6 (s0 * 64) f1 (by omega) (by omega) (by omega) (by omega) (by omega) (by omega)]; omega
          have hsb0 : 0 ≤ s0 := by omega
          have hsc0 : s0 ≤ 17408 := by omega
          have hab0 : 0 ≤ a0 := by omega
          have hac0 : a0 ≤ 255 := by omega
          have hab1 : 0 ≤ a1 := by omega
          have hac1 : a1 ≤ 255 := by omega
          have d1 : ¬ 240 ≤ a0 := by omega
          have d2 : ¬ 224 ≤ a0 := by omega
          have d3 : 192 ≤ a0 := by omega
          have ex := HEX.out
          rw [hlen, hn] at ex
          have g0I : (i : Int) < (t.size : Int) := by omega
          have g1I : (i : Int) + 1 < (t.size : Int) := by omega
          have gnI : ¬ (t.size : Int) < (i : Int) + 2 := by omega
          have hw1 : IntKind.i64.wrap ((i : Int) + 1) = (i : Int) + 1 := by rw [IntKind.wrap_i64]; omega
          have hi1 : ((i : Int) + 1).toNat = i + 1 := by omega
          have hw2 : IntKind.i64.wrap ((i : Int) + 2) = (i : Int) + 2 := by rw [IntKind.wrap_i64]; omega
          have hi2 : ((i : Int) + 2).toNat = i + 2 := by omega
          have hi0 : ((i : Int)).toNat = i := by omega
          have EX := hide2 ex
          clear ex hu ha0 ha1 hs0 hf1
          go_wp2_with fail
          refine wp_loop_rounds 2 ?_
          rw [rounds_succ]
          go_wp2_with fail
          rw [rounds_succ]
          go_wp2_with fail
          have ex := EX.out
          have hvb := hv
          rw [Vm.validB_iff] at hvb
          have hv1 : ¬ 1114111 < r := by omega
          have hv2 : ¬ 55296 ≤ r := by omega
          have hx0 : (0 : Int) ≤ (i : Int) := by omega
          have hx1 : (i : Int) ≤ (i : Int) + 2 := by omega
          have hx2 : (i : Int) + 2 ≤ (t.size : Int) := by omega
          have hd1 : decide (1114111 < r) = false := by simp; omega
          have hd3 : decide (r = 13) = false := by simpa using h13
          have hmo : Tryd.prog.follows Departure.mixedOrders = true := by kernel_rfl
          have hd2 : decide (55296 ≤ r) = false := by simp; omega
          refine wp_region_bl hmo (by kernel_rfl) ?_
          repeat (go_big_quiet_step (refine Calls.bl_of (kutf_any r _ hvr.1 (by omega))))
          refine wpQuiet_nil ?_
          intro _ hw'
          obtain ⟨x5, hx5⟩ := hw'
          subst hx5
          go_wp2_with fail
          all_goals simp only [beq_eq_false_iff_ne, ne_eq] at *
          all_goals exact HEND.out _ x5.2 _ _ _ _ (by split <;> omega) (by split <;> omega) (by split <;> omega) (by rw [hn]; rfl)
        · by_cases c3 : r < 65536
          · have hn : Vm.utfLen r = 3 := by unfold Vm.utfLen; rw [if_neg c1, if_neg c2, if_pos c3]
            have hu : Vm.utfL r = [224 + r / 4096, 128 + r / 64 % 64, 128 + r % 64] := by unfold Vm.utfL; rw [if_neg c1, if_neg c2, if_pos c3]
            obtain ⟨g0, e0⟩ := HBY.out 0 (by omega)
            obtain ⟨g1, e1⟩ := HBY.out 1 (by omega)
            obtain ⟨g2, e2⟩ := HBY.out 2 (by omega)
            rw [hu] at e0 e1 e2
            simp only [Nat.add_zero, List.getD_cons_zero, List.getD_cons_succ] at g0 e0 e1 e2
            obtain ⟨s0, hs0⟩ : ∃ q, q = r / 4096 := ⟨_, rfl⟩
            obtain ⟨s1, hs1⟩ : ∃ q, q = r / 64 := ⟨_, rfl⟩
            obtain ⟨a0, ha0⟩ : ∃ a, a = 224 + r / 4096 := ⟨_, rfl⟩
            rw [← ha0] at e0
            obtain ⟨a1, ha1⟩ : ∃ a, a = 128 + r / 64 % 64 := ⟨_, rfl⟩
            rw [← ha1] at e1
            obtain ⟨a2, ha2⟩ : ∃ a, a = 128 + r % 64 := ⟨_, rfl⟩
            rw [← ha2] at e2
            obtain ⟨f1, hf1⟩ : ∃ a, a = r / 64 % 64 := ⟨_, rfl⟩
            obtain ⟨f2, hf2⟩ : ∃ a, a = r % 64 := ⟨_, rfl⟩
            have hm0 : bits .and .i64 a0 15 = s0 := by rw [i64_and15 a0 (by omega) (by omega)]; omega
            have hm1 : bits .and .i64 a1 63 = f1 := by rw [i64_and63 a1 (by omega) (by omega)]; omega
            have hor1 : bits .or .i64 (s0 * 64) f1 = s1 := by rw [i64_or 6 (s0 * 64) f1 (by omega) (by omega) (by omega) (by omega) (by omega) (by omega)]; omega
            have hm2 : bits .and .i64 a2 63 = f2 := by rw [i64_and63 a2 (by omega) (by omega)]; omega
            have hor2 : bits .or .i64 (s1 * 64) f2 = r := by rw [i64_or 6 (s1 * 64) f2 (by omega) (by omega) (by omega) (by omega) (by omega) (by omega)]; omega
            have hsb0 : 0 ≤ s0 := by omega
            have hsc0 : s0 ≤ 17408 := by omega
            have hsb1 : 0 ≤ s1 := by omega
            have hsc1 : s1 ≤ 17408 := by omega
            have hab0 : 0 ≤ a0 := by omega
            have hac0 : a0 ≤ 255 := by omega
            have hab1 : 0 ≤ a1 := by omega
            have hac1 : a1 ≤ 255 := by omega
            have hab2 : 0 ≤ a2 := by omega
            have hac2 : a2 ≤ 255 := by omega
            have d1 : ¬ 240 ≤ a0 := by omega
            have d2 : 224 ≤ a0 := by omega
            have ex := HEX.out
            rw [hlen, hn] at ex
            have g0I : (i : Int) < (t.size : Int) := by omega
            have g1I : (i : Int) + 1 < (t.size : Int) := by omega
            have g2I : (i : Int) + 2 < (t.size : Int) := by omega
            have gnI : ¬ (t.size : Int) < (i : Int) + 3 := by omega
            have hw1 : IntKind.i64.wrap ((i : Int) + 1) = (i : Int) + 1 := by rw [IntKind.wrap_i64]; omega
            have hi1 : ((i : Int) + 1).toNat = i + 1 := by omega
            have hw2 : IntKind.i64.wrap ((i : Int) + 2) = (i : Int) + 2 := by rw [IntKind.wrap_i64]; omega
            have hi2 : ((i : Int) + 2).toNat = i + 2 := by omega
            have hw3 : IntKind.i64.wrap ((i : Int) + 3) = (i : Int) + 3 := by rw [IntKind.wrap_i64]; omega
            have hi3 : ((i : Int) + 3).toNat = i + 3 := by omega
            have hi0 : ((i : Int)).toNat = i := by omega
            have EX := hide2 ex
            clear ex hu ha0 ha1 ha2 hs0 hs1 hf1 hf2
            go_wp2_with fail
            refine wp_loop_rounds 3 ?_
            rw [rounds_succ]
            go_wp2_with fail
            rw [rounds_succ]
            go_wp2_with fail
            rw [rounds_succ]
            go_wp2_with fail
            have ex := EX.out
            have hvb := hv
            rw [Vm.validB_iff] at hvb
            have hv1 : ¬ 1114111 < r := by omega
            have hx0 : (0 : Int) ≤ (i : Int) := by omega
            have hx1 : (i : Int) ≤ (i : Int) + 3 := by omega
            have hx2 : (i : Int) + 3 ≤ (t.size : Int) := by omega
            have hd1 : decide (1114111 < r) = false := by simp; omega
            have hd3 : decide (r = 13) = false := by simpa using h13
            have hmo : Tryd.prog.follows Departure.mixedOrders = true := by kernel_rfl
            by_cases hv2 : 55296 ≤ r
            · have hv3 : ¬ r < 57344 := by omega
              have hd2 : decide (55296 ≤ r) = true := by simp; omega
              have hd4 : decide (r < 57344) = false := by simp; omega
              refine wp_region_bl hmo (by kernel_rfl) ?_
              repeat (go_big_quiet_step (refine Calls.bl_of (kutf_any r _ hvr.1 (by omega))))
              refine wpQuiet_nil ?_
              intro _ hw'
              obtain ⟨x5, hx5⟩ := hw'
              subst hx5
              go_wp2_with fail
              all_goals simp only [beq_iff_eq, beq_eq_false_iff_ne, ne_eq] at *
              all_goals exact HEND.out _ x5.2 _ _ _ _ (by split <;> omega) (by split <;> omega) (by split <;> omega) (by rw [hn]; rfl)
            · have hd2 : decide (55296 ≤ r) = false := by simp; omega
              refine wp_region_bl hmo (by kernel_rfl) ?_
              repeat (go_big_quiet_step (refine Calls.bl_of (kutf_any r _ hvr.1 (by omega))))
              refine wpQuiet_nil ?_
              intro _ hw'
              obtain ⟨x5, hx5⟩ := hw'
              subst hx5
              go_wp2_with fail
              all_goals simp only [beq_eq_false_iff_ne, ne_eq] at *
              all_goals exact HEND.out _ x5.2 _ _ _ _ (by split <;> omega) (by split <;> omega) (by split <;> omega) (by rw [hn]; rfl)
          · have hn : Vm.utfLen r = 4 := by unfold Vm.utfLen; rw [if_neg c1, if_neg c2, if_neg c3]
            have hu : Vm.utfL r = [240 + r / 262144, 128 + r / 4096 % 64, 128 + r / 64 % 64, 128 + r % 64] := by unfold Vm.utfL; rw [if_neg c1, if_neg c2, if_neg c3]
            obtain ⟨g0, e0⟩ := HBY.out 0 (by omega)
            obtain ⟨g1, e1⟩ := HBY.out 1 (by omega)
            obtain ⟨g2, e2⟩ := HBY.out 2 (by omega)
            obtain ⟨g3, e3⟩ := HBY.out 3 (by omega)
            rw [hu] at e0 e1 e2 e3
            simp only [Nat.add_zero, List.getD_cons_zero, List.getD_cons_succ] at g0 e0 e1 e2 e3
            obtain ⟨s0, hs0⟩ : ∃ q, q = r / 262144 := ⟨_, rfl⟩
            obtain ⟨s1, hs1⟩ : ∃ q, q = r / 4096 := ⟨_, rfl⟩
            obtain ⟨s2, hs2⟩ : ∃ q, q = r / 64 := ⟨_, rfl⟩
            obtain ⟨a0, ha0⟩ : ∃ a, a = 240 + r / 262144 := ⟨_, rfl⟩
            rw [← ha0] at e0
            obtain ⟨a1, ha1⟩ : ∃ a, a = 128 + r / 4096 % 64 := ⟨_, rfl⟩
            rw [← ha1] at e1
            obtain ⟨a2, ha2⟩ : ∃ a, a = 128 + r / 64 % 64 := ⟨_, rfl⟩
            rw [← ha2] at e2
            obtain ⟨a3, ha3⟩ : ∃ a, a = 128 + r % 64 := ⟨_, rfl⟩
            rw [← ha3] at e3
            obtain ⟨f1, hf1⟩ : ∃ a, a = r / 4096 % 64 := ⟨_, rfl⟩
            obtain ⟨f2, hf2⟩ : ∃ a, a = r / 64 % 64 := ⟨_, rfl⟩
            obtain ⟨f3, hf3⟩ : ∃ a, a = r % 64 := ⟨_, rfl⟩
            have hm0 : bits .and .i64 a0 7 = s0 := by rw [i64_and7 a0 (by omega) (by omega)]; omega
            have hm1 : bits .and .i64 a1 63 = f1 := by rw [i64_and63 a1 (by omega) (by omega)]; omega
            have hor1 : bits .or .i64 (s0 * 64) f1 = s1 := by rw [i64_or 6 (s0 * 64) f1 (by omega) (by omega) (by omega) (by omega) (by omega) (by omega)]; omega
            have hm2 : bits .and .i64 a2 63 = f2 := by rw [i64_and63 a2 (by omega) (by omega)]; omega
            have hor2 : bits .or .i64 (s1 * 64) f2 = s2 := by rw [i64_or 6 (s1 * 64) f2 (by omega) (by omega) (by omega) (by omega) (by omega) (by omega)]; omega
            have hm3 : bits .and .i64 a3 63 = f3 := by rw [i64_and63 a3 (by omega) (by omega)]; omega
            have hor3 : bits .or .i64 (s2 * 64) f3 = r := by rw [i64_or 6 (s2 * 64) f3 (by omega) (by omega) (by omega) (by omega) (by omega) (by omega)]; omega
            have hsb0 : 0 ≤ s0 := by omega
            have hsc0 : s0 ≤ 17408 := by omega
            have hsb1 : 0 ≤ s1 := by omega
            have hsc1 : s1 ≤ 17408 := by omega
            have hsb2 : 0 ≤ s2 := by omega
            have hsc2 : s2 ≤ 17408 := by omega
            have hab0 : 0 ≤ a0 := by omega
            have hac0 : a0 ≤ 255 := by omega
            have hab1 : 0 ≤ a1 := by omega
            have hac1 : a1 ≤ 255 := by omega
            have hab2 : 0 ≤ a2 := by omega
            have hac2 : a2 ≤ 255 := by omega
            have hab3 : 0 ≤ a3 := by omega
            have hac3 : a3 ≤ 255 := by omega
            have d1 : 240 ≤ a0 := by omega
            have ex := HEX.out
            rw [hlen, hn] at ex
            have g0I : (i : Int) < (t.size : Int) := by omega
            have g1I : (i : Int) + 1 < (t.size : Int) := by omega
            have g2I : (i : Int) + 2 < (t.size : Int) := by omega
            have g3I : (i : Int) + 3 < (t.size : Int) := by omega
            have gnI : ¬ (t.size : Int) < (i : Int) + 4 := by omega
            have hw1 : IntKind.i64.wrap ((i : Int) + 1) = (i : Int) + 1 := by rw [IntKind.wrap_i64]; omega
            have hi1 : ((i : Int) + 1).toNat = i + 1 := by omega
            have hw2 : IntKind.i64.wrap ((i : Int) + 2) = (i : Int) + 2 := by rw [IntKind.wrap_i64]; omega
            have hi2 : ((i : Int) + 2).toNat = i + 2 := by omega
            have hw3 : IntKind.i64.wrap ((i : Int) + 3) = (i : Int) + 3 := by rw [IntKind.wrap_i64]; omega
            have hi3 : ((i : Int) + 3).toNat = i + 3 := by omega
            have hw4 : IntKind.i64.wrap ((i : Int) + 4) = (i : Int) + 4 := by rw [IntKind.wrap_i64]; omega
            have hi4 : ((i : Int) + 4).toNat = i + 4 := by omega
            have hi0 : ((i : Int)).toNat = i := by omega
            have EX := hide2 ex
            clear ex hu ha0 ha1 ha2 ha3 hs0 hs1 hs2 hf1 hf2 hf3
            go_wp2_with fail
            refine wp_loop_rounds 4 ?_
            rw [rounds_succ]
            go_wp2_with fail
            rw [rounds_succ]
            go_wp2_with fail
            rw [rounds_succ]
            go_wp2_with fail
            rw [rounds_succ]
            go_wp2_with fail
            have ex := EX.out
            have hvb := hv
            rw [Vm.validB_iff] at hvb
            have hv1 : ¬ 1114111 < r := by omega
            have hx0 : (0 : Int) ≤ (i : Int) := by omega
            have hx1 : (i : Int) ≤ (i : Int) + 4 := by omega
            have hx2 : (i : Int) + 4 ≤ (t.size : Int) := by omega
            have hd1 : decide (1114111 < r) = false := by simp; omega
            have hd3 : decide (r = 13) = false := by simpa using h13
            have hmo : Tryd.prog.follows Departure.mixedOrders = true := by kernel_rfl
            have hv2 : 55296 ≤ r := by omega
            have hv3 : ¬ r < 57344 := by omega
            have hd2 : decide (55296 ≤ r) = true := by simp; omega
            have hd4 : decide (r < 57344) = false := by simp; omega
            refine wp_region_bl hmo (by kernel_rfl) ?_
            repeat (go_big_quiet_step (refine Calls.bl_of (kutf_any r _ hvr.1 (by omega))))
            refine wpQuiet_nil ?_
            intro _ hw'
            obtain ⟨x5, hx5⟩ := hw'
            subst hx5
            go_wp2_with fail
            all_goals simp only [beq_eq_false_iff_ne, ne_eq] at *
            all_goals exact HEND.out _ x5.2 _ _ _ _ (by split <;> omega) (by split <;> omega) (by split <;> omega) (by rw [hn]; rfl)
    · obtain rfl : k = A.length := by omega
      rw [List.take_length] at *
      have hes := Vm.esc_le hok
      have hesI : (Vm.cntK A 4 : Int) ≤ (Vm.oddA A : Int) := by omega
      obtain ⟨c0, c1, c2, c3, c4, c5, c6, c7, c8, _⟩ := hbk
      have htsz := HTS.out
      have hnl : ¬ (Vm.bytesA A : Int) < (t.size : Int) := by omega
      have hteq : (t.size : Int) = (Vm.bytesA A : Int) := by omega
      clear htsz
      go_wp2
      go_ret
      exact ⟨rfl, hb03.trans (hbx.mono hb03.size)⟩
end Go.Proofs.YtjbfgnhkgjigpaaDoor

namespace Go.Proofs.YtjbfgnhkgjigpaaDoor.counted
open Go.ChangeShapes Go.WideShapes Go.ChangeAt Go.RowKit
open Go.Proofs.YtjbfgnhkgjigpaaDoor.loads (post_light bulk_str own laidWorld)

set_option maxRecDepth 100000 in
theorem contract {D : World → Nat → Int → Bool → ByteArray → Prop} (api : Api Tabs D) (H : Type) (enc : TypeId × Value → H) (W : World) (base : Nat) (args : Array Value) (ds gs : List (DataW H)) (before : List MemPlace)
    (hval : ∀ (j : Nat) t v, Tryd.f7.params[j]? = some t → args[j]? = some v → Value.okWide Tryd.prog W .any base t v)
    (hW : DataW.Whole enc Tryd.prog Tryd.f7.params.toList Rows.countedSpec.vars false W args.toList ds gs before) (hL : laidMetH Tryd.prog Rows.countedRow.laid W)
    (hB : ∀ s : List UInt8, DataW.lit (.string s) ∈ ds → s.length ≤ 1048576) :
    Calls Tryd.prog 7 args W fun e W' => ∃ v, e = .returned v ∧ Rows.countedSpec.post enc Tryd.prog Tryd.f7 false true false false W args v W' := by
  have hW' := hW
  obtain ⟨p, q, hA0, hV, rfl, hfz, hnd⟩ := hW
  have hA : DataW.TrodAll enc Tryd.prog W 0 (fun _ => true) true Tryd.f7.params.toList args.toList ds p := hA0
  rw [Tryd.params7] at hA hval
  obtain ⟨v0, vs0, d0, ds0, p0, q0, hargs, rfl, rfl, h0, r0⟩ := trodAll_cons hA
  obtain ⟨v1, vs1, d1, ds1, p1, q1, hargs1, rfl, rfl, h1, r1⟩ := trodAll_cons r0
  obtain ⟨rfl, rfl, rfl⟩ := trodAll_nil r1
  obtain rfl : args = #[v0, v1] := by cases args; simp_all
  obtain ⟨rfl, rfl⟩ := trodVars_none hV
  obtain ⟨s, rfl, rfl, rfl, hs⟩ := Go.ChangeMaps.open_string Tryd.underlying9 (hval 0 9 v0 rfl rfl) h0
  obtain ⟨n, rfl, rfl, rfl, hn⟩ := open_int Tryd.underlying3 (hval 1 3 v1 rfl rfl) h1
  clear hA0
  simp only [List.append_nil] at hW'
  have hsz : s.size ≤ 1048576 := hB s.data.toList (by simp)
  have hrg : -9223372036854775808 ≤ n ∧ n ≤ 9223372036854775807 := by
    have h := hn
    simp only [Lit.wf, Bool.and_eq_true, decide_eq_true_eq] at h
    exact ⟨h.1, h.2⟩
  obtain ⟨hlo, hhi⟩ := hrg
  refine (counted_any api s n W (tabs_of_laid hL) (by omega) hlo hhi).mono fun e W' ⟨he, hb⟩ => ?_
  subst he
  exact ⟨_, rfl, post_light hW' (fun _ _ _ => trodAll_cons_mk (shut_bool Tryd.underlying4 _) trodAll_mk0)
    (fun _ => trodAll_cons_mk (Go.ChangeMaps.shut_string Tryd.underlying9 hs) (trodAll_cons_mk (shut_int Tryd.underlying3 hn) trodAll_mk0)) (fun _ => rfl) hb
    (ok_one (by kernel_rfl) rfl (okWide_bool_mk Tryd.underlying4 _))⟩

theorem laid_met (os : Os) : laidMet Tryd.prog Rows.countedRow.laid ((laidWorld os).forCall (fun _ _ => 0) ⟨#[], #[.string ⟨#[]⟩, .int .i64 0], []⟩).memory :=
  laidMet_of_run' 8 (by kernel_rfl) (by kernel_rfl)
theorem reads (os : Os) {H : Type} (enc : TypeId × Value → H) : ∃ places, DataW.whole enc Tryd.prog ((laidWorld os).forCall (fun _ _ => 0) ⟨#[], #[.string ⟨#[]⟩, .int .i64 0], []⟩).memory Tryd.f7.params.toList Rows.countedSpec.vars false #[Value.string ⟨#[]⟩, .int .i64 0].toList 8 = some ([.lit (.string []), .lit (.int .i64 0)], [], places) :=
  ⟨[], by kernel_rfl⟩

set_option maxRecDepth 100000 in
theorem liftedUpto {D : World → Nat → Int → Bool → ByteArray → Prop} (api : Api Tabs D) (os : Os) (started : os.Started) (H : Type) (enc : TypeId × Value → H) (F : Stop.Interp) :
    ReturnsInHanded {} Tryd.checked os 7 .any ((Rows.OpenSpec.upto Rows.countedSpec).preRow enc Tryd.prog Tryd.f7 Rows.countedUptoRow.domain false Rows.countedUptoRow.laid) (((Rows.OpenSpec.upto Rows.countedSpec).at F).post enc Tryd.prog Tryd.f7 false true false false) := by
  obtain ⟨places, hx⟩ := reads os enc
  refine returnsInHanded_of_row (C := Tryd.checked) (s := Rows.OpenSpec.upto Rows.countedSpec) own started (by kernel_rfl) Tryd.func7
    (witness_row_at (enc := enc) (C := Tryd.checked) false (laidWorld os) #[.string ⟨#[]⟩, .int .i64 0] rfl (by kernel_rfl) (by kernel_rfl) (by kernel_rfl)
      (OpenSpec.preRow_of_cond 8 hx (by kernel_rfl) (fun k hk => by cases hk; kernel_rfl) (by kernel_rfl) (laid_met os))) ?_
  intro W base args ds gs before hval hW _ hcond _ hL _ _
  refine contract api H enc W base args ds gs before hval hW hL ?_
  intro s hs
  have hk := hcond _ rfl
  have h1 : Rows.uptoBulkAll (ds ++ gs) ≤ 1048576 := by simpa [Rows.uptoSmall] using hk
  exact Nat.le_trans (bulk_str (List.mem_append_left gs hs)) h1
theorem saidUpto {D : World → Nat → Int → Bool → ByteArray → Prop} (api : Api Tabs D) : Rows.CountedUptoSaid :=
  OpenClaim.holds_of_cond 7 Tryd.f7 rfl rfl rfl rfl rfl rfl rfl ⟨rfl, rfl, rfl, rfl, rfl⟩ rfl rfl rfl rfl rfl (by kernel_rfl) Tryd.func7 (by kernel_rfl)
    (of_decide_eq_true (by kernel_rfl)) (by unfold Func.isWrapper; first | (rw [if_pos (by decide +kernel)]; kernel_rfl) | (rw [if_neg (by decide +kernel)]; exact ⟨rfl, rfl⟩))
    (fun os started H enc _ F => by rw [OpenClaim.pre_eq_preRow]; exact liftedUpto api os started H enc F)
/-- No parameter wants a stand-in; the program's own looks are off. -/
theorem plain (f : FuncId) (fn : Func) (hf : Tryd.pinned.checked.prog.funcNamed "vellum/vellumkeep.Counted" = some f) (hfn : Tryd.pinned.checked.prog.funcs[f]? = some fn) :
    true = Tryd.pinned.checked.prog.looks [] ∧ ∀ (j : Nat) t, fn.params[j]? = some t → Tryd.pinned.checked.prog.wantsStandIn t = false := by
  obtain rfl : f = 7 := Option.some.inj ((show Tryd.prog.funcNamed "vellum/vellumkeep.Counted" = some 7 by kernel_rfl).symm.trans hf) |>.symm
  obtain rfl : fn = Tryd.f7 := (Option.some.inj (Tryd.func7.symm.trans hfn)).symm
  refine ⟨by kernel_rfl, fun j t ht => ?_⟩
  rw [Tryd.params7] at ht
  have hm := Array.mem_of_getElem? ht
  have ht' : t = 9 ∨ t = 3 := by simpa using hm
  rcases ht' with rfl | rfl
  · exact (show Tryd.prog.wantsStandIn 9 = false by kernel_rfl)
  · exact (show Tryd.prog.wantsStandIn 3 = false by kernel_rfl)
/-- The second form's card. -/
theorem cardUpto {D : World → Nat → Int → Bool → ByteArray → Prop} (api : Api Tabs D) : Rows.CountedUptoCardSaid :=
  Claim7.holds_tied_plain_at .later [] _ _ _ _ (saidUpto api) (fun _ h => by cases h) (by kernel_rfl) (fun _ h => by cases h) countedUpto_row_tie rfl ⟨rfl, rfl⟩ (by kernel_rfl) rfl plain (by kernel_rfl)
end Go.Proofs.YtjbfgnhkgjigpaaDoor.counted
namespace Go.Proofs.YtjbfgnhkgjigpaaDoor
theorem counted_upto_holds : Rows.CountedUptoCardSaid := counted.cardUpto api
end Go.Proofs.YtjbfgnhkgjigpaaDoor
