import Derived.Lib.AppendStr
import Derived.Laws.CopyRow
import Derived.Lib.SlBytesRow
import Derived.Test.YtjbfgnhkgjigpaaDoorGa1
import Derived.Test.YtjbfgnhkgjigpaaDoorGa6
namespace Vm
/-- Which of n things a raw number speaks of. -/
def pick (c n : Int) : Int := (if c < 0 then -(c + 1) else c) % n
theorem pick_bd (c n : Int) (h : 0 < n) : 0 ≤ pick c n ∧ pick c n < n := ⟨Int.emod_nonneg _ (by omega), Int.emod_lt_of_pos _ h⟩
end Vm
namespace Go.Proofs.YtjbfgnhkgjigpaaDoor
open Go.RowKit

theorem wraps_i64x (n : Int) (h₀ : 0 ≤ n) (h₁ : n < 2 ^ 62) : IntKind.i64.wrap n = n := by rw [IntKind.wrap_i64]; omega
theorem i64_and63 (x : Int) (h₀ : 0 ≤ x) (h₁ : x ≤ 2097151) : bits .and .i64 x 63 = x % 64 := bits_mask .i64 62 (by decide) wraps_i64x 6 (by decide) x h₀ (by omega)
theorem i64_or (i : Nat) (x y : Int) (h0 : 0 ≤ x) (h1 : x % 2 ^ i = 0) (h2 : x ≤ 4294967296) (h3 : 0 ≤ y) (h4 : y < 2 ^ i) (h5 : y ≤ 4294967296) : bits .or .i64 x y = x + y :=
  bits_join .i64 62 (by decide) wraps_i64x i x y h0 h1 (by omega) h3 h4 (by omega)
theorem nums_eq {a b : List Int} (h : a = b) : Ending.returned (.string (strOfNums a)) = .returned (.string (strOfNums b)) := by rw [h]
theorem low6 (x : Int) (h0 : 0 ≤ x) (h1 : x ≤ 2097151) : bits .or .i64 128 (bits .and .i64 x 63) % 256 = 128 + x % 64 := by
  rw [i64_and63 x h0 h1, i64_or 6 128 (x % 64) (by decide) (by decide) (by decide) (by omega) (by omega) (by omega)]; omega
set_option maxRecDepth 100000 in
set_option maxHeartbeats 400000 in
theorem kutf_any (n : Int) (w : World) (h0 : 0 ≤ n) (hx : n ≤ 2097151) :
    Calls Tryd.prog 25 #[.int .i64 n] w fun e w' => e = .returned (.string (strOfNums (Vm.utfL n))) ∧ Below w.heap.size w w' := by
  have k1 := conv1
  have k2 := conv2
  have k3 := conv3
  have k4 := conv4
  by_cases h1 : n < 128
  · go_enter Tryd.func25, Tryd.ntmps25
    go_wp2
    go_ret
    exact ⟨ret_str (by unfold Vm.utfL; rw [if_pos h1]), (Below.refl _ _).alloc (Nat.le_refl _) _⟩
  · by_cases h2 : n < 2048
    · have e : Vm.utfL n = [192 + n / 64, 128 + n % 64] := by unfold Vm.utfL; rw [if_neg h1, if_pos h2]
      rw [e]; clear e
      go_enter Tryd.func25, Tryd.ntmps25
      go_wp2
      go_ret
      refine ⟨nums_eq ?_, (Below.refl _ _).alloc (Nat.le_refl _) _⟩
      rw [low6 n h0 hx, i64_or 5 192 (n / 64) (by decide) (by decide) (by decide) (by omega) (by omega) (by omega)]
      congr 1; omega
    · by_cases h3 : n < 65536
      · have e : Vm.utfL n = [224 + n / 4096, 128 + n / 64 % 64, 128 + n % 64] := by unfold Vm.utfL; rw [if_neg h1, if_neg h2, if_pos h3]
        rw [e]; clear e
        go_enter Tryd.func25, Tryd.ntmps25
        go_wp2
        go_ret
        refine ⟨nums_eq ?_, (Below.refl _ _).alloc (Nat.le_refl _) _⟩
        rw [low6 n h0 hx, low6 (n / 64) (by omega) (by omega), i64_or 4 224 (n / 4096) (by decide) (by decide) (by decide) (by omega) (by omega) (by omega)]
        congr 1; omega
      · have e : Vm.utfL n = [240 + n / 262144, 128 + n / 4096 % 64, 128 + n / 64 % 64, 128 + n % 64] := by unfold Vm.utfL; rw [if_neg h1, if_neg h2, if_neg h3]
        rw [e]; clear e
        go_enter Tryd.func25, Tryd.ntmps25
        go_wp2
        go_ret
        refine ⟨nums_eq ?_, (Below.refl _ _).alloc (Nat.le_refl _) _⟩
        rw [low6 n h0 hx, low6 (n / 64) (by omega) (by omega), low6 (n / 4096) (by omega) (by omega), i64_or 3 240 (n / 262144) (by decide) (by decide) (by decide) (by omega) (by omega) (by omega)]
        congr 1; omega

theorem emod_tmod (c n : Int) (h : 0 ≤ c) : c.tmod n = c % n := Int.tmod_eq_emod_of_nonneg h
set_option maxHeartbeats 400000 in
theorem kpick_any (c n : Int) (w : World) (h1 : -9223372036854775808 ≤ c) (h2 : c ≤ 9223372036854775807) (hn : 0 < n) (hx : n ≤ 9223372036854775807) :
    Calls Tryd.prog 13 #[.int .i64 c, .int .i64 n] w fun e w' => e = .returned (.int .i64 (Vm.pick c n)) ∧ w' = w := by
  have hb := Vm.pick_bd c n hn
  have hn0 : ¬ n = 0 := by omega
  by_cases h : c < 0
  · have e : Vm.pick c n = (-(c + 1)).tmod n := by unfold Vm.pick; rw [if_pos h, emod_tmod _ _ (by omega)]
    have e2 : (-(c + 1)).tmod n = -((c + 1).tmod n) := Int.neg_tmod _ _
    rw [e, e2] at hb ⊢; clear e e2
    go_enter Tryd.func13, Tryd.ntmps13
    go_wp2
    go_ret
    exact ⟨rfl, rfl⟩
  · have e : Vm.pick c n = c % n := by unfold Vm.pick; rw [if_neg h]
    rw [e] at hb ⊢; clear e
    go_enter Tryd.func13, Tryd.ntmps13
    go_wp2
    go_ret
    exact ⟨rfl, rfl⟩
end Go.Proofs.YtjbfgnhkgjigpaaDoor

namespace Go.Proofs.YtjbfgnhkgjigpaaDoor
open Go.RowKit

/-- What Show answers. -/
def shown (enc : Int) (mark : Bool) (body : ByteArray) : Value :=
  .agg #[.int .i64 enc, .bool mark, .int .i64 (Vm.bytesA (Vm.atoms enc body.data.toList)), .int .i64 (Vm.atoms enc body.data.toList).length, .int .i64 (Vm.unitsA (Vm.atoms enc body.data.toList)),
    .int .i64 ((Vm.linesA (Vm.atoms enc body.data.toList) : Int) + 1), .int .i64 (Vm.cntK (Vm.atoms enc body.data.toList) 4), .bool (decide (Vm.sizeA (Vm.atoms enc body.data.toList) < body.size)),
    .int .i64 (Vm.endingOf (Vm.cntK (Vm.atoms enc body.data.toList) 0) (Vm.cntK (Vm.atoms enc body.data.toList) 1) (Vm.cntK (Vm.atoms enc body.data.toList) 2))]

/-- T: the tables lie; D: at a block lies the document of so much. -/
structure Api (T : World → Prop) (D : World → Nat → Int → Bool → ByteArray → Prop) : Prop where
  tab : ∀ {w w' : World}, T w → Below w.heap.size w w' → T w'
  low : ∀ {w w' : World} {p : Nat} {enc : Int} {mark : Bool} {body : ByteArray}, D w p enc mark body → Below w.heap.size w w' → D w' p enc mark body
  load : ∀ (b : ByteArray) (mode : Int) (w : World), T w → b.size ≤ 1099511627776 → 0 ≤ mode → mode ≤ 7 →
    Calls Tryd.prog 26 #[.string b, .int .i64 mode] w fun e w' => ∃ p, e = .returned (.tuple #[.pointer (some ⟨p, 0, none⟩), .int .i64 0]) ∧ D w' p (encOf b mode) (ofMark b (encOf b mode)) (ofBody b (encOf b mode)) ∧ Below w.heap.size w w'
  load_no : ∀ (b : ByteArray) (mode : Int) (w : World), T w → mode < 0 ∨ 7 < mode →
    Calls Tryd.prog 26 #[.string b, .int .i64 mode] w fun e w' => e = .returned (.tuple #[.pointer none, .int .i64 1]) ∧ Below w.heap.size w w'
  text : ∀ (p : Nat) (enc : Int) (mark : Bool) (body : ByteArray) (w : World), T w → D w p enc mark body →
    Calls Tryd.prog 24 #[.pointer (some ⟨p, 0, none⟩)] w fun e w' => e = .returned (.string (strOfNums (Vm.textL (Vm.atoms enc body.data.toList)))) ∧ Below w.heap.size w w'
  state : ∀ (p : Nat) (enc : Int) (mark : Bool) (body : ByteArray) (w : World), T w → D w p enc mark body →
    Calls Tryd.prog 20 #[.pointer (some ⟨p, 0, none⟩)] w fun e w' => e = .returned (shown enc mark body) ∧ Below w.heap.size w w'
  save : ∀ (p : Nat) (enc : Int) (mark : Bool) (body : ByteArray) (w : World), T w → D w p enc mark body →
    Calls Tryd.prog 18 #[.pointer (some ⟨p, 0, none⟩)] w fun e w' => e = .returned (.string (bytesOf enc mark body)) ∧ Below w.heap.size w w'
  stable : ∀ (p : Nat) (enc : Int) (mark : Bool) (body : ByteArray) (w : World), T w → D w p enc mark body →
    Calls Tryd.prog 28 #[.pointer (some ⟨p, 0, none⟩)] w fun e w' => e = .returned (.bool (stableB enc mark body)) ∧ Below w.heap.size w w'

/-- The document's first example. -/
def ex1 : ByteArray := ⟨#[97, 13, 10, 98, 255, 99, 13]⟩
theorem ex1_enc : encOf ex1 0 = 0 := by decide
theorem ex1_mark : ofMark ex1 0 = false := by decide
theorem ex1_body : ofBody ex1 0 = ex1 := by unfold ofBody; rw [ex1_mark]; rfl
theorem ex1_atoms : Vm.atoms 0 ex1.data.toList = [(3, 97, 1), (1, 10, 2), (3, 98, 1), (4, 65533, 1), (3, 99, 1), (2, 10, 1)] := by decide
theorem ex1_text : strOfNums (Vm.textL (Vm.atoms 0 ex1.data.toList)) = ⟨#[97, 10, 98, 239, 191, 189, 99, 10]⟩ := by rw [ex1_atoms]; decide
theorem ex1_save : bytesOf 0 false ex1 = ex1 := rfl
theorem ex1_shown : shown 0 false ex1 = .agg #[.int .i64 0, .bool false, .int .i64 8, .int .i64 6, .int .i64 6, .int .i64 3, .int .i64 1, .bool false, .int .i64 1] := by
  unfold shown; rw [ex1_atoms]; rfl

variable {T : World → Prop} {D : World → Nat → Int → Bool → ByteArray → Prop}
set_option maxRecDepth 100000 in
set_option maxHeartbeats 1000000 in
theorem known_any (api : Api T D) (w : World) (ht : T w) :
    Calls Tryd.prog 35 #[] w fun e w' => e = .returned (.bool true) ∧ Below w.heap.size w w' := by
  have h1 := api.load ex1 0
  rw [ex1_enc, ex1_mark, ex1_body] at h1
  have H1 := hide2 h1
  clear h1
  go_enter Tryd.func35, Tryd.ntmps35
  go_wp2_with fail
  refine (H1.out w ht (by decide) (by decide) (by decide)).mono ?_
  rintro e w1 ⟨p, rfl, hd1, hb1⟩
  have ht1 := api.tab ht hb1
  have h2 := api.text p 0 false ex1 w1 ht1 hd1
  rw [ex1_text] at h2
  have H2 := hide2 h2
  clear h2
  go_wp2_with fail
  refine H2.out.mono ?_
  rintro e w2 ⟨rfl, hb2⟩
  have ht2 := api.tab ht1 hb2
  have hd2 := api.low hd1 hb2
  have h3 := api.state p 0 false ex1 w2 ht2 hd2
  rw [ex1_shown] at h3
  have H3 := hide2 h3
  clear h3
  go_wp2_with fail
  refine H3.out.mono ?_
  rintro e w3 ⟨rfl, hb3⟩
  have ht3 := api.tab ht2 hb3
  have hd3 := api.low hd2 hb3
  have h4 : ∀ w, T w → D w p 0 false ex1 → _ := fun w h k => api.save p 0 false ex1 w h k
  rw [ex1_save] at h4
  have H4 := hide2 h4
  clear h4
  go_wp2_with fail
  have hba := (Below.refl w3.heap.size w3).alloc (Nat.le_refl _) (.cells #[.int .i64 0, .bool false, .int .i64 8, .int .i64 6, .int .i64 6, .int .i64 3, .int .i64 1, .bool false, .int .i64 1] 50)
  refine (H4.out _ (api.tab ht3 hba) (api.low hd3 hba)).mono ?_
  rintro e w4 ⟨rfl, hb4⟩
  have hb : Below w.heap.size w w4 := (((hb1.trans (hb2.mono hb1.size)).trans (hb3.mono (Nat.le_trans hb1.size hb2.size))).trans (hba.mono (Nat.le_trans hb1.size (Nat.le_trans hb2.size hb3.size)))).trans (hb4.mono (Nat.le_trans hb1.size (Nat.le_trans hb2.size (Nat.le_trans hb3.size hba.size))))
  have bx := (Bx9.new w3 50 (.int .i64 0) (.bool false) (.int .i64 8) (.int .i64 6) (.int .i64 6) (.int .i64 3) (.int .i64 1) (.bool false) (.int .i64 1)).below hb4
  obtain ⟨c0, c1, c2, c3, c4, c5, c6, c7, c8, _⟩ := bx
  have hx : ex1.toList = [97, 13, 10, 98, 255, 99, 13] := by kernel_rfl
  clear H1 H2 H3 H4
  go_wp2
  go_ret
  exact ⟨rfl, hb⟩

set_option maxRecDepth 100000 in
set_option maxHeartbeats 1000000 in
theorem opened_any (api : Api T D) (b : ByteArray) (c : Int) (w : World) (ht : T w) (hb : b.size ≤ 1099511627776) (h1 : -9223372036854775808 ≤ c) (h2 : c ≤ 9223372036854775807) :
    Calls Tryd.prog 11 #[.string b, .int .i64 c] w fun e w' => ∃ p, e = .returned (.tuple #[.pointer (some ⟨p, 0, none⟩), .bool true]) ∧ D w' p (encOf b (Vm.pick c 8)) (ofMark b (encOf b (Vm.pick c 8))) (ofBody b (encOf b (Vm.pick c 8))) ∧ Below w.heap.size w w' := by
  have hp := Vm.pick_bd c 8 (by decide)
  have K := hide2 (kpick_any c 8)
  have L := hide2 (fun w => api.load b (Vm.pick c 8) w)
  have N := hide2 (known_any api w ht)
  generalize Vm.pick c 8 = m at *
  go_enter Tryd.func11, Tryd.ntmps11
  go_wp2_with fail
  refine N.out.mono ?_
  rintro e w1 ⟨rfl, hb1⟩
  have ht1 := api.tab ht hb1
  go_wp2_with fail
  refine (K.out w1 h1 h2 (by decide) (by decide)).mono ?_
  rintro e w2 ⟨rfl, rfl⟩
  go_wp2_with fail
  refine (L.out w2 ht1 hb hp.1 (by omega)).mono ?_
  rintro e w3 ⟨p, rfl, hd, hb3⟩
  go_wp2
  go_ret2
  exact ⟨p, rfl, hd, hb1.trans (hb3.mono hb1.size)⟩
end Go.Proofs.YtjbfgnhkgjigpaaDoor

namespace Go.Proofs.YtjbfgnhkgjigpaaDoor
open Go.RowKit

theorem pre_take (m l : List UInt8) (k : Nat) (h : m.length ≤ k) : m.isPrefixOf (l.take k) = m.isPrefixOf l := by
  induction m generalizing l k with
  | nil => simp
  | cons x m ih =>
    cases l with
    | nil => simp
    | cons y l =>
      cases k with
      | zero => simp at h
      | succ k =>
        simp only [List.take_succ_cons, List.isPrefixOf]
        rw [ih l k (by simpa using h)]
/-- Three bytes tell which mark there is. -/
theorem ofMark_head (b h : ByteArray) (enc : Int) (hh : h.data.toList = b.data.toList.take 3) : ofMark h enc = ofMark b enc := by
  unfold ofMark
  rw [hh, pre_take _ _ _ (by have := markB_size enc; exact this)]
theorem sniff_head (b h : ByteArray) (e0 : Int) (hh : h.data.toList = b.data.toList.take 3) : ∀ k, sniffTo h e0 k = sniffTo b e0 k
  | 0 => rfl
  | k + 1 => by
    unfold sniffTo
    rw [ofMark_head b h k hh, sniff_head b h e0 hh k]
theorem bytes_list (enc : Int) (mark : Bool) (body : ByteArray) : (bytesOf enc mark body).data.toList = (mkB enc mark).data.toList ++ body.data.toList := by
  unfold bytesOf mkB
  cases mark
  · simp
  · simp [ByteArray.data_append]
theorem ba_ext {a b : ByteArray} (h : a.data.toList = b.data.toList) : a = b := by
  cases a with | mk x => cases b with | mk y => congr; exact Array.toList_inj.1 h
theorem ba_of (l : List UInt8) (b : ByteArray) (h : b.data.toList = l) : (⟨l.toArray⟩ : ByteArray) = b := ba_ext (by simp [h])

/-- A document in memory: its content, its leaves, its tail. -/
structure DocAt (w : World) (p : Nat) (enc : Int) (mark : Bool) (body : ByteArray) (n : Nd) (R : List (Cn × ByteArray)) (tail : ByteArray) : Prop where
  blk : w.heap[p]? = some (.cells #[.int .i64 enc, .bool mark, .iface n.ty (.pointer (some ⟨n.blk, 0, none⟩)), .string tail] 77)
  tr : TrAt w enc (some n) R
  h0 : 0 ≤ enc
  h3 : enc ≤ 3
  bytes : body.data.toList = rowB R ++ tail.data.toList
  atoms : Vm.atoms enc body.data.toList = rowA enc R
  size : body.size ≤ 1099511627776
/-- A document. -/
def DD (w : World) (p : Nat) (enc : Int) (mark : Bool) (body : ByteArray) : Prop := ∃ n R tail, DocAt w p enc mark body n R tail
theorem DocAt.low {w w' : World} {p : Nat} {enc : Int} {mark : Bool} {body : ByteArray} {n : Nd} {R : List (Cn × ByteArray)} {tail : ByteArray} (h : DocAt w p enc mark body n R tail) (hb : Below w.heap.size w w') : DocAt w' p enc mark body n R tail :=
  ⟨(hb.block p (heap_lt h.blk)).trans h.blk, h.tr.low hb, h.h0, h.h3, h.bytes, h.atoms, h.size⟩
theorem DocAt.at_ {w : World} {p : Nat} {enc : Int} {mark : Bool} {body : ByteArray} {n : Nd} {R : List (Cn × ByteArray)} {tail : ByteArray} (h : DocAt w p enc mark body n R tail) :
    w.cell? ⟨p, 0, none⟩ = some (.int .i64 enc) ∧ w.cell? ⟨p, 1, none⟩ = some (.bool mark) ∧ w.cell? ⟨p, 2, none⟩ = some (.iface n.ty (.pointer (some ⟨n.blk, 0, none⟩))) ∧ w.cell? ⟨p, 3, none⟩ = some (.string tail) :=
  ⟨by rw [Lib.cell_of_heap h.blk]; rfl, by rw [Lib.cell_of_heap h.blk]; rfl, by rw [Lib.cell_of_heap h.blk]; rfl, by rw [Lib.cell_of_heap h.blk]; rfl⟩
theorem DocAt.lens {w : World} {p : Nat} {enc : Int} {mark : Bool} {body : ByteArray} {n : Nd} {R : List (Cn × ByteArray)} {tail : ByteArray} (h : DocAt w p enc mark body n R tail) : body.size = (rowB R).length + tail.size := by
  have := congrArg List.length h.bytes
  rw [List.length_append] at this
  exact this
theorem DocAt.ct {w : World} {p : Nat} {enc : Int} {mark : Bool} {body : ByteArray} {n : Nd} {R : List (Cn × ByteArray)} {tail : ByteArray} (h : DocAt w p enc mark body n R tail) : (bytesOf enc mark body).data.toList = ctB enc mark R tail := by
  rw [bytes_list, h.bytes]; rfl

set_option maxRecDepth 100000 in
set_option maxHeartbeats 1000000 in
theorem docText (p : Nat) (enc : Int) (mark : Bool) (body : ByteArray) (w : World) (ht : Tabs w) (hd : DD w p enc mark body) :
    Calls Tryd.prog 24 #[.pointer (some ⟨p, 0, none⟩)] w fun e w' => e = .returned (.string (strOfNums (Vm.textL (Vm.atoms enc body.data.toList)))) ∧ Below w.heap.size w w' := by
  obtain ⟨n, R, tail, h⟩ := hd
  obtain ⟨p0, p1, p2, p3⟩ := h.at_
  have hl := h.lens
  have hs := h.size
  have HX := hide1 (text_some enc mark n R tail w ht h.tr h.h0 h.h3 (by omega))
  simp only [trv] at HX
  rw [h.atoms]
  have hz := block_lt p0
  clear h ht
  go_enter Tryd.func24, Tryd.ntmps24
  go_wp2_with fail
  refine HX.out.mono ?_
  rintro e w1 ⟨rfl, hb1⟩
  have HB := hide1 hb1
  clear hb1 HX
  go_wp2_with fail
  go_ret
  exact ⟨rfl, HB.out⟩
end Go.Proofs.YtjbfgnhkgjigpaaDoor

namespace Go.Proofs.YtjbfgnhkgjigpaaDoor
open Go.RowKit

section
variable {Z p : Nat} {w0 : World} {enc : Int} {mark : Bool} {body : ByteArray} {n : Nd} {R : List (Cn × ByteArray)} {tail : ByteArray} {w1 w2 : World}
/-- What a walk over a document leans on. -/
structure DcR (w0 : World) (p : Nat) (enc : Int) (mark : Bool) (body : ByteArray) (n : Nd) (R : List (Cn × ByteArray)) (tail : ByteArray) (w : World) : Prop where
  tabs : Tabs w
  doc : DocAt w p enc mark body n R tail
  low : Below w0.heap.size w0 w
theorem Dc_start (H : DcR w0 p enc mark body n R tail w1) : w1.cell? ⟨p, 0, none⟩ = some (.int .i64 enc) ∧ w1.cell? ⟨p, 1, none⟩ = some (.bool mark) ∧ w1.cell? ⟨p, 2, none⟩ = some (.iface n.ty (.pointer (some ⟨n.blk, 0, none⟩))) ∧ w1.cell? ⟨p, 3, none⟩ = some (.string tail) ∧ DcR w0 p enc mark body n R tail w1 :=
  ⟨H.doc.at_.1, H.doc.at_.2.1, H.doc.at_.2.2.1, H.doc.at_.2.2.2, H⟩
theorem DcR.step (H : DcR w0 p enc mark body n R tail w1) (hb : Below w1.heap.size w1 w2) : DcR w0 p enc mark body n R tail w2 :=
  ⟨H.tabs.below hb, H.doc.low hb, H.low.trans (hb.mono H.low.size)⟩
theorem Dc_step (H : w1.cell? ⟨p, 0, none⟩ = some (.int .i64 enc) ∧ w1.cell? ⟨p, 1, none⟩ = some (.bool mark) ∧ w1.cell? ⟨p, 2, none⟩ = some (.iface n.ty (.pointer (some ⟨n.blk, 0, none⟩))) ∧ w1.cell? ⟨p, 3, none⟩ = some (.string tail) ∧ DcR w0 p enc mark body n R tail w1) (hb : Below w1.heap.size w1 w2) :
    w2.cell? ⟨p, 0, none⟩ = some (.int .i64 enc) ∧ w2.cell? ⟨p, 1, none⟩ = some (.bool mark) ∧ w2.cell? ⟨p, 2, none⟩ = some (.iface n.ty (.pointer (some ⟨n.blk, 0, none⟩))) ∧ w2.cell? ⟨p, 3, none⟩ = some (.string tail) ∧ DcR w0 p enc mark body n R tail w2 := Dc_start (H.2.2.2.2.step hb)
theorem Dc_drew (H : w1.cell? ⟨p, 0, none⟩ = some (.int .i64 enc) ∧ w1.cell? ⟨p, 1, none⟩ = some (.bool mark) ∧ w1.cell? ⟨p, 2, none⟩ = some (.iface n.ty (.pointer (some ⟨n.blk, 0, none⟩))) ∧ w1.cell? ⟨p, 3, none⟩ = some (.string tail) ∧ DcR w0 p enc mark body n R tail w1) :
    w1.drew.cell? ⟨p, 0, none⟩ = some (.int .i64 enc) ∧ w1.drew.cell? ⟨p, 1, none⟩ = some (.bool mark) ∧ w1.drew.cell? ⟨p, 2, none⟩ = some (.iface n.ty (.pointer (some ⟨n.blk, 0, none⟩))) ∧ w1.drew.cell? ⟨p, 3, none⟩ = some (.string tail) ∧ DcR w0 p enc mark body n R tail w1.drew := Dc_step H ((Below.refl _ _).drew)
theorem Dc_r (H : w1.cell? ⟨p, 0, none⟩ = some (.int .i64 enc) ∧ w1.cell? ⟨p, 1, none⟩ = some (.bool mark) ∧ w1.cell? ⟨p, 2, none⟩ = some (.iface n.ty (.pointer (some ⟨n.blk, 0, none⟩))) ∧ w1.cell? ⟨p, 3, none⟩ = some (.string tail) ∧ DcR w0 p enc mark body n R tail w1) : DcR w0 p enc mark body n R tail w1 := H.2.2.2.2
end

set_option maxRecDepth 100000 in
set_option maxHeartbeats 1000000 in
theorem docSave (p : Nat) (enc : Int) (mark : Bool) (body : ByteArray) (w : World) (ht : Tabs w) (hd : DD w p enc mark body) :
    Calls Tryd.prog 18 #[.pointer (some ⟨p, 0, none⟩)] w fun e w' => e = .returned (.string (bytesOf enc mark body)) ∧ Below w.heap.size w w' := by
  obtain ⟨n, R, tail, h⟩ := hd
  have hl := h.lens
  have hs := h.size
  have hct := h.ct
  have hms := mkB_size enc mark
  have hcl : ((mkB enc mark).size + (rowB R).length + tail.size : Nat) = (ctB enc mark R tail).length := by
    unfold ctB; rw [List.length_append, List.length_append]
    have e1 : (mkB enc mark).data.toList.length = (mkB enc mark).size := rfl
    have e2 : tail.data.toList.length = tail.size := rfl
    omega
  have HZ := hide1 (fun w1 (hq : DcR w p enc mark body n R tail w1) => size_any enc mark n R tail w1 hq.tabs hq.doc.tr h.h0 h.h3 (by omega) (by omega))
  have HP := hide1 (fun w1 (hq : DcR w p enc mark body n R tail w1) => piece_any enc mark n R tail 0 ((mkB enc mark).size + (rowB R).length + tail.size) w1 hq.tabs hq.doc.tr h.h0 h.h3 (by omega) (by omega) (by omega) (by omega))
  have hfin : (⟨(Vm.partL (ctB enc mark R tail) ((0 : Nat) : Int) (((mkB enc mark).size + (rowB R).length + tail.size : Nat) : Int)).toArray⟩ : ByteArray) = bytesOf enc mark body := by
    rw [hcl]
    refine ba_of _ _ ?_
    rw [hct]; exact (Vm.partL_all _ _ (by omega)).symm
  rw [hfin] at HP
  have HS0 := hide1 (Dc_start (⟨ht, h, Below.refl _ _⟩ : DcR w p enc mark body n R tail w))
  obtain ⟨p0, p1, p2, p3, _⟩ := HS0.out
  have hz := block_lt p0
  clear h ht hct hcl hfin
  generalize ((mkB enc mark).size + (rowB R).length + tail.size : Nat) = sz at *
  have hSd := Dc_drew HS0.out
  simp only [Int.cast_ofNat_Int] at HP
  go_enter Tryd.func18, Tryd.ntmps18
  go_wp2_with fail
  go_region_held3 (fun w' => w'.cell? ⟨p, 0, none⟩ = some (.int .i64 enc) ∧ w'.cell? ⟨p, 1, none⟩ = some (.bool mark) ∧ w'.cell? ⟨p, 2, none⟩ = some (.iface n.ty (.pointer (some ⟨n.blk, 0, none⟩))) ∧ w'.cell? ⟨p, 3, none⟩ = some (.string tail) ∧ DcR w p enc mark body n R tail w')
    (first | assumption | exact HS0.out | exact Dc_drew HS0.out)
    (first
      | (go_at_call 39; refine (HZ.out _ (Dc_r (by assumption))).mono ?_; rintro e w3 ⟨rfl, hb3⟩; have hS3 := Dc_step (by assumption) hb3)
      | (go_at_call 40; refine (HP.out _ (Dc_r (by assumption))).mono ?_; rintro e w4 ⟨rfl, hb4⟩; have hS4 := Dc_step (by assumption) hb4))
  have hlow := (Dc_r hS4).low
  clear hS3 hS4 hSd p0 p1 p2 p3
  go_wp2
  go_ret
  exact ⟨rfl, hlow⟩

theorem sniff_stable (enc : Int) (mark : Bool) (body h : ByteArray) (h0 : 0 ≤ enc) (h3 : enc ≤ 3) (hh : h.data.toList = (bytesOf enc mark body).data.toList.take 3) : (sniffTo h enc 3 == enc) = stableB enc mark body := by
  unfold stableB encOf
  rw [if_pos (by omega), show (4 + enc) % 4 = enc by omega, sniff_head _ _ _ hh]

set_option maxRecDepth 100000 in
set_option maxHeartbeats 1000000 in
theorem stable_any (enc : Int) (mark : Bool) (body : ByteArray) (n : Nd) (R : List (Cn × ByteArray)) (tail : ByteArray) (p : Nat) (w : World) (ht : Tabs w) (h : DocAt w p enc mark body n R tail) :
    Calls Tryd.prog 51 #[.agg #[.int .i64 enc, .bool mark, .iface n.ty (.pointer (some ⟨n.blk, 0, none⟩)), .string tail]] w fun e w' => e = .returned (.bool (stableB enc mark body)) ∧ Below w.heap.size w w' := by
  have hl := h.lens
  have hs := h.size
  have hct := h.ct
  have hms := mkB_size enc mark
  have hcl : ((mkB enc mark).size + (rowB R).length + tail.size : Nat) = (ctB enc mark R tail).length := by
    unfold ctB; rw [List.length_append, List.length_append]
    have e1 : (mkB enc mark).data.toList.length = (mkB enc mark).size := rfl
    have e2 : tail.data.toList.length = tail.size := rfl
    omega
  have hhd : ∀ t : Nat, t = min 3 ((mkB enc mark).size + (rowB R).length + tail.size) → (⟨(Vm.partL (ctB enc mark R tail) ((0 : Nat) : Int) (t : Int)).toArray⟩ : ByteArray).data.toList = (bytesOf enc mark body).data.toList.take 3 := by
    intro t e
    rw [hct]
    show (Vm.partL (ctB enc mark R tail) ((0 : Nat) : Int) (t : Int)).toArray.toList = _
    simp only [Vm.partL, Int.toNat_natCast, List.drop_zero]
    rw [e, hcl]
    by_cases g : (ctB enc mark R tail).length ≤ 3
    · rw [Nat.min_eq_right g, List.take_of_length_le g, List.take_of_length_le (Nat.le_refl _)]
    · rw [Nat.min_eq_left (by omega)]
  have HD := hide1 h
  have HT := hide1 ht
  have HZ := hide1 (fun w1 (h1 : Tabs w1) (h2 : TrAt w1 enc (some n) R) => size_any enc mark n R tail w1 h1 h2 h.h0 h.h3 (by omega) (by omega))
  have HP := hide1 (fun w1 (h1 : Tabs w1) (h2 : TrAt w1 enc (some n) R) => piece_any enc mark n R tail 0 (min 3 ((mkB enc mark).size + (rowB R).length + tail.size)) w1 h1 h2 h.h0 h.h3 (by omega) (by omega) (by omega) (by omega))
  have HN := hide1 (fun (hd : ByteArray) w1 (h1 : Tabs w1) => sniffed_any hd enc w1 h1.enc)
  have HF := hide1 (fun hd => sniff_stable enc mark body hd h.h0 h.h3)
  have HH := hide1 hhd
  have hb0 := (Below.refl w.heap.size w).alloc (Nat.le_refl _) (.cells #[.int .i64 enc, .bool mark, .iface n.ty (.pointer (some ⟨n.blk, 0, none⟩)), .string tail] 69)
  have hc0 : CtR w enc n R (w.alloc (.cells #[.int .i64 enc, .bool mark, .iface n.ty (.pointer (some ⟨n.blk, 0, none⟩)), .string tail] 69)) := ⟨ht.below hb0, h.tr.low hb0, hb0⟩
  have HC := hide1 hc0
  clear h ht hct hcl hhd hc0 hb0
  generalize ((mkB enc mark).size + (rowB R).length + tail.size : Nat) = sz at *
  have hHH := HF.out _ (HH.out (min 3 sz) rfl)
  have hmin : ((min 3 sz : Nat) : Int) = min (3 : Int) (sz : Int) := by omega
  simp only [Int.cast_ofNat_Int, hmin] at HP hHH
  clear HH
  generalize (⟨(Vm.partL (ctB enc mark R tail) 0 (min (3 : Int) (sz : Int))).toArray⟩ : ByteArray) = hdb at *
  have HEQ := hide1 hHH
  clear hHH HF hmin
  go_enter Tryd.func51, Tryd.ntmps51
  go_wp2_with fail
  have hS : (w.alloc (.cells #[.int .i64 enc, .bool mark, .iface n.ty (.pointer (some ⟨n.blk, 0, none⟩)), .string tail] 69)).cell? ⟨w.heap.size, 0, none⟩ = some (.int .i64 enc) ∧ (w.alloc (.cells #[.int .i64 enc, .bool mark, .iface n.ty (.pointer (some ⟨n.blk, 0, none⟩)), .string tail] 69)).cell? ⟨w.heap.size, 1, none⟩ = some (.bool mark) ∧ (w.alloc (.cells #[.int .i64 enc, .bool mark, .iface n.ty (.pointer (some ⟨n.blk, 0, none⟩)), .string tail] 69)).cell? ⟨w.heap.size, 2, none⟩ = some (.iface n.ty (.pointer (some ⟨n.blk, 0, none⟩))) ∧ (w.alloc (.cells #[.int .i64 enc, .bool mark, .iface n.ty (.pointer (some ⟨n.blk, 0, none⟩)), .string tail] 69)).cell? ⟨w.heap.size, 3, none⟩ = some (.string tail) ∧ CtR w enc n R (w.alloc (.cells #[.int .i64 enc, .bool mark, .iface n.ty (.pointer (some ⟨n.blk, 0, none⟩)), .string tail] 69)) := ⟨by simp, by simp, by simp, by simp, HC.out⟩
  generalize w.heap.size = Z at *
  have HSS := hide1 hS
  clear HC
  obtain ⟨p0, p1, p2, p3, _⟩ := hS
  generalize (w.alloc (.cells #[.int .i64 enc, .bool mark, .iface n.ty (.pointer (some ⟨n.blk, 0, none⟩)), .string tail] 69)) = W at *
  have hSd := Ct_drew HSS.out
  go_region_held3 (fun w' => w'.cell? ⟨Z, 0, none⟩ = some (.int .i64 enc) ∧ w'.cell? ⟨Z, 1, none⟩ = some (.bool mark) ∧ w'.cell? ⟨Z, 2, none⟩ = some (.iface n.ty (.pointer (some ⟨n.blk, 0, none⟩))) ∧ w'.cell? ⟨Z, 3, none⟩ = some (.string tail) ∧ CtR w enc n R w')
    (first | assumption | exact HSS.out | exact Ct_drew HSS.out)
    (first
      | (go_at_call 39; refine (HZ.out _ (Ct_tabs (by assumption)) (Ct_tr (by assumption))).mono ?_; rintro e w3 ⟨rfl, hb3⟩; have hS3 := Ct_step (by assumption) hb3)
      | (go_at_call 40; refine (HP.out _ (Ct_tabs (by assumption)) (Ct_tr (by assumption))).mono ?_; rintro e w4 ⟨rfl, hb4⟩; have hS4 := Ct_step (by assumption) hb4))
  clear p0 p1 p2 p3 hSd hS3
  have HS4 := hide1 hS4
  obtain ⟨p0, p1, p2, p3, _⟩ := hS4
  have hSd := Ct_drew HS4.out
  go_wp2_with fail
  go_region_held3 (fun w' => w'.cell? ⟨Z, 0, none⟩ = some (.int .i64 enc) ∧ w'.cell? ⟨Z, 1, none⟩ = some (.bool mark) ∧ w'.cell? ⟨Z, 2, none⟩ = some (.iface n.ty (.pointer (some ⟨n.blk, 0, none⟩))) ∧ w'.cell? ⟨Z, 3, none⟩ = some (.string tail) ∧ CtR w enc n R w')
    (first | assumption | exact HS4.out | exact Ct_drew HS4.out)
    (first
      | (go_at_call 75; refine (HN.out hdb _ (Ct_tabs (by assumption))).mono ?_; rintro e w5 ⟨rfl, hb5⟩; have hS5 := Ct_step (by assumption) hb5))
  have hlow := Ct_low hS5
  clear hS5 hSd p0 p1 p2 p3
  go_wp2
  go_ret
  refine ⟨?_, hlow⟩
  rw [← HEQ.out]
  simp
end Go.Proofs.YtjbfgnhkgjigpaaDoor

namespace Go.Proofs.YtjbfgnhkgjigpaaDoor
open Go.RowKit

set_option maxRecDepth 100000 in
set_option maxHeartbeats 1000000 in
theorem docStable (p : Nat) (enc : Int) (mark : Bool) (body : ByteArray) (w : World) (ht : Tabs w) (hd : DD w p enc mark body) :
    Calls Tryd.prog 28 #[.pointer (some ⟨p, 0, none⟩)] w fun e w' => e = .returned (.bool (stableB enc mark body)) ∧ Below w.heap.size w w' := by
  obtain ⟨n, R, tail, h⟩ := hd
  obtain ⟨p0, p1, p2, p3⟩ := h.at_
  have HX := hide1 (stable_any enc mark body n R tail p w ht h)
  have hz := block_lt p0
  clear h ht
  go_enter Tryd.func28, Tryd.ntmps28
  go_wp2_with fail
  refine HX.out.mono ?_
  rintro e w1 ⟨rfl, hb1⟩
  have HB := hide1 hb1
  clear hb1 HX
  go_wp2_with fail
  go_ret
  exact ⟨rfl, HB.out⟩

theorem lines_cnt (A : List Vm.At) (h : ∀ a ∈ A, Vm.AtOk a) : Vm.linesA A = Vm.cntK A 0 + Vm.cntK A 1 + Vm.cntK A 2 := by
  induction A with
  | nil => rfl
  | cons a A ih =>
    have hi := ih (fun x hx => h x (by simp [hx]))
    have ha := h a (by simp)
    obtain ⟨g1, g2, _⟩ := ha
    unfold Vm.linesA Vm.cntK at *
    simp only [List.filter_cons]
    have hc : a.1 = 0 ∨ a.1 = 1 ∨ a.1 = 2 ∨ a.1 = 3 ∨ a.1 = 4 := by omega
    rcases hc with e | e | e | e | e <;> simp [e] <;> omega

/-- What the walk over Show leans on. -/
structure ShR (w0 : World) (p : Nat) (enc : Int) (mark : Bool) (body : ByteArray) (n : Nd) (R : List (Cn × ByteArray)) (tail : ByteArray) (C : Nat) (w : World) : Prop where
  low : Below w0.heap.size w0 w
  res : ∀ j, j < 9 → ∃ v, w.cell? ⟨C, j, none⟩ = some v
  fr : ∀ j, w.frozen? ⟨C, j, none⟩ = false
  le : w0.heap.size ≤ C
theorem ShR.step {w0 : World} {p : Nat} {enc : Int} {mark : Bool} {body : ByteArray} {n : Nd} {R : List (Cn × ByteArray)} {tail : ByteArray} {C : Nat} {w w' : World} (h : ShR w0 p enc mark body n R tail C w) (hb : Below w.heap.size w w') : ShR w0 p enc mark body n R tail C w' := by
  obtain ⟨v, hv⟩ := h.res 0 (by omega)
  have hC := block_lt hv
  exact ⟨h.low.trans (hb.mono h.low.size), fun j hj => by obtain ⟨u, hu⟩ := h.res j hj; exact ⟨u, (hb.cell (p := ⟨C, j, none⟩) hC).trans hu⟩, fun j => (hb.frozen (p := ⟨C, j, none⟩) hC).trans (h.fr j), h.le⟩
theorem ShR.set {w0 : World} {p : Nat} {enc : Int} {mark : Bool} {body : ByteArray} {n : Nd} {R : List (Cn × ByteArray)} {tail : ByteArray} {C : Nat} {w : World} (h : ShR w0 p enc mark body n R tail C w) (i : Nat) (v : Value) : ShR w0 p enc mark body n R tail C (w.setCell ⟨C, i, none⟩ v) := by
  refine ⟨h.low.setCell (p := ⟨C, i, none⟩) h.le v, fun j hj => ?_, fun j => by rw [World.frozen?_setCell]; exact h.fr j, h.le⟩
  obtain ⟨u, hu⟩ := h.res j hj
  by_cases e : i = j
  · subst e; exact ⟨v, sc8_eq _ _ _ _ _ hu⟩
  · exact ⟨u, by rw [sc8_ne _ _ i j _ e]; exact hu⟩
section
variable {p Q C : Nat} {w0 : World} {enc : Int} {mark : Bool} {body : ByteArray} {n : Nd} {R : List (Cn × ByteArray)} {tail : ByteArray} {a0 a1 a2 a3 a4 a5 a6 a7 : Nat} {w1 w2 : World}
theorem Sh_step (H : w1.cell? ⟨p, 0, none⟩ = some (.int .i64 enc) ∧ w1.cell? ⟨p, 1, none⟩ = some (.bool mark) ∧ w1.cell? ⟨p, 2, none⟩ = some (.iface n.ty (.pointer (some ⟨n.blk, 0, none⟩))) ∧ w1.cell? ⟨p, 3, none⟩ = some (.string tail) ∧ w1.cell? ⟨Q, 0, none⟩ = some (.int .i64 a0) ∧ w1.cell? ⟨Q, 1, none⟩ = some (.int .i64 a1) ∧ w1.cell? ⟨Q, 2, none⟩ = some (.int .i64 a2) ∧ w1.cell? ⟨Q, 3, none⟩ = some (.int .i64 a3) ∧ w1.cell? ⟨Q, 4, none⟩ = some (.int .i64 a4) ∧ w1.cell? ⟨Q, 5, none⟩ = some (.int .i64 a5) ∧ w1.cell? ⟨Q, 6, none⟩ = some (.int .i64 a6) ∧ w1.cell? ⟨Q, 7, none⟩ = some (.int .i64 a7) ∧ ShR w0 p enc mark body n R tail C w1) (hb : Below w1.heap.size w1 w2) : w2.cell? ⟨p, 0, none⟩ = some (.int .i64 enc) ∧ w2.cell? ⟨p, 1, none⟩ = some (.bool mark) ∧ w2.cell? ⟨p, 2, none⟩ = some (.iface n.ty (.pointer (some ⟨n.blk, 0, none⟩))) ∧ w2.cell? ⟨p, 3, none⟩ = some (.string tail) ∧ w2.cell? ⟨Q, 0, none⟩ = some (.int .i64 a0) ∧ w2.cell? ⟨Q, 1, none⟩ = some (.int .i64 a1) ∧ w2.cell? ⟨Q, 2, none⟩ = some (.int .i64 a2) ∧ w2.cell? ⟨Q, 3, none⟩ = some (.int .i64 a3) ∧ w2.cell? ⟨Q, 4, none⟩ = some (.int .i64 a4) ∧ w2.cell? ⟨Q, 5, none⟩ = some (.int .i64 a5) ∧ w2.cell? ⟨Q, 6, none⟩ = some (.int .i64 a6) ∧ w2.cell? ⟨Q, 7, none⟩ = some (.int .i64 a7) ∧ ShR w0 p enc mark body n R tail C w2 := by
  obtain ⟨h1, h2, h3, h4, g0, g1, g2, g3, g4, g5, g6, g7, h5⟩ := H
  have d : ∀ j v, w1.cell? ⟨p, j, none⟩ = some v → w2.cell? ⟨p, j, none⟩ = some v := fun j v h => (hb.cell (p := ⟨p, j, none⟩) (block_lt h1)).trans h
  have e : ∀ j v, w1.cell? ⟨Q, j, none⟩ = some v → w2.cell? ⟨Q, j, none⟩ = some v := fun j v h => (hb.cell (p := ⟨Q, j, none⟩) (block_lt g0)).trans h
  exact ⟨d _ _ h1, d _ _ h2, d _ _ h3, d _ _ h4, e _ _ g0, e _ _ g1, e _ _ g2, e _ _ g3, e _ _ g4, e _ _ g5, e _ _ g6, e _ _ g7, h5.step hb⟩
theorem Sh_drew (H : w1.cell? ⟨p, 0, none⟩ = some (.int .i64 enc) ∧ w1.cell? ⟨p, 1, none⟩ = some (.bool mark) ∧ w1.cell? ⟨p, 2, none⟩ = some (.iface n.ty (.pointer (some ⟨n.blk, 0, none⟩))) ∧ w1.cell? ⟨p, 3, none⟩ = some (.string tail) ∧ w1.cell? ⟨Q, 0, none⟩ = some (.int .i64 a0) ∧ w1.cell? ⟨Q, 1, none⟩ = some (.int .i64 a1) ∧ w1.cell? ⟨Q, 2, none⟩ = some (.int .i64 a2) ∧ w1.cell? ⟨Q, 3, none⟩ = some (.int .i64 a3) ∧ w1.cell? ⟨Q, 4, none⟩ = some (.int .i64 a4) ∧ w1.cell? ⟨Q, 5, none⟩ = some (.int .i64 a5) ∧ w1.cell? ⟨Q, 6, none⟩ = some (.int .i64 a6) ∧ w1.cell? ⟨Q, 7, none⟩ = some (.int .i64 a7) ∧ ShR w0 p enc mark body n R tail C w1) : w1.drew.cell? ⟨p, 0, none⟩ = some (.int .i64 enc) ∧ w1.drew.cell? ⟨p, 1, none⟩ = some (.bool mark) ∧ w1.drew.cell? ⟨p, 2, none⟩ = some (.iface n.ty (.pointer (some ⟨n.blk, 0, none⟩))) ∧ w1.drew.cell? ⟨p, 3, none⟩ = some (.string tail) ∧ w1.drew.cell? ⟨Q, 0, none⟩ = some (.int .i64 a0) ∧ w1.drew.cell? ⟨Q, 1, none⟩ = some (.int .i64 a1) ∧ w1.drew.cell? ⟨Q, 2, none⟩ = some (.int .i64 a2) ∧ w1.drew.cell? ⟨Q, 3, none⟩ = some (.int .i64 a3) ∧ w1.drew.cell? ⟨Q, 4, none⟩ = some (.int .i64 a4) ∧ w1.drew.cell? ⟨Q, 5, none⟩ = some (.int .i64 a5) ∧ w1.drew.cell? ⟨Q, 6, none⟩ = some (.int .i64 a6) ∧ w1.drew.cell? ⟨Q, 7, none⟩ = some (.int .i64 a7) ∧ ShR w0 p enc mark body n R tail C w1.drew := Sh_step H ((Below.refl _ _).drew)
theorem Sh_set (H : w1.cell? ⟨p, 0, none⟩ = some (.int .i64 enc) ∧ w1.cell? ⟨p, 1, none⟩ = some (.bool mark) ∧ w1.cell? ⟨p, 2, none⟩ = some (.iface n.ty (.pointer (some ⟨n.blk, 0, none⟩))) ∧ w1.cell? ⟨p, 3, none⟩ = some (.string tail) ∧ w1.cell? ⟨Q, 0, none⟩ = some (.int .i64 a0) ∧ w1.cell? ⟨Q, 1, none⟩ = some (.int .i64 a1) ∧ w1.cell? ⟨Q, 2, none⟩ = some (.int .i64 a2) ∧ w1.cell? ⟨Q, 3, none⟩ = some (.int .i64 a3) ∧ w1.cell? ⟨Q, 4, none⟩ = some (.int .i64 a4) ∧ w1.cell? ⟨Q, 5, none⟩ = some (.int .i64 a5) ∧ w1.cell? ⟨Q, 6, none⟩ = some (.int .i64 a6) ∧ w1.cell? ⟨Q, 7, none⟩ = some (.int .i64 a7) ∧ ShR w0 p enc mark body n R tail C w1) (hp : p ≠ C) (hq : Q ≠ C) (i : Nat) (v : Value) : (w1.setCell ⟨C, i, none⟩ v).cell? ⟨p, 0, none⟩ = some (.int .i64 enc) ∧ (w1.setCell ⟨C, i, none⟩ v).cell? ⟨p, 1, none⟩ = some (.bool mark) ∧ (w1.setCell ⟨C, i, none⟩ v).cell? ⟨p, 2, none⟩ = some (.iface n.ty (.pointer (some ⟨n.blk, 0, none⟩))) ∧ (w1.setCell ⟨C, i, none⟩ v).cell? ⟨p, 3, none⟩ = some (.string tail) ∧ (w1.setCell ⟨C, i, none⟩ v).cell? ⟨Q, 0, none⟩ = some (.int .i64 a0) ∧ (w1.setCell ⟨C, i, none⟩ v).cell? ⟨Q, 1, none⟩ = some (.int .i64 a1) ∧ (w1.setCell ⟨C, i, none⟩ v).cell? ⟨Q, 2, none⟩ = some (.int .i64 a2) ∧ (w1.setCell ⟨C, i, none⟩ v).cell? ⟨Q, 3, none⟩ = some (.int .i64 a3) ∧ (w1.setCell ⟨C, i, none⟩ v).cell? ⟨Q, 4, none⟩ = some (.int .i64 a4) ∧ (w1.setCell ⟨C, i, none⟩ v).cell? ⟨Q, 5, none⟩ = some (.int .i64 a5) ∧ (w1.setCell ⟨C, i, none⟩ v).cell? ⟨Q, 6, none⟩ = some (.int .i64 a6) ∧ (w1.setCell ⟨C, i, none⟩ v).cell? ⟨Q, 7, none⟩ = some (.int .i64 a7) ∧ ShR w0 p enc mark body n R tail C (w1.setCell ⟨C, i, none⟩ v) := by
  obtain ⟨h1, h2, h3, h4, g0, g1, g2, g3, g4, g5, g6, g7, h5⟩ := H
  have d : ∀ B j v', B ≠ C → w1.cell? ⟨B, j, none⟩ = some v' → (w1.setCell ⟨C, i, none⟩ v).cell? ⟨B, j, none⟩ = some v' := fun B j v' hne h => by
    rw [World.cell?_setCell_other _ _ _ _ (by intro e; injection e with e1 e2; exact hne e1.symm)]; exact h
  exact ⟨d _ _ _ hp h1, d _ _ _ hp h2, d _ _ _ hp h3, d _ _ _ hp h4, d _ _ _ hq g0, d _ _ _ hq g1, d _ _ _ hq g2, d _ _ _ hq g3, d _ _ _ hq g4, d _ _ _ hq g5, d _ _ _ hq g6, d _ _ _ hq g7, h5.set i v⟩
theorem Sh_r (H : w1.cell? ⟨p, 0, none⟩ = some (.int .i64 enc) ∧ w1.cell? ⟨p, 1, none⟩ = some (.bool mark) ∧ w1.cell? ⟨p, 2, none⟩ = some (.iface n.ty (.pointer (some ⟨n.blk, 0, none⟩))) ∧ w1.cell? ⟨p, 3, none⟩ = some (.string tail) ∧ w1.cell? ⟨Q, 0, none⟩ = some (.int .i64 a0) ∧ w1.cell? ⟨Q, 1, none⟩ = some (.int .i64 a1) ∧ w1.cell? ⟨Q, 2, none⟩ = some (.int .i64 a2) ∧ w1.cell? ⟨Q, 3, none⟩ = some (.int .i64 a3) ∧ w1.cell? ⟨Q, 4, none⟩ = some (.int .i64 a4) ∧ w1.cell? ⟨Q, 5, none⟩ = some (.int .i64 a5) ∧ w1.cell? ⟨Q, 6, none⟩ = some (.int .i64 a6) ∧ w1.cell? ⟨Q, 7, none⟩ = some (.int .i64 a7) ∧ ShR w0 p enc mark body n R tail C w1) : ShR w0 p enc mark body n R tail C w1 := H.2.2.2.2.2.2.2.2.2.2.2.2
end

set_option maxRecDepth 100000 in
set_option maxHeartbeats 2000000 in
theorem docShow (p : Nat) (enc : Int) (mark : Bool) (body : ByteArray) (w : World) (ht : Tabs w) (hd : DD w p enc mark body) :
    Calls Tryd.prog 20 #[.pointer (some ⟨p, 0, none⟩)] w fun e w' => e = .returned (shown enc mark body) ∧ Below w.heap.size w w' := by
  obtain ⟨n, R, tail, h⟩ := hd
  have hl := h.lens
  have hs := h.size
  have hsz := rowA_size h.tr.ok
  have hsm := rowA_small h.tr.ok (by omega)
  have hln := lines_cnt (rowA enc R) (rowA_ok enc R)
  have hlen := Vm.len_sizeA (rowA_ok enc R)
  have HC := hide1 (fun w1 (hq : DcR w p enc mark body n R tail w1) => hq.doc.tr.counts)
  have HL := hide1 (fun w1 => lineEnds_any (cnOf (rowA enc R)) w1 hsm)
  have HE := hide1 (fun w1 => ending_any (cnOf (rowA enc R)) w1 hsm)
  have htl : decide (Vm.sizeA (rowA enc R) < body.size) = !(tail.toList.isEmpty) := by
    rw [hsz, hl]
    have : tail.toList = tail.data.toList := ByteArray.toList_eq tail
    rw [this]
    cases ht : tail.data.toList with
    | nil =>
      have : tail.size = 0 := by have : tail.data.toList.length = tail.size := rfl; rw [ht] at this; simpa using this.symm
      simp [this]
    | cons x r =>
      have : tail.size = r.length + 1 := by have : tail.data.toList.length = tail.size := rfl; rw [ht] at this; simpa using this.symm
      simp [this]
  have hsh : shown enc mark body = .agg #[.int .i64 enc, .bool mark, .int .i64 (Vm.bytesA (rowA enc R)), .int .i64 (rowA enc R).length, .int .i64 (Vm.unitsA (rowA enc R)), .int .i64 (((Vm.cntK (rowA enc R) 0 + Vm.cntK (rowA enc R) 1 + Vm.cntK (rowA enc R) 2 : Nat) : Int) + 1), .int .i64 (Vm.cntK (rowA enc R) 4), .bool (!(tail.toList.isEmpty)), .int .i64 (cnOf (rowA enc R)).ending] := by
    unfold shown
    rw [h.atoms, htl, hln]
    rfl
  rw [hsh]
  have HS0 := hide1 (Dc_start (⟨ht, h, Below.refl _ _⟩ : DcR w p enc mark body n R tail w))
  generalize (cnOf (rowA enc R)).ending = en at *
  have b1 := hsm.h1
  have b2 := hsm.h2
  have b3 := hsm.h3
  have b4 := hsm.h4
  have b5 := hsm.h5
  have b6 := hsm.h6
  have b7 := hsm.h7
  simp only [cnOf, Cn.val, trv] at HC HL HE b1 b2 b3 b4 b5 b6 b7 ⊢
  clear h ht hsh htl hln hsm hl
  generalize Vm.sizeA (rowA enc R) = a0 at *
  generalize Vm.bytesA (rowA enc R) = a1 at *
  generalize (rowA enc R).length = a2 at *
  generalize Vm.unitsA (rowA enc R) = a3 at *
  generalize Vm.cntK (rowA enc R) 4 = a4 at *
  generalize Vm.cntK (rowA enc R) 0 = a5 at *
  generalize Vm.cntK (rowA enc R) 1 = a6 at *
  generalize Vm.cntK (rowA enc R) 2 = a7 at *
  clear hsz hlen
  obtain ⟨p0, p1, p2, p3, _⟩ := HS0.out
  have hz := block_lt p0
  go_enter Tryd.func20, Tryd.ntmps20
  go_wp2_with fail
  have hba := (Below.refl w.heap.size w).alloc (Nat.le_refl _) (.cells #[.int .i64 0, .bool false, .int .i64 0, .int .i64 0, .int .i64 0, .int .i64 0, .int .i64 0, .bool false, .int .i64 0] 50)
  have H0 := hide1 ((Dc_r HS0.out).step hba)
  have BX0 := hide1 (Bx9.new w 50 (.int .i64 0) (.bool false) (.int .i64 0) (.int .i64 0) (.int .i64 0) (.int .i64 0) (.int .i64 0) (.bool false) (.int .i64 0))
  refine (HC.out _ H0.out).mono ?_
  rintro e w1 ⟨rfl, hb1⟩
  have H1 := hide1 (H0.out.step hb1)
  have BX1 := hide1 (BX0.out.below hb1)
  clear hb1 hba BX0 p0 p1 p2 p3 HC H0 HS0
  obtain ⟨p0, p1, p2, p3, _⟩ := Dc_start H1.out
  have hz1 := block_lt p0
  go_wp2_with fail
  have hsz1 := H1.out.low.size
  have hS : (w1.alloc (.cells #[.int .i64 a0, .int .i64 a1, .int .i64 a2, .int .i64 a3, .int .i64 a4, .int .i64 a5, .int .i64 a6, .int .i64 a7] 84)).cell? ⟨p, 0, none⟩ = some (.int .i64 enc) ∧ (w1.alloc (.cells #[.int .i64 a0, .int .i64 a1, .int .i64 a2, .int .i64 a3, .int .i64 a4, .int .i64 a5, .int .i64 a6, .int .i64 a7] 84)).cell? ⟨p, 1, none⟩ = some (.bool mark) ∧ (w1.alloc (.cells #[.int .i64 a0, .int .i64 a1, .int .i64 a2, .int .i64 a3, .int .i64 a4, .int .i64 a5, .int .i64 a6, .int .i64 a7] 84)).cell? ⟨p, 2, none⟩ = some (.iface n.ty (.pointer (some ⟨n.blk, 0, none⟩))) ∧ (w1.alloc (.cells #[.int .i64 a0, .int .i64 a1, .int .i64 a2, .int .i64 a3, .int .i64 a4, .int .i64 a5, .int .i64 a6, .int .i64 a7] 84)).cell? ⟨p, 3, none⟩ = some (.string tail) ∧ (w1.alloc (.cells #[.int .i64 a0, .int .i64 a1, .int .i64 a2, .int .i64 a3, .int .i64 a4, .int .i64 a5, .int .i64 a6, .int .i64 a7] 84)).cell? ⟨w1.heap.size, 0, none⟩ = some (.int .i64 a0) ∧ (w1.alloc (.cells #[.int .i64 a0, .int .i64 a1, .int .i64 a2, .int .i64 a3, .int .i64 a4, .int .i64 a5, .int .i64 a6, .int .i64 a7] 84)).cell? ⟨w1.heap.size, 1, none⟩ = some (.int .i64 a1) ∧ (w1.alloc (.cells #[.int .i64 a0, .int .i64 a1, .int .i64 a2, .int .i64 a3, .int .i64 a4, .int .i64 a5, .int .i64 a6, .int .i64 a7] 84)).cell? ⟨w1.heap.size, 2, none⟩ = some (.int .i64 a2) ∧ (w1.alloc (.cells #[.int .i64 a0, .int .i64 a1, .int .i64 a2, .int .i64 a3, .int .i64 a4, .int .i64 a5, .int .i64 a6, .int .i64 a7] 84)).cell? ⟨w1.heap.size, 3, none⟩ = some (.int .i64 a3) ∧ (w1.alloc (.cells #[.int .i64 a0, .int .i64 a1, .int .i64 a2, .int .i64 a3, .int .i64 a4, .int .i64 a5, .int .i64 a6, .int .i64 a7] 84)).cell? ⟨w1.heap.size, 4, none⟩ = some (.int .i64 a4) ∧ (w1.alloc (.cells #[.int .i64 a0, .int .i64 a1, .int .i64 a2, .int .i64 a3, .int .i64 a4, .int .i64 a5, .int .i64 a6, .int .i64 a7] 84)).cell? ⟨w1.heap.size, 5, none⟩ = some (.int .i64 a5) ∧ (w1.alloc (.cells #[.int .i64 a0, .int .i64 a1, .int .i64 a2, .int .i64 a3, .int .i64 a4, .int .i64 a5, .int .i64 a6, .int .i64 a7] 84)).cell? ⟨w1.heap.size, 6, none⟩ = some (.int .i64 a6) ∧ (w1.alloc (.cells #[.int .i64 a0, .int .i64 a1, .int .i64 a2, .int .i64 a3, .int .i64 a4, .int .i64 a5, .int .i64 a6, .int .i64 a7] 84)).cell? ⟨w1.heap.size, 7, none⟩ = some (.int .i64 a7) ∧ ShR w p enc mark body n R tail w.heap.size (w1.alloc (.cells #[.int .i64 a0, .int .i64 a1, .int .i64 a2, .int .i64 a3, .int .i64 a4, .int .i64 a5, .int .i64 a6, .int .i64 a7] 84)) := by
    have hbq := (Below.refl w1.heap.size w1).alloc (Nat.le_refl _) (.cells #[.int .i64 a0, .int .i64 a1, .int .i64 a2, .int .i64 a3, .int .i64 a4, .int .i64 a5, .int .i64 a6, .int .i64 a7] 84)
    obtain ⟨z0, z1, z2, z3, _⟩ := Dc_start (H1.out.step hbq)
    obtain ⟨y0, y1, y2, y3, y4, y5, y6, y7, y8, yf⟩ := BX1.out.below hbq
    refine ⟨z0, z1, z2, z3, by simp, by simp, by simp, by simp, by simp, by simp, by simp, by simp, ⟨(H1.out.step hbq).low, fun j hj => ?_, yf, Nat.le_refl _⟩⟩
    have hj' : j = 0 ∨ j = 1 ∨ j = 2 ∨ j = 3 ∨ j = 4 ∨ j = 5 ∨ j = 6 ∨ j = 7 ∨ j = 8 := by omega
    rcases hj' with rfl | rfl | rfl | rfl | rfl | rfl | rfl | rfl | rfl
    · exact ⟨_, y0⟩
    · exact ⟨_, y1⟩
    · exact ⟨_, y2⟩
    · exact ⟨_, y3⟩
    · exact ⟨_, y4⟩
    · exact ⟨_, y5⟩
    · exact ⟨_, y6⟩
    · exact ⟨_, y7⟩
    · exact ⟨_, y8⟩
  have hCz := block_lt BX1.out.c0
  have hQC : w1.heap.size ≠ w.heap.size := by omega
  have hpC : p ≠ w.heap.size := by omega
  clear H1 BX1 p0 p1 p2 p3 hCz
  generalize w1.heap.size = Q at *
  generalize w.heap.size = C at *
  generalize (w1.alloc (.cells #[.int .i64 a0, .int .i64 a1, .int .i64 a2, .int .i64 a3, .int .i64 a4, .int .i64 a5, .int .i64 a6, .int .i64 a7] 84)) = W at *
  have HSS := hide1 hS
  obtain ⟨p0, p1, p2, p3, q0, q1, q2, q3, q4, q5, q6, q7, _⟩ := hS
  have hSd := Sh_drew HSS.out
  go_region_held3 (fun w' => w'.cell? ⟨p, 0, none⟩ = some (.int .i64 enc) ∧ w'.cell? ⟨p, 1, none⟩ = some (.bool mark) ∧ w'.cell? ⟨p, 2, none⟩ = some (.iface n.ty (.pointer (some ⟨n.blk, 0, none⟩))) ∧ w'.cell? ⟨p, 3, none⟩ = some (.string tail) ∧ w'.cell? ⟨Q, 0, none⟩ = some (.int .i64 a0) ∧ w'.cell? ⟨Q, 1, none⟩ = some (.int .i64 a1) ∧ w'.cell? ⟨Q, 2, none⟩ = some (.int .i64 a2) ∧ w'.cell? ⟨Q, 3, none⟩ = some (.int .i64 a3) ∧ w'.cell? ⟨Q, 4, none⟩ = some (.int .i64 a4) ∧ w'.cell? ⟨Q, 5, none⟩ = some (.int .i64 a5) ∧ w'.cell? ⟨Q, 6, none⟩ = some (.int .i64 a6) ∧ w'.cell? ⟨Q, 7, none⟩ = some (.int .i64 a7) ∧ ShR w p enc mark body n R tail C w')
    (first | with_reducible assumption | with_reducible exact HSS.out | with_reducible exact Sh_drew HSS.out | with_reducible exact Sh_set (Sh_set (Sh_set (Sh_set (Sh_set (Sh_set (Sh_set (Sh_set (Sh_set hS5 hpC hQC 0 _) hpC hQC 1 _) hpC hQC 2 _) hpC hQC 3 _) hpC hQC 4 _) hpC hQC 5 _) hpC hQC 6 _) hpC hQC 7 _) hpC hQC 8 _)
    (first
      | (go_at_call 42; refine (HL.out _).mono ?_; rintro e w4 ⟨rfl, hb4⟩; have hS4 := Sh_step (by assumption) hb4)
      | (go_at_call 43; refine (HE.out _).mono ?_; rintro e w5 ⟨rfl, hb5⟩; have hS5 := Sh_step (by assumption) hb5; obtain ⟨u0, s0⟩ := (Sh_r hS5).res 0 (by decide); have f0 := (Sh_r hS5).fr 0; obtain ⟨u1, s1⟩ := (Sh_r hS5).res 1 (by decide); have f1 := (Sh_r hS5).fr 1; obtain ⟨u2, s2⟩ := (Sh_r hS5).res 2 (by decide); have f2 := (Sh_r hS5).fr 2; obtain ⟨u3, s3⟩ := (Sh_r hS5).res 3 (by decide); have f3 := (Sh_r hS5).fr 3; obtain ⟨u4, s4⟩ := (Sh_r hS5).res 4 (by decide); have f4 := (Sh_r hS5).fr 4; obtain ⟨u5, s5⟩ := (Sh_r hS5).res 5 (by decide); have f5 := (Sh_r hS5).fr 5; obtain ⟨u6, s6⟩ := (Sh_r hS5).res 6 (by decide); have f6 := (Sh_r hS5).fr 6; obtain ⟨u7, s7⟩ := (Sh_r hS5).res 7 (by decide); have f7 := (Sh_r hS5).fr 7; obtain ⟨u8, s8⟩ := (Sh_r hS5).res 8 (by decide); have f8 := (Sh_r hS5).fr 8))
  have hw : IntKind.i64.wrap ((a5 : Int) + (a6 : Int) + (a7 : Int) + 1) = ((a5 + a6 + a7 : Nat) : Int) + 1 := by rw [IntKind.wrap_i64]; omega
  rw [hw]
  have HS5 := hide1 hS5
  clear hS4 hS5 hSd p0 p1 p2 p3 q0 q1 q2 q3 q4 q5 q6 q7 f0 f1 f2 f3 f4 f5 f6 f7 f8 HSS hw
  go_wp2_with fail
  refine bodyPost_ret (v := .agg #[.int .i64 enc, .bool mark, .int .i64 a1, .int .i64 a2, .int .i64 a3, .int .i64 (((a5 + a6 + a7 : Nat) : Int) + 1), .int .i64 a4, .bool (!(tail.toList.isEmpty)), .int .i64 en]) (by simp [results, Tryd.results20, go_sem, s0, s1, s2, s3, s4, s5, s6, s7, s8]) rfl ⟨rfl, ?_⟩
  have hS5 := HS5.out
  exact (Sh_r (Sh_set (Sh_set (Sh_set (Sh_set (Sh_set (Sh_set (Sh_set (Sh_set (Sh_set hS5 hpC hQC 0 _) hpC hQC 1 _) hpC hQC 2 _) hpC hQC 3 _) hpC hQC 4 _) hpC hQC 5 _) hpC hQC 6 _) hpC hQC 7 _) hpC hQC 8 _)).low
end Go.Proofs.YtjbfgnhkgjigpaaDoor

namespace Go.Proofs.YtjbfgnhkgjigpaaDoor
open Go.RowKit

/-- v is a slice of just these bytes, in a row of its own from B on. -/
def Wt (w : World) (B : Nat) (v : Value) (bs : List UInt8) : Prop :=
  (v = .slice none 0 0 ∧ bs = []) ∨ ∃ g o cap cur, v = .slice (some ⟨g, o, none⟩) bs.length cap ∧ B ≤ g ∧ w.heap[g]? = some (.cells cur 5 (0, 0)) ∧ o + cap ≤ cur.size ∧ bs.length ≤ cap ∧ cap ≤ maxLen ∧ (cur.toList.drop o).take bs.length = Lib.byteCells bs
/-- The row's block. -/
def wblk : Value → Option Nat
  | .slice (some a) _ _ => some a.block
  | _ => none
/-- Only the row's block turns, and new ones come. -/
structure WtStep (v : Value) (w w' : World) : Prop where
  os : w'.os = w.os
  tape : w'.tape = w.tape
  output : w'.output = w.output
  size : w.heap.size ≤ w'.heap.size
  keep : ∀ k, k < w.heap.size → wblk v ≠ some k → w'.heap[k]? = w.heap[k]?

theorem wt_append (ty : TypeId) (B : Nat) (v : Value) (bs : List UInt8) (s : ByteArray) (w : World) (h : Wt w B v bs) (hlen : bs.length + s.size ≤ 70368744177664) (hB : B ≤ w.heap.size) :
    ∃ v' w', (Builtin.append_ #[70, 9] ty #[v, .string s]).run Tryd.prog w = .ok v' w' ∧ Wt w' B v' (bs ++ s.data.toList) ∧ WtStep v w w' ∧ (wblk v' = wblk v ∨ wblk v' = some w.heap.size ∨ wblk v' = none) := by
  obtain ⟨i, hi⟩ := Option.isSome_iff_exists.1 (show (Tryd.prog.info? 5).isSome = true by kernel_rfl)
  have hz : i.zero = some (.int .u8 0) := by
    have h1 : (Tryd.prog.info? 5).bind (fun x => x.zero) = some (.int .u8 0) := by kernel_rfl
    rwa [hi] at h1
  have hs1 : i.size = 1 := by
    have h1 : (Tryd.prog.info? 5).map (fun x => x.size) = some 1 := by kernel_rfl
    rw [hi] at h1; simpa using h1
  have hb1 : i.bytes = 1 := by
    have h1 : (Tryd.prog.info? 5).map (fun x => x.bytes) = some 1 := by kernel_rfl
    rw [hi] at h1; simpa using h1
  have ht := Tryd.underlying70
  have hu := Tryd.underlying9
  have hmx : (70368744177664 : Nat) ≤ maxLen := by decide
  have hsl : s.data.toList.length = s.size := rfl
  have hsc : Lib.strCells s = Lib.byteCells s.data.toList := rfl
  have hcl := Lib.strCells_length s
  have hal : Lib.byteCells (bs ++ s.data.toList) = Lib.byteCells bs ++ Lib.strCells s := by rw [hsc]; simp [Lib.byteCells]
  have hnl : (bs ++ s.data.toList).length = bs.length + s.size := by rw [List.length_append, hsl]
  have hbl := Lib.byteCells_length bs
  -- the arm that grows
  have grown : ∀ old : Nat, old < bs.length + s.size →
      Wt (w.drew.alloc (.cells ((Lib.byteCells bs).toArray ++ (Lib.strCells s).toArray ++ Builtin.zeroCells (Value.int .u8 0).cells (grownCap w (bs.length + s.size) old 5 - (bs.length + s.size))) 5)) B (.slice (some ⟨w.heap.size, 0, none⟩) (bs.length + s.size) (grownCap w (bs.length + s.size) old 5)) (bs ++ s.data.toList) ∧
      ∀ v, WtStep v w (w.drew.alloc (.cells ((Lib.byteCells bs).toArray ++ (Lib.strCells s).toArray ++ Builtin.zeroCells (Value.int .u8 0).cells (grownCap w (bs.length + s.size) old 5 - (bs.length + s.size))) 5)) := by
    intro old ho
    have hge := grownCap_ge w (bs.length + s.size) old 5
    have hcm : grownCap w (bs.length + s.size) old 5 ≤ maxLen := grownCap_le_maxLen w (bs.length + s.size) old 5 (by omega)
    refine ⟨.inr ⟨w.heap.size, 0, _, _, by rw [hnl], hB, heap_alloc_new w.drew _, ?_, by rw [hnl]; exact hge, hcm, ?_⟩, fun v => ⟨rfl, rfl, rfl, by simp, fun k hk _ => Below.heap_alloc w.drew _ k hk⟩⟩
    · have hz1 : (Value.int IntKind.u8 0).cells.size = 1 := rfl
      simp only [Array.size_append, List.size_toArray, size_zeroCells, hz1, hbl, hcl]
      omega
    · rw [hal, hnl]
      simp only [Array.toList_append, List.drop_zero]
      have e : bs.length + s.size = (Lib.byteCells bs ++ Lib.strCells s).length := by rw [List.length_append, hbl, hcl]
      rw [e]
      exact List.take_left
  rcases h with ⟨rfl, rfl⟩ | ⟨g, o, cap, cur, rfl, hg, hh, hoc, hle, hcm, htk⟩
  · by_cases hm : s.size = 0
    · have hsn : s.data.toList = [] := List.eq_nil_of_length_eq_zero (by omega)
      have hf := Lib.run_firstCells_string (P := Tryd.prog) w 1 s
      rw [hm] at hf
      refine ⟨.slice none 0 0, w, ?_, .inl ⟨rfl, by rw [hsn]; rfl⟩, ⟨rfl, rfl, rfl, Nat.le_refl _, fun _ _ _ => rfl⟩, .inl rfl⟩
      simp [Builtin.append_, run_underlying ht, run_underlying hu, sizeOf, typeInfo, hi, hs1, Builtin.lenOf, hm, hf]
    · have hr := run_append_nil_string (P := Tryd.prog) w 70 9 ty 5 i (.int .u8 0) ht hu hi hz s (by omega) (by omega) (by rw [hb1]; omega)
      have hgr := grown 0 (by simp; omega)
      simp only [List.length_nil, Nat.zero_add, List.nil_append] at hgr
      have e1 : (s.data.map fun b => Value.int .u8 b.toNat) = (Lib.strCells s).toArray := by
        apply Array.ext'
        simp [Lib.strCells]
      rw [e1] at hr
      have e2 : (Lib.byteCells []).toArray ++ (Lib.strCells s).toArray = (Lib.strCells s).toArray := by simp [Lib.byteCells]
      rw [e2] at hgr
      exact ⟨_, _, hr, hgr.1, hgr.2 _, .inr (.inl rfl)⟩
  · by_cases hroom : bs.length + s.size ≤ cap
    · have hf := Lib.run_firstCells_string (P := Tryd.prog) w 1 s
      have hst := run_storeCells_at Tryd.prog g (o + bs.length) 5 (Lib.strCells s) 0 cur w hh (by rw [hcl]; omega) (Lib.strCells_oneCell s)
      simp only [Nat.add_zero, hcl] at hst
      refine ⟨.slice (some ⟨g, o, none⟩) (bs.length + s.size) cap, w.setRow g (cur.toList.take (o + bs.length) ++ Lib.strCells s ++ cur.toList.drop (o + bs.length + s.size)).toArray, ?_, .inr ⟨g, o, cap, _, by rw [hnl], hg, setRow_heap w g cur _ 5 _ hh, ?_, by rw [hnl]; exact hroom, hcm, ?_⟩, ⟨rfl, rfl, rfl, by simp, fun k _ hk => setRow_other w g k _ (fun e => hk (by simp [wblk, e]))⟩, .inl rfl⟩
      · simp [Builtin.append_, run_underlying ht, run_underlying hu, sizeOf, typeInfo, hi, hs1, Builtin.lenOf, hroom, hf, Addr.add_lit, hst]
      · simp only [List.size_toArray, List.length_append, List.length_take, List.length_drop, Array.length_toList, hcl]
        omega
      · rw [hal, hnl]
        have hcz : cur.toList.length = cur.size := Array.length_toList
        have e1 : (cur.toList.take (o + bs.length) ++ Lib.strCells s ++ cur.toList.drop (o + bs.length + s.size)).drop o = Lib.byteCells bs ++ Lib.strCells s ++ cur.toList.drop (o + bs.length + s.size) := by
          rw [List.append_assoc, List.drop_append_of_le_length (by rw [List.length_take]; omega), List.drop_take, Nat.add_sub_cancel_left, htk, List.append_assoc]
        show ((cur.toList.take (o + bs.length) ++ Lib.strCells s ++ cur.toList.drop (o + bs.length + s.size)).drop o).take _ = _
        rw [e1]
        have e : bs.length + s.size = (Lib.byteCells bs ++ Lib.strCells s).length := by rw [List.length_append, hbl, hcl]
        rw [e]
        exact List.take_left
    · have holds : ∀ j u, (Lib.byteCells bs)[j]? = some u → w.cell? ((⟨g, o, none⟩ : Addr).add j) = some u := by
        intro j u hj
        rw [Addr.add_lit, Lib.cell_of_heap hh]
        rw [← htk] at hj
        rw [List.getElem?_take] at hj
        split at hj
        · rw [List.getElem?_drop] at hj
          rw [← hj, Array.getElem?_toList]
        · cases hj
      have hr := Lib.run_append_grow_string (P := Tryd.prog) w 70 9 ty 5 i (.int .u8 0) ht hu hi hz ⟨g, o, none⟩ bs.length cap (Lib.byteCells bs) (by rw [hs1, hbl]; omega) holds s (by omega) (by omega) (by rw [hb1]; exact growslice_fits (by omega) (by omega))
      have hgr := grown cap (by omega)
      exact ⟨_, _, hr, hgr.1, hgr.2 _, .inr (.inl rfl)⟩
end Go.Proofs.YtjbfgnhkgjigpaaDoor

namespace Go.Proofs.YtjbfgnhkgjigpaaDoor
open Go.RowKit

theorem Wt.val {w : World} {B : Nat} {v : Value} {bs : List UInt8} (h : Wt w B v bs) : ∃ p cap, v = .slice p bs.length cap ∧ bs.length ≤ cap := by
  rcases h with ⟨rfl, rfl⟩ | ⟨g, o, cap, cur, rfl, _, _, _, h, _⟩
  · exact ⟨none, 0, rfl, Nat.le_refl _⟩
  · exact ⟨_, cap, rfl, h⟩
set_option maxRecDepth 100000 in
theorem wt_pre {w : World} {B : Nat} {p : Option Addr} {n cap : Nat} {bs : List UInt8} (h : Wt w B (.slice p n cap) bs) (k : Nat) (hk : k ≤ bs.length) (W : World) :
    (Instr.slice 70 (.slice p n cap) none (some (.int .i64 k)) none).run Tryd.prog W = .ok (.slice p k cap) W := by
  rcases h with ⟨hv, rfl⟩ | ⟨g, o, cap', cur, hv, _, _, _, hle, _⟩
  · injection hv with h1 h2 h3
    subst h1 h2 h3
    have : k = 0 := by simpa using hk
    subst this
    simp [Instr.slice, go_sem]
  · injection hv with h1 h2 h3
    subst h1 h2 h3
    have hk' : k ≤ cap := by omega
    simp [Instr.slice, go_sem, hk']
set_option maxRecDepth 100000 in
theorem wt_conv {w : World} {B : Nat} {p : Option Addr} {n cap : Nat} {bs : List UInt8} (h : Wt w B (.slice p n cap) bs) (k : Nat) (hk : k ≤ bs.length) :
    (convert 70 9 (.slice p k cap)).run Tryd.prog w = .ok (.string ⟨(bs.take k).toArray⟩) w := by
  rcases h with ⟨hv, rfl⟩ | ⟨g, o, cap', cur, hv, _, hh, hoc, hle, _, htk⟩
  · injection hv with h1 h2 h3
    subst h1 h2 h3
    have : k = 0 := by simpa using hk
    subst this
    exact run_convert_bytes_nil w 70 5 Tryd.underlying70 Tryd.underlying5 _ _ 9 Tryd.underlying9
  · injection hv with h1 h2 h3
    subst h1 h2 h3
    have hs : (⟨(bs.take k).toArray⟩ : ByteArray).size = k := by show (bs.take k).toArray.size = k; simp; omega
    have hb : Lib.Bytes w g o ⟨(bs.take k).toArray⟩ := by
      intro i hi
      rw [hs] at hi
      rw [Lib.cell_of_heap hh]
      have e1 : (Lib.byteCells bs)[i]? = some (.int .u8 ((bs[i]'(by omega)).toNat : Int)) := by simp [Lib.byteCells, List.getElem?_map, List.getElem?_eq_getElem (show i < bs.length by omega)]
      rw [← htk, List.getElem?_take, if_pos (by omega), List.getElem?_drop, Array.getElem?_toList] at e1
      rw [e1]
      congr 3
      show _ = ((bs.take k).toArray[i]'_).toNat
      simp
    have := Lib.run_convert_whole (P := Tryd.prog) w 70 5 9 Tryd.underlying70 Tryd.underlying5 Tryd.underlying9 g o ⟨(bs.take k).toArray⟩ hb cap
    rw [hs] at this
    exact this
theorem wt_suf {w : World} {B : Nat} {p : Option Addr} {n cap : Nat} {bs : List UInt8} (h : Wt w B (.slice p n cap) bs) (k : Nat) (hk : k ≤ bs.length) :
    ∃ p', (∀ W, (Instr.slice 70 (.slice p n cap) (some (.int .i64 k)) none none).run Tryd.prog W = .ok (.slice p' (n - k) (cap - k)) W) ∧ Wt w B (.slice p' (n - k) (cap - k)) (bs.drop k) ∧ wblk (.slice p' (n - k) (cap - k)) = wblk (.slice p n cap) := by
  rcases h with ⟨hv, rfl⟩ | ⟨g, o, cap', cur, hv, hg, hh, hoc, hle, hcm, htk⟩
  · injection hv with h1 h2 h3
    subst h1 h2 h3
    have : k = 0 := by simpa using hk
    subst this
    exact ⟨none, fun W => by simp [Instr.slice, go_sem], .inl ⟨rfl, rfl⟩, rfl⟩
  · injection hv with h1 h2 h3
    subst h1 h2 h3
    by_cases hc : cap = k
    · refine ⟨some ⟨g, o, none⟩, fun W => ?_, .inr ⟨g, o, cap - k, cur, by rw [List.length_drop], hg, hh, by omega, by rw [List.length_drop]; omega, by omega, ?_⟩, rfl⟩
      · simp [Instr.slice, go_sem, hk, hc]
      · have : bs.drop k = [] := List.drop_eq_nil_of_le (by omega)
        rw [this]; rfl
    · refine ⟨some ⟨g, o + k, none⟩, fun W => ?_, .inr ⟨g, o + k, cap - k, cur, by rw [List.length_drop], hg, hh, by omega, by rw [List.length_drop]; omega, by omega, ?_⟩, rfl⟩
      · simp [Instr.slice, go_sem, hk, hc, Addr.add_lit]
      · rw [List.length_drop, ← List.drop_drop, ← List.drop_take, htk]
        simp [Lib.byteCells]
end Go.Proofs.YtjbfgnhkgjigpaaDoor

namespace Go.Proofs.YtjbfgnhkgjigpaaDoor
open Go.RowKit

/-- The type of a block's cells. -/
def tyAt (w : World) (q : Nat) : Option TypeId := match w.heap[q]? with
  | some (.cells _ t _) => some t
  | _ => none
theorem tyAt_set (w : World) (a : Addr) (v : Value) (q : Nat) : tyAt (w.setCell a v) q = tyAt w q := by
  unfold tyAt
  by_cases h : q = a.block
  · subst h
    simp only [World.setCell, Array.getElem?_modify, if_true]
    cases hh : w.heap[a.block]? with
    | none => rfl
    | some o => cases o <;> rfl
  · rw [Deep.blk_setCell_other w a v q h]
theorem tyAt_low {w w' : World} {q : Nat} (hq : q < w.heap.size) (hb : Below w.heap.size w w') : tyAt w' q = tyAt w q := by
  unfold tyAt; rw [hb.block q hq]
/-- No node lies there. -/
def NoNd (w : World) (q : Nat) : Prop := tyAt w q ≠ some 139 ∧ tyAt w q ≠ some 159
theorem NoNd.set {w : World} {q : Nat} (h : NoNd w q) (a : Addr) (v : Value) : NoNd (w.setCell a v) q := by unfold NoNd; rw [tyAt_set]; exact h
theorem NoNd.low {w w' : World} {q : Nat} (h : NoNd w q) (hq : q < w.heap.size) (hb : Below w.heap.size w w') : NoNd w' q := by unfold NoNd; rw [tyAt_low hq hb]; exact h
/-- A loading at a block. -/
structure LdC (w : World) (q : Nat) (mode : Int) (begun : Bool) (enc : Int) (mark : Bool) (tv : Value) (tail : ByteArray) (v : Value) : Prop where
  c0 : w.cell? ⟨q, 0, none⟩ = some (.int .i64 mode)
  c1 : w.cell? ⟨q, 1, none⟩ = some (.bool begun)
  c2 : w.cell? ⟨q, 2, none⟩ = some (.int .i64 enc)
  c3 : w.cell? ⟨q, 3, none⟩ = some (.bool mark)
  c4 : w.cell? ⟨q, 4, none⟩ = some tv
  c5 : w.cell? ⟨q, 5, none⟩ = some (.string tail)
  c6 : w.cell? ⟨q, 6, none⟩ = some v
  fr : ∀ j, w.frozen? ⟨q, j, none⟩ = false
  nb : NoNd w q
theorem LdC.below {w w' : World} {q : Nat} {mode : Int} {begun : Bool} {enc : Int} {mark : Bool} {tv : Value} {tail : ByteArray} {v : Value} (h : LdC w q mode begun enc mark tv tail v) (hb : Below w.heap.size w w') : LdC w' q mode begun enc mark tv tail v := by
  have hB := block_lt h.c0
  have g : ∀ o, w'.cell? ⟨q, o, none⟩ = w.cell? ⟨q, o, none⟩ := fun o => hb.cell (p := ⟨q, o, none⟩) hB
  exact ⟨(g _).trans h.c0, (g _).trans h.c1, (g _).trans h.c2, (g _).trans h.c3, (g _).trans h.c4, (g _).trans h.c5, (g _).trans h.c6, fun j => (hb.frozen (p := ⟨q, j, none⟩) hB).trans (h.fr j), h.nb.low hB hb⟩
section
variable {w : World} {q : Nat} {mode : Int} {begun : Bool} {enc : Int} {mark : Bool} {tv : Value} {tail : ByteArray} {v : Value}
theorem LdC.set1 (h : LdC w q mode begun enc mark tv tail v) (x : Bool) : LdC (w.setCell ⟨q, 1, none⟩ (.bool x)) q mode x enc mark tv tail v :=
  ⟨by rw [sc8_ne _ _ 1 0 _ (by decide)]; exact h.c0, sc8_eq _ _ 1 _ _ h.c1, by rw [sc8_ne _ _ 1 2 _ (by decide)]; exact h.c2, by rw [sc8_ne _ _ 1 3 _ (by decide)]; exact h.c3, by rw [sc8_ne _ _ 1 4 _ (by decide)]; exact h.c4, by rw [sc8_ne _ _ 1 5 _ (by decide)]; exact h.c5, by rw [sc8_ne _ _ 1 6 _ (by decide)]; exact h.c6, fun j => by rw [World.frozen?_setCell]; exact h.fr j, h.nb.set _ _⟩
theorem LdC.set2 (h : LdC w q mode begun enc mark tv tail v) (x : Int) : LdC (w.setCell ⟨q, 2, none⟩ (.int .i64 x)) q mode begun x mark tv tail v :=
  ⟨by rw [sc8_ne _ _ 2 0 _ (by decide)]; exact h.c0, by rw [sc8_ne _ _ 2 1 _ (by decide)]; exact h.c1, sc8_eq _ _ 2 _ _ h.c2, by rw [sc8_ne _ _ 2 3 _ (by decide)]; exact h.c3, by rw [sc8_ne _ _ 2 4 _ (by decide)]; exact h.c4, by rw [sc8_ne _ _ 2 5 _ (by decide)]; exact h.c5, by rw [sc8_ne _ _ 2 6 _ (by decide)]; exact h.c6, fun j => by rw [World.frozen?_setCell]; exact h.fr j, h.nb.set _ _⟩
theorem LdC.set3 (h : LdC w q mode begun enc mark tv tail v) (x : Bool) : LdC (w.setCell ⟨q, 3, none⟩ (.bool x)) q mode begun enc x tv tail v :=
  ⟨by rw [sc8_ne _ _ 3 0 _ (by decide)]; exact h.c0, by rw [sc8_ne _ _ 3 1 _ (by decide)]; exact h.c1, by rw [sc8_ne _ _ 3 2 _ (by decide)]; exact h.c2, sc8_eq _ _ 3 _ _ h.c3, by rw [sc8_ne _ _ 3 4 _ (by decide)]; exact h.c4, by rw [sc8_ne _ _ 3 5 _ (by decide)]; exact h.c5, by rw [sc8_ne _ _ 3 6 _ (by decide)]; exact h.c6, fun j => by rw [World.frozen?_setCell]; exact h.fr j, h.nb.set _ _⟩
theorem LdC.set4 (h : LdC w q mode begun enc mark tv tail v) (x : Value) : LdC (w.setCell ⟨q, 4, none⟩ (x)) q mode begun enc mark x tail v :=
  ⟨by rw [sc8_ne _ _ 4 0 _ (by decide)]; exact h.c0, by rw [sc8_ne _ _ 4 1 _ (by decide)]; exact h.c1, by rw [sc8_ne _ _ 4 2 _ (by decide)]; exact h.c2, by rw [sc8_ne _ _ 4 3 _ (by decide)]; exact h.c3, sc8_eq _ _ 4 _ _ h.c4, by rw [sc8_ne _ _ 4 5 _ (by decide)]; exact h.c5, by rw [sc8_ne _ _ 4 6 _ (by decide)]; exact h.c6, fun j => by rw [World.frozen?_setCell]; exact h.fr j, h.nb.set _ _⟩
theorem LdC.set5 (h : LdC w q mode begun enc mark tv tail v) (x : ByteArray) : LdC (w.setCell ⟨q, 5, none⟩ (.string x)) q mode begun enc mark tv x v :=
  ⟨by rw [sc8_ne _ _ 5 0 _ (by decide)]; exact h.c0, by rw [sc8_ne _ _ 5 1 _ (by decide)]; exact h.c1, by rw [sc8_ne _ _ 5 2 _ (by decide)]; exact h.c2, by rw [sc8_ne _ _ 5 3 _ (by decide)]; exact h.c3, by rw [sc8_ne _ _ 5 4 _ (by decide)]; exact h.c4, sc8_eq _ _ 5 _ _ h.c5, by rw [sc8_ne _ _ 5 6 _ (by decide)]; exact h.c6, fun j => by rw [World.frozen?_setCell]; exact h.fr j, h.nb.set _ _⟩
theorem LdC.set6 (h : LdC w q mode begun enc mark tv tail v) (x : Value) : LdC (w.setCell ⟨q, 6, none⟩ (x)) q mode begun enc mark tv tail x :=
  ⟨by rw [sc8_ne _ _ 6 0 _ (by decide)]; exact h.c0, by rw [sc8_ne _ _ 6 1 _ (by decide)]; exact h.c1, by rw [sc8_ne _ _ 6 2 _ (by decide)]; exact h.c2, by rw [sc8_ne _ _ 6 3 _ (by decide)]; exact h.c3, by rw [sc8_ne _ _ 6 4 _ (by decide)]; exact h.c4, by rw [sc8_ne _ _ 6 5 _ (by decide)]; exact h.c5, sc8_eq _ _ 6 _ _ h.c6, fun j => by rw [World.frozen?_setCell]; exact h.fr j, h.nb.set _ _⟩
end

theorem Wt.kept {w w' : World} {B : Nat} {v : Value} {bs : List UInt8} (h : Wt w B v bs) (hk : ∀ k, wblk v = some k → w'.heap[k]? = w.heap[k]?) : Wt w' B v bs := by
  rcases h with ⟨rfl, rfl⟩ | ⟨g, o, cap, cur, rfl, hg, hh, r⟩
  · exact .inl ⟨rfl, rfl⟩
  · exact .inr ⟨g, o, cap, cur, rfl, hg, (hk g rfl).trans hh, r⟩
theorem Wt.blk_lt {w : World} {B : Nat} {v : Value} {bs : List UInt8} (h : Wt w B v bs) {k : Nat} (hk : wblk v = some k) : k < w.heap.size ∧ B ≤ k := by
  rcases h with ⟨rfl, rfl⟩ | ⟨g, o, cap, cur, rfl, hg, hh, r⟩
  · cases hk
  · cases hk; exact ⟨heap_lt hh, hg⟩
theorem Wt.tn {w w' : World} {B q : Nat} {v : Value} {bs : List UInt8} (h : Wt w B v bs) (ht : Tn q w w') (hq : wblk v ≠ some q) : Wt w' B v bs :=
  h.kept (fun k hk => ht.keep k (h.blk_lt hk).1 (fun e => hq (by rw [hk, e])))
theorem Wt.low {w w' : World} {B : Nat} {v : Value} {bs : List UInt8} (h : Wt w B v bs) (hb : Below w.heap.size w w') : Wt w' B v bs :=
  h.kept (fun k hk => hb.block k (h.blk_lt hk).1)
theorem Tn.low {q : Nat} {w w1 w2 : World} (h : Tn q w w1) (hb : Below w1.heap.size w1 w2) : Tn q w w2 :=
  h.trans ⟨hb.os, hb.tape, hb.output, hb.size, fun k hk _ => hb.block k hk⟩
/-- What begin leans on between two steps. -/
structure BgI (B q : Nat) (w0 : World) (mode : Int) (begun : Bool) (enc : Int) (mark : Bool) (tv : Value) (tail : ByteArray) (v : Value) (bs : List UInt8) (w : World) : Prop where
  ld : LdC w q mode begun enc mark tv tail v
  wt : Wt w B v bs
  tn : Tn q w0 w
  nq : wblk v ≠ some q
theorem BgI.low {B q : Nat} {w0 : World} {mode : Int} {begun : Bool} {enc : Int} {mark : Bool} {tv : Value} {tail : ByteArray} {v : Value} {bs : List UInt8} {w w' : World} (h : BgI B q w0 mode begun enc mark tv tail v bs w) (hb : Below w.heap.size w w') : BgI B q w0 mode begun enc mark tv tail v bs w' :=
  ⟨h.ld.below hb, h.wt.low hb, h.tn.low hb, h.nq⟩
theorem BgI.drew {B q : Nat} {w0 : World} {mode : Int} {begun : Bool} {enc : Int} {mark : Bool} {tv : Value} {tail : ByteArray} {v : Value} {bs : List UInt8} {w : World} (h : BgI B q w0 mode begun enc mark tv tail v bs w) : BgI B q w0 mode begun enc mark tv tail v bs w.drew := h.low ((Below.refl _ _).drew)

set_option maxRecDepth 100000 in
set_option maxHeartbeats 1000000 in
theorem begin_done (q : Nat) (mode : Int) (enc : Int) (mark : Bool) (tv : Value) (tail : ByteArray) (v : Value) (w : World) (h : LdC w q mode true enc mark tv tail v) :
    Calls Tryd.prog 59 #[.pointer (some ⟨q, 0, none⟩)] w fun e w' => e = .returned (.tuple #[]) ∧ w' = w := by
  have c1 := h.c1
  have hz := block_lt c1
  clear h
  go_enter Tryd.func59, Tryd.ntmps59
  go_wp2_with fail
  go_returns
  exact ⟨rfl, rfl⟩

theorem tabs_tn {w00 w w' : World} {q : Nat} (ht : Tabs w00) (hq0 : w00.heap.size ≤ q) (hb0 : Below w00.heap.size w00 w) (h : Tn q w w') : Tabs w' :=
  ht.below (hb0.trans ⟨h.os, h.tape, h.output, h.size, fun k hk => h.keep k (Nat.lt_of_lt_of_le hk hb0.size) (by omega)⟩)
set_option maxRecDepth 100000 in
set_option maxHeartbeats 1000000 in
theorem markBytes_tv (enc : Int) (mark : Bool) (tv : Value) (tail : ByteArray) (w : World) (ht : Tabs w) (h0 : 0 ≤ enc) (h3 : enc ≤ 3) :
    Calls Tryd.prog 62 #[.agg #[.int .i64 enc, .bool mark, tv, .string tail]] w fun e w' => e = .returned (.string (mkB enc mark)) ∧ Below w.heap.size w w' := by
  have hb0 := (Below.refl w.heap.size w).alloc (Nat.le_refl _) (.cells #[.int .i64 enc, .bool mark, tv, .string tail] 69)
  cases mark with
  | false =>
    have HB := hide1 hb0
    clear hb0
    go_enter Tryd.func62, Tryd.ntmps62
    go_wp2
    go_ret
    exact ⟨rfl, HB.out⟩
  | true =>
    have HM := hide1 (mark_any enc _ (ht.below hb0).enc h0 h3)
    have HB := hide1 hb0
    clear hb0
    go_enter Tryd.func62, Tryd.ntmps62
    go_wp2_with fail
    refine HM.out.mono ?_
    rintro e w1 ⟨rfl, hb1⟩
    have HB1 := hide1 (HB.out.trans (hb1.mono HB.out.size))
    clear hb1 HM HB
    go_wp2
    go_ret
    exact ⟨rfl, HB1.out⟩
theorem ofMark_prefix (b : ByteArray) (enc : Int) (h : (markB enc).toList.isEmpty = false) : ofMark b enc = Lib.hasPrefix b.data.toList (markB enc).data.toList := by
  unfold ofMark Lib.hasPrefix
  have : decide ((markB enc).size ≠ 0) = true := by
    rw [ByteArray.toList_eq] at h
    simp only [decide_eq_true_eq]
    intro e
    have : (markB enc).data.toList = [] := List.eq_nil_of_length_eq_zero e
    rw [this] at h; simp at h
  rw [this, Bool.true_and]
theorem ofMark_none (b : ByteArray) (enc : Int) (h : (markB enc).toList.isEmpty = true) : ofMark b enc = false := by
  unfold ofMark
  have : (markB enc).size = 0 := by
    rw [ByteArray.toList_eq] at h
    have h2 : (markB enc).data.toList = [] := by simpa using h
    have h3 : (markB enc).data.toList.length = (markB enc).size := rfl
    rw [← h3, h2]; rfl
  simp [this]
theorem four_at {w : World} {q : Nat} {mode : Int} {begun : Bool} {enc : Int} {mark : Bool} {tv : Value} {tail : ByteArray} {v : Value} (h : LdC w q mode begun enc mark tv tail v) : w.cell? ⟨q, 2, none⟩ = some (.int .i64 enc) ∧ w.cell? ⟨q, 3, none⟩ = some (.bool mark) ∧ w.cell? ⟨q, 4, none⟩ = some tv ∧ w.cell? ⟨q, 5, none⟩ = some (.string tail) := ⟨h.c2, h.c3, h.c4, h.c5⟩
theorem four_drew {w : World} {q : Nat} {mode : Int} {begun : Bool} {enc : Int} {mark : Bool} {tv : Value} {tail : ByteArray} {v : Value} (h : LdC w q mode begun enc mark tv tail v) : w.drew.cell? ⟨q, 2, none⟩ = some (.int .i64 enc) ∧ w.drew.cell? ⟨q, 3, none⟩ = some (.bool mark) ∧ w.drew.cell? ⟨q, 4, none⟩ = some tv ∧ w.drew.cell? ⟨q, 5, none⟩ = some (.string tail) := ⟨h.c2, h.c3, h.c4, h.c5⟩
theorem four_set {w : World} {q : Nat} {mode : Int} {begun : Bool} {enc : Int} {mark : Bool} {tv : Value} {tail : ByteArray} {v : Value} (h : LdC w q mode begun enc mark tv tail v) (x : Value) : (w.setCell ⟨q, 6, none⟩ x).cell? ⟨q, 2, none⟩ = some (.int .i64 enc) ∧ (w.setCell ⟨q, 6, none⟩ x).cell? ⟨q, 3, none⟩ = some (.bool mark) ∧ (w.setCell ⟨q, 6, none⟩ x).cell? ⟨q, 4, none⟩ = some tv ∧ (w.setCell ⟨q, 6, none⟩ x).cell? ⟨q, 5, none⟩ = some (.string tail) := four_at (h.set6 x)
/-- What settles the encoding and the mark. -/
def hdB (bs : List UInt8) : ByteArray := ⟨(bs.take (min 3 bs.length)).toArray⟩
def hdEnc (bs : List UInt8) (mode : Int) : Int := if 4 ≤ mode then sniffTo (hdB bs) (mode % 4) 3 else mode % 4
def hdMark (bs : List UInt8) (mode : Int) : Bool := ofMark (hdB bs) (hdEnc bs mode)

theorem hd_le (bs : List UInt8) (mode : Int) : (mkB (hdEnc bs mode) (hdMark bs mode)).size ≤ bs.length := by
  cases h : hdMark bs mode
  · exact Nat.zero_le _
  · have h1 : ofMark (hdB bs) (hdEnc bs mode) = true := h
    have h2 := ofMark_size h1
    have h3 : (hdB bs).size ≤ bs.length := by show (bs.take (min 3 bs.length)).toArray.size ≤ _; simp; omega
    show (markB (hdEnc bs mode)).size ≤ _
    omega
set_option maxRecDepth 100000 in
set_option maxHeartbeats 8000000 in
theorem begin_any (B q : Nat) (mode : Int) (enc0 : Int) (mark0 : Bool) (n : Option Nd) (tail : ByteArray) (v : Value) (bs : List UInt8) (w00 w : World) (ht : Tabs w00) (hq0 : w00.heap.size ≤ q) (hb0 : Below w00.heap.size w00 w) (h : LdC w q mode false enc0 mark0 (trv n) tail v) (hw : Wt w B v bs) (hq : wblk v ≠ some q) (hbs : bs.length ≤ 1099511627776) (h0 : 0 ≤ mode) (h7 : mode ≤ 7) :
    Calls Tryd.prog 59 #[.pointer (some ⟨q, 0, none⟩)] w fun e w' => ∃ v', e = .returned (.tuple #[]) ∧ LdC w' q mode true (hdEnc bs mode) (hdMark bs mode) (trv n) tail v' ∧ Wt w' B v' (bs.drop (mkB (hdEnc bs mode) (hdMark bs mode)).size) ∧ wblk v' = wblk v ∧ Tn q w w' := by
  obtain ⟨p, cap, rfl, hcap⟩ := hw.val
  have hpre := fun W => wt_pre hw (min 3 bs.length) (by omega) W
  have hcv := fun W (h : Wt W B (.slice p bs.length cap) bs) => wt_conv h (min 3 bs.length) (by omega)
  have c0 := h.c0
  have c1 := h.c1
  have c6 := h.c6
  have f1 := h.fr 1
  have hz := block_lt c0
  have t1 : Tn q w (w.setCell ⟨q, 1, none⟩ (.bool true)) := (Tn.refl _ _).setCell _
  have H1 := hide1 (⟨h.set1 true, hw.tn t1 hq, t1, hq⟩ : BgI B q w mode true enc0 mark0 (trv n) tail (.slice p bs.length cap) bs (w.setCell ⟨q, 1, none⟩ (.bool true)))
  have HT := hide1 (fun W (h : Tn q w W) => tabs_tn ht hq0 hb0 h)
  clear h hw ht t1 hq hb0
  have hmn : ((min 3 bs.length : Nat) : Int) = min (3 : Int) (bs.length : Int) := by omega
  simp only [hmn] at hpre
  have HCV := hide1 hcv
  clear hcv
  go_enter Tryd.func59, Tryd.ntmps59
  go_wp2_with fail
  generalize w.setCell ⟨q, 1, none⟩ (.bool true) = w1 at *
  clear c0 c1 c6 f1 hz
  have c6 := H1.out.ld.c6
  have hz := block_lt c6
  have hcv := HCV.out _ H1.out.wt
  have hcd := HCV.out _ H1.out.drew.wt
  go_cut [2] from 11 to 22 (fun s2 wx => s2 = .string (hdB bs) ∧ BgI B q w mode true enc0 mark0 (trv n) tail (.slice p bs.length cap) bs wx)
  case first =>
    go_region
    all_goals
      go_wp2_with fail
      go_meet
      exact ⟨rfl, H1.out.drew⟩
  case rest =>
    obtain ⟨rfl, hg⟩ := hcut
    rename World => w2
    have H2 := hide1 hg
    clear hg H1 c6 hz hcv hcd HCV hpre
    have c0 := H2.out.ld.c0
    have c2 := H2.out.ld.c2
    have f2 := H2.out.ld.fr 2
    have hz := block_lt c0
    have htm : IntKind.i64.wrap (mode.tmod 4) = mode % 4 := by rw [Int.tmod_eq_emod_of_nonneg h0, IntKind.wrap_i64]; omega
    have hE : hdEnc bs mode = if 4 ≤ mode then sniffTo (hdB bs) (mode % 4) 3 else mode % 4 := rfl
    have hEb : 0 ≤ hdEnc bs mode ∧ hdEnc bs mode ≤ 3 := by
      rw [hE]; split
      · exact sniffTo_bd _ _ (by omega) (by omega) 3 (Nat.le_refl _)
      · omega
    have hM : hdMark bs mode = ofMark (hdB bs) (hdEnc bs mode) := rfl
    have hle := hd_le bs mode
    have HE := hide1 hE
    have HEB := hide1 hEb
    have HM := hide1 hM
    clear hE hEb hM
    generalize hE1 : hdEnc bs mode = E at *
    generalize hM1 : hdMark bs mode = mk at *
    have HE1 := hide1 hE1
    have HM1 := hide1 hM1
    clear hE1 hM1
    generalize hdB bs = hd at *
    go_wp2_with fail
    · have ts : Tn q w2 (w2.setCell ⟨q, 2, none⟩ (.int .i64 (mode % 4))) := (Tn.refl _ _).setCell _
      have hEe : sniffTo hd (mode % 4) 3 = E := by rw [HE.out, if_pos (by assumption)]
      have H3 := hide1 (⟨H2.out.ld.set2 (mode % 4), H2.out.wt.tn ts H2.out.nq, H2.out.tn.trans ts, H2.out.nq⟩ : BgI B q w mode true (mode % 4) mark0 (trv n) tail (.slice p bs.length cap) bs (w2.setCell ⟨q, 2, none⟩ (.int .i64 (mode % 4))))
      clear H2 c0 c2 f2 hz ts htm
      generalize w2.setCell ⟨q, 2, none⟩ (.int .i64 (mode % 4)) = w3 at *
      have HS := hide1 (sniffed_any hd (mode % 4) w3 (HT.out _ H3.out.tn).enc)
      rw [hEe] at HS
      refine HS.out.mono ?_
      rintro e w4 ⟨rfl, hb4⟩
      have H4 := hide1 (H3.out.low hb4)
      clear hb4 H3 HS hEe
      have c2 := H4.out.ld.c2
      have f2 := H4.out.ld.fr 2
      have hz := block_lt c2
      go_wp2_with fail
      have ts : Tn q w4 (w4.setCell ⟨q, 2, none⟩ (.int .i64 E)) := (Tn.refl _ _).setCell _
      have H5 := hide1 (⟨H4.out.ld.set2 E, H4.out.wt.tn ts H4.out.nq, H4.out.tn.trans ts, H4.out.nq⟩ : BgI B q w mode true E mark0 (trv n) tail (.slice p bs.length cap) bs (w4.setCell ⟨q, 2, none⟩ (.int .i64 E)))
      clear H4 c2 f2 hz ts
      generalize w4.setCell ⟨q, 2, none⟩ (.int .i64 E) = w5 at *
      refine (mark_any E w5 (HT.out _ H5.out.tn).enc HEB.out.1 HEB.out.2).mono ?_
      rintro e w6 ⟨rfl, hb6⟩
      have H6 := hide1 (H5.out.low hb6)
      clear hb6 H5
      have c3 := H6.out.ld.c3
      have f3 := H6.out.ld.fr 3
      have hz := block_lt c3
      have hm1 := HM.out
      cases hme : (markB E).toList.isEmpty
      · have hm2 := hm1.trans (ofMark_prefix hd E hme)
        have hmn : ¬ (markB E).toList = [] := by intro h; rw [h] at hme; simp at hme
        have HPX := hide1 (fun W => has_prefix hd (markB E) W)
        rw [← hm2] at HPX
        clear hm1 hm2 HM
        generalize markB E = mb at *
        go_wp2_with (go_at_call 79; refine (HPX.out _).mono ?_; rintro e w' ⟨rfl, rfl⟩)
        rename World => w6
        have ts : Tn q w6 (w6.setCell ⟨q, 3, none⟩ (.bool mk)) := (Tn.refl _ _).setCell _
        have H7 := hide1 (⟨H6.out.ld.set3 mk, H6.out.wt.tn ts H6.out.nq, H6.out.tn.trans ts, H6.out.nq⟩ : BgI B q w mode true E mk (trv n) tail (.slice p bs.length cap) bs (w6.setCell ⟨q, 3, none⟩ (.bool mk)))
        clear H6 c3 f3 hz ts
        generalize w6.setCell ⟨q, 3, none⟩ (.bool mk) = w7 at *
        obtain ⟨p', hsl, hwt', hwb⟩ := wt_suf H7.out.wt (mkB E mk).size hle
        have HWB := hide1 hwb
        have c6 := H7.out.ld.c6
        have f6 := H7.out.ld.fr 6
        have hz := block_lt c6
        obtain ⟨c2, c3, c4, c5⟩ := four_at H7.out.ld
        have HMB := hide1 (fun W (h : Tabs W) => markBytes_tv E mk (trv n) tail W h HEB.out.1 HEB.out.2)
        have HWT := hide1 hwt'
        clear hwt' hwb
        generalize hkb : mkB E mk = mkb at *
        have HKB := hide1 hkb
        clear hkb
        go_region_with (go_at_call 62; refine (HMB.out _ (HT.out _ H7.out.drew.tn)).mono ?_; rintro e w8 ⟨rfl, hb8⟩; have H8 := hide1 (H7.out.drew.low hb8); have HB8 := hide1 hb8; have c6b := H8.out.ld.c6; have f6b := H8.out.ld.fr 6; have hz8 := block_lt c6b; clear hb8)
        all_goals
          go_wp2_with fail
          go_returns
          have ts : Tn q w8 (w8.setCell ⟨q, 6, none⟩ (.slice p' (bs.length - mkb.size) (cap - mkb.size))) := (Tn.refl _ _).setCell _
          have hnq : wblk (.slice p' (bs.length - mkb.size) (cap - mkb.size)) ≠ some q := by rw [HWB.out]; exact H8.out.nq
          rw [HE1.out, HM1.out, HKB.out]
          exact ⟨_, rfl, H8.out.ld.set6 _, ((HWT.out.low (((Below.refl _ _).drew).trans HB8.out)).tn ts hnq), HWB.out, H8.out.tn.trans ts⟩
      · have hm2 := hm1.trans (ofMark_none hd E hme)
        subst hm2
        clear hm1 HM
        generalize markB E = mb at *
        go_wp2_with fail
        have ts : Tn q w6 (w6.setCell ⟨q, 3, none⟩ (.bool false)) := (Tn.refl _ _).setCell _
        have H7 := hide1 (⟨H6.out.ld.set3 false, H6.out.wt.tn ts H6.out.nq, H6.out.tn.trans ts, H6.out.nq⟩ : BgI B q w mode true E false (trv n) tail (.slice p bs.length cap) bs (w6.setCell ⟨q, 3, none⟩ (.bool false)))
        clear H6 c3 f3 hz ts
        generalize w6.setCell ⟨q, 3, none⟩ (.bool false) = w7 at *
        obtain ⟨p', hsl, hwt', hwb⟩ := wt_suf H7.out.wt (mkB E false).size hle
        have HWB := hide1 hwb
        have c6 := H7.out.ld.c6
        have f6 := H7.out.ld.fr 6
        have hz := block_lt c6
        obtain ⟨c2, c3, c4, c5⟩ := four_at H7.out.ld
        have HMB := hide1 (fun W (h : Tabs W) => markBytes_tv E false (trv n) tail W h HEB.out.1 HEB.out.2)
        have HWT := hide1 hwt'
        clear hwt' hwb
        generalize hkb : mkB E false = mkb at *
        have HKB := hide1 hkb
        clear hkb
        go_region_with (go_at_call 62; refine (HMB.out _ (HT.out _ H7.out.drew.tn)).mono ?_; rintro e w8 ⟨rfl, hb8⟩; have H8 := hide1 (H7.out.drew.low hb8); have HB8 := hide1 hb8; have c6b := H8.out.ld.c6; have f6b := H8.out.ld.fr 6; have hz8 := block_lt c6b; clear hb8)
        all_goals
          go_wp2_with fail
          go_returns
          have ts : Tn q w8 (w8.setCell ⟨q, 6, none⟩ (.slice p' (bs.length - mkb.size) (cap - mkb.size))) := (Tn.refl _ _).setCell _
          have hnq : wblk (.slice p' (bs.length - mkb.size) (cap - mkb.size)) ≠ some q := by rw [HWB.out]; exact H8.out.nq
          rw [HE1.out, HM1.out, HKB.out]
          exact ⟨_, rfl, H8.out.ld.set6 _, ((HWT.out.low (((Below.refl _ _).drew).trans HB8.out)).tn ts hnq), HWB.out, H8.out.tn.trans ts⟩
    · have ts : Tn q w2 (w2.setCell ⟨q, 2, none⟩ (.int .i64 (mode % 4))) := (Tn.refl _ _).setCell _
      have hEe : mode % 4 = E := by rw [HE.out, if_neg (by omega)]
      have H5 := hide1 (⟨H2.out.ld.set2 (mode % 4), H2.out.wt.tn ts H2.out.nq, H2.out.tn.trans ts, H2.out.nq⟩ : BgI B q w mode true (mode % 4) mark0 (trv n) tail (.slice p bs.length cap) bs (w2.setCell ⟨q, 2, none⟩ (.int .i64 (mode % 4))))
      clear H2 c0 c2 f2 hz ts htm
      generalize w2.setCell ⟨q, 2, none⟩ (.int .i64 (mode % 4)) = w5 at *
      rw [hEe] at H5 ⊢
      refine (mark_any E w5 (HT.out _ H5.out.tn).enc HEB.out.1 HEB.out.2).mono ?_
      rintro e w6 ⟨rfl, hb6⟩
      have H6 := hide1 (H5.out.low hb6)
      clear hb6 H5
      have c3 := H6.out.ld.c3
      have f3 := H6.out.ld.fr 3
      have hz := block_lt c3
      have hm1 := HM.out
      cases hme : (markB E).toList.isEmpty
      · have hm2 := hm1.trans (ofMark_prefix hd E hme)
        have hmn : ¬ (markB E).toList = [] := by intro h; rw [h] at hme; simp at hme
        have HPX := hide1 (fun W => has_prefix hd (markB E) W)
        rw [← hm2] at HPX
        clear hm1 hm2 HM
        generalize markB E = mb at *
        go_wp2_with (go_at_call 79; refine (HPX.out _).mono ?_; rintro e w' ⟨rfl, rfl⟩)
        rename World => w6
        have ts : Tn q w6 (w6.setCell ⟨q, 3, none⟩ (.bool mk)) := (Tn.refl _ _).setCell _
        have H7 := hide1 (⟨H6.out.ld.set3 mk, H6.out.wt.tn ts H6.out.nq, H6.out.tn.trans ts, H6.out.nq⟩ : BgI B q w mode true E mk (trv n) tail (.slice p bs.length cap) bs (w6.setCell ⟨q, 3, none⟩ (.bool mk)))
        clear H6 c3 f3 hz ts
        generalize w6.setCell ⟨q, 3, none⟩ (.bool mk) = w7 at *
        obtain ⟨p', hsl, hwt', hwb⟩ := wt_suf H7.out.wt (mkB E mk).size hle
        have HWB := hide1 hwb
        have c6 := H7.out.ld.c6
        have f6 := H7.out.ld.fr 6
        have hz := block_lt c6
        obtain ⟨c2, c3, c4, c5⟩ := four_at H7.out.ld
        have HMB := hide1 (fun W (h : Tabs W) => markBytes_tv E mk (trv n) tail W h HEB.out.1 HEB.out.2)
        have HWT := hide1 hwt'
        clear hwt' hwb
        generalize hkb : mkB E mk = mkb at *
        have HKB := hide1 hkb
        clear hkb
        go_region_with (go_at_call 62; refine (HMB.out _ (HT.out _ H7.out.drew.tn)).mono ?_; rintro e w8 ⟨rfl, hb8⟩; have H8 := hide1 (H7.out.drew.low hb8); have HB8 := hide1 hb8; have c6b := H8.out.ld.c6; have f6b := H8.out.ld.fr 6; have hz8 := block_lt c6b; clear hb8)
        all_goals
          go_wp2_with fail
          go_returns
          have ts : Tn q w8 (w8.setCell ⟨q, 6, none⟩ (.slice p' (bs.length - mkb.size) (cap - mkb.size))) := (Tn.refl _ _).setCell _
          have hnq : wblk (.slice p' (bs.length - mkb.size) (cap - mkb.size)) ≠ some q := by rw [HWB.out]; exact H8.out.nq
          rw [HE1.out, HM1.out, HKB.out]
          exact ⟨_, rfl, H8.out.ld.set6 _, ((HWT.out.low (((Below.refl _ _).drew).trans HB8.out)).tn ts hnq), HWB.out, H8.out.tn.trans ts⟩
      · have hm2 := hm1.trans (ofMark_none hd E hme)
        subst hm2
        clear hm1 HM
        generalize markB E = mb at *
        go_wp2_with fail
        have ts : Tn q w6 (w6.setCell ⟨q, 3, none⟩ (.bool false)) := (Tn.refl _ _).setCell _
        have H7 := hide1 (⟨H6.out.ld.set3 false, H6.out.wt.tn ts H6.out.nq, H6.out.tn.trans ts, H6.out.nq⟩ : BgI B q w mode true E false (trv n) tail (.slice p bs.length cap) bs (w6.setCell ⟨q, 3, none⟩ (.bool false)))
        clear H6 c3 f3 hz ts
        generalize w6.setCell ⟨q, 3, none⟩ (.bool false) = w7 at *
        obtain ⟨p', hsl, hwt', hwb⟩ := wt_suf H7.out.wt (mkB E false).size hle
        have HWB := hide1 hwb
        have c6 := H7.out.ld.c6
        have f6 := H7.out.ld.fr 6
        have hz := block_lt c6
        obtain ⟨c2, c3, c4, c5⟩ := four_at H7.out.ld
        have HMB := hide1 (fun W (h : Tabs W) => markBytes_tv E false (trv n) tail W h HEB.out.1 HEB.out.2)
        have HWT := hide1 hwt'
        clear hwt' hwb
        generalize hkb : mkB E false = mkb at *
        have HKB := hide1 hkb
        clear hkb
        go_region_with (go_at_call 62; refine (HMB.out _ (HT.out _ H7.out.drew.tn)).mono ?_; rintro e w8 ⟨rfl, hb8⟩; have H8 := hide1 (H7.out.drew.low hb8); have HB8 := hide1 hb8; have c6b := H8.out.ld.c6; have f6b := H8.out.ld.fr 6; have hz8 := block_lt c6b; clear hb8)
        all_goals
          go_wp2_with fail
          go_returns
          have ts : Tn q w8 (w8.setCell ⟨q, 6, none⟩ (.slice p' (bs.length - mkb.size) (cap - mkb.size))) := (Tn.refl _ _).setCell _
          have hnq : wblk (.slice p' (bs.length - mkb.size) (cap - mkb.size)) ≠ some q := by rw [HWB.out]; exact H8.out.nq
          rw [HE1.out, HM1.out, HKB.out]
          exact ⟨_, rfl, H8.out.ld.set6 _, ((HWT.out.low (((Below.refl _ _).drew).trans HB8.out)).tn ts hnq), HWB.out, H8.out.tn.trans ts⟩
end Go.Proofs.YtjbfgnhkgjigpaaDoor
