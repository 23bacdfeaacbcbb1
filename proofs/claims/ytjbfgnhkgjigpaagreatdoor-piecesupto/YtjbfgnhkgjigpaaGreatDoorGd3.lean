import Derived.Test.YtjbfgnhkgjigpaaGreatDoorGb1
import Derived.Test.YtjbfgnhkgjigpaaGreatDoorGd2
namespace Go.Proofs.YtjbfgnhkgjigpaaGreatDoor
open Go.RowKit

/-- The bytes of a content. -/
def ctB (enc : Int) (mark : Bool) (R : List (Cn × ByteArray)) (tail : ByteArray) : List UInt8 := (mkB enc mark).data.toList ++ (rowB R ++ tail.data.toList)

/-- While a piece is written. -/
structure PcI (w0 : World) (enc : Int) (mark : Bool) (n : Nd) (R : List (Cn × ByteArray)) (tail : ByteArray) (bs : List Value) (W : World) : Prop where
  bd : Bd (w0.heap.size + 1) (w0.heap.size + 1) bs W
  c : W.heap[w0.heap.size]? = some (.cells #[.int .i64 enc, .bool mark, .iface n.ty (.pointer (some ⟨n.blk, 0, none⟩)), .string tail] 73)
  tr : TrAt W enc (some n) R
  tabs : Tabs W
  low : Below w0.heap.size w0 W
  sz : w0.heap.size + 1 < W.heap.size
theorem PcI.step {w0 : World} {enc : Int} {mark : Bool} {n : Nd} {R : List (Cn × ByteArray)} {tail : ByteArray} {bs : List Value} {W W' : World} (h : PcI w0 enc mark n R tail bs W) (hb : Below W.heap.size W W') : PcI w0 enc mark n R tail bs W' :=
  ⟨h.bd.low hb, (hb.block _ (heap_lt h.c)).trans h.c, h.tr.low hb, h.tabs.below hb, h.low.trans (hb.mono h.low.size), Nat.lt_of_lt_of_le h.sz hb.size⟩
theorem PcI.put {w0 : World} {enc : Int} {mark : Bool} {n : Nd} {R : List (Cn × ByteArray)} {tail : ByteArray} {bs bs' : List Value} {W W' : World} (h : PcI w0 enc mark n R tail bs W) (hd : Bd (w0.heap.size + 1) (w0.heap.size + 1) bs' W') (hb : Below (w0.heap.size + 1) W W') (ht : Tabs w0) (hu : n.Und w0.heap.size) : PcI w0 enc mark n R tail bs' W' := by
  have hlow := h.low.trans (hb.mono (by omega))
  exact ⟨hd, (hb.block _ (by omega)).trans h.c, ⟨fun m hm => by cases hm; exact ⟨Nd.kept (fun k hk => hb.block k (by omega)) hu (h.tr.inn n rfl).1, (h.tr.inn n rfl).2⟩, fun h => (by cases h), h.tr.ok⟩, ht.below hlow, hlow, Nat.lt_of_lt_of_le h.sz hb.size⟩
theorem PcI.at_ {w0 : World} {enc : Int} {mark : Bool} {n : Nd} {R : List (Cn × ByteArray)} {tail : ByteArray} {bs : List Value} {W : World} (h : PcI w0 enc mark n R tail bs W) :
    W.cell? ⟨w0.heap.size, 0, none⟩ = some (.int .i64 enc) ∧ W.cell? ⟨w0.heap.size, 1, none⟩ = some (.bool mark) ∧ W.cell? ⟨w0.heap.size, 2, none⟩ = some (.iface n.ty (.pointer (some ⟨n.blk, 0, none⟩))) ∧ W.cell? ⟨w0.heap.size, 3, none⟩ = some (.string tail) :=
  ⟨by rw [Lib.cell_of_heap h.c]; rfl, by rw [Lib.cell_of_heap h.c]; rfl, by rw [Lib.cell_of_heap h.c]; rfl, by rw [Lib.cell_of_heap h.c]; rfl⟩

set_option maxRecDepth 100000 in
set_option maxHeartbeats 2000000 in
theorem piece_any (enc : Int) (mark : Bool) (n : Nd) (R : List (Cn × ByteArray)) (tail : ByteArray) (f t : Nat) (w : World) (ht : Tabs w) (hr : TrAt w enc (some n) R) (h0 : 0 ≤ enc) (h3 : enc ≤ 3) (hl : (rowB R).length ≤ 1099511627776) (htl : tail.size ≤ 1099511627776) (hft : f ≤ t) (htt : t ≤ 4398046511104) :
    Calls Tryz.prog 57 #[.agg #[.int .i64 enc, .bool mark, .iface n.ty (.pointer (some ⟨n.blk, 0, none⟩)), .string tail], .int .i64 f, .int .i64 t] w fun e w' => e = .returned (.string ⟨(Vm.partL (ctB enc mark R tail) f t).toArray⟩) ∧ Below w.heap.size w w' := by
  have hu := Nd.und (hr.inn n rfl).1
  have hms := mkB_size enc mark
  have hsz := rowA_size hr.ok
  have HM := hide1 (fun w1 (h : Tabs w1) => markBytes_any enc mark n tail w1 h h0 h3)
  have HC := hide1 (fun w1 (h : TrAt w1 enc (some n) R) => h.counts)
  have hbw : Below w.heap.size w ((w.alloc (.cells #[.int .i64 enc, .bool mark, .iface n.ty (.pointer (some ⟨n.blk, 0, none⟩)), .string tail] 73)).alloc (.cells #[.pointer none, .slice none 0 0] 142)) := ((Below.refl _ _).alloc (Nat.le_refl _) _).alloc (by simp) _
  have hz0 : ((w.alloc (.cells #[.int .i64 enc, .bool mark, .iface n.ty (.pointer (some ⟨n.blk, 0, none⟩)), .string tail] 73)).alloc (.cells #[.pointer none, .slice none 0 0] 142)).heap.size = w.heap.size + 2 := by simp
  have k0 : ((w.alloc (.cells #[.int .i64 enc, .bool mark, .iface n.ty (.pointer (some ⟨n.blk, 0, none⟩)), .string tail] 73)).alloc (.cells #[.pointer none, .slice none 0 0] 142)).heap[w.heap.size]? = some (.cells #[.int .i64 enc, .bool mark, .iface n.ty (.pointer (some ⟨n.blk, 0, none⟩)), .string tail] 73) := by
    rw [Below.heap_alloc _ _ _ (by simp)]; exact Go.Deep.blk_alloc_new _ _
  have k1 : ((w.alloc (.cells #[.int .i64 enc, .bool mark, .iface n.ty (.pointer (some ⟨n.blk, 0, none⟩)), .string tail] 73)).alloc (.cells #[.pointer none, .slice none 0 0] 142)).heap[w.heap.size + 1]? = some (.cells #[.pointer none, .slice none 0 0] 142) := by
    have := Go.Deep.blk_alloc_new (w.alloc (.cells #[.int .i64 enc, .bool mark, .iface n.ty (.pointer (some ⟨n.blk, 0, none⟩)), .string tail] 73)) (.cells #[.pointer none, .slice none 0 0] 142)
    rwa [World.size_alloc] at this
  have hgr := bld_grow (w.heap.size + 1) (w.heap.size + 1) (t - f) _ (Nat.le_refl _) k1 (by omega) (by omega)
  rw [show ((t - f : Nat) : Int) = (t : Int) - (f : Int) by omega] at hgr
  have HG := hide1 hgr
  have HT := hide1 ht
  have HP0 := hide1 (fun W' (hd : Bd (w.heap.size + 1) (w.heap.size + 1) [] W') (hb : Below (w.heap.size + 1) ((w.alloc (.cells #[.int .i64 enc, .bool mark, .iface n.ty (.pointer (some ⟨n.blk, 0, none⟩)), .string tail] 73)).alloc (.cells #[.pointer none, .slice none 0 0] 142)) W') =>
    (show PcI w enc mark n R tail [] W' from ⟨hd, (hb.block _ (by omega)).trans k0, ⟨fun m hm => by cases hm; exact ⟨Nd.kept (hbw.trans (hb.mono (by omega))).block hu (hr.inn n rfl).1, (hr.inn n rfl).2⟩, fun h => (by cases h), hr.ok⟩, ht.below (hbw.trans (hb.mono (by omega))), hbw.trans (hb.mono (by omega)), by have := hb.size; omega⟩))
  clear hbw k0 k1 hgr hr ht
  have fb := field_body
  simp only [trv, cnOf, Cn.val] at HC
  go_enter Tryz.func57, Tryz.ntmps57
  go_wp2_with fail
  refine HG.out.mono ?_
  rintro e w1 ⟨rfl, hd1, hb1⟩
  have H1 := hide1 (HP0.out _ hd1 hb1)
  clear hd1 hb1 HP0 HG hz0
  obtain ⟨p0, p1, p2, p3⟩ := H1.out.at_
  have hz1 := H1.out.sz
  go_wp2_with fail
  refine (HM.out _ H1.out.tabs).mono ?_
  rintro e w2 ⟨rfl, hb2⟩
  have H2 := hide1 (H1.out.step hb2)
  clear hb2 H1 p0 p1 p2 p3 hz1
  obtain ⟨p0, p1, p2, p3⟩ := H2.out.at_
  have hz2 := H2.out.sz
  generalize hmb : mkB enc mark = mb at *
  have HMB := hide1 hmb
  clear hmb
  go_wp2_with fail
  refine (part_any mb f t w2 (by omega)).mono ?_
  rintro e w2' ⟨r1, rfl, hr1, rfl⟩
  have hrs1 : r1.size ≤ mb.size := by
    have h1 : r1.data.toList.length = r1.size := rfl
    have h2 := Vm.partL_len mb.data.toList f t
    have h3 : mb.data.toList.length = mb.size := rfl
    rw [← hr1] at h2; omega
  go_wp2_with fail
  refine (bld_str _ _ [] r1 w2' H2.out.bd (by simp; omega) (by omega)).mono ?_
  rintro e w3 ⟨rfl, hd3, hb3⟩
  have H3 := hide1 (H2.out.put hd3 hb3 HT.out hu)
  clear hd3 hb3 H2 p0 p1 p2 p3 hz2
  obtain ⟨p0, p1, p2, p3⟩ := H3.out.at_
  have hz3 := H3.out.sz
  have hc1 : ([] ++ Lib.strCells r1).length = r1.size := by simp [Lib.strCells_length]
  generalize hcs : [] ++ Lib.strCells r1 = cs1 at *
  have HCS1 := hide1 hcs
  clear hcs
  have HW := hide1 (twrite_any (w.heap.size + 1) enc (some n) R (w.heap.size + 1) cs1 ((f : Int) - mb.size) ((t : Int) - mb.size) w3 H3.out.tr (fun m hm => by cases hm; exact hu.mono (by omega)) H3.out.bd (by omega) (by omega) (by omega) (by omega) (by omega))
  simp only [trv] at HW
  go_wp2_with fail
  refine HW.out.mono ?_
  rintro e w4 ⟨rfl, hd4, hb4⟩
  have H4 := hide1 (H3.out.put hd4 hb4 HT.out hu)
  clear hd4 hb4 H3 p0 p1 p2 p3 hz3 HW
  obtain ⟨p0, p1, p2, p3⟩ := H4.out.at_
  have hz4 := H4.out.sz
  have hbl := Lib.byteCells_length (Vm.partL (rowB R) ((f : Int) - mb.size) ((t : Int) - mb.size))
  have hpl := Vm.partL_len (rowB R) ((f : Int) - mb.size) ((t : Int) - mb.size)
  have hc2 : (cs1 ++ Lib.byteCells (Vm.partL (rowB R) ((f : Int) - mb.size) ((t : Int) - mb.size))).length ≤ r1.size + (rowB R).length := by rw [List.length_append, hc1, hbl]; omega
  generalize hcs2 : cs1 ++ Lib.byteCells (Vm.partL (rowB R) ((f : Int) - mb.size) ((t : Int) - mb.size)) = cs2 at *
  have HCS2 := hide1 hcs2
  clear hcs2 hbl hpl
  go_wp2_with fail
  refine (HC.out _ H4.out.tr).mono ?_
  rintro e w5 ⟨rfl, hb5⟩
  have H5 := hide1 (H4.out.step hb5)
  clear hb5 H4 p0 p1 p2 p3 hz4
  obtain ⟨p0, p1, p2, p3⟩ := H5.out.at_
  have hz5 := H5.out.sz
  go_wp2_with fail
  refine (part_any tail ((f : Int) - mb.size - (rowB R).length) ((t : Int) - mb.size - (rowB R).length) w5 (by omega)).mono ?_
  rintro e w5' ⟨r2, rfl, hr2, rfl⟩
  have hrs2 : r2.size ≤ tail.size := by
    have h1 : r2.data.toList.length = r2.size := rfl
    have h2 := Vm.partL_len tail.data.toList ((f : Int) - mb.size - (rowB R).length) ((t : Int) - mb.size - (rowB R).length)
    have h3 : tail.data.toList.length = tail.size := rfl
    rw [← hr2] at h2; omega
  go_wp2_with fail
  refine (bld_str _ _ cs2 r2 w5' H5.out.bd (by omega) (by omega)).mono ?_
  rintro e w6 ⟨rfl, hd6, hb6⟩
  have H6 := hide1 (H5.out.put hd6 hb6 HT.out hu)
  clear hd6 hb6 H5 p0 p1 p2 p3 hz5
  have hz6 := H6.out.sz
  have hall : cs2 ++ Lib.strCells r2 = Lib.byteCells (Vm.partL (ctB enc mark R tail) f t) := by
    rw [← HCS2.out, ← HCS1.out]
    unfold ctB
    rw [HMB.out, Vm.partL_append, Vm.partL_append]
    have e1 : Lib.strCells r1 = Lib.byteCells (Vm.partL mb.data.toList f t) := by rw [← hr1]; rfl
    have e2 : Lib.strCells r2 = Lib.byteCells (Vm.partL tail.data.toList ((f : Int) - mb.size - (rowB R).length) ((t : Int) - mb.size - (rowB R).length)) := by rw [← hr2]; rfl
    have e3 : (mb.data.toList.length : Int) = mb.size := rfl
    rw [e1, e2, e3]
    simp [Lib.byteCells]
  have hbd := H6.out.bd
  rw [hall] at hbd
  have HS := hide1 (bld_string (w.heap.size + 1) (w.heap.size + 1) (Vm.partL (ctB enc mark R tail) f t) w6 hbd (by omega))
  have HL := hide1 H6.out.low
  clear hbd hall H6
  go_wp2_with fail
  refine HS.out.mono ?_
  rintro e w7 ⟨rfl, hb7⟩
  have HL7 := hide1 (HL.out.trans (hb7.mono (by omega)))
  clear hb7 HS
  go_wp2_with fail
  go_ret
  exact ⟨rfl, HL7.out⟩
end Go.Proofs.YtjbfgnhkgjigpaaGreatDoor

namespace Go.Proofs.YtjbfgnhkgjigpaaGreatDoor
open Go.RowKit

theorem pre_take (m l : List UInt8) (k : Nat) (h : m.length ≤ k) : m.isPrefixOf (l.take k) = m.isPrefixOf l := by
  induction m generalizing l k with
  | nil => simp
  | cons x m ih =>
    cases l with
    | nil => simp
    | cons y l =>
      cases k with
      | zero => simp at h
      | succ k =>
        simp only [List.take_succ_cons, List.isPrefixOf]
        rw [ih l k (by simpa using h)]
/-- Three bytes tell which mark there is. -/
theorem ofMark_head (b h : ByteArray) (enc : Int) (hh : h.data.toList = b.data.toList.take 3) : ofMark h enc = ofMark b enc := by
  unfold ofMark
  rw [hh, pre_take _ _ _ (by have := markB_size enc; exact this)]
theorem sniff_head (b h : ByteArray) (e0 : Int) (hh : h.data.toList = b.data.toList.take 3) : ∀ k, sniffTo h e0 k = sniffTo b e0 k
  | 0 => rfl
  | k + 1 => by
    unfold sniffTo
    rw [ofMark_head b h k hh, sniff_head b h e0 hh k]
theorem bytes_list (enc : Int) (mark : Bool) (body : ByteArray) : (bytesOf enc mark body).data.toList = (mkB enc mark).data.toList ++ body.data.toList := by
  unfold bytesOf mkB
  cases mark
  · simp
  · simp [ByteArray.data_append]
theorem ba_ext {a b : ByteArray} (h : a.data.toList = b.data.toList) : a = b := by
  cases a with | mk x => cases b with | mk y => congr; exact Array.toList_inj.1 h
theorem ba_of (l : List UInt8) (b : ByteArray) (h : b.data.toList = l) : (⟨l.toArray⟩ : ByteArray) = b := ba_ext (by simp [h])

/-- A document in memory: its content, its leaves, its tail. -/
structure DocAt (w : World) (p : Nat) (enc : Int) (mark : Bool) (body : ByteArray) (n : Nd) (R : List (Cn × ByteArray)) (tail : ByteArray) : Prop where
  blk : w.heap[p]? = some (.cells #[.int .i64 enc, .bool mark, .iface n.ty (.pointer (some ⟨n.blk, 0, none⟩)), .string tail] 92)
  tr : TrAt w enc (some n) R
  h0 : 0 ≤ enc
  h3 : enc ≤ 3
  bytes : body.data.toList = rowB R ++ tail.data.toList
  atoms : Vm.atoms enc body.data.toList = rowA enc R
  size : body.size ≤ 1099511627776
/-- A document. -/
def DD (w : World) (p : Nat) (enc : Int) (mark : Bool) (body : ByteArray) : Prop := ∃ n R tail, DocAt w p enc mark body n R tail
theorem DocAt.low {w w' : World} {p : Nat} {enc : Int} {mark : Bool} {body : ByteArray} {n : Nd} {R : List (Cn × ByteArray)} {tail : ByteArray} (h : DocAt w p enc mark body n R tail) (hb : Below w.heap.size w w') : DocAt w' p enc mark body n R tail :=
  ⟨(hb.block p (heap_lt h.blk)).trans h.blk, h.tr.low hb, h.h0, h.h3, h.bytes, h.atoms, h.size⟩
theorem DocAt.at_ {w : World} {p : Nat} {enc : Int} {mark : Bool} {body : ByteArray} {n : Nd} {R : List (Cn × ByteArray)} {tail : ByteArray} (h : DocAt w p enc mark body n R tail) :
    w.cell? ⟨p, 0, none⟩ = some (.int .i64 enc) ∧ w.cell? ⟨p, 1, none⟩ = some (.bool mark) ∧ w.cell? ⟨p, 2, none⟩ = some (.iface n.ty (.pointer (some ⟨n.blk, 0, none⟩))) ∧ w.cell? ⟨p, 3, none⟩ = some (.string tail) :=
  ⟨by rw [Lib.cell_of_heap h.blk]; rfl, by rw [Lib.cell_of_heap h.blk]; rfl, by rw [Lib.cell_of_heap h.blk]; rfl, by rw [Lib.cell_of_heap h.blk]; rfl⟩
theorem DocAt.lens {w : World} {p : Nat} {enc : Int} {mark : Bool} {body : ByteArray} {n : Nd} {R : List (Cn × ByteArray)} {tail : ByteArray} (h : DocAt w p enc mark body n R tail) : body.size = (rowB R).length + tail.size := by
  have := congrArg List.length h.bytes
  rw [List.length_append] at this
  exact this
theorem DocAt.ct {w : World} {p : Nat} {enc : Int} {mark : Bool} {body : ByteArray} {n : Nd} {R : List (Cn × ByteArray)} {tail : ByteArray} (h : DocAt w p enc mark body n R tail) : (bytesOf enc mark body).data.toList = ctB enc mark R tail := by
  rw [bytes_list, h.bytes]; rfl

set_option maxRecDepth 100000 in
set_option maxHeartbeats 1000000 in
theorem docText (p : Nat) (enc : Int) (mark : Bool) (body : ByteArray) (w : World) (ht : Tabs w) (hd : DD w p enc mark body) :
    Calls Tryz.prog 35 #[.pointer (some ⟨p, 0, none⟩)] w fun e w' => e = .returned (.string (strOfNums (Vm.textL (Vm.atoms enc body.data.toList)))) ∧ Below w.heap.size w w' := by
  obtain ⟨n, R, tail, h⟩ := hd
  obtain ⟨p0, p1, p2, p3⟩ := h.at_
  have hl := h.lens
  have hs := h.size
  have HX := hide1 (text_some enc mark n R tail w ht h.tr h.h0 h.h3 (by omega))
  simp only [trv] at HX
  rw [h.atoms]
  have hz := block_lt p0
  clear h ht
  go_enter Tryz.func35, Tryz.ntmps35
  go_wp2_with fail
  refine HX.out.mono ?_
  rintro e w1 ⟨rfl, hb1⟩
  have HB := hide1 hb1
  clear hb1 HX
  go_wp2_with fail
  go_ret
  exact ⟨rfl, HB.out⟩
end Go.Proofs.YtjbfgnhkgjigpaaGreatDoor
