import Derived.BigQuiet
import Derived.Test.YtjbfgnhkgjigpaaDoorGa7
import Derived.Test.YtjbfgnhkgjigpaaDoorGa9
namespace Go.Proofs.YtjbfgnhkgjigpaaDoor
open Go.RowKit

/-- L w0 w q mode all: at block q lies a loader that was begun in the world w0 and has taken these bytes; S w s bs g: at block s a saver of these bytes that has given g of them. -/
structure ApiS (T : World → Prop) (D : World → Nat → Int → Bool → ByteArray → Prop) (L : World → World → Nat → Int → List UInt8 → Prop) (S : World → Nat → List UInt8 → Nat → Prop) : Prop where
  base : Api T D
  begin_ : ∀ (mode : Int) (w : World), T w → 0 ≤ mode → mode ≤ 7 →
    Calls Tryd.prog 12 #[.int .i64 mode] w fun e w' => ∃ q, e = .returned (.tuple #[.pointer (some ⟨q, 0, none⟩), .int .i64 0]) ∧ L w w' q mode []
  begin_no : ∀ (mode : Int) (w : World), mode < 0 ∨ 7 < mode →
    Calls Tryd.prog 12 #[.int .i64 mode] w fun e w' => e = .returned (.tuple #[.pointer none, .int .i64 1]) ∧ Below w.heap.size w w'
  lbelow : ∀ {w0 w : World} {q : Nat} {mode : Int} {all : List UInt8}, L w0 w q mode all → Below w0.heap.size w0 w
  llow : ∀ {w0 w w' : World} {q : Nat} {mode : Int} {all : List UInt8}, L w0 w q mode all → Below w.heap.size w w' → L w0 w' q mode all
  push : ∀ (w0 w : World) (q : Nat) (mode : Int) (all : List UInt8) (b : ByteArray), T w0 → L w0 w q mode all → 0 ≤ mode → mode ≤ 7 → all.length + b.size ≤ 1099511627776 →
    Calls Tryd.prog 14 #[.pointer (some ⟨q, 0, none⟩), .string b] w fun e w' => e = .returned (.tuple #[]) ∧ L w0 w' q mode (all ++ b.data.toList) ∧ (∀ p enc mark body, D w p enc mark body → D w' p enc mark body)
  end_ : ∀ (w0 w : World) (q : Nat) (mode : Int) (b : ByteArray), T w0 → L w0 w q mode b.data.toList → 0 ≤ mode → mode ≤ 7 → b.size ≤ 1099511627776 →
    Calls Tryd.prog 15 #[.pointer (some ⟨q, 0, none⟩)] w fun e w' => ∃ p, e = .returned (.pointer (some ⟨p, 0, none⟩)) ∧ D w' p (encOf b mode) (ofMark b (encOf b mode)) (ofBody b (encOf b mode)) ∧ Below w.heap.size w w'
  saver : ∀ (p : Nat) (enc : Int) (mark : Bool) (body : ByteArray) (w : World), D w p enc mark body →
    Calls Tryd.prog 16 #[.pointer (some ⟨p, 0, none⟩)] w fun e w' => ∃ s, e = .returned (.pointer (some ⟨s, 0, none⟩)) ∧ w.heap.size ≤ s ∧ S w' s (bytesOf enc mark body).data.toList 0 ∧ Below w.heap.size w w'
  slow : ∀ {w w' : World} {s : Nat} {bs : List UInt8} {g : Nat}, S w s bs g → Below w.heap.size w w' → S w' s bs g
  fill : ∀ (s : Nat) (bs : List UInt8) (g : Nat) (c : Int) (w : World), T w → S w s bs g →
    Calls Tryd.prog 17 #[.pointer (some ⟨s, 0, none⟩), .int .i64 c] w fun e w' => e = .returned (.string ⟨((bs.drop g).take c.toNat).toArray⟩) ∧ S w' s bs (g + min c.toNat (bs.length - g)) ∧ T w' ∧ (∀ p enc mark body, D w p enc mark body → D w' p enc mark body) ∧
      (∀ w0, w0.heap.size ≤ s → Below w0.heap.size w0 w → Below w0.heap.size w0 w')
end Go.Proofs.YtjbfgnhkgjigpaaDoor

namespace Go.Proofs.YtjbfgnhkgjigpaaDoor
open Go.RowKit
variable {T : World → Prop} {D : World → Nat → Int → Bool → ByteArray → Prop}

set_option maxRecDepth 100000 in
set_option maxHeartbeats 2000000 in
theorem same_any (api : Api T D) (p r : Nat) (enc : Int) (mark : Bool) (body : ByteArray) (w : World) (ht : T w) (hd : D w p enc mark body) (he : D w r enc mark body) :
    Calls Tryd.prog 19 #[.pointer (some ⟨p, 0, none⟩), .pointer (some ⟨r, 0, none⟩)] w fun e w' => e = .returned (.bool true) ∧ Below w.heap.size w w' := by
  have a1 := fun p w => api.save p enc mark body w
  have a2 := fun p w => api.text p enc mark body w
  have a3 := fun p w => api.state p enc mark body w
  obtain ⟨n2, n3, n4, n5, n6, t7, n8, hsh⟩ := shown_parts enc mark body
  simp only [hsh] at a3
  clear hsh
  generalize bytesOf enc mark body = X1 at *
  generalize strOfNums (Vm.textL (Vm.atoms enc body.data.toList)) = X2 at *
  have A1 := hide2 a1
  have A2 := hide2 a2
  have A3 := hide2 a3
  clear a1 a2 a3
  go_enter Tryd.func19, Tryd.ntmps19
  go_wp2_with fail
  refine (A1.out p w ht hd).mono ?_
  rintro e w1 ⟨rfl, hb1⟩
  have ht1 := api.tab ht hb1
  have hd1 := api.low hd hb1
  have he1 := api.low he hb1
  go_wp2_with fail
  refine (A1.out r w1 ht1 he1).mono ?_
  rintro e w2 ⟨rfl, hb2⟩
  have ht2 := api.tab ht1 hb2
  have hd2 := api.low hd1 hb2
  have he2 := api.low he1 hb2
  have hb02 := hb1.trans (hb2.mono hb1.size)
  go_wp2_with fail
  refine (A2.out p w2 ht2 hd2).mono ?_
  rintro e w3 ⟨rfl, hb3⟩
  have ht3 := api.tab ht2 hb3
  have hd3 := api.low hd2 hb3
  have he3 := api.low he2 hb3
  have hb03 := hb02.trans (hb3.mono hb02.size)
  go_wp2_with fail
  refine (A2.out r w3 ht3 he3).mono ?_
  rintro e w4 ⟨rfl, hb4⟩
  have ht4 := api.tab ht3 hb4
  have hd4 := api.low hd3 hb4
  have he4 := api.low he3 hb4
  have hb04 := hb03.trans (hb4.mono hb03.size)
  clear ht ht1 ht2 ht3 hd hd1 hd2 hd3 he he1 he2 he3 hb1 hb2 hb3 hb4 hb02 hb03
  go_wp2_with fail
  refine (A3.out p w4 ht4 hd4).mono ?_
  rintro e w5 ⟨rfl, hb5⟩
  have hba := (Below.refl w5.heap.size w5).alloc (Nat.le_refl _) (.cells #[.int .i64 enc, .bool mark, .int .i64 n2, .int .i64 n3, .int .i64 n4, .int .i64 n5, .int .i64 n6, .bool t7, .int .i64 n8] 50)
  have hb5' := hb5.trans (hba.mono hb5.size)
  have ht5 := api.tab ht4 hb5'
  have he5 := api.low he4 hb5'
  have BX := hide2 (Bx9.new w5 50 (.int .i64 enc) (.bool mark) (.int .i64 n2) (.int .i64 n3) (.int .i64 n4) (.int .i64 n5) (.int .i64 n6) (.bool t7) (.int .i64 n8))
  have hb05 := hb04.trans (hb5'.mono hb04.size)
  go_wp2_with fail
  refine (A3.out r _ ht5 he5).mono ?_
  rintro e w6 ⟨rfl, hb6⟩
  have hb06 := hb05.trans (hb6.mono hb05.size)
  have bx6 := BX.out.below hb6
  have hbb := (Below.refl w6.heap.size w6).alloc (Nat.le_refl _) (.cells #[.int .i64 enc, .bool mark, .int .i64 n2, .int .i64 n3, .int .i64 n4, .int .i64 n5, .int .i64 n6, .bool t7, .int .i64 n8] 50)
  have hb07 := hb06.trans (hbb.mono hb06.size)
  have hz : w5.heap.size < w6.heap.size := block_lt bx6.c0
  obtain ⟨c0, c1, c2, c3, c4, c5, c6, c7, c8, _⟩ := bx6
  clear BX ht4 hd4 he4 ht5 he5 A1 A2 A3 hb5 hb5' hba hb6 hb04 hb05 hb06 hbb
  go_wp2
  go_ret
  exact ⟨rfl, hb07⟩
end Go.Proofs.YtjbfgnhkgjigpaaDoor

namespace Go.Proofs.YtjbfgnhkgjigpaaDoor
open Go.RowKit

theorem i64_and31 (x : Int) (h₀ : 0 ≤ x) (h₁ : x ≤ 2097151) : bits .and .i64 x 31 = x % 32 := bits_mask .i64 62 (by decide) wraps_i64x 5 (by decide) x h₀ (by omega)
theorem i64_and15 (x : Int) (h₀ : 0 ≤ x) (h₁ : x ≤ 2097151) : bits .and .i64 x 15 = x % 16 := bits_mask .i64 62 (by decide) wraps_i64x 4 (by decide) x h₀ (by omega)
theorem i64_and7 (x : Int) (h₀ : 0 ≤ x) (h₁ : x ≤ 2097151) : bits .and .i64 x 7 = x % 8 := bits_mask .i64 62 (by decide) wraps_i64x 3 (by decide) x h₀ (by omega)
/-- A world that bears all that w bears. -/
def Bl (w : World) : Type := {w' : World // Below w.heap.size w w'}
instance (w : World) : Nonempty (Bl w) := ⟨⟨w, Below.refl _ _⟩⟩
theorem wp_region_bl {P : Program} {id : Nat} {Q : Exit → Act → World → Prop} {a : Act} {w : World} {l : List Oper} (hm : P.follows .mixedOrders = true) (hB : Region.lexB .any l.toArray = true)
    (h : wpQuiet P l.toArray (fun w' => ∃ x : Bl w, w' = x.val) (fun a' => ∀ w', (∃ x : Bl w, w' = x.val) → Q .normal a' w') l a) : (Code.region id l.toArray true).wp P Q a w :=
  wp_region_quiet (C := fun w' => ∃ x : Bl w, w' = x.val) hm hB ⟨⟨w.drew, (Below.refl _ _).drew⟩, rfl⟩ (by simpa using h)
theorem Calls.bl_of {P : Program} {f : FuncId} {args : Array Value} {w : World} {x : Bl w} {v : Value}
    (h : Calls P f args x.val fun e w' => e = .returned v ∧ Below x.val.heap.size x.val w') : Calls P f args x.val fun e w'' => e = .returned v ∧ ∃ y : Bl w, w'' = y.val :=
  h.mono fun _ w' ⟨he, hm⟩ => ⟨he, ⟨w', x.2.trans (hm.mono x.2.size)⟩, rfl⟩
end Go.Proofs.YtjbfgnhkgjigpaaDoor

namespace Go.Proofs.YtjbfgnhkgjigpaaDoor
open Go.RowKit

/-- A slice of ints that was handed in. -/
def IntsAt (w : World) (v : Value) (zs : List Int) : Prop := (v = .slice none 0 0 ∧ zs = []) ∨ ∃ (a : Addr) (cap : Nat), v = .slice (some a) zs.length cap ∧ (∀ i, i < zs.length → w.cell? (a.add i) = some (.int .i64 (zs.getD i 0)))
theorem cell_lt {w : World} {a : Addr} {v : Value} (h : w.cell? a = some v) : a.block < w.heap.size := by
  unfold World.cell? at h
  by_cases hb : a.block < w.heap.size
  · exact hb
  · rw [Array.getElem?_eq_none (by omega)] at h; cases h
theorem IntsAt.val {w : World} {v : Value} {zs : List Int} (h : IntsAt w v zs) : ∃ p cap, v = .slice p zs.length cap := by
  rcases h with ⟨rfl, rfl⟩ | ⟨a, cap, rfl, _⟩
  · exact ⟨none, 0, rfl⟩
  · exact ⟨_, cap, rfl⟩
theorem IntsAt.at_ {w : World} {p : Option Addr} {n cap : Nat} {zs : List Int} (h : IntsAt w (.slice p n cap) zs) (i : Nat) (hi : i < zs.length) : ∃ a, p = some a ∧ w.cell? (a.add i) = some (.int .i64 (zs.getD i 0)) := by
  rcases h with ⟨hv, rfl⟩ | ⟨a, cap', hv, hc⟩
  · simp at hi
  · injection hv with h1 h2 h3
    exact ⟨a, h1, hc i hi⟩
theorem IntsAt.low {w w' : World} {v : Value} {zs : List Int} (h : IntsAt w v zs) (hb : Below w.heap.size w w') : IntsAt w' v zs := by
  rcases h with ⟨rfl, rfl⟩ | ⟨a, cap, rfl, hc⟩
  · exact .inl ⟨rfl, rfl⟩
  · exact .inr ⟨a, cap, rfl, fun i hi => (hb.cell (p := a.add i) (cell_lt (hc i hi))).trans (hc i hi)⟩

theorem ba_ext2 {a b : ByteArray} (h : a.data.toList = b.data.toList) : a = b := by
  cases a with | mk x => cases b with | mk y => congr; exact Array.toList_inj.1 h
theorem ext_take (r : ByteArray) (n : Nat) : (r.extract 0 n).data.toList = r.data.toList.take n := by
  rw [ByteArray.data_extract, Array.toList_extract, List.extract_eq_take_drop, List.drop_zero, Nat.sub_zero]
theorem ext_drop (r : ByteArray) (n : Nat) : (r.extract n r.size).data.toList = r.data.toList.drop n := by
  rw [ByteArray.data_extract, Array.toList_extract, List.extract_eq_take_drop]
  exact List.take_of_length_le (by rw [List.length_drop]; exact Nat.le_refl _)
variable {T : World → Prop} {D : World → Nat → Int → Bool → ByteArray → Prop} {L : World → World → Nat → Int → List UInt8 → Prop} {S : World → Nat → List UInt8 → Nat → Prop}

set_option maxRecDepth 100000 in
set_option maxHeartbeats 2000000 in
theorem faithful_any (api : ApiS T D L S) (b : ByteArray) (c : Int) (vc vf : Value) (cuts fills : List Int) (w : World) (ht : T w) (hb : b.size ≤ 1073741824) (h1 : -9223372036854775808 ≤ c) (h2 : c ≤ 9223372036854775807)
    (hvc : IntsAt w vc cuts) (hvf : IntsAt w vf fills) (hcl : cuts.length ≤ 1073741824) (hfl : fills.length ≤ 1073741824) (hcr : ∀ i, -9223372036854775808 ≤ cuts.getD i 0 ∧ cuts.getD i 0 ≤ 9223372036854775807) (hfr : ∀ i, -9223372036854775808 ≤ fills.getD i 0 ∧ fills.getD i 0 ≤ 9223372036854775807) :
    Calls Tryd.prog 5 #[.string b, .int .i64 c, vc, vf] w fun e w' => e = .returned (.bool true) ∧ Below w.heap.size w w' := by
  have hp := Vm.pick_bd c 8 (by decide)
  have O := hide2 (opened_any api.base b c w ht (by omega) h1 h2)
  have K := hide2 (fun W => kpick_any c 8 W h1 h2 (by decide) (by decide))
  obtain ⟨pc, cc, rfl⟩ := hvc.val
  obtain ⟨pf, cf, rfl⟩ := hvf.val
  generalize Vm.pick c 8 = m at *
  have BG := hide2 (fun W (h : T W) => api.begin_ m W h hp.1 (by omega))
  go_enter Tryd.func5, Tryd.ntmps5
  go_wp2_with fail
  refine O.out.mono ?_
  rintro e w0 ⟨p, rfl, hd, hb1⟩
  have ht1 := api.base.tab ht hb1
  go_wp2_with (go_at_call 13; refine (K.out _).mono ?_; rintro e w' ⟨rfl, rfl⟩)
  rename World => w1
  refine (BG.out _ ht1).mono ?_
  rintro e w2 ⟨q, rfl, hL2⟩
  have hd2 := api.base.low hd (api.lbelow hL2)
  go_wp2_with fail
  have HVC := hide2 hvc
  have HVF := hide2 hvf
  have HB1 := hide2 hb1
  have HT1 := hide2 ht1
  have HL2 := hide2 hL2
  have HD2 := hide2 hd2
  clear hvc hvf hb1 ht1 hL2 hd2 hd O K BG
  have hbl : b.data.toList.length = b.size := rfl
  go_loopg [13, 14] cuts.length (fun k s13 s14 wx => ∃ (j : Nat) (r : ByteArray) (done : List UInt8), k = cuts.length - j ∧ j ≤ cuts.length ∧ s13 = .string r ∧ s14 = .int .i64 j ∧ done ++ r.data.toList = b.data.toList ∧ L w1 wx q m done ∧ D wx p (encOf b m) (ofMark b (encOf b m)) (ofBody b (encOf b m)))
  case atStart => exact ⟨0, b, [], (by omega), Nat.zero_le _, rfl, rfl, rfl, HL2.out, HD2.out⟩
  case round =>
    clear HL2 HD2
    obtain ⟨j, r, done, rfl, hj, rfl, rfl, hdr, hL, hD⟩ := hrel
    have HL := hide2 hL
    have HD := hide2 hD
    have hlr := congrArg List.length hdr
    have hrl : r.data.toList.length = r.size := rfl
    rw [List.length_append] at hlr
    have HBX := hide2 (HB1.out.trans ((api.lbelow hL).mono HB1.out.size))
    clear hL hD
    by_cases hlt : j < cuts.length
    · have hjI : (j : Int) < (cuts.length : Int) := by omega
      obtain ⟨a, rfl, hca⟩ := (HVC.out.low HBX.out).at_ j hlt
      have hz := cell_lt hca
      have hzr := hcr j
      generalize cuts.getD j 0 = z at *
      have hpk := Vm.pick_bd z 7 (by decide)
      have K := hide2 (fun W => kpick_any z 7 W hzr.1 hzr.2 (by decide) (by decide))
      generalize Vm.pick z 7 = u at *
      obtain ⟨n, rfl⟩ : ∃ n : Nat, u = n := ⟨u.toNat, by omega⟩
      by_cases hgt : r.size < n
      · have hgI : (r.size : Int) < (n : Int) := by omega
        go_wp2_with (go_at_call 13; refine (K.out _).mono ?_; rintro e w' ⟨rfl, rfl⟩)
        refine (api.push w1 _ q m done r HT1.out HL.out hp.1 (by omega) (by omega)).mono ?_
        rintro e w3 ⟨rfl, hL3, hk3⟩
        have hD3 := hk3 _ _ _ _ HD.out
        clear hk3
        go_wp2_with fail
        go_roundg (cuts.length - (j + 1))
        case measure => omega
        case rel =>
          refine ⟨j + 1, _, done ++ r.data.toList, rfl, by omega, rfl, rfl, ?_, hL3, hD3⟩
          show (done ++ r.data.toList) ++ [] = _
          rw [List.append_nil, hdr]
      · have hgI : ¬ (r.size : Int) < (n : Int) := by omega
        go_wp2_with (go_at_call 13; refine (K.out _).mono ?_; rintro e w' ⟨rfl, rfl⟩)
        have hxl : (r.extract 0 n).size ≤ r.size := by
          have e1 : (r.extract 0 n).data.toList.length = (r.extract 0 n).size := rfl
          rw [← e1, ext_take, List.length_take]; omega
        refine (api.push w1 _ q m done (r.extract 0 n) HT1.out HL.out hp.1 (by omega) (by omega)).mono ?_
        rintro e w3 ⟨rfl, hL3, hk3⟩
        have hD3 := hk3 _ _ _ _ HD.out
        clear hk3
        rw [ext_take] at hL3
        go_wp2_with fail
        go_roundg (cuts.length - (j + 1))
        case measure => omega
        case rel =>
          refine ⟨j + 1, _, done ++ r.data.toList.take n, rfl, by omega, rfl, rfl, ?_, hL3, hD3⟩
          rw [ext_drop, List.append_assoc, List.take_append_drop, hdr]
    · have hjI : ¬ (j : Int) < (cuts.length : Int) := by omega
      obtain rfl : j = cuts.length := by omega
      go_wp2_with fail
      refine (api.push w1 _ q m done r HT1.out HL.out hp.1 (by omega) (by omega)).mono ?_
      rintro e w3 ⟨rfl, hL3, hk3⟩
      have hD3 := hk3 _ _ _ _ HD.out
      rw [hdr] at hL3
      clear hk3 HL HD HBX HVC
      go_wp2_with fail
      refine (api.end_ w1 w3 q m b HT1.out hL3 hp.1 (by omega) (by omega)).mono ?_
      rintro e w4 ⟨p4, rfl, hd4, hb4⟩
      have hD4 := api.base.low hD3 hb4
      have hB4 := HB1.out.trans (((api.lbelow hL3).trans (hb4.mono (api.lbelow hL3).size)).mono HB1.out.size)
      clear hL3 hD3
      go_wp2_with fail
      refine (api.saver p4 _ _ _ w4 hd4).mono ?_
      rintro e w5 ⟨s, rfl, hs5, hS5, hb5⟩
      rw [bytesOf_of] at hS5
      have hD5 := api.base.low hD4 hb5
      have hd5 := api.base.low hd4 hb5
      have hB5 := hB4.trans (hb5.mono hB4.size)
      have hws : w.heap.size ≤ s := Nat.le_trans hB4.size hs5
      have ht5 := api.base.tab ht hB5
      have HS5 := hide2 hS5
      have HD5 := hide2 hD5
      have Hd5 := hide2 hd5
      have HB5 := hide2 hB5
      have HT5 := hide2 ht5
      clear hD4 hd4 hB4 hb4 hb5 hS5 hD5 hd5 hB5 ht5 hs5
      go_wp2_with fail
      go_loopg [18, 19] fills.length (fun k s18 s19 wx => ∃ (j g : Nat) (o : ByteArray), k = fills.length - j ∧ j ≤ fills.length ∧ s18 = .string o ∧ s19 = .int .i64 j ∧ o.data.toList = b.data.toList.take g ∧ g ≤ b.size ∧ S wx s b.data.toList g ∧ T wx ∧ D wx p (encOf b m) (ofMark b (encOf b m)) (ofBody b (encOf b m)) ∧ D wx p4 (encOf b m) (ofMark b (encOf b m)) (ofBody b (encOf b m)) ∧ Below w.heap.size w wx)
      case atStart => exact ⟨0, 0, ⟨#[]⟩, (by omega), Nat.zero_le _, rfl, rfl, rfl, Nat.zero_le _, HS5.out, HT5.out, HD5.out, Hd5.out, HB5.out⟩
      case round =>
        clear HS5 HT5 HD5 Hd5 HB5
        obtain ⟨j, g, o, rfl, hj, rfl, rfl, ho, hg, hS, hT, hD, hd, hB⟩ := hrel
        have HO := hide2 ho
        have HS := hide2 hS
        have HT := hide2 hT
        have HD := hide2 hD
        have Hd := hide2 hd
        have HB := hide2 hB
        clear ho hS hT hD hd hB
        by_cases hlt : j < fills.length
        · have hjI : (j : Int) < (fills.length : Int) := by omega
          obtain ⟨a, rfl, hca⟩ := (HVF.out.low HB.out).at_ j hlt
          have hz := cell_lt hca
          have hzr := hfr j
          generalize fills.getD j 0 = z at *
          have hpk := Vm.pick_bd z 5 (by decide)
          have K := hide2 (fun W => kpick_any z 5 W hzr.1 hzr.2 (by decide) (by decide))
          generalize Vm.pick z 5 = u at *
          obtain ⟨n, rfl⟩ : ∃ n : Nat, u = n := ⟨u.toNat, by omega⟩
          have F := api.fill s b.data.toList g (1 + (n : Int)) wr HT.out HS.out
          rw [show (1 + (n : Int)).toNat = 1 + n by omega, hbl] at F
          obtain ⟨tt, htt⟩ : ∃ tt : ByteArray, tt = ⟨((b.data.toList.drop g).take (1 + n)).toArray⟩ := ⟨_, rfl⟩
          rw [← htt] at F
          have htl : tt.data.toList = (b.data.toList.drop g).take (1 + n) := by rw [htt]
          have hts : tt.size = min (1 + n) (b.size - g) := by
            have e1 : tt.data.toList.length = tt.size := rfl
            rw [← e1, htl, List.length_take, List.length_drop, hbl]
          have hcat : (o ++ tt).data.toList = b.data.toList.take (g + min (1 + n) (b.size - g)) := by
            rw [ByteArray.data_append, Array.toList_append, HO.out, htl]
            by_cases hc : 1 + n ≤ b.size - g
            · rw [Nat.min_eq_left hc, ← List.take_add]
            · rw [List.take_of_length_le (l := b.data.toList.drop g) (by rw [List.length_drop]; omega), List.take_append_drop, List.take_of_length_le (by omega)]
          have hos : o.size ≤ b.size := by
            have e1 : o.data.toList.length = o.size := rfl
            rw [← e1, HO.out, List.length_take]; omega
          have hcz : ¬ 9223372036854775807 < o.size + tt.size := by omega
          have HF := hide2 F
          have HCAT := hide2 hcat
          clear F hcat htt htl
          by_cases hfit : 1 + n ≤ b.size - g
          · have hts2 : (tt.size : Int) = 1 + (n : Int) := by omega
            clear hts
            go_wp2_with (first | (go_at_call 13; refine (K.out _).mono ?_; rintro e w' ⟨rfl, rfl⟩) | (go_at_call 17; refine HF.out.mono ?_; rintro e w6 ⟨rfl, hS6, hT6, hk6, hlow6⟩))
            go_roundg (fills.length - (j + 1))
            case measure => omega
            case rel =>
              exact ⟨j + 1, g + min (1 + n) (b.size - g), o ++ tt, rfl, by omega, rfl, rfl, HCAT.out, by omega, hS6, hT6, hk6 _ _ _ _ HD.out, hk6 _ _ _ _ Hd.out, hlow6 w hws HB.out⟩
          · have hts2 : ¬ (tt.size : Int) = 1 + (n : Int) := by omega
            have hcb : o ++ tt = b := by
              refine ba_ext2 ?_
              rw [HCAT.out]
              exact List.take_of_length_le (by omega)
            clear hts
            go_wp2_with (first | (go_at_call 13; refine (K.out _).mono ?_; rintro e w' ⟨rfl, rfl⟩) | (go_at_call 17; refine HF.out.mono ?_; rintro e w6 ⟨rfl, hS6, hT6, hk6, hlow6⟩))
            go_roundg (fills.length - (j + 1))
            case measure => omega
            case rel =>
              have hcat := HCAT.out
              rw [hcb] at hcat
              exact ⟨j + 1, g + min (1 + n) (b.size - g), b, rfl, by omega, rfl, rfl, hcat, by omega, hS6, hT6, hk6 _ _ _ _ HD.out, hk6 _ _ _ _ Hd.out, hlow6 w hws HB.out⟩
        · have hjI : ¬ (j : Int) < (fills.length : Int) := by omega
          obtain rfl : j = fills.length := by omega
          have F := api.fill s b.data.toList g 1099511627776 wr HT.out HS.out
          rw [show (1099511627776 : Int).toNat = 1099511627776 by decide] at F
          obtain ⟨tt, htt⟩ : ∃ tt : ByteArray, tt = ⟨((b.data.toList.drop g).take 1099511627776).toArray⟩ := ⟨_, rfl⟩
          rw [← htt] at F
          have htl : tt.data.toList = b.data.toList.drop g := by rw [htt]; exact List.take_of_length_le (by rw [List.length_drop]; omega)
          have hcb : o ++ tt = b := by
            refine ba_ext2 ?_
            rw [ByteArray.data_append, Array.toList_append, HO.out, htl, List.take_append_drop]
          have hcz : ¬ 9223372036854775807 < o.size + tt.size := by
            have e1 : o.data.toList.length = o.size := rfl
            have e2 : tt.data.toList.length = tt.size := rfl
            rw [← e1, ← e2, HO.out, htl, List.length_take, List.length_drop]; omega
          have HF := hide2 F
          clear F htt htl
          go_wp2_with (go_at_call 17; refine HF.out.mono ?_; rintro e w6 ⟨rfl, hS6, hT6, hk6, hlow6⟩)
          have hD6 := hk6 _ _ _ _ HD.out
          have hd6 := hk6 _ _ _ _ Hd.out
          have hB6 := hlow6 w hws HB.out
          clear hS6 hk6 hlow6 HF HS HT HD Hd HB
          refine (api.base.save p _ _ _ w6 hT6 hD6).mono ?_
          rintro e w7 ⟨rfl, hb7⟩
          rw [bytesOf_of]
          have hT7 := api.base.tab hT6 hb7
          have hD7 := api.base.low hD6 hb7
          have hd7 := api.base.low hd6 hb7
          have hB7 := hB6.trans (hb7.mono hB6.size)
          clear hT6 hD6 hd6 hB6
          go_wp2_with fail
          refine (same_any api.base p4 p _ _ _ w7 hT7 hd7 hD7).mono ?_
          rintro e w8 ⟨rfl, hb8⟩
          have hB8 := hB7.trans (hb8.mono hB7.size)
          clear hT7 hD7 hd7 hB7
          go_wp2
          go_ret
          exact ⟨rfl, hB8⟩
end Go.Proofs.YtjbfgnhkgjigpaaDoor

namespace Go.Proofs.YtjbfgnhkgjigpaaDoor
open Go.RowKit

/-- A saver in memory: its content, how many bytes it has given. -/
structure SvAt (w : World) (s : Nat) (bs : List UInt8) (g : Nat) (enc : Int) (mark : Bool) (n : Nd) (R : List (Cn × ByteArray)) (tail : ByteArray) : Prop where
  blk : w.heap[s]? = some (.cells #[.int .i64 enc, .bool mark, .iface n.ty (.pointer (some ⟨n.blk, 0, none⟩)), .string tail, .int .i64 g] 79)
  tr : TrAt w enc (some n) R
  h0 : 0 ≤ enc
  h3 : enc ≤ 3
  bytes : bs = ctB enc mark R tail
  size : (rowB R).length + tail.size ≤ 1099511627776
  le : g ≤ bs.length
def SV (w : World) (s : Nat) (bs : List UInt8) (g : Nat) : Prop := ∃ enc mark n R tail, SvAt w s bs g enc mark n R tail
section
variable {w : World} {s : Nat} {bs : List UInt8} {g : Nat} {enc : Int} {mark : Bool} {n : Nd} {R : List (Cn × ByteArray)} {tail : ByteArray}
theorem SvAt.low {w' : World} (h : SvAt w s bs g enc mark n R tail) (hb : Below w.heap.size w w') : SvAt w' s bs g enc mark n R tail :=
  ⟨(hb.block s (heap_lt h.blk)).trans h.blk, h.tr.low hb, h.h0, h.h3, h.bytes, h.size, h.le⟩
theorem SvAt.at_ (h : SvAt w s bs g enc mark n R tail) :
    w.cell? ⟨s, 0, none⟩ = some (.int .i64 enc) ∧ w.cell? ⟨s, 1, none⟩ = some (.bool mark) ∧ w.cell? ⟨s, 2, none⟩ = some (.iface n.ty (.pointer (some ⟨n.blk, 0, none⟩))) ∧ w.cell? ⟨s, 3, none⟩ = some (.string tail) ∧ w.cell? ⟨s, 4, none⟩ = some (.int .i64 g) :=
  ⟨by rw [Lib.cell_of_heap h.blk]; rfl, by rw [Lib.cell_of_heap h.blk]; rfl, by rw [Lib.cell_of_heap h.blk]; rfl, by rw [Lib.cell_of_heap h.blk]; rfl, by rw [Lib.cell_of_heap h.blk]; rfl⟩
theorem SvAt.len (h : SvAt w s bs g enc mark n R tail) : bs.length = (mkB enc mark).size + (rowB R).length + tail.size := by
  rw [h.bytes]; unfold ctB; rw [List.length_append, List.length_append]
  have e1 : (mkB enc mark).data.toList.length = (mkB enc mark).size := rfl
  have e2 : tail.data.toList.length = tail.size := rfl
  omega
theorem SvAt.nb (h : SvAt w s bs g enc mark n R tail) : NoNd w s := by
  have ht : tyAt w s = some 79 := by unfold tyAt; rw [h.blk]
  unfold NoNd; rw [ht]; exact ⟨by decide, by decide⟩
theorem SvAt.set (h : SvAt w s bs g enc mark n R tail) (v : Int) (g' : Nat) (hv : v = g') (hg : g' ≤ bs.length) : SvAt (w.setCell ⟨s, 4, none⟩ (.int .i64 v)) s bs g' enc mark n R tail := by
  subst hv
  have t1 : Tn s w (w.setCell ⟨s, 4, none⟩ (.int .i64 g')) := (Tn.refl _ _).setCell _
  refine ⟨?_, h.tr.tn2 h.nb t1, h.h0, h.h3, h.bytes, h.size, hg⟩
  show (w.heap.modify s _)[s]? = _
  rw [Array.getElem?_modify, if_pos rfl, h.blk]
  rfl
end
set_option maxRecDepth 100000 in
set_option maxHeartbeats 1000000 in
theorem docSaver (p : Nat) (enc : Int) (mark : Bool) (body : ByteArray) (w : World) (hd : DD w p enc mark body) :
    Calls Tryd.prog 16 #[.pointer (some ⟨p, 0, none⟩)] w fun e w' => ∃ s, e = .returned (.pointer (some ⟨s, 0, none⟩)) ∧ w.heap.size ≤ s ∧ SV w' s (bytesOf enc mark body).data.toList 0 ∧ Below w.heap.size w w' := by
  obtain ⟨n, R, tail, h⟩ := hd
  obtain ⟨p0, p1, p2, p3⟩ := h.at_
  have hz := block_lt p0
  have HD := hide1 h
  clear h
  go_enter Tryd.func16, Tryd.ntmps16
  go_wp2_with fail
  go_ret
  have hba := (Below.refl w.heap.size w).alloc (Nat.le_refl _) (.cells #[.int .i64 enc, .bool mark, .iface n.ty (.pointer (some ⟨n.blk, 0, none⟩)), .string tail, .int .i64 0] 79)
  have hl := HD.out.lens
  have hs := HD.out.size
  exact ⟨_, rfl, Nat.le_refl _, ⟨enc, mark, n, R, tail, heap_alloc_new w _, HD.out.tr.low hba, HD.out.h0, HD.out.h3, HD.out.ct, by omega, Nat.zero_le _⟩, hba⟩

/-- The tables go through whatever leaves their blocks alone. -/
theorem Tabs.kept {w w' : World} (h : Tabs w) (h1 : w'.heap[0]? = w.heap[0]?) (h2 : w'.heap[3]? = w.heap[3]?) (h3 : w'.heap[2]? = w.heap[2]?) : Tabs w' := by
  have g1 : ∀ o, w'.cell? ⟨0, o, none⟩ = w.cell? ⟨0, o, none⟩ := fun o => World.cell?_of_block (w := w) (a := ⟨0, o, none⟩) h1
  have g2 : ∀ o, w'.cell? ⟨3, o, none⟩ = w.cell? ⟨3, o, none⟩ := fun o => World.cell?_of_block (w := w) (a := ⟨3, o, none⟩) h2
  have g3 : ∀ o, w'.cell? ⟨2, o, none⟩ = w.cell? ⟨2, o, none⟩ := fun o => World.cell?_of_block (w := w) (a := ⟨2, o, none⟩) h3
  refine ⟨⟨fun k hk => (g2 _).trans (h.seq.up k hk), fun k hk => (g2 _).trans (h.seq.size k hk), fun k hk => (g2 _).trans (h.seq.bits k hk), fun k hk => (g2 _).trans (h.seq.least k hk), fun k hk => (g2 _).trans (h.seq.most k hk)⟩,
    ⟨(g3 _).trans h.half.c0, (g3 _).trans h.half.c1, (g3 _).trans h.half.c2, (g3 _).trans h.half.c3⟩, ?_⟩
  exact ⟨(g1 _).trans h.enc.m0, (g1 _).trans h.enc.g0, (g1 _).trans h.enc.l0, (g1 _).trans h.enc.h0, (g1 _).trans h.enc.m1, (g1 _).trans h.enc.g1, (g1 _).trans h.enc.l1, (g1 _).trans h.enc.h1, (g1 _).trans h.enc.m2, (g1 _).trans h.enc.g2, (g1 _).trans h.enc.l2, (g1 _).trans h.enc.h2, (g1 _).trans h.enc.m3, (g1 _).trans h.enc.g3, (g1 _).trans h.enc.l3, (g1 _).trans h.enc.h3⟩
/-- No table lies at a block whose first cell is an int. -/
theorem Tabs.tn {w w' : World} {q : Nat} {a : Int} (h : Tabs w) (hq : w.cell? ⟨q, 0, none⟩ = some (.int .i64 a)) (hs : Tn q w w') : Tabs w' := by
  have e1 := h.enc.m0
  have e2 := h.seq.up 0 (by decide)
  have e3 := h.half.c0
  refine h.kept (hs.keep _ (block_lt e1) (fun e => ?_)) (hs.keep _ (block_lt e2) (fun e => ?_)) (hs.keep _ (block_lt e3) (fun e => ?_))
  · subst e; rw [hq] at e1; cases e1
  · subst e; rw [Nat.zero_mul, hq] at e2; cases e2
  · subst e; rw [hq] at e3; cases e3
set_option maxRecDepth 100000 in
set_option maxHeartbeats 1000000 in
theorem fill_any (s : Nat) (bs : List UInt8) (g : Nat) (c : Int) (w : World) (ht : Tabs w) (hs : SV w s bs g) :
    Calls Tryd.prog 17 #[.pointer (some ⟨s, 0, none⟩), .int .i64 c] w fun e w' => e = .returned (.string ⟨((bs.drop g).take c.toNat).toArray⟩) ∧ SV w' s bs (g + min c.toNat (bs.length - g)) ∧ Tn s w w' := by
  obtain ⟨enc, mark, n, R, tail, h⟩ := hs
  have hlen := h.len
  have hle := h.le
  have hsz := h.size
  have hms := mkB_size enc mark
  have h0 := h.h0
  have h3 := h.h3
  have HZ := hide1 (fun (x : Bl w) => size_any enc mark n R tail x.val (ht.below x.2) (h.tr.low x.2) h.h0 h.h3 (by omega) (by omega))
  rw [← hlen] at HZ
  have q0 : ∀ x : Bl w, x.val.cell? ⟨s, 0, none⟩ = some (.int .i64 enc) := fun x => (h.low x.2).at_.1
  have q1 : ∀ x : Bl w, x.val.cell? ⟨s, 1, none⟩ = some (.bool mark) := fun x => (h.low x.2).at_.2.1
  have q2 : ∀ x : Bl w, x.val.cell? ⟨s, 2, none⟩ = some (.iface n.ty (.pointer (some ⟨n.blk, 0, none⟩))) := fun x => (h.low x.2).at_.2.2.1
  have q3 : ∀ x : Bl w, x.val.cell? ⟨s, 3, none⟩ = some (.string tail) := fun x => (h.low x.2).at_.2.2.2.1
  have q4 : ∀ x : Bl w, x.val.cell? ⟨s, 4, none⟩ = some (.int .i64 g) := fun x => (h.low x.2).at_.2.2.2.2
  have hz := heap_lt h.blk
  have H := hide1 h
  have HT := hide1 ht
  clear h ht
  have f4 : ∀ x : Bl w, x.val.frozen? ⟨s, 4, none⟩ = false := fun x => Lib.frozen_of_heap (H.out.low x.2).blk 4
  have hzx : ∀ x : Bl w, s < x.val.heap.size := fun x => heap_lt (H.out.low x.2).blk
  generalize hL : bs.length = L at *
  have hLb : L ≤ 2199023255552 := by omega
  have HL := hide1 hL
  clear hlen hL
  have hwl : IntKind.i64.wrap ((L : Int) - (g : Int)) = (L : Int) - (g : Int) := by rw [IntKind.wrap_i64]; omega
  obtain ⟨k, hk⟩ : ∃ k, k = min c ((L : Int) - (g : Int)) := ⟨_, rfl⟩
  have hmin := hk.symm
  have hmo : Tryd.prog.follows Departure.mixedOrders = true := by kernel_rfl
  by_cases h1 : k < 1
  · have hF : min c.toNat (L - g) = 0 := by omega
    have HF := hide1 hF
    have HE := hide1 (show ((bs.drop g).take c.toNat) = [] by
      apply List.eq_nil_of_length_eq_zero
      rw [List.length_take, List.length_drop, HL.out]; exact hF)
    clear hk hF
    go_enter Tryd.func17, Tryd.ntmps17
    go_wp2_with fail
    refine wp_region_bl hmo (by kernel_rfl) ?_
    repeat (go_big_quiet_step (refine Calls.bl_of (HZ.out _)))
    refine wpQuiet_nil ?_
    intro _ hw'
    obtain ⟨x5, hx5⟩ := hw'
    subst hx5
    go_wp2_with fail
    go_ret
    refine ⟨by rw [HE.out]; rfl, ⟨enc, mark, n, R, tail, ?_⟩, ⟨x5.2.os, x5.2.tape, x5.2.output, x5.2.size, fun k hk _ => x5.2.block k hk⟩⟩
    rw [HF.out]; exact H.out.low x5.2
  · obtain ⟨m, rfl⟩ : ∃ m : Nat, k = m := ⟨k.toNat, by omega⟩
    have hF : min c.toNat (L - g) = m := by omega
    have hgm : g + m ≤ L := by omega
    have HF := hide1 hF
    have HE := hide1 (show Vm.partL (ctB enc mark R tail) (g : Int) ((g + m : Nat) : Int) = ((bs.drop g).take c.toNat) by
      rw [← H.out.bytes]
      unfold Vm.partL
      rw [show ((g : Int)).toNat = g by omega, show (((g + m : Nat) : Int)).toNat = g + m by omega, List.drop_take, show g + m - g = m by omega]
      by_cases hcm : c.toNat ≤ L - g
      · rw [show c.toNat = m by omega]
      · rw [List.take_of_length_le (by rw [List.length_drop, HL.out]; omega), List.take_of_length_le (by rw [List.length_drop, HL.out]; omega)])
    clear hk hF
    have hw1 : IntKind.i64.wrap ((g : Int) + (m : Int)) = (g : Int) + (m : Int) := by rw [IntKind.wrap_i64]; omega
    have hw2 : IntKind.i64.wrap (g : Int) = (g : Int) := by rw [IntKind.wrap_i64]; omega
    have h1I : ¬ (m : Int) < 1 := h1
    have H6 := hide1 (fun (x : Bl w) => (H.out.low x.2).set ((g : Int) + (m : Int)) (g + m) (by omega) (by rw [HL.out]; exact hgm))
    go_enter Tryd.func17, Tryd.ntmps17
    go_wp2_with fail
    refine wp_region_bl hmo (by kernel_rfl) ?_
    repeat (go_big_quiet_step (refine Calls.bl_of (HZ.out _)))
    refine wpQuiet_nil ?_
    intro _ hw'
    obtain ⟨x5, hx5⟩ := hw'
    subst hx5
    go_wp2_with fail
    have H7 := hide1 (H6.out x5)
    have HT7 := hide1 (HT.out.below x5.2)
    have ts : Tn s x5.val (x5.val.setCell ⟨s, 4, none⟩ (.int .i64 ((g : Int) + (m : Int)))) := (Tn.refl _ _).setCell _
    have TS := hide1 ((⟨x5.2.os, x5.2.tape, x5.2.output, x5.2.size, fun k hk _ => x5.2.block k hk⟩ : Tn s w x5.val).trans ts)
    have HT8 := hide1 (HT7.out.tn (H.out.low x5.2).at_.1 ts)
    clear H6 HZ q0 q1 q2 q3 q4 f4 hzx ts HT7
    generalize x5.val.setCell ⟨s, 4, none⟩ (.int .i64 ((g : Int) + (m : Int))) = w6 at *
    have q0 : ∀ x : Bl w6, x.val.cell? ⟨s, 0, none⟩ = some (.int .i64 enc) := fun x => (H7.out.low x.2).at_.1
    have q1 : ∀ x : Bl w6, x.val.cell? ⟨s, 1, none⟩ = some (.bool mark) := fun x => (H7.out.low x.2).at_.2.1
    have q2 : ∀ x : Bl w6, x.val.cell? ⟨s, 2, none⟩ = some (.iface n.ty (.pointer (some ⟨n.blk, 0, none⟩))) := fun x => (H7.out.low x.2).at_.2.2.1
    have q3 : ∀ x : Bl w6, x.val.cell? ⟨s, 3, none⟩ = some (.string tail) := fun x => (H7.out.low x.2).at_.2.2.2.1
    have q4 : ∀ x : Bl w6, x.val.cell? ⟨s, 4, none⟩ = some (.int .i64 ((g : Int) + (m : Int))) := fun x => by have := (H7.out.low x.2).at_.2.2.2.2; rwa [Int.natCast_add] at this
    have HP := hide1 (fun (x : Bl w6) => piece_any enc mark n R tail g (g + m) x.val (HT8.out.below x.2) (H7.out.tr.low x.2) h0 h3 (by omega) (by omega) (by omega) (by omega))
    rw [HE.out] at HP
    simp only [Int.natCast_add] at HP
    refine wp_region_bl hmo (by kernel_rfl) ?_
    repeat (go_big_quiet_step (refine Calls.bl_of (HP.out _)))
    refine wpQuiet_nil ?_
    intro _ hw'
    obtain ⟨x8, hx8⟩ := hw'
    subst hx8
    go_wp2_with fail
    go_ret
    refine ⟨rfl, ⟨enc, mark, n, R, tail, ?_⟩, TS.out.low x8.2⟩
    rw [HF.out]; exact H7.out.low x8.2
end Go.Proofs.YtjbfgnhkgjigpaaDoor

namespace Go.Proofs.YtjbfgnhkgjigpaaDoor
open Go.RowKit

/-- A loader that was begun in the world w0. -/
def LL (w0 w : World) (q : Nat) (mode : Int) (all : List UInt8) : Prop := ∃ begun enc mark t R v ws, LdS w0.heap.size q mode begun enc mark t R v ws w ∧ Inv mode all begun enc mark t R ws ∧ Below w0.heap.size w0 w ∧ w0.heap.size ≤ q
theorem TrAt.ps {w w' : World} {B q : Nat} {v v' : Value} {ws : List UInt8} {enc : Int} {t : Option Nd} {R : List (Cn × ByteArray)} (h : TrAt w enc t R) (hq : NoNd w q) (hw : Wt w B v ws) (hs : Ps q v w v' w') : TrAt w' enc t R := by
  refine h.kept_ty (fun k c ty hk hty => hs.keep k (heap_lt hk) (fun e => ?_) (fun e => ?_))
  · subst e
    have : tyAt w k = some ty := by unfold tyAt; rw [hk]
    rcases hty with x | x
    · exact hq.1 (by rw [this, x])
    · exact hq.2 (by rw [this, x])
  · rcases hw with ⟨rfl, rfl⟩ | ⟨g, o, cap, cur, rfl, hg, hh, r⟩
    · cases e
    · cases e
      rw [hk] at hh
      injection hh with hh
      injection hh with h1 h2 h3
      rcases hty with x | x
      · rw [x] at h2; exact absurd h2 (by decide)
      · rw [x] at h2; exact absurd h2 (by decide)
theorem DD.ps {w w' : World} {B q : Nat} {mode : Int} {begun : Bool} {enc : Int} {mark : Bool} {t : Option Nd} {R : List (Cn × ByteArray)} {v v' : Value} {ws : List UInt8} (h : LdS B q mode begun enc mark t R v ws w) (hs : Ps q v w v' w') {p : Nat} {enc2 : Int} {mark2 : Bool} {body : ByteArray} (hd : DD w p enc2 mark2 body) : DD w' p enc2 mark2 body := by
  obtain ⟨n, R2, tail, d⟩ := hd
  refine ⟨n, R2, tail, (hs.keep p (heap_lt d.blk) (fun e => ?_) (fun e => ?_)).trans d.blk, d.tr.ps h.ld.nb h.wt hs, d.h0, d.h3, d.bytes, d.atoms, d.size⟩
  · subst e
    have h6 := h.ld.c6
    rw [Lib.cell_of_heap d.blk] at h6
    cases h6
  · rcases h.wt with ⟨rfl, rfl⟩ | ⟨g, o, cap, cur, rfl, hg, hh, r⟩
    · cases e
    · cases e
      have h1 := d.blk
      rw [hh] at h1
      injection h1 with h1
      injection h1 with h1 h2 h3
      exact absurd h2 (by decide)
theorem DD.sv {w w' : World} {s : Nat} {bs : List UInt8} {g : Nat} (h : SV w s bs g) (hs : Tn s w w') {p : Nat} {enc2 : Int} {mark2 : Bool} {body : ByteArray} (hd : DD w p enc2 mark2 body) : DD w' p enc2 mark2 body := by
  obtain ⟨n, R2, tail, d⟩ := hd
  obtain ⟨enc, mark, m, R, tl, h⟩ := h
  refine ⟨n, R2, tail, (hs.keep p (heap_lt d.blk) (fun e => ?_)).trans d.blk, d.tr.tn2 h.nb hs, d.h0, d.h3, d.bytes, d.atoms, d.size⟩
  subst e
  have h1 := d.blk
  rw [h.blk] at h1
  injection h1 with h1
  injection h1 with h1 h2 h3
  exact absurd h2 (by decide)
theorem apiS : ApiS Tabs DD LL SV where
  base := api
  begin_ := fun mode w ht h0 h7 => (begin_ok mode w h0 h7).mono fun e w' ⟨he, hw⟩ => by
    have hba := (Below.refl w.heap.size w).alloc (Nat.le_refl _) (.cells #[.int .i64 mode, .bool false, .int .i64 0, .bool false, .nilIface, .string ⟨#[]⟩, .slice none 0 0] 74)
    subst hw
    exact ⟨_, he, false, 0, false, none, [], .slice none 0 0, [], ⟨LdC.of_heap (heap_alloc_new w _) (by decide) (by decide), .inl ⟨rfl, rfl⟩, (by intro e; cases e), ⟨fun n hn => (by cases hn), fun _ => rfl, fun x hx => (by cases hx)⟩⟩, .inl ⟨rfl, rfl, rfl, rfl⟩, hba, Nat.le_refl _⟩
  begin_no := fun mode w h => (begin_no mode w h).mono fun e w' ⟨he, hw⟩ => ⟨he, by rw [hw]; exact Below.refl _ _⟩
  lbelow := fun ⟨_, _, _, _, _, _, _, _, _, h, _⟩ => h
  llow := fun ⟨begun, enc, mark, t, R, v, ws, h1, h2, h3, h4⟩ hb => ⟨begun, enc, mark, t, R, v, ws, h1.low hb, h2, h3.trans (hb.mono h3.size), h4⟩
  push := fun w0 w q mode all b ht ⟨begun, enc, mark, t, R, v, ws, h1, h2, h3, h4⟩ h0 h7 hl =>
    (push_any w0.heap.size q mode enc begun mark t R v ws all b w0 w ht h4 (Nat.le_refl _) h3.size h3 h1 h2 hl h0 h7).mono fun e w' ⟨begun', enc', mark', t', R', v', ws', he, hl', hi', hp'⟩ =>
      ⟨he, ⟨begun', enc', mark', t', R', v', ws', hl', hi', hp'.below h1.wt h4 (Nat.le_refl _) h3, h4⟩, fun p enc2 mark2 body hd => DD.ps h1 hp' hd⟩
  end_ := fun w0 w q mode b ht ⟨begun, enc, mark, t, R, v, ws, h1, h2, h3, h4⟩ h0 h7 hl =>
    (end_any w0.heap.size q mode enc begun mark t R v ws b w (ht.below h3) h1 h2 hl h0 h7).mono fun e w' ⟨p, he, _, hd, hb⟩ => ⟨p, he, hd, hb⟩
  saver := docSaver
  slow := fun ⟨enc, mark, n, R, tail, h⟩ hb => ⟨enc, mark, n, R, tail, h.low hb⟩
  fill := fun s bs g c w ht hs => (fill_any s bs g c w ht hs).mono fun e w' ⟨he, hs', htn⟩ => by
    refine ⟨he, hs', ?_, fun p enc mark body hd => DD.sv hs htn hd, fun w0 h0 hb => low_tn hb h0 htn⟩
    obtain ⟨enc, mark, n, R, tail, h⟩ := hs
    exact ht.tn h.at_.1 htn
end Go.Proofs.YtjbfgnhkgjigpaaDoor

namespace Go.Proofs.YtjbfgnhkgjigpaaDoor
open Go.ChangeShapes Go.WideShapes Go.ChangeAt Go.RowKit

theorem post_below {H : Type} {enc : TypeId × Value → H} {P : Program} {f : Func} {s : ChangeSpec} {apart fresh handsOn again : Bool} {W W' : World} {args : Array Value} {v : Value} {ds gs : List (DataW H)} {before pa pv : List MemPlace}
    (hW : DataW.Whole enc P f.params.toList s.vars apart W args.toList ds gs before)
    (hres : ∀ (b : Nat) (sp : Nat → Bool) (hd : Bool), DataW.TrodAll enc P W' b sp hd f.resultTypes.toList (v.resultList f.resultTypes.size) (s.fn H (ds ++ gs)).results [])
    (hargs : ∀ sp : Nat → Bool, (∀ p ∈ before, sp p.block = true) → DataW.TrodAll enc P W' 0 sp true f.params.toList args.toList (s.fn H (ds ++ gs)).args pa)
    (hvars : ∀ sp : Nat → Bool, (∀ p ∈ before, sp p.block = true) → DataW.TrodVars enc P W' sp s.vars (s.fn H (ds ++ gs)).vars pv)
    (hps : before = pa ++ pv) (hb : Below W.heap.size W W')
    (hok : ∀ (j : Nat) (t : TypeId) (r : Value), f.resultTypes[j]? = some t → (v.resultList f.resultTypes.size)[j]? = some r → Value.okWide P W' .any 0 t r) :
    s.post enc P f apart fresh handsOn again W args v W' := by
  have hlt := hW.lt
  have hold : ∀ p ∈ before, (fun b => decide (b < W.heap.size)) p.block = true := fun p hp => by simpa using hlt p hp
  refine ⟨ds, gs, before, [], pa, pv, hW, hres _ _ _, hargs _ hold, hvars _ hold, hb.frame _, fun _ => ?_⟩
  obtain ⟨_, _, _, _, _, hz, hn⟩ := hW
  refine ⟨hok, _, _, ([] ++ pa) ++ pv, ⟨[] ++ pa, pv, trodAll_append (hargs _ (fun _ _ => rfl)) (hres _ _ _), hvars _ (fun _ _ => rfl), rfl, ?_, ?_⟩, ?_⟩
  · intro b off hp
    have hm : MemPlace.cell b off ∈ before := by rw [hps]; simpa using hp
    rw [hb.frozen (p := ⟨b, off, none⟩) (hlt _ hm)]
    exact hz b off hm
  · intro ha
    have := hn ha
    rw [hps] at this
    simpa using this
  · intro p hp _
    rw [hps]
    simpa using hp
theorem bulk_lits {H : Type} (zs : List Int) : zs.length ≤ Rows.uptoBulkAll (lits (H := H) .i64 zs) := by
  induction zs with
  | nil => exact Nat.zero_le _
  | cons z r ih =>
    show r.length + 1 ≤ Rows.uptoBulk (DataW.lit (H := H) (.int .i64 z)) + Rows.uptoBulkAll (lits (H := H) .i64 r)
    have : Rows.uptoBulk (DataW.lit (H := H) (.int .i64 z)) = 1 := by simp only [Rows.uptoBulk]
    omega
theorem bulk_mem {H : Type} {l : List (DataW H)} {d : DataW H} (h : d ∈ l) : Rows.uptoBulk d ≤ Rows.uptoBulkAll l := by
  induction l with
  | nil => cases h
  | cons x r ih =>
    simp only [Rows.uptoBulkAll]
    cases List.mem_cons.1 h with
    | inl e => rw [← e]; omega
    | inr e => have := ih e; omega
theorem arg_ints {H : Type} {enc : TypeId × Value → H} {P : Program} {W : World} {base : Nat} {t e : TypeId} {v : Value} {d : DataW H} {ps : List MemPlace} (ht : P.underlying t = some (.slice e)) (he : P.underlying e = some (.int .i64)) (hc : P.cellsOf e = 1) (hval : Value.okWide P W .any base t v) (hd : DataW.Trod enc P W 0 (fun _ => true) true t v d ps) :
    ∃ zs : List Int, IntsAt W v zs ∧ (∀ z ∈ zs, (Lit.int .i64 z).wf = true) ∧ zs.length ≤ Rows.uptoBulk d ∧ (∀ W', Below W.heap.size W W' → ∀ sp : Nat → Bool, (∀ p ∈ ps, sp p.block = true) → DataW.Trod enc P W' 0 sp true t v d ps) := by
  obtain ⟨a0, len0, cap0, rfl⟩ := okWide_slice ht hval
  obtain ⟨fuel, hf⟩ := hd
  rcases open_ints ht he hc hf with ⟨hcs, hx⟩ | ⟨a, len, cap, zs, hcs, hb, hl, hm, hz, hx, hcell, hw⟩
  · simp [Value.cells] at hcs
    obtain ⟨rfl, rfl, rfl⟩ := hcs
    injection hx with hx1 hx2
    subst hx1 hx2
    refine ⟨[], .inl ⟨rfl, rfl⟩, fun z hz => (by cases hz), Nat.zero_le _, fun W' _ sp _ => ⟨1, ?_⟩⟩
    rw [DataW.trod_step]
    unfold DataW.trodStep
    simp [ht, Value.cells]
  · simp [Value.cells] at hcs
    obtain ⟨rfl, rfl, rfl⟩ := hcs
    injection hx with hx1 hx2
    subst hx1 hx2
    simp only [if_true] at hz
    have htl : (zs.take len0).length = len0 := by rw [List.length_take]; omega
    refine ⟨zs.take len0, .inr ⟨a, cap0, by rw [htl], fun i hi => ?_⟩, fun z hz' => hw z (List.mem_of_mem_take hz'), ?_, fun W' hbl sp hsp => ⟨2, ?_⟩⟩
    · rw [htl] at hi
      rw [hcell i (by omega)]
      simp [List.getD, hi]
    · simp only [Rows.uptoBulk]
      have := bulk_lits (H := H) (zs.take len0)
      omega
    · have hs : DataW.trod enc P W' 0 sp true (0 + 2) t [.slice (some a) len0 cap0] = some (.slice (lits .i64 (zs.take len0)) (lits .i64 (zs.drop len0)), MemPlace.row a zs.length) := by
        refine shut_ints 0 ht he hc hb hl hm ?_ (fun i hi => (hbl.cell (p := a.add i) (cell_lt (hcell i hi))).trans (hcell i hi)) hw
        by_cases h0 : zs.length = 0
        · have : cap0 = 0 := by omega
          split <;> omega
        · have hsa : sp a.block = true := hsp (.cell a.block (a.off + 0)) (List.mem_map.2 ⟨0, List.mem_range.2 (by omega), rfl⟩)
          rw [hsa]; simpa using hz
      simpa [Value.cells] using hs
end Go.Proofs.YtjbfgnhkgjigpaaDoor

namespace Go.Proofs.YtjbfgnhkgjigpaaDoor.faithful
open Go.ChangeShapes Go.WideShapes Go.ChangeAt Go.RowKit
open Go.Proofs.YtjbfgnhkgjigpaaDoor.loads (post_light bulk_str own laidWorld)

set_option maxRecDepth 100000 in
theorem contract {D : World → Nat → Int → Bool → ByteArray → Prop} {L : World → World → Nat → Int → List UInt8 → Prop} {S : World → Nat → List UInt8 → Nat → Prop} (api : ApiS Tabs D L S) (H : Type) (enc : TypeId × Value → H) (W : World) (base : Nat) (args : Array Value) (ds gs : List (DataW H)) (before : List MemPlace)
    (hval : ∀ (j : Nat) t v, Tryd.f5.params[j]? = some t → args[j]? = some v → Value.okWide Tryd.prog W .any base t v)
    (hW : DataW.Whole enc Tryd.prog Tryd.f5.params.toList Rows.faithfulSpec.vars false W args.toList ds gs before) (hL : laidMetH Tryd.prog Rows.faithfulRow.laid W)
    (hB : ∀ s : List UInt8, DataW.lit (.string s) ∈ ds → s.length ≤ 1048576) (hS : ∀ d ∈ ds, Rows.uptoBulk d ≤ 1048576) :
    Calls Tryd.prog 5 args W fun e W' => ∃ v, e = .returned v ∧ Rows.faithfulSpec.post enc Tryd.prog Tryd.f5 false true false false W args v W' := by
  have hW' := hW
  obtain ⟨p, q, hA0, hV, rfl, hfz, hnd⟩ := hW
  have hA : DataW.TrodAll enc Tryd.prog W 0 (fun _ => true) true Tryd.f5.params.toList args.toList ds p := hA0
  rw [Tryd.params5] at hA hval
  obtain ⟨v0, vs0, d0, ds0, p0, q0, hargs, rfl, rfl, h0, r0⟩ := trodAll_cons hA
  obtain ⟨v1, vs1, d1, ds1, p1, q1, hargs1, rfl, rfl, h1, r1⟩ := trodAll_cons r0
  obtain ⟨v2, vs2, d2, ds2, p2, q2, hargs2, rfl, rfl, h2, r2⟩ := trodAll_cons r1
  obtain ⟨v3, vs3, d3, ds3, p3, q3, hargs3, rfl, rfl, h3, r3⟩ := trodAll_cons r2
  obtain ⟨rfl, rfl, rfl⟩ := trodAll_nil r3
  obtain rfl : args = #[v0, v1, v2, v3] := by cases args; simp_all
  obtain ⟨rfl, rfl⟩ := trodVars_none hV
  obtain ⟨s, rfl, rfl, rfl, hs⟩ := Go.ChangeMaps.open_string Tryd.underlying9 (hval 0 9 v0 rfl rfl) h0
  obtain ⟨n, rfl, rfl, rfl, hn⟩ := open_int Tryd.underlying3 (hval 1 3 v1 rfl rfl) h1
  obtain ⟨cuts, hc1, hc2, hc3, hc4⟩ := arg_ints Tryd.underlying33 Tryd.underlying3 (by kernel_rfl) (hval 2 33 v2 rfl rfl) h2
  obtain ⟨fills, hf1, hf2, hf3, hf4⟩ := arg_ints Tryd.underlying33 Tryd.underlying3 (by kernel_rfl) (hval 3 33 v3 rfl rfl) h3
  clear hA0
  have hsz : s.size ≤ 1048576 := hB s.data.toList (by simp)
  have hrg : -9223372036854775808 ≤ n ∧ n ≤ 9223372036854775807 := by
    have h := hn
    simp only [Lit.wf, Bool.and_eq_true, decide_eq_true_eq] at h
    exact ⟨h.1, h.2⟩
  have hrl : ∀ zs : List Int, (∀ z ∈ zs, (Lit.int .i64 z).wf = true) → ∀ i, -9223372036854775808 ≤ zs.getD i 0 ∧ zs.getD i 0 ≤ 9223372036854775807 := by
    intro zs hz i
    by_cases hi : i < zs.length
    · have h := hz (zs.getD i 0) (by simp [List.getD, List.getElem?_eq_getElem hi])
      simp only [Lit.wf, Bool.and_eq_true, decide_eq_true_eq] at h
      exact ⟨h.1, h.2⟩
    · have : zs.getD i 0 = 0 := by simp [List.getD, List.getElem?_eq_none (Nat.le_of_not_lt hi)]
      rw [this]; decide
  obtain ⟨hlo, hhi⟩ := hrg
  refine (faithful_any api s n v2 v3 cuts fills W (tabs_of_laid hL) (by omega) hlo hhi hc1 hf1 (by have := hS d2 (by simp); omega) (by have := hS d3 (by simp); omega) (hrl _ hc2) (hrl _ hf2)).mono fun e W' ⟨he, hb⟩ => ?_
  subst he
  have hps : ∀ sp : Nat → Bool, (∀ p ∈ [] ++ ([] ++ (p2 ++ (p3 ++ []))) ++ [], sp p.block = true) → (∀ p ∈ p2, sp p.block = true) ∧ (∀ p ∈ p3, sp p.block = true) := fun sp h => ⟨fun p hp => h p (by simp [hp]), fun p hp => h p (by simp [hp])⟩
  exact ⟨_, rfl, post_below (pv := []) hW' (fun _ _ _ => trodAll_cons_mk (shut_bool Tryd.underlying4 _) trodAll_mk0)
    (fun sp hsp => trodAll_cons_mk (Go.ChangeMaps.shut_string Tryd.underlying9 hs) (trodAll_cons_mk (shut_int Tryd.underlying3 hn) (trodAll_cons_mk (hc4 W' hb sp (hps sp hsp).1) (trodAll_cons_mk (hf4 W' hb sp (hps sp hsp).2) trodAll_mk0)))) (fun _ _ => rfl) rfl hb
    (ok_one (by kernel_rfl) rfl (okWide_bool_mk Tryd.underlying4 _))⟩

theorem laid_met (os : Os) : laidMet Tryd.prog Rows.faithfulRow.laid ((laidWorld os).forCall (fun _ _ => 0) ⟨#[], #[.string ⟨#[]⟩, .int .i64 0, .slice none 0 0, .slice none 0 0], []⟩).memory :=
  laidMet_of_run' 8 (by kernel_rfl) (by kernel_rfl)
theorem reads (os : Os) {H : Type} (enc : TypeId × Value → H) : ∃ places, DataW.whole enc Tryd.prog ((laidWorld os).forCall (fun _ _ => 0) ⟨#[], #[.string ⟨#[]⟩, .int .i64 0, .slice none 0 0, .slice none 0 0], []⟩).memory Tryd.f5.params.toList Rows.faithfulSpec.vars false #[Value.string ⟨#[]⟩, .int .i64 0, .slice none 0 0, .slice none 0 0].toList 8 = some ([.lit (.string []), .lit (.int .i64 0), .nil, .nil], [], places) :=
  ⟨[], by kernel_rfl⟩

set_option maxRecDepth 100000 in
theorem liftedUpto {D : World → Nat → Int → Bool → ByteArray → Prop} {L : World → World → Nat → Int → List UInt8 → Prop} {S : World → Nat → List UInt8 → Nat → Prop} (api : ApiS Tabs D L S) (os : Os) (started : os.Started) (H : Type) (enc : TypeId × Value → H) (F : Stop.Interp) :
    ReturnsInHanded {} Tryd.checked os 5 .any ((Rows.OpenSpec.upto Rows.faithfulSpec).preRow enc Tryd.prog Tryd.f5 Rows.faithfulUptoRow.domain false Rows.faithfulUptoRow.laid) (((Rows.OpenSpec.upto Rows.faithfulSpec).at F).post enc Tryd.prog Tryd.f5 false true false false) := by
  obtain ⟨places, hx⟩ := reads os enc
  refine returnsInHanded_of_row (C := Tryd.checked) (s := Rows.OpenSpec.upto Rows.faithfulSpec) own started (by kernel_rfl) Tryd.func5
    (witness_row_at (enc := enc) (C := Tryd.checked) false (laidWorld os) #[.string ⟨#[]⟩, .int .i64 0, .slice none 0 0, .slice none 0 0] rfl (by kernel_rfl) (by kernel_rfl) (by kernel_rfl)
      (OpenSpec.preRow_of_cond 8 hx (by kernel_rfl) (fun k hk => by cases hk; kernel_rfl) (by kernel_rfl) (laid_met os))) ?_
  intro W base args ds gs before hval hW _ hcond _ hL _ _
  have hk := hcond _ rfl
  have h1 : Rows.uptoBulkAll (ds ++ gs) ≤ 1048576 := by simpa [Rows.uptoSmall] using hk
  exact contract api H enc W base args ds gs before hval hW hL (fun s hs => Nat.le_trans (bulk_str (List.mem_append_left gs hs)) h1) (fun d hd => Nat.le_trans (bulk_mem (List.mem_append_left gs hd)) h1)
theorem saidUpto {D : World → Nat → Int → Bool → ByteArray → Prop} {L : World → World → Nat → Int → List UInt8 → Prop} {S : World → Nat → List UInt8 → Nat → Prop} (api : ApiS Tabs D L S) : Rows.FaithfulUptoSaid :=
  OpenClaim.holds_of_cond 5 Tryd.f5 rfl rfl rfl rfl rfl rfl rfl ⟨rfl, rfl, rfl, rfl, rfl⟩ rfl rfl rfl rfl rfl (by kernel_rfl) Tryd.func5 (by kernel_rfl)
    (of_decide_eq_true (by kernel_rfl)) (by unfold Func.isWrapper; first | (rw [if_pos (by decide +kernel)]; kernel_rfl) | (rw [if_neg (by decide +kernel)]; exact ⟨rfl, rfl⟩))
    (fun os started H enc _ F => by rw [OpenClaim.pre_eq_preRow]; exact liftedUpto api os started H enc F)
/-- No parameter wants a stand-in; the program's own looks are off. -/
theorem plain (f : FuncId) (fn : Func) (hf : Tryd.pinned.checked.prog.funcNamed "vellum/vellumkeep.Faithful" = some f) (hfn : Tryd.pinned.checked.prog.funcs[f]? = some fn) :
    true = Tryd.pinned.checked.prog.looks [] ∧ ∀ (j : Nat) t, fn.params[j]? = some t → Tryd.pinned.checked.prog.wantsStandIn t = false := by
  obtain rfl : f = 5 := Option.some.inj ((show Tryd.prog.funcNamed "vellum/vellumkeep.Faithful" = some 5 by kernel_rfl).symm.trans hf) |>.symm
  obtain rfl : fn = Tryd.f5 := (Option.some.inj (Tryd.func5.symm.trans hfn)).symm
  refine ⟨by kernel_rfl, fun j t ht => ?_⟩
  rw [Tryd.params5] at ht
  have hm := Array.mem_of_getElem? ht
  have ht' : t = 9 ∨ t = 3 ∨ t = 33 := by simpa using hm
  rcases ht' with rfl | rfl | rfl
  · exact (show Tryd.prog.wantsStandIn 9 = false by kernel_rfl)
  · exact (show Tryd.prog.wantsStandIn 3 = false by kernel_rfl)
  · exact (show Tryd.prog.wantsStandIn 33 = false by kernel_rfl)
/-- The second form's card. -/
theorem cardUpto {D : World → Nat → Int → Bool → ByteArray → Prop} {L : World → World → Nat → Int → List UInt8 → Prop} {S : World → Nat → List UInt8 → Nat → Prop} (api : ApiS Tabs D L S) : Rows.FaithfulUptoCardSaid :=
  Claim7.holds_tied_plain_at .later [] _ _ _ _ (saidUpto api) (fun _ h => by cases h) (by kernel_rfl) (fun _ h => by cases h) faithfulUpto_row_tie rfl ⟨rfl, rfl⟩ (by kernel_rfl) rfl plain (by kernel_rfl)
end Go.Proofs.YtjbfgnhkgjigpaaDoor.faithful
namespace Go.Proofs.YtjbfgnhkgjigpaaDoor
theorem faithful_upto_holds : Rows.FaithfulUptoCardSaid := faithful.cardUpto apiS
end Go.Proofs.YtjbfgnhkgjigpaaDoor
