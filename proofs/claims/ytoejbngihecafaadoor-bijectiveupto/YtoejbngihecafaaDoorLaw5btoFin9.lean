import Derived.Test.YtoejbngihecafaaDoorCards
import Derived.Test.YtoejbngihecafaaDoorTie
import Derived.ProofKit
import Derived.OpenShut
import Derived.Deep.DeepHandedRow
import Derived.Test.YtoejbngihecafaaDoorFin0toFin4
import Derived.Test.YtoejbngihecafaaDoorKeep5
import Derived.Test.YtoejbngihecafaaDoorLaw5
import Derived.Test.YtoejbngihecafaaDoorLd7toApiP
import Derived.Test.YtoejbngihecafaaDoorPl1toPl5
import Derived.Test.YtoejbngihecafaaDoorTabL
import Derived.Test.YtoejbngihecafaaDoorTabPl
namespace Go.Proofs.YtoejbngihecafaaDoor
open Go.RowKit
variable {T : World → Prop} {D : World → Nat → Int → Bool → ByteArray → Prop}

set_option maxRecDepth 100000 in
set_option maxHeartbeats 1000000 in
theorem places_any (api : ApiL T D) (b : ByteArray) (mode o line col : Int) (w : World) (ht : T w) (hs : b.size ≤ 1099511627000) :
    Calls Tryd.prog 4 #[.string b, .int .i64 mode, .int .i64 o, .int .i64 line, .int .i64 col] w fun e w' => e = .returned (.bool true) ∧ Below w.heap.size w w' := by
  by_cases h : 0 ≤ mode ∧ mode ≤ 7
  · have L := hide2 (loaded_ok api.toApi b mode w ht hs h.1 h.2)
    have he := encOf_bd b mode
    have hbs := ofBody_size b (encOf b mode)
    go_enter Tryd.func4, Tryd.ntmps4
    go_wp2_with fail
    refine L.out.mono ?_
    rintro e w1 ⟨q, p, r, rfl, c0, c1, hd, hr, hb1⟩
    have K := hide2 (placed_any api q p r _ _ _ o line col w1 (api.tab ht hb1) c0 c1 hd hr (by omega) he.1 he.2)
    go_wp2_with fail
    refine K.out.mono ?_
    rintro e w2 ⟨rfl, hb2⟩
    go_wp2
    go_ret
    exact ⟨rfl, hb1.trans (hb2.mono hb1.size)⟩
  · have L := hide2 (loaded_no api.toApi b mode w ht (by omega))
    go_enter Tryd.func4, Tryd.ntmps4
    go_wp2_with fail
    refine L.out.mono ?_
    rintro e w1 ⟨q, rfl, c0, hb1⟩
    go_wp2
    go_ret
    exact ⟨rfl, hb1⟩
end Go.Proofs.YtoejbngihecafaaDoor

namespace Go.Proofs.YtoejbngihecafaaDoor.places
open Go.ChangeShapes Go.WideShapes Go.ChangeAt Go.RowKit
open Go.Proofs.YtoejbngihecafaaDoor.fin (post_light bulk_str own laidWorld)

set_option maxRecDepth 100000 in
theorem contract {D : World → Nat → Int → Bool → ByteArray → Prop} (api : ApiL Tabs D) (H : Type) (enc : TypeId × Value → H) (W : World) (base : Nat) (args : Array Value) (ds gs : List (DataW H)) (before : List MemPlace)
    (hval : ∀ (j : Nat) t v, Tryd.f4.params[j]? = some t → args[j]? = some v → Value.okWide Tryd.prog W .any base t v)
    (hW : DataW.Whole enc Tryd.prog Tryd.f4.params.toList Rows.placesSpec.vars false W args.toList ds gs before) (hL : laidMetH Tryd.prog Rows.placesRow.laid W)
    (hB : ∀ s : List UInt8, DataW.lit (.string s) ∈ ds → s.length ≤ 1048576) :
    Calls Tryd.prog 4 args W fun e W' => ∃ v, e = .returned v ∧ Rows.placesSpec.post enc Tryd.prog Tryd.f4 false true false false W args v W' := by
  have hW' := hW
  obtain ⟨p, q, hA0, hV, rfl, hfz, hnd⟩ := hW
  have hA : DataW.TrodAll enc Tryd.prog W 0 (fun _ => true) true Tryd.f4.params.toList args.toList ds p := hA0
  rw [Tryd.params4] at hA hval
  obtain ⟨v0, vs0, d0, ds0, p0, q0, hargs, rfl, rfl, h0, r0⟩ := trodAll_cons hA
  obtain ⟨v1, vs1, d1, ds1, p1, q1, hargs1, rfl, rfl, h1, r1⟩ := trodAll_cons r0
  obtain ⟨v2, vs2, d2, ds2, p2, q2, hargs2, rfl, rfl, h2, r2⟩ := trodAll_cons r1
  obtain ⟨v3, vs3, d3, ds3, p3, q3, hargs3, rfl, rfl, h3, r3⟩ := trodAll_cons r2
  obtain ⟨v4, vs4, d4, ds4, p4, q4, hargs4, rfl, rfl, h4, r4⟩ := trodAll_cons r3
  obtain ⟨rfl, rfl, rfl⟩ := trodAll_nil r4
  obtain rfl : args = #[v0, v1, v2, v3, v4] := by cases args; simp_all
  obtain ⟨rfl, rfl⟩ := trodVars_none hV
  obtain ⟨s, rfl, rfl, rfl, hs⟩ := Go.ChangeMaps.open_string Tryd.underlying9 (hval 0 9 v0 rfl rfl) h0
  obtain ⟨n, rfl, rfl, rfl, hn⟩ := open_int Tryd.underlying3 (hval 1 3 v1 rfl rfl) h1
  obtain ⟨n2, rfl, rfl, rfl, hn2⟩ := open_int Tryd.underlying3 (hval 2 3 v2 rfl rfl) h2
  obtain ⟨n3, rfl, rfl, rfl, hn3⟩ := open_int Tryd.underlying3 (hval 3 3 v3 rfl rfl) h3
  obtain ⟨n4, rfl, rfl, rfl, hn4⟩ := open_int Tryd.underlying3 (hval 4 3 v4 rfl rfl) h4
  clear hA0
  simp only [List.append_nil] at hW'
  have hsz : s.size ≤ 1048576 := hB s.data.toList (by simp)
  refine (places_any api s n n2 n3 n4 W (tabs_of_places hL) (by omega)).mono fun e W' ⟨he, hb⟩ => ?_
  subst he
  exact ⟨_, rfl, post_light hW' (fun _ _ _ => trodAll_cons_mk (shut_bool Tryd.underlying4 _) trodAll_mk0)
    (fun _ => trodAll_cons_mk (Go.ChangeMaps.shut_string Tryd.underlying9 hs) (trodAll_cons_mk (shut_int Tryd.underlying3 hn) (trodAll_cons_mk (shut_int Tryd.underlying3 hn2) (trodAll_cons_mk (shut_int Tryd.underlying3 hn3) (trodAll_cons_mk (shut_int Tryd.underlying3 hn4) trodAll_mk0))))) (fun _ => rfl) hb
    (ok_one (by kernel_rfl) rfl (okWide_bool_mk Tryd.underlying4 _))⟩

theorem laid_met (os : Os) : laidMet Tryd.prog Rows.placesRow.laid ((laidWorld os).forCall (fun _ _ => 0) ⟨#[], #[.string ⟨#[]⟩, .int .i64 0, .int .i64 0, .int .i64 0, .int .i64 0], []⟩).memory :=
  laidMet_of_run' 8 (by kernel_rfl) (by kernel_rfl)
theorem reads (os : Os) {H : Type} (enc : TypeId × Value → H) : ∃ places, DataW.whole enc Tryd.prog ((laidWorld os).forCall (fun _ _ => 0) ⟨#[], #[.string ⟨#[]⟩, .int .i64 0, .int .i64 0, .int .i64 0, .int .i64 0], []⟩).memory Tryd.f4.params.toList Rows.placesSpec.vars false #[Value.string ⟨#[]⟩, .int .i64 0, .int .i64 0, .int .i64 0, .int .i64 0].toList 8 = some ([.lit (.string []), .lit (.int .i64 0), .lit (.int .i64 0), .lit (.int .i64 0), .lit (.int .i64 0)], [], places) :=
  ⟨[], by kernel_rfl⟩

set_option maxRecDepth 100000 in
theorem liftedUpto {D : World → Nat → Int → Bool → ByteArray → Prop} (api : ApiL Tabs D) (os : Os) (started : os.Started) (H : Type) (enc : TypeId × Value → H) (F : Stop.Interp) :
    ReturnsInHanded {} Tryd.checked os 4 .any ((Rows.OpenSpec.upto Rows.placesSpec).preRow enc Tryd.prog Tryd.f4 Rows.placesUptoRow.domain false Rows.placesUptoRow.laid) (((Rows.OpenSpec.upto Rows.placesSpec).at F).post enc Tryd.prog Tryd.f4 false true false false) := by
  obtain ⟨places, hx⟩ := reads os enc
  refine returnsInHanded_of_row (C := Tryd.checked) (s := Rows.OpenSpec.upto Rows.placesSpec) own started (by kernel_rfl) Tryd.func4
    (witness_row_at (enc := enc) (C := Tryd.checked) false (laidWorld os) #[.string ⟨#[]⟩, .int .i64 0, .int .i64 0, .int .i64 0, .int .i64 0] rfl (by kernel_rfl) (by kernel_rfl) (by kernel_rfl)
      (OpenSpec.preRow_of_cond 8 hx (by kernel_rfl) (fun k hk => by cases hk; kernel_rfl) (by kernel_rfl) (laid_met os))) ?_
  intro W base args ds gs before hval hW _ hcond _ hL _ _
  refine contract api H enc W base args ds gs before hval hW hL ?_
  intro s hs
  have hk := hcond _ rfl
  have h1 : Rows.uptoBulkAll (ds ++ gs) ≤ 1048576 := by simpa [Rows.uptoSmall] using hk
  exact Nat.le_trans (bulk_str (List.mem_append_left gs hs)) h1
theorem saidUpto {D : World → Nat → Int → Bool → ByteArray → Prop} (api : ApiL Tabs D) : Rows.PlacesUptoSaid :=
  OpenClaim.holds_of_cond 4 Tryd.f4 rfl rfl rfl rfl rfl rfl rfl ⟨rfl, rfl, rfl, rfl, rfl⟩ rfl rfl rfl rfl rfl (by kernel_rfl) Tryd.func4 (by kernel_rfl)
    (of_decide_eq_true (by kernel_rfl)) (by unfold Func.isWrapper; first | (rw [if_pos (by decide +kernel)]; kernel_rfl) | (rw [if_neg (by decide +kernel)]; exact ⟨rfl, rfl⟩))
    (fun os started H enc _ F => by rw [OpenClaim.pre_eq_preRow]; exact liftedUpto api os started H enc F)
/-- No parameter wants a stand-in; the program's own looks are off. -/
theorem plain (f : FuncId) (fn : Func) (hf : Tryd.pinned.checked.prog.funcNamed "vellum/vellumlaw.Places" = some f) (hfn : Tryd.pinned.checked.prog.funcs[f]? = some fn) :
    true = Tryd.pinned.checked.prog.looks [] ∧ ∀ (j : Nat) t, fn.params[j]? = some t → Tryd.pinned.checked.prog.wantsStandIn t = false := by
  obtain rfl : f = 4 := Option.some.inj ((show Tryd.prog.funcNamed "vellum/vellumlaw.Places" = some 4 by kernel_rfl).symm.trans hf) |>.symm
  obtain rfl : fn = Tryd.f4 := (Option.some.inj (Tryd.func4.symm.trans hfn)).symm
  refine ⟨by kernel_rfl, fun j t ht => ?_⟩
  rw [Tryd.params4] at ht
  have hm := Array.mem_of_getElem? ht
  have ht' : t = 9 ∨ t = 3 := by simpa using hm
  rcases ht' with rfl | rfl
  · exact (show Tryd.prog.wantsStandIn 9 = false by kernel_rfl)
  · exact (show Tryd.prog.wantsStandIn 3 = false by kernel_rfl)
/-- The second form's card. -/
theorem cardUpto {D : World → Nat → Int → Bool → ByteArray → Prop} (api : ApiL Tabs D) : Rows.PlacesUptoCardSaid :=
  Claim7.holds_tied_plain_at .later [] _ _ _ _ (saidUpto api) (fun _ h => by cases h) (by kernel_rfl) (fun _ h => by cases h) placesUpto_row_tie rfl ⟨rfl, rfl⟩ (by kernel_rfl) rfl plain (by kernel_rfl)
end Go.Proofs.YtoejbngihecafaaDoor.places

namespace Go.Proofs.YtoejbngihecafaaDoor

theorem apiL : ApiL Tabs DD := { api with position := docPosition, offset := docOffset }
theorem places_upto_holds : Rows.PlacesUptoCardSaid := places.cardUpto apiL
end Go.Proofs.YtoejbngihecafaaDoor

namespace Vm
open Go.Proofs.YtoejbngihecafaaDoor
/-- The line and the column of the place ahead of the k-th. -/
def prevL (A : List At) (k : Nat) : Int := if k = 0 then 0 else linesA (A.take (k - 1))
def prevC (A : List At) (k : Nat) : Int := if k = 0 then -1 else colA (A.take (k - 1))
theorem prev_step (A : List At) (k : Nat) (hk : k ≤ A.length) : ((linesA (A.take k) : Int) = prevL A k ∧ prevC A k < colA (A.take k)) ∨ ((linesA (A.take k) : Int) = prevL A k + 1 ∧ (colA (A.take k) : Int) = 0) := by
  cases k with
  | zero => exact .inl ⟨by simp [linesA, prevL], by simp [colA, prevC]⟩
  | succ k =>
    obtain ⟨x, hx, _⟩ := get_some (A := A) (k := k) (by omega)
    have e1 : prevL A (k + 1) = linesA (A.take k) := by simp [prevL]
    have e2 : prevC A (k + 1) = colA (A.take k) := by simp [prevC]
    rw [linesA_take hx, colA_take hx, e1, e2]
    have hu := unA_pos x
    by_cases he : x.1 ≤ 2
    · rw [if_pos he, if_pos he]; exact .inr ⟨by omega, by omega⟩
    · rw [if_neg he, if_neg he]; exact .inl ⟨by omega, by omega⟩
theorem prevL_succ (A : List At) (k : Nat) : prevL A (k + 1) = linesA (A.take k) := by simp [prevL]
theorem prevC_succ (A : List At) (k : Nat) : prevC A (k + 1) = colA (A.take k) := by simp [prevC]
end Vm
namespace Go.Proofs.YtoejbngihecafaaDoor
open Go.RowKit
variable {T : World → Prop} {D : World → Nat → Int → Bool → ByteArray → Prop}

set_option maxRecDepth 100000 in
set_option maxHeartbeats 2000000 in
theorem bijective_any (api : ApiL T D) (b : ByteArray) (c : Int) (w : World) (ht : T w) (hb : b.size ≤ 1073741824) (h1 : -9223372036854775808 ≤ c) (h2 : c ≤ 9223372036854775807) :
    Calls Tryd.prog 6 #[.string b, .int .i64 c] w fun e w' => e = .returned (.bool true) ∧ Below w.heap.size w w' := by
  have O := hide2 (opened_any api.toApi b c w ht (by omega) h1 h2)
  have hbs := ofBody_size b (encOf b (Vm.pick c 8))
  generalize encOf b (Vm.pick c 8) = enc at *
  generalize ofMark b enc = mark at *
  generalize ofBody b enc = body at *
  have hok := Vm.atoms_ok enc body.data.toList
  have hbl : body.data.toList.length = body.size := rfl
  have hal : (Vm.atoms enc body.data.toList).length ≤ 1073741824 := Nat.le_trans (Vm.atoms_len enc body.data.toList) (by omega)
  have A3 := hide2 (fun p w => api.state p enc mark body w)
  have AO := hide2 (fun p w h k => offsets_any api p enc mark body w h k hal)
  have AP := hide2 (fun p o w => api.position p enc mark body o w)
  have AF := hide2 (fun p l c w => api.offset p enc mark body l c w)
  unfold shown at A3
  obtain ⟨tl, htl⟩ : ∃ tl, tl = decide (Vm.sizeA (Vm.atoms enc body.data.toList) < body.size) := ⟨_, rfl⟩
  rw [← htl] at A3
  clear htl
  generalize Vm.atoms enc body.data.toList = A at *
  generalize Vm.endingOf (Vm.cntK A 0) (Vm.cntK A 1) (Vm.cntK A 2) = en at *
  go_enter Tryd.func6, Tryd.ntmps6
  go_wp2_with fail
  refine O.out.mono ?_
  rintro e w1 ⟨p, rfl, hd, hb1⟩
  have ht1 := api.tab ht hb1
  go_wp2_with fail
  refine (A3.out p w1 ht1 hd).mono ?_
  rintro e w2 ⟨rfl, hb2⟩
  have ht2 := api.tab ht1 hb2
  have hd2 := api.low hd hb2
  have hb02 := hb1.trans (hb2.mono hb1.size)
  have hba := (Below.refl w2.heap.size w2).alloc (Nat.le_refl _) (.cells #[.int .i64 enc, .bool mark, .int .i64 (Vm.bytesA A), .int .i64 A.length, .int .i64 (Vm.unitsA A), .int .i64 ((Vm.linesA A : Int) + 1), .int .i64 (Vm.cntK A 4), .bool tl, .int .i64 en] 50)
  have ht3 := api.tab ht2 hba
  have hd3 := api.low hd2 hba
  go_wp2_with fail
  have BX := hide2 (Bx9.new w2 50 (.int .i64 enc) (.bool mark) (.int .i64 (Vm.bytesA A)) (.int .i64 A.length) (.int .i64 (Vm.unitsA A)) (.int .i64 ((Vm.linesA A : Int) + 1)) (.int .i64 (Vm.cntK A 4)) (.bool tl) (.int .i64 en))
  have hb03 := hb02.trans (hba.mono hb02.size)
  refine (AO.out p _ ht3 hd3).mono ?_
  rintro e w4 ⟨g, cap, rfl, hown, hb4⟩
  have BX4 := hide2 (BX.out.below hb4)
  have HT4 := hide2 (api.tab ht3 hb4)
  have HD4 := hide2 (api.low hd3 hb4)
  have HB4 := hide2 (hb03.trans (hb4.mono hb03.size))
  have HO := hide2 hown
  have HOK := hide2 hok
  clear BX hown hb4 ht3 hd3 hba hb03 hb02 ht2 hd2 hb1 hb2 ht1 hd ht O A3 AO hok
  generalize hZ : w2.heap.size = Z at *
  clear hZ
  have c2 := BX4.out.c2
  have c3 := BX4.out.c3
  have hz4 := block_lt c2
  have hneb : (((A.length : Int) + 1) == ((A.length : Int) + 1)) = true := by simp
  go_wp2_with fail
  go_loopw [9, 10, 11] (fun line col i wx => ∃ k : Nat, k ≤ A.length + 1 ∧ line = .int .i64 (Vm.prevL A k) ∧ col = .int .i64 (Vm.prevC A k) ∧ i = .int .i64 k ∧ Below w4.heap.size w4 wx) (fun _ _ i _ => A.length + 1 - (intOf i).toNat)
  case atStart => exact ⟨0, Nat.zero_le _, rfl, rfl, rfl, Below.refl _ _⟩
  case round =>
    obtain ⟨k, hk, rfl, rfl, rfl, hbx⟩ := hrel
    have HTX := hide2 (fun w5 (hb : Below wr.heap.size wr w5) => api.tab (api.tab HT4.out hbx) hb)
    have HDX := hide2 (fun w5 (hb : Below wr.heap.size wr w5) => api.low (api.low HD4.out hbx) hb)
    by_cases hlt : k < A.length + 1
    · have hltI : (k : Int) < (A.length : Int) + 1 := by omega
      have hltI2 : (k : Int) < ((A.length + 1 : Nat) : Int) := by omega
      have qk := (HO.out.below hbx).cellAt k _ (Vm.offL_at A _ k hlt)
      have hzg := block_lt qk
      have hst := Vm.prev_step A k (by omega)
      have hV := Vm.posV_at (A := A) (k := k) (by omega)
      have hU := Vm.offV_pos HOK.out (k := k) (by omega)
      have P1 := hide2 (AP.out p (Vm.bytesA (A.take k)))
      have P2 := hide2 (AF.out p (Vm.linesA (A.take k)) (Vm.colA (A.take k)))
      rw [hV] at P1
      rw [hU] at P2
      simp only at P1 P2
      have hbk := Vm.bytesA_le (A.take k)
      have hlk := Vm.linesA_le (A.take k)
      have hck : Vm.colA (A.take k) ≤ Vm.unitsA (A.take k) := by
        have := Vm.units_col HOK.out k (by omega)
        omega
      have huk := Vm.unitsA_le (A.take k)
      have mt : (A.take k).length ≤ k := by simp; omega
      have hs1 := hide2 (Vm.prevL_succ A k)
      have hs2 := hide2 (Vm.prevC_succ A k)
      generalize Vm.linesA (A.take k) = n1 at *
      generalize Vm.colA (A.take k) = c1 at *
      generalize Vm.bytesA (A.take k) = b1 at *
      generalize Vm.prevL A k = pl at *
      generalize Vm.prevC A k = pc at *
      clear hV hU
      rcases hst with ⟨hn, hc⟩ | ⟨hn, hc⟩
      · have g1 : ¬ (n1 : Int) < pl := by omega
        have g2 : ¬ pl + 1 < (n1 : Int) := by omega
        have g3 : ((n1 : Int) == pl) = true := by simpa using hn
        have g4 : ¬ (c1 : Int) ≤ pc := by omega
        have g5 : ¬ pl < (n1 : Int) := by omega
        have g6 : ((b1 : Int) == (b1 : Int)) = true := by simp
        have hwl : IntKind.i64.wrap (pl + 1) = pl + 1 := by rw [IntKind.wrap_i64]; omega
        clear hn
        go_wp2_with fail
        refine (P1.out _ (HTX.out _ (Below.refl _ _)) (HDX.out _ (Below.refl _ _))).mono ?_
        rintro e w5 ⟨rfl, hb5⟩
        have d5 := (hb5.cell (p := ⟨g, k, none⟩) hzg).trans qk
        have z5 := block_lt d5
        clear P1
        go_wp2_with fail
        refine (P2.out _ (HTX.out _ hb5) (HDX.out _ hb5)).mono ?_
        rintro e w6 ⟨rfl, hb6⟩
        have hb56 := hb5.trans (hb6.mono hb5.size)
        have d6 := (hb56.cell (p := ⟨g, k, none⟩) hzg).trans qk
        have z6 := block_lt d6
        have hbx6 := hbx.trans (hb56.mono hbx.size)
        clear P2 d5 hb5 hb6
        go_wp2_with fail
        refine ⟨⟨k + 1, by omega, by rw [hs1.out], by rw [hs2.out], by go_num, hbx6⟩, by simp [intOf]; omega⟩
      · have g1 : ¬ (n1 : Int) < pl := by omega
        have g2 : ¬ pl + 1 < (n1 : Int) := by omega
        have g3 : ((n1 : Int) == pl) = false := by simp; omega
        have g4 : ((c1 : Int) == 0) = true := by simpa using hc
        have g7 : ((c1 : Int) != 0) = false := by simp [hc]
        have g5 : pl < (n1 : Int) := by omega
        have g6 : ((b1 : Int) == (b1 : Int)) = true := by simp
        have hwl : IntKind.i64.wrap (pl + 1) = pl + 1 := by rw [IntKind.wrap_i64]; omega
        clear hn hc
        go_wp2_with fail
        refine (P1.out _ (HTX.out _ (Below.refl _ _)) (HDX.out _ (Below.refl _ _))).mono ?_
        rintro e w5 ⟨rfl, hb5⟩
        have d5 := (hb5.cell (p := ⟨g, k, none⟩) hzg).trans qk
        have z5 := block_lt d5
        clear P1
        go_wp2_with fail
        refine (P2.out _ (HTX.out _ hb5) (HDX.out _ hb5)).mono ?_
        rintro e w6 ⟨rfl, hb6⟩
        have hb56 := hb5.trans (hb6.mono hb5.size)
        have d6 := (hb56.cell (p := ⟨g, k, none⟩) hzg).trans qk
        have z6 := block_lt d6
        have hbx6 := hbx.trans (hb56.mono hbx.size)
        clear P2 d5 hb5 hb6
        go_wp2_with fail
        refine ⟨⟨k + 1, by omega, by rw [hs1.out], by rw [hs2.out], by go_num, hbx6⟩, by simp [intOf]; omega⟩
    · obtain rfl : k = A.length + 1 := by omega
      have hL : Vm.prevL A (A.length + 1) = Vm.linesA A := by rw [Vm.prevL_succ, List.take_length]
      have P1 := hide2 (AP.out p ((Vm.bytesA A : Int) + 1))
      rw [Vm.posV_out (.inr (by omega))] at P1
      have P2 := hide2 (AF.out p ((Vm.linesA A : Int) + 1) 0)
      rw [show Vm.offV A ((Vm.linesA A : Int) + 1) 0 = (0, 10) by unfold Vm.offV; rw [if_pos (.inr (by omega))]] at P2
      simp only at P1 P2
      have hbk := Vm.bytesA_le A
      have hlk := Vm.linesA_le A
      have BXR := hide2 (BX4.out.below hbx)
      have e2 := BXR.out.c2
      have ez := block_lt e2
      rw [hL]
      clear hL c2 c3 BX4
      generalize Vm.linesA A = N at *
      generalize Vm.bytesA A = bs at *
      have hw1 : IntKind.i64.wrap ((bs : Int) + 1) = (bs : Int) + 1 := by rw [IntKind.wrap_i64]; omega
      have hw2 : IntKind.i64.wrap ((N : Int) + 1) = (N : Int) + 1 := by rw [IntKind.wrap_i64]; omega
      go_wp2_with fail
      refine (P1.out _ (HTX.out _ (Below.refl _ _)) (HDX.out _ (Below.refl _ _))).mono ?_
      rintro e w5 ⟨rfl, hb5⟩
      clear P1 e2
      go_wp2_with fail
      refine (P2.out _ (HTX.out _ hb5) (HDX.out _ hb5)).mono ?_
      rintro e w6 ⟨rfl, hb6⟩
      have hb56 := hb5.trans (hb6.mono hb5.size)
      have BX6 := hide2 (BXR.out.below hb56)
      have e5 := BX6.out.c5
      have ez6 := block_lt e5
      have HBF := hide2 (HB4.out.trans ((hbx.trans (hb56.mono hbx.size)).mono HB4.out.size))
      clear P2 hb5 hb6
      have hneq : ((N : Int) == (N : Int)) = true := by simp
      go_wp2_with fail
      go_ret
      exact ⟨rfl, HBF.out⟩
end Go.Proofs.YtoejbngihecafaaDoor

namespace Go.Proofs.YtoejbngihecafaaDoor.bijective
open Go.ChangeShapes Go.WideShapes Go.ChangeAt Go.RowKit
open Go.Proofs.YtoejbngihecafaaDoor.fin (post_light bulk_str own laidWorld)

set_option maxRecDepth 100000 in
theorem contract {D : World → Nat → Int → Bool → ByteArray → Prop} (api : ApiL Tabs D) (H : Type) (enc : TypeId × Value → H) (W : World) (base : Nat) (args : Array Value) (ds gs : List (DataW H)) (before : List MemPlace)
    (hval : ∀ (j : Nat) t v, Tryd.f6.params[j]? = some t → args[j]? = some v → Value.okWide Tryd.prog W .any base t v)
    (hW : DataW.Whole enc Tryd.prog Tryd.f6.params.toList Rows.bijectiveSpec.vars false W args.toList ds gs before) (hL : laidMetH Tryd.prog Rows.bijectiveRow.laid W)
    (hB : ∀ s : List UInt8, DataW.lit (.string s) ∈ ds → s.length ≤ 1048576) :
    Calls Tryd.prog 6 args W fun e W' => ∃ v, e = .returned v ∧ Rows.bijectiveSpec.post enc Tryd.prog Tryd.f6 false true false false W args v W' := by
  have hW' := hW
  obtain ⟨p, q, hA0, hV, rfl, hfz, hnd⟩ := hW
  have hA : DataW.TrodAll enc Tryd.prog W 0 (fun _ => true) true Tryd.f6.params.toList args.toList ds p := hA0
  rw [Tryd.params6] at hA hval
  obtain ⟨v0, vs0, d0, ds0, p0, q0, hargs, rfl, rfl, h0, r0⟩ := trodAll_cons hA
  obtain ⟨v1, vs1, d1, ds1, p1, q1, hargs1, rfl, rfl, h1, r1⟩ := trodAll_cons r0
  obtain ⟨rfl, rfl, rfl⟩ := trodAll_nil r1
  obtain rfl : args = #[v0, v1] := by cases args; simp_all
  obtain ⟨rfl, rfl⟩ := trodVars_none hV
  obtain ⟨s, rfl, rfl, rfl, hs⟩ := Go.ChangeMaps.open_string Tryd.underlying9 (hval 0 9 v0 rfl rfl) h0
  obtain ⟨n, rfl, rfl, rfl, hn⟩ := open_int Tryd.underlying3 (hval 1 3 v1 rfl rfl) h1
  clear hA0
  simp only [List.append_nil] at hW'
  have hsz : s.size ≤ 1048576 := hB s.data.toList (by simp)
  have hrg : -9223372036854775808 ≤ n ∧ n ≤ 9223372036854775807 := by
    have h := hn
    simp only [Lit.wf, Bool.and_eq_true, decide_eq_true_eq] at h
    exact ⟨h.1, h.2⟩
  obtain ⟨hlo, hhi⟩ := hrg
  refine (bijective_any api s n W (tabs_of_laid hL) (by omega) hlo hhi).mono fun e W' ⟨he, hb⟩ => ?_
  subst he
  exact ⟨_, rfl, post_light hW' (fun _ _ _ => trodAll_cons_mk (shut_bool Tryd.underlying4 _) trodAll_mk0)
    (fun _ => trodAll_cons_mk (Go.ChangeMaps.shut_string Tryd.underlying9 hs) (trodAll_cons_mk (shut_int Tryd.underlying3 hn) trodAll_mk0)) (fun _ => rfl) hb
    (ok_one (by kernel_rfl) rfl (okWide_bool_mk Tryd.underlying4 _))⟩

theorem laid_met (os : Os) : laidMet Tryd.prog Rows.bijectiveRow.laid ((laidWorld os).forCall (fun _ _ => 0) ⟨#[], #[.string ⟨#[]⟩, .int .i64 0], []⟩).memory :=
  laidMet_of_run' 8 (by kernel_rfl) (by kernel_rfl)
theorem reads (os : Os) {H : Type} (enc : TypeId × Value → H) : ∃ places, DataW.whole enc Tryd.prog ((laidWorld os).forCall (fun _ _ => 0) ⟨#[], #[.string ⟨#[]⟩, .int .i64 0], []⟩).memory Tryd.f6.params.toList Rows.bijectiveSpec.vars false #[Value.string ⟨#[]⟩, .int .i64 0].toList 8 = some ([.lit (.string []), .lit (.int .i64 0)], [], places) :=
  ⟨[], by kernel_rfl⟩

set_option maxRecDepth 100000 in
theorem liftedUpto {D : World → Nat → Int → Bool → ByteArray → Prop} (api : ApiL Tabs D) (os : Os) (started : os.Started) (H : Type) (enc : TypeId × Value → H) (F : Stop.Interp) :
    ReturnsInHanded {} Tryd.checked os 6 .any ((Rows.OpenSpec.upto Rows.bijectiveSpec).preRow enc Tryd.prog Tryd.f6 Rows.bijectiveUptoRow.domain false Rows.bijectiveUptoRow.laid) (((Rows.OpenSpec.upto Rows.bijectiveSpec).at F).post enc Tryd.prog Tryd.f6 false true false false) := by
  obtain ⟨places, hx⟩ := reads os enc
  refine returnsInHanded_of_row (C := Tryd.checked) (s := Rows.OpenSpec.upto Rows.bijectiveSpec) own started (by kernel_rfl) Tryd.func6
    (witness_row_at (enc := enc) (C := Tryd.checked) false (laidWorld os) #[.string ⟨#[]⟩, .int .i64 0] rfl (by kernel_rfl) (by kernel_rfl) (by kernel_rfl)
      (OpenSpec.preRow_of_cond 8 hx (by kernel_rfl) (fun k hk => by cases hk; kernel_rfl) (by kernel_rfl) (laid_met os))) ?_
  intro W base args ds gs before hval hW _ hcond _ hL _ _
  refine contract api H enc W base args ds gs before hval hW hL ?_
  intro s hs
  have hk := hcond _ rfl
  have h1 : Rows.uptoBulkAll (ds ++ gs) ≤ 1048576 := by simpa [Rows.uptoSmall] using hk
  exact Nat.le_trans (bulk_str (List.mem_append_left gs hs)) h1
theorem saidUpto {D : World → Nat → Int → Bool → ByteArray → Prop} (api : ApiL Tabs D) : Rows.BijectiveUptoSaid :=
  OpenClaim.holds_of_cond 6 Tryd.f6 rfl rfl rfl rfl rfl rfl rfl ⟨rfl, rfl, rfl, rfl, rfl⟩ rfl rfl rfl rfl rfl (by kernel_rfl) Tryd.func6 (by kernel_rfl)
    (of_decide_eq_true (by kernel_rfl)) (by unfold Func.isWrapper; first | (rw [if_pos (by decide +kernel)]; kernel_rfl) | (rw [if_neg (by decide +kernel)]; exact ⟨rfl, rfl⟩))
    (fun os started H enc _ F => by rw [OpenClaim.pre_eq_preRow]; exact liftedUpto api os started H enc F)
/-- No parameter wants a stand-in; the program's own looks are off. -/
theorem plain (f : FuncId) (fn : Func) (hf : Tryd.pinned.checked.prog.funcNamed "vellum/vellumkeep.Bijective" = some f) (hfn : Tryd.pinned.checked.prog.funcs[f]? = some fn) :
    true = Tryd.pinned.checked.prog.looks [] ∧ ∀ (j : Nat) t, fn.params[j]? = some t → Tryd.pinned.checked.prog.wantsStandIn t = false := by
  obtain rfl : f = 6 := Option.some.inj ((show Tryd.prog.funcNamed "vellum/vellumkeep.Bijective" = some 6 by kernel_rfl).symm.trans hf) |>.symm
  obtain rfl : fn = Tryd.f6 := (Option.some.inj (Tryd.func6.symm.trans hfn)).symm
  refine ⟨by kernel_rfl, fun j t ht => ?_⟩
  rw [Tryd.params6] at ht
  have hm := Array.mem_of_getElem? ht
  have ht' : t = 9 ∨ t = 3 := by simpa using hm
  rcases ht' with rfl | rfl
  · exact (show Tryd.prog.wantsStandIn 9 = false by kernel_rfl)
  · exact (show Tryd.prog.wantsStandIn 3 = false by kernel_rfl)
/-- The second form's card. -/
theorem cardUpto {D : World → Nat → Int → Bool → ByteArray → Prop} (api : ApiL Tabs D) : Rows.BijectiveUptoCardSaid :=
  Claim7.holds_tied_plain_at .later [] _ _ _ _ (saidUpto api) (fun _ h => by cases h) (by kernel_rfl) (fun _ h => by cases h) bijectiveUpto_row_tie rfl ⟨rfl, rfl⟩ (by kernel_rfl) rfl plain (by kernel_rfl)
end Go.Proofs.YtoejbngihecafaaDoor.bijective
namespace Go.Proofs.YtoejbngihecafaaDoor
theorem bijective_upto_holds : Rows.BijectiveUptoCardSaid := bijective.cardUpto apiL
end Go.Proofs.YtoejbngihecafaaDoor
