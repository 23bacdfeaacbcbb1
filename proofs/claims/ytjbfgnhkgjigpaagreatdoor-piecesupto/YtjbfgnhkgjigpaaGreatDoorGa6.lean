import Derived.OwnWalk
import Derived.Maps.AppendAt
import Derived.RangeFuncBox
import Derived.Deep.QuietTactic
import Derived.BigQuiet
import Derived.Deep.RegionHeld3
import Derived.Test.YtjbfgnhkgjigpaaGreatDoorGa1
import Derived.Test.YtjbfgnhkgjigpaaGreatDoorGa4
import Derived.Test.YtjbfgnhkgjigpaaGreatDoorGa5
namespace Go.Proofs.YtjbfgnhkgjigpaaGreatDoor
open Go.RowKit

def cellsRA (a : Vm.RA) : List Value := [.int .i64 a.1, .bool a.2.1, .int .i64 a.2.2.1, .int .i64 a.2.2.2.1, .int .i64 a.2.2.2.2]
def flatRA (L : List Vm.RA) : List Value := L.flatMap cellsRA
theorem flatRA_length (L : List Vm.RA) : (flatRA L).length = L.length * 5 := by
  induction L with
  | nil => rfl
  | cons a L ih => simp [flatRA, cellsRA] at ih ⊢; omega
theorem flatRA_snoc (L : List Vm.RA) (a : Vm.RA) : flatRA (L ++ [a]) = flatRA L ++ cellsRA a := by simp [flatRA]
/-- A cell of the last. -/
theorem flatRA_last (L : List Vm.RA) (a : Vm.RA) (j : Nat) (hj : j < 5) : (flatRA (L ++ [a]))[L.length * 5 + j]? = (cellsRA a)[j]? := by
  rw [flatRA_snoc, List.getElem?_append_right (by rw [flatRA_length]; omega), flatRA_length]; congr 1; omega
theorem Tryz.infoAtom : (Tryz.prog.info? 118).map (fun i => (i.zero, i.size, i.bytes)) = some (some (.agg #[.int .i64 0, .bool false, .int .i64 0, .int .i64 0, .int .i64 0]), 5, 40) := by kernel_rfl

/-- A list of atoms in memory of the callee's own. -/
def Holds (w : World) (base : Nat) (v : Value) (L : List Vm.RA) : Prop := w.ownsRow base 118 5 v L.length (flatRA L)

theorem Holds.below {w w' : World} {base : Nat} {v : Value} {L : List Vm.RA} (h : Holds w base v L) (hb : Below w.heap.size w w') : Holds w' base v L := by
  refine ⟨h.1, ?_⟩
  rcases h.2 with x | ⟨g, cap, cur, e1, e2, e3, r⟩
  · exact .inl x
  · exact .inr ⟨g, cap, cur, e1, e2, (hb.block g (Array.getElem?_eq_some_iff.1 e3).1).trans e3, r⟩
theorem five_new (w : World) (o : Obj) (t : TypeId) (v0 v1 v2 v3 v4 : Value) : ∀ (j : Nat) (u : Value), [v0, v1, v2, v3, v4][j]? = some u → ((w.alloc o).alloc (.cells #[v0, v1, v2, v3, v4] t)).cell? ((⟨w.heap.size + 1, 0, none⟩ : Addr).add j) = some u := by
  intro j u h
  have hp : (⟨w.heap.size + 1, 0, none⟩ : Addr).add j = ⟨w.heap.size + 1, j, none⟩ := by unfold Addr.add; split <;> simp_all
  rw [hp]
  have : j = 0 ∨ j = 1 ∨ j = 2 ∨ j = 3 ∨ j = 4 := by
    have := (List.getElem?_eq_some_iff.1 h).1
    simp at this; omega
  rcases this with rfl | rfl | rfl | rfl | rfl <;> simp at h <;> subst h <;> simp
theorem Holds.lt {w : World} {base : Nat} {v : Value} {L : List Vm.RA} (h : Holds w base v L) : ∀ k, v.ownBlock = some k → base ≤ k ∧ k < w.heap.size := World.ownsRow.lt h
theorem Holds.cellAt {w : World} {base g n cap : Nat} {L : List Vm.RA} (h : Holds w base (.slice (some ⟨g, 0, none⟩) n cap) L) (j : Nat) (hj : j < L.length * 5) : w.cell? ⟨g, j, none⟩ = (flatRA L)[j]? := by
  obtain rfl : n = L.length := by
    rcases h.2 with ⟨x, _⟩ | ⟨_, _, _, x, _⟩
    · cases x
    · cases x; rfl
  exact World.ownsRow.cellAt h j hj
theorem Holds.frozenAt {w : World} {base g n cap : Nat} {L : List Vm.RA} (h : Holds w base (.slice (some ⟨g, 0, none⟩) n cap) L) (j : Nat) : w.frozen? ⟨g, j, none⟩ = false := by
  obtain rfl : n = L.length := by
    rcases h.2 with ⟨x, _⟩ | ⟨_, _, _, x, _⟩
    · cases x
    · cases x; rfl
  exact World.ownsRow.frozenAt h j
theorem set_tail {α : Type} (F C : List α) (j : Nat) (x : α) : (F ++ C).set (F.length + j) x = F ++ C.set j x := by
  rw [List.set_append_right _ _ (by omega)]; simp
theorem Holds.last2 {w : World} {base g n cap : Nat} {M : List Vm.RA} {a : Vm.RA} (h : Holds w base (.slice (some ⟨g, 0, none⟩) n cap) (M ++ [a])) (x y : Int) :
    Holds ((w.setCell ⟨g, M.length * 5 + 2, none⟩ (.int .i64 x)).setCell ⟨g, M.length * 5 + 4, none⟩ (.int .i64 y)) base (.slice (some ⟨g, 0, none⟩) n cap) (M ++ [(a.1, a.2.1, x, a.2.2.2.1, y)]) := by
  obtain rfl : n = (M ++ [a]).length := by
    rcases h.2 with ⟨x, _⟩ | ⟨_, _, _, x, _⟩
    · cases x
    · cases x; rfl
  have h1 := (World.ownsRow.stored h (M.length * 5 + 2) (.int .i64 x)).1
  have h2 := (World.ownsRow.stored h1 (M.length * 5 + 4) (.int .i64 y)).1
  unfold Holds
  have e : ((flatRA (M ++ [a])).set (M.length * 5 + 2) (.int .i64 x)).set (M.length * 5 + 4) (.int .i64 y) = flatRA (M ++ [(a.1, a.2.1, x, a.2.2.2.1, y)]) := by
    rw [flatRA_snoc, flatRA_snoc, ← flatRA_length, set_tail, set_tail]; rfl
  rw [e] at h2
  have l : (M ++ [(a.1, a.2.1, x, a.2.2.2.1, y)]).length = (M ++ [a]).length := by simp
  rw [l]; exact h2
theorem Holds.alloc {w : World} {base : Nat} {v : Value} {L : List Vm.RA} (h : Holds w base v L) (o : Obj) : Holds (w.alloc o) base v L := World.ownsRow.alloc h o

set_option maxRecDepth 100000 in
set_option maxHeartbeats 2000000 in
theorem ratoms_any (s : ByteArray) (enc : Int) (w : World) (hs : s.size ≤ 1099511627776) (h0 : 0 ≤ enc) (h3 : enc ≤ 3) :
    Calls Tryz.prog 100 #[.string s, .int .i64 enc] w fun e w' => ∃ v L, e = .returned v ∧ Vm.Reads L (Vm.atoms enc s.data.toList) 0 ∧ L.length ≤ s.size ∧ Holds w' w.heap.size v L ∧ Below w.heap.size w w' := by
  obtain ⟨i0, hi, hz0, hz1, hz2⟩ := info_parts Tryz.infoAtom
  go_enter Tryz.func100, Tryz.ntmps100
  go_wp2
  go_loopw [5, 6] (fun out i wx => ∃ (k : Nat) (L : List Vm.RA) (p : Option Addr) (cap : Nat), k ≤ s.size ∧ i = .int .i64 k ∧ Vm.RS enc s.data.toList k L ∧ out = .slice p L.length cap ∧ Holds wx w.heap.size (.slice p L.length cap) L ∧ Below w.heap.size w wx) (fun _ i _ => s.size - (intOf i).toNat)
  case atStart => exact ⟨0, [], none, 0, Nat.zero_le _, rfl, Vm.RS.nil _ _, rfl, World.ownsRow_nil _ _ _ _, Below.refl _ _⟩
  case round =>
    obtain ⟨k, L, p, cap, hk, rfl, hrs, rfl, hown, hbx⟩ := hrel
    have HR := hide2 hrs
    have HO := hide2 hown
    clear hrs hown
    by_cases hlt : k < s.size
    · have hltI : (k : Int) < (s.size : Int) := by omega
      cases hrd : Vm.rd enc (s.data.toList.drop k) with
      | none =>
        have hval : rdVal enc s k = .tuple #[.agg #[.int .i64 0, .bool false, .int .i64 0, .int .i64 k, .int .i64 ((k : Int) + 1)], .bool false] := by unfold rdVal; rw [hrd]
        have HV := hide2 hval
        have HD := hide2 hrd
        clear hval hrd
        go_wp2_with fail
        refine (rread_any s k enc _ hs h0 h3 hlt).mono ?_
        rintro e w1 ⟨rfl, hb1⟩
        rw [HV.out]
        go_wp2
        go_ret
        exact ⟨_, L, rfl, HR.out.done (Vm.rd_no HD.out), by have := HR.out.len; omega, (HO.out.below hb1).alloc _, (hbx.trans (hb1.mono hbx.size)).alloc (by have := hbx.size; have := hb1.size; omega) _⟩
      | some x =>
        obtain ⟨c, e, n⟩ := x
        obtain ⟨hn1, hn4, hnl⟩ := Vm.rd_bd hrd
        simp only at hn1 hn4 hnl
        rw [Vm.len_drop] at hnl
        have hval : rdVal enc s k = .tuple #[.agg #[.int .i64 c, .bool e, .int .i64 0, .int .i64 k, .int .i64 ((k : Int) + n)], .bool true] := by unfold rdVal; rw [hrd]
        have HV := hide2 hval
        have HD := hide2 hrd
        have hwh := Vm.rd_what hrd
        simp only at hwh
        clear hval hrd
        have hLk := HR.out.len
        by_cases h10 : c = 10
        · subst h10
          obtain rfl : e = false := by cases e <;> simp_all
          rcases List.eq_nil_or_concat L with hL | ⟨M, a, hL⟩
          · subst hL
            have RS2 := hide2 (HR.out.lf HD.out (fun M a h => by simp at h))
            clear hwh
            have hl0 : ((0 : Nat) : Int) - 1 = -1 := rfl
            go_wp2_with fail
            refine (rread_any s k enc _ hs h0 h3 hlt).mono ?_
            rintro e w1 ⟨rfl, hb1⟩
            rw [HV.out]
            have HO1 := hide2 (HO.out.below hb1)
            have hbw := hbx.trans (hb1.mono hbx.size)
            have hsz := hbw.size
            clear hb1
            go_wp2_with (at_builtin; refine wpList_append_own _ rfl _ _ 114 rfl w.heap.size 118 i0 _ 5 40 Tryz.underlying114 hi hz0 hz1 hz2 rfl (by decide) _ 0 [] rfl ?hown ⟨w1.heap.size + 1, 0, none⟩ 1 1 [.int .i64 10, .bool false, .int .i64 1, .int .i64 k, .int .i64 ((k : Int) + n)] rfl rfl ?hnews ?h1 ?h63 ?hby ?hbase ?hrest)
            case hown => exact (HO1.out.alloc _).alloc _
            case hnews => exact five_new _ _ _ _ _ _ _ _
            case h1 => simp [Value.oneCell']
            case h63 => unfold maxLen; omega
            case hby => omega
            case hbase => simp; omega
            case hrest =>
              intro v' w2 hown2 hgrow2 _
              obtain ⟨g', cap', rfl⟩ := ownsRow_succ hown2
              have hb2 : Below w.heap.size w w2 := ((hbw.alloc hsz _).alloc (by simp; omega) _).grown hgrow2 (by simp; omega) (fun k' hk' => (HO1.out.lt k' hk').1)
              have HO2 : Hid (Holds w2 w.heap.size (.slice (some ⟨g', 0, none⟩) (0 + 1) cap') ([] ++ [(10, false, 1, (k : Int), (k : Int) + n)])) := by
                show Holds _ _ _ _
                unfold Holds
                rw [flatRA_snoc, List.length_append]
                exact hown2
              clear hown2 hgrow2
              go_wp2
              refine ⟨⟨k + n, _, some ⟨g', 0, none⟩, cap', by omega, by go_num, RS2.out, ?_, ?_, hb2⟩, by simp [intOf]; omega⟩
              · rw [List.length_append]; rfl
              · rw [List.length_append]; exact HO2.out
          · rw [List.concat_eq_append] at hL
            subst hL
            have hML : (M ++ [a]).length = M.length + 1 := by simp
            obtain ⟨g, capg, hg⟩ := ownsRow_succ (by have := HO.out; unfold Holds at this; rw [hML] at this; exact this)
            rw [← hML] at hg
            injection hg with hg1 hg2 hg3
            subst hg1
            have cellL := fun j (hj : j < 5) => (HO.out.cellAt (M.length * 5 + j) (by rw [hML]; omega)).trans (flatRA_last M a j hj)
            have cE := cellL 2 (by decide)
            have cT := cellL 4 (by decide)
            have fE := HO.out.frozenAt (M.length * 5 + 2)
            have fT := HO.out.frozenAt (M.length * 5 + 4)
            have hglt := (HO.out.lt g rfl)
            clear cellL hg2 hg3
            simp only [cellsRA, List.getElem?_cons_succ, List.getElem?_cons_zero] at cE cT
            by_cases hE : a.2.2.1 = 3
            · have RS2 := hide2 (HR.out.crlf HD.out hE)
              rw [hE] at cE
              clear hwh
              go_wp2_with fail
              refine (rread_any s k enc _ hs h0 h3 hlt).mono ?_
              rintro e w1 ⟨rfl, hb1⟩
              rw [HV.out]
              have HO1 := hide2 (HO.out.below hb1)
              have hbw := hbx.trans (hb1.mono hbx.size)
              have hsz := hbw.size
              have cE1 := (hb1.cell (p := ⟨g, M.length * 5 + 2, none⟩) hglt.2).trans cE
              have cT1 := (hb1.cell (p := ⟨g, M.length * 5 + 4, none⟩) hglt.2).trans cT
              have fE1 := (hb1.frozen (p := ⟨g, M.length * 5 + 2, none⟩) hglt.2).trans fE
              have fT1 := (hb1.frozen (p := ⟨g, M.length * 5 + 4, none⟩) hglt.2).trans fT
              have hg1 : g < w1.heap.size := by have := hb1.size; omega
              clear hb1
              simp only [List.length_append, List.length_cons, List.length_nil]
              go_wp2
              have hst := HO1.out.last2 2 ((k : Int) + n)
              refine ⟨⟨k + n, _, some ⟨g, 0, none⟩, cap, by omega, by go_num, RS2.out, by simp, ?_, ?_⟩, by simp [intOf]; omega⟩
              · have h2 := hst.alloc (.cells #[.int .i64 10, .bool false, .int .i64 0, .int .i64 k, .int .i64 ((k : Int) + n)] 118)
                simpa using h2
              · exact ((hbw.setCell (p := ⟨g, M.length * 5 + 2, none⟩) hglt.1 _).setCell (p := ⟨g, M.length * 5 + 4, none⟩) hglt.1 _).alloc (by simp [World.setCell]; omega) _
            · have RS2 := hide2 (HR.out.lf HD.out (fun M2 a2 h => by
                have h1 := List.append_inj_right' h (by simp)
                simp at h1; rw [← h1]; exact hE))
              have hE' : (a.2.2.1 == 3) = false := by simpa using hE
              clear hwh hE
              go_wp2_with fail
              refine (rread_any s k enc _ hs h0 h3 hlt).mono ?_
              rintro e w1 ⟨rfl, hb1⟩
              rw [HV.out]
              have HO1 := hide2 (HO.out.below hb1)
              have hbw := hbx.trans (hb1.mono hbx.size)
              have hsz := hbw.size
              have cE1 := (hb1.cell (p := ⟨g, M.length * 5 + 2, none⟩) hglt.2).trans cE
              have hg1 : g < w1.heap.size := by have := hb1.size; omega
              clear hb1
              simp only [List.length_append, List.length_cons, List.length_nil]
              go_wp2_with (at_builtin; refine wpList_append_own _ rfl _ _ 114 rfl w.heap.size 118 i0 _ 5 40 Tryz.underlying114 hi hz0 hz1 hz2 rfl (by decide) _ (M.length + 1) (flatRA (M ++ [a])) rfl ?hown ⟨w1.heap.size + 1, 0, none⟩ 1 1 [.int .i64 10, .bool false, .int .i64 1, .int .i64 k, .int .i64 ((k : Int) + n)] rfl rfl ?hnews ?h1 ?h63 ?hby ?hbase ?hrest)
              case hown =>
                have := (HO1.out.alloc (.cells #[.int .i64 10, .bool false, .int .i64 1, .int .i64 k, .int .i64 ((k : Int) + n)] 118)).alloc (.cells #[.int .i64 10, .bool false, .int .i64 1, .int .i64 k, .int .i64 ((k : Int) + n)] 118)
                unfold Holds at this; rw [hML] at this; exact this
              case hnews => exact five_new _ _ _ _ _ _ _ _
              case h1 => simp [Value.oneCell']
              case h63 => unfold maxLen; omega
              case hby => omega
              case hbase => simp; omega
              case hrest =>
                intro v' w2 hown2 hgrow2 _
                obtain ⟨g', cap', rfl⟩ := ownsRow_succ hown2
                have hb2 : Below w.heap.size w w2 := ((hbw.alloc hsz _).alloc (by simp; omega) _).grown hgrow2 (by simp; omega) (fun k' hk' => (HO1.out.lt k' hk').1)
                have HO2 : Hid (Holds w2 w.heap.size (.slice (some ⟨g', 0, none⟩) (M.length + 1 + 1) cap') ((M ++ [a]) ++ [(10, false, 1, (k : Int), (k : Int) + n)])) := by
                  show Holds _ _ _ _
                  unfold Holds
                  rw [flatRA_snoc, List.length_append, hML]
                  exact hown2
                clear hown2 hgrow2
                go_wp2
                refine ⟨⟨k + n, _, some ⟨g', 0, none⟩, cap', by omega, by go_num, RS2.out, ?_, ?_, hb2⟩, by simp [intOf]; omega⟩
                · rw [List.length_append, hML]; rfl
                · rw [List.length_append, hML]; exact HO2.out
        · have h10' : (c == 10) = false := by simpa using h10
          by_cases h13 : c = 13
          · subst h13
            obtain rfl : e = false := by cases e <;> simp_all
            have RS2 := hide2 (HR.out.cr HD.out)
            clear h10 hwh
            go_wp2_with fail
            refine (rread_any s k enc _ hs h0 h3 hlt).mono ?_
            rintro e w1 ⟨rfl, hb1⟩
            rw [HV.out]
            have HO1 := hide2 (HO.out.below hb1)
            have hbw := hbx.trans (hb1.mono hbx.size)
            have hsz := hbw.size
            clear hb1
            go_wp2_with (at_builtin; refine wpList_append_own _ rfl _ _ 114 rfl w.heap.size 118 i0 _ 5 40 Tryz.underlying114 hi hz0 hz1 hz2 rfl (by decide) _ L.length (flatRA L) rfl ?hown ⟨w1.heap.size + 1, 0, none⟩ 1 1 [.int .i64 10, .bool false, .int .i64 3, .int .i64 k, .int .i64 ((k : Int) + n)] rfl rfl ?hnews ?h1 ?h63 ?hby ?hbase ?hrest)
            case hown => exact (HO1.out.alloc _).alloc _
            case hnews => exact five_new _ _ _ _ _ _ _ _
            case h1 => simp [Value.oneCell']
            case h63 => unfold maxLen; omega
            case hby => omega
            case hbase => simp; omega
            case hrest =>
              intro v' w2 hown2 hgrow2 _
              obtain ⟨g', cap', rfl⟩ := ownsRow_succ hown2
              have hb2 : Below w.heap.size w w2 := ((hbw.alloc hsz _).alloc (by simp; omega) _).grown hgrow2 (by simp; omega) (fun k' hk' => (HO1.out.lt k' hk').1)
              have HO2 : Hid (Holds w2 w.heap.size (.slice (some ⟨g', 0, none⟩) (L.length + 1) cap') (L ++ [(10, false, 3, (k : Int), (k : Int) + n)])) := by
                show Holds _ _ _ _
                unfold Holds
                rw [flatRA_snoc, List.length_append]
                exact hown2
              clear hown2 hgrow2
              go_wp2
              refine ⟨⟨k + n, _, some ⟨g', 0, none⟩, cap', by omega, by go_num, RS2.out, ?_, ?_, hb2⟩, by simp [intOf]; omega⟩
              · rw [List.length_append]; rfl
              · rw [List.length_append]; exact HO2.out
          · have h13' : (c == 13) = false := by simpa using h13
            have RS2 := hide2 (HR.out.other HD.out h10 h13)
            clear h10 h13 hwh
            go_wp2_with fail
            refine (rread_any s k enc _ hs h0 h3 hlt).mono ?_
            rintro e w1 ⟨rfl, hb1⟩
            rw [HV.out]
            have HO1 := hide2 (HO.out.below hb1)
            have hbw := hbx.trans (hb1.mono hbx.size)
            have hsz := hbw.size
            clear hb1
            go_wp2_with (at_builtin; refine wpList_append_own _ rfl _ _ 114 rfl w.heap.size 118 i0 _ 5 40 Tryz.underlying114 hi hz0 hz1 hz2 rfl (by decide) _ L.length (flatRA L) rfl ?hown ⟨w1.heap.size + 1, 0, none⟩ 1 1 [.int .i64 c, .bool e, .int .i64 0, .int .i64 k, .int .i64 ((k : Int) + n)] rfl rfl ?hnews ?h1 ?h63 ?hby ?hbase ?hrest)
            case hown => exact (HO1.out.alloc _).alloc _
            case hnews => exact five_new _ _ _ _ _ _ _ _
            case h1 => simp [Value.oneCell']
            case h63 => unfold maxLen; omega
            case hby => omega
            case hbase => simp; omega
            case hrest =>
              intro v' w2 hown2 hgrow2 _
              obtain ⟨g', cap', rfl⟩ := ownsRow_succ hown2
              have hb2 : Below w.heap.size w w2 := ((hbw.alloc hsz _).alloc (by simp; omega) _).grown hgrow2 (by simp; omega) (fun k' hk' => (HO1.out.lt k' hk').1)
              have HO2 : Hid (Holds w2 w.heap.size (.slice (some ⟨g', 0, none⟩) (L.length + 1) cap') (L ++ [(c, e, 0, (k : Int), (k : Int) + n)])) := by
                show Holds _ _ _ _
                unfold Holds
                rw [flatRA_snoc, List.length_append]
                exact hown2
              clear hown2 hgrow2
              go_wp2
              refine ⟨⟨k + n, _, some ⟨g', 0, none⟩, cap', by omega, by go_num, RS2.out, ?_, ?_, hb2⟩, by simp [intOf]; omega⟩
              · rw [List.length_append]; rfl
              · rw [List.length_append]; exact HO2.out
    · have hx := HR.out.done (Vm.any_none enc s k (by omega))
      have HX := hide2 hx
      clear hx
      go_wp2
      go_ret
      exact ⟨_, L, rfl, HX.out, by have := HR.out.len; omega, HO.out, hbx⟩
end Go.Proofs.YtjbfgnhkgjigpaaGreatDoor

namespace Go.Proofs.YtjbfgnhkgjigpaaGreatDoor
open Go.RowKit

/-- A mark's bytes. -/
def markB (enc : Int) : ByteArray := if enc = 0 then ⟨#[239, 187, 191]⟩ else if enc = 1 then ⟨#[255, 254]⟩ else if enc = 2 then ⟨#[254, 255]⟩ else ⟨#[]⟩

/-- The table of encodings, in memory. -/
structure TabEnc (w : World) : Prop where
  m0 : w.cell? ⟨2, 0, none⟩ = some (.string (markB 0))
  g0 : w.cell? ⟨2, 1, none⟩ = some (.int .i32 1114111)
  l0 : w.cell? ⟨2, 2, none⟩ = some (.int .i64 0)
  h0 : w.cell? ⟨2, 3, none⟩ = some (.int .i64 0)
  m1 : w.cell? ⟨2, 4, none⟩ = some (.string (markB 1))
  g1 : w.cell? ⟨2, 5, none⟩ = some (.int .i32 1114111)
  l1 : w.cell? ⟨2, 6, none⟩ = some (.int .i64 0)
  h1 : w.cell? ⟨2, 7, none⟩ = some (.int .i64 1)
  m2 : w.cell? ⟨2, 8, none⟩ = some (.string (markB 2))
  g2 : w.cell? ⟨2, 9, none⟩ = some (.int .i32 1114111)
  l2 : w.cell? ⟨2, 10, none⟩ = some (.int .i64 1)
  h2 : w.cell? ⟨2, 11, none⟩ = some (.int .i64 0)
  m3 : w.cell? ⟨2, 12, none⟩ = some (.string (markB 3))
  g3 : w.cell? ⟨2, 13, none⟩ = some (.int .i32 255)
  l3 : w.cell? ⟨2, 14, none⟩ = some (.int .i64 0)
  h3 : w.cell? ⟨2, 15, none⟩ = some (.int .i64 0)

theorem TabEnc.below {w w' : World} (h : TabEnc w) (hb : Below w.heap.size w w') : TabEnc w' := by
  have hz := block_lt h.m0
  have g : ∀ o, w'.cell? ⟨2, o, none⟩ = w.cell? ⟨2, o, none⟩ := fun o => hb.cell (p := ⟨_, o, none⟩) hz
  exact ⟨(g _).trans h.m0, (g _).trans h.g0, (g _).trans h.l0, (g _).trans h.h0, (g _).trans h.m1, (g _).trans h.g1, (g _).trans h.l1, (g _).trans h.h1, (g _).trans h.m2, (g _).trans h.g2, (g _).trans h.l2, (g _).trans h.h2, (g _).trans h.m3, (g _).trans h.g3, (g _).trans h.l3, (g _).trans h.h3⟩

theorem unit_bits (h l : Int) (h0 : 0 ≤ h) (h1 : h ≤ 255) (l0 : 0 ≤ l) (l1 : l ≤ 255) : bits BinOp.or IntKind.i32 (h * 256) l = 256 * h + l := by
  rw [bits_join .i32 31 (by decide) wraps_i32 8 (h * 256) l (by omega) (by omega) (by omega) l0 (by omega) (by omega)]; omega

theorem unit_bytes (x y : UInt8) : bits BinOp.or IntKind.i32 (IntKind.i32.wrap (IntKind.i32.wrap (x.toNat : Int) * 256)) (IntKind.i32.wrap (y.toNat : Int)) = 256 * (x.toNat : Int) + (y.toNat : Int) := by
  have h1 := x.toNat_lt
  have h2 := y.toNat_lt
  have e1 : IntKind.i32.wrap (x.toNat : Int) = x.toNat := by rw [IntKind.wrap_i32]; omega
  have e2 : IntKind.i32.wrap (y.toNat : Int) = y.toNat := by rw [IntKind.wrap_i32]; omega
  have e3 : IntKind.i32.wrap ((x.toNat : Int) * 256) = x.toNat * 256 := by rw [IntKind.wrap_i32]; omega
  rw [e1, e2, e3]
  exact unit_bits _ _ (by omega) (by omega) (by omega) (by omega)

set_option maxHeartbeats 400000 in
theorem unit_out (b : ByteArray) (a enc : Int) (w : World) (h0 : 0 ≤ a) (h1 : (b.size : Int) ≤ a + 1) (ha : a < 4611686018427387904) :
    Calls Tryz.prog 164 #[.string b, .int .i64 a, .int .i64 enc] w fun e w' => e = .returned (.int .i32 (-1)) ∧ Below w.heap.size w w' := by
  go_enter Tryz.func164, Tryz.ntmps164
  go_wp2
  go_ret
  exact ⟨rfl, Below.refl _ _⟩

set_option maxHeartbeats 400000 in
theorem unit_little (b : ByteArray) (i : Nat) (w : World) (hb : b.size ≤ 1099511627776) (h1 : i + 1 < b.size) (ht : TabEnc w) :
    Calls Tryz.prog 164 #[.string b, .int .i64 i, .int .i64 1] w fun e w' => e = .returned (.int .i32 (Vm.unitAt 1 b.data.toList i)) ∧ Below w.heap.size w w' := by
  have c0 := ht.m1
  have cg := ht.g1
  have c1 := ht.l1
  have c2 := ht.h1
  have hz := block_lt c0
  have hI : (i : Int) + 1 < (b.size : Int) := by omega
  have e1 := b[i].toNat_lt
  have e2 := b[i + 1].toNat_lt
  go_enter Tryz.func164, Tryz.ntmps164
  go_wp2
  have hwr : IntKind.i64.wrap ((i : Int) + 1) = (i : Int) + 1 := by rw [IntKind.wrap_i64]; omega
  have htn : ((i : Int) + 1).toNat = i + 1 := by omega
  have hwr0 : IntKind.i64.wrap (i : Int) = (i : Int) := by rw [IntKind.wrap_i64]; omega
  go_region_held3 (fun w' => w'.cell? ⟨w.heap.size, 2, none⟩ = some (.int .i64 0) ∧ w'.cell? ⟨w.heap.size, 3, none⟩ = some (.int .i64 1)) (go_keep) (fail)
  all_goals (go_wp2; go_ret)
  all_goals exact ⟨ret_int (by rw [unit_bytes]; rw [Vm.unitAt_1, Vm.b0_byte b i (by omega), Vm.b0_byte b (i + 1) h1]; omega), ((Below.refl _ _).alloc (Nat.le_refl _) _).drew⟩
set_option maxHeartbeats 400000 in
theorem unit_big (b : ByteArray) (i : Nat) (w : World) (hb : b.size ≤ 1099511627776) (h1 : i + 1 < b.size) (ht : TabEnc w) :
    Calls Tryz.prog 164 #[.string b, .int .i64 i, .int .i64 2] w fun e w' => e = .returned (.int .i32 (Vm.unitAt 2 b.data.toList i)) ∧ Below w.heap.size w w' := by
  have c0 := ht.m2
  have cg := ht.g2
  have c1 := ht.l2
  have c2 := ht.h2
  have hz := block_lt c0
  have hI : (i : Int) + 1 < (b.size : Int) := by omega
  have e1 := b[i].toNat_lt
  have e2 := b[i + 1].toNat_lt
  go_enter Tryz.func164, Tryz.ntmps164
  go_wp2
  have hwr : IntKind.i64.wrap ((i : Int) + 1) = (i : Int) + 1 := by rw [IntKind.wrap_i64]; omega
  have htn : ((i : Int) + 1).toNat = i + 1 := by omega
  have hwr0 : IntKind.i64.wrap (i : Int) = (i : Int) := by rw [IntKind.wrap_i64]; omega
  go_region_held3 (fun w' => w'.cell? ⟨w.heap.size, 2, none⟩ = some (.int .i64 1) ∧ w'.cell? ⟨w.heap.size, 3, none⟩ = some (.int .i64 0)) (go_keep) (fail)
  all_goals (go_wp2; go_ret)
  all_goals exact ⟨ret_int (by rw [unit_bytes]; rw [Vm.unitAt_2, Vm.b0_byte b i (by omega), Vm.b0_byte b (i + 1) h1]), ((Below.refl _ _).alloc (Nat.le_refl _) _).drew⟩

/-- The unit at a place, in either order of bytes. -/
theorem unit_any (b : ByteArray) (i : Nat) (enc : Int) (w : World) (hb : b.size ≤ 1099511627776) (hi : i ≤ b.size + 4) (he : enc = 1 ∨ enc = 2) (ht : TabEnc w) :
    Calls Tryz.prog 164 #[.string b, .int .i64 i, .int .i64 enc] w fun e w' => e = .returned (.int .i32 (Vm.unitO enc b i)) ∧ Below w.heap.size w w' := by
  by_cases h : i + 1 < b.size
  · have e : Vm.unitO enc b i = Vm.unitAt enc b.data.toList i := by unfold Vm.unitO; rw [if_pos h]
    rw [e]
    rcases he with rfl | rfl
    · exact unit_little b i w hb h ht
    · exact unit_big b i w hb h ht
  · have e : Vm.unitO enc b i = -1 := by unfold Vm.unitO; rw [if_neg h]
    rw [e]
    exact unit_out b i enc w (by omega) (by omega) (by omega)

theorem unit_int (b : ByteArray) (a enc : Int) (w : World) (hb : b.size ≤ 1099511627776) (h0 : 0 ≤ a) (hi : a ≤ b.size + 4) (he : enc = 1 ∨ enc = 2) (ht : TabEnc w) :
    Calls Tryz.prog 164 #[.string b, .int .i64 a, .int .i64 enc] w fun e w' => e = .returned (.int .i32 (Vm.unitO enc b a.toNat)) ∧ Below w.heap.size w w' := by
  obtain ⟨i, rfl⟩ := Int.eq_ofNat_of_zero_le h0
  exact unit_any b i enc w hb (by omega) he ht
end Go.Proofs.YtjbfgnhkgjigpaaGreatDoor
