import Derived.Test.YtoejbngihecafaaGreatDoorApiS
import Derived.Test.YtoejbngihecafaaGreatDoorLd7toApiP
import Derived.Test.YtoejbngihecafaaGreatDoorSv1
namespace Go.Proofs.YtoejbngihecafaaGreatDoor
open Go.RowKit

/-- A loader that was begun in the world w0. -/
def LL (w0 w : World) (q : Nat) (mode : Int) (all : List UInt8) : Prop := ∃ begun enc mark t R v ws, LdS w0.heap.size q mode begun enc mark t R v ws w ∧ Inv mode all begun enc mark t R ws ∧ Below w0.heap.size w0 w ∧ w0.heap.size ≤ q
theorem TrAt.ps {w w' : World} {B q : Nat} {v v' : Value} {ws : List UInt8} {enc : Int} {t : Option Nd} {R : List (Cn × ByteArray)} (h : TrAt w enc t R) (hq : NoNd w q) (hw : Wt w B v ws) (hs : Ps q v w v' w') : TrAt w' enc t R := by
  refine h.kept_ty (fun k c ty hk hty => hs.keep k (heap_lt hk) (fun e => ?_) (fun e => ?_))
  · subst e
    have : tyAt w k = some ty := by unfold tyAt; rw [hk]
    rcases hty with x | x
    · exact hq.1 (by rw [this, x])
    · exact hq.2 (by rw [this, x])
  · rcases hw with ⟨rfl, rfl⟩ | ⟨g, o, cap, cur, rfl, hg, hh, r⟩
    · cases e
    · cases e
      rw [hk] at hh
      injection hh with hh
      injection hh with h1 h2 h3
      rcases hty with x | x
      · rw [x] at h2; exact absurd h2 (by decide)
      · rw [x] at h2; exact absurd h2 (by decide)
theorem DD.ps {w w' : World} {B q : Nat} {mode : Int} {begun : Bool} {enc : Int} {mark : Bool} {t : Option Nd} {R : List (Cn × ByteArray)} {v v' : Value} {ws : List UInt8} (h : LdS B q mode begun enc mark t R v ws w) (hs : Ps q v w v' w') {p : Nat} {enc2 : Int} {mark2 : Bool} {body : ByteArray} (hd : DD w p enc2 mark2 body) : DD w' p enc2 mark2 body := by
  obtain ⟨n, R2, tail, d⟩ := hd
  refine ⟨n, R2, tail, d.keep (hs.keep p d.lt (fun e => ?_) (fun e => ?_)), d.tr.ps h.ld.nb h.wt hs, d.h0, d.h3, d.bytes, d.atoms, d.size⟩
  · subst e
    have h6 := h.ld.c6
    obtain ⟨_, _, hblk⟩ := d.blk
    rw [Lib.cell_of_heap hblk] at h6
    cases h6
  · rcases h.wt with ⟨rfl, rfl⟩ | ⟨g, o, cap, cur, rfl, hg, hh, r⟩
    · cases e
    · cases e
      obtain ⟨_, _, h1⟩ := d.blk
      rw [hh] at h1
      injection h1 with h1
      injection h1 with h1 h2 h3
      exact absurd h2 (by decide)
/-- Blocks of other types than bytes' stay through a push. -/
theorem Ps.other {w w' : World} {B q : Nat} {v v' : Value} {ws : List UInt8} (hw : Wt w B v ws) (hs : Ps q v w v' w') (k : Nat) (hk : k < w.heap.size) (hq : k ≠ q) (ht : tyAt w k ≠ some 5) : w'.heap[k]? = w.heap[k]? := by
  refine hs.keep k hk hq (fun e => ?_)
  rcases hw with ⟨rfl, rfl⟩ | ⟨g, o, cap, cur, rfl, hg, hh, r⟩
  · cases e
  · cases e
    exact ht (by unfold tyAt; rw [hh])
theorem DD.sv {w w' : World} {s : Nat} {bs : List UInt8} {g : Nat} (h : SV w s bs g) (hs : Tn s w w') {p : Nat} {enc2 : Int} {mark2 : Bool} {body : ByteArray} (hd : DD w p enc2 mark2 body) : DD w' p enc2 mark2 body := by
  obtain ⟨n, R2, tail, d⟩ := hd
  obtain ⟨enc, mark, m, R, tl, h⟩ := h
  refine ⟨n, R2, tail, d.keep (hs.keep p d.lt (fun e => ?_)), d.tr.tn2 h.nb hs, d.h0, d.h3, d.bytes, d.atoms, d.size⟩
  subst e
  obtain ⟨_, _, h1⟩ := d.blk
  rw [h.blk] at h1
  injection h1 with h1
  injection h1 with h1 h2 h3
  exact absurd h2 (by decide)
theorem RowStep.ne {q k : Nat} {own : Option Nat} {w w' : World} {t : TypeId} (h : RowStep q own w w') (hk : tyAt w k = some t) (ht : t ≠ 33) : own ≠ some k := fun e => by
  have := (h.ty k e).2
  rw [hk] at this
  exact ht (Option.some.inj this)
theorem TrAt.row {w w' : World} {q : Nat} {own : Option Nat} {enc : Int} {t : Option Nd} {R : List (Cn × ByteArray)} (h : TrAt w enc t R) (hs : RowStep q own w w') : TrAt w' enc t R := by
  refine h.kept_ty (fun k c ty hk hty => hs.keep k (heap_lt hk) (hs.ne (t := ty) (by unfold tyAt; rw [hk]) ?_))
  rcases hty with x | x
  · rw [x]; decide
  · rw [x]; decide
theorem DD.row {w w' : World} {p q : Nat} {enc : Int} {mark : Bool} {body : ByteArray} {own : Option Nat} (hd : DD w p enc mark body) (hs : RowStep q own w w') : DD w' p enc mark body := by
  obtain ⟨n, R, tail, d⟩ := hd
  obtain ⟨_, _, hblk⟩ := d.blk
  exact ⟨n, R, tail, d.keep (hs.keep p d.lt (hs.ne (t := 110) (by unfold tyAt; rw [hblk]) (by decide))), d.tr.row hs, d.h0, d.h3, d.bytes, d.atoms, d.size⟩
theorem LdC.same {w w' : World} {q : Nat} {mode : Int} {begun : Bool} {enc : Int} {mark : Bool} {tv : Value} {tail : ByteArray} {v : Value} (h : LdC w q mode begun enc mark tv tail v) (hk : w'.heap[q]? = w.heap[q]?) : LdC w' q mode begun enc mark tv tail v := by
  have g : ∀ o, w'.cell? ⟨q, o, none⟩ = w.cell? ⟨q, o, none⟩ := fun o => by simp only [World.cell?, hk]
  refine ⟨(g _).trans h.c0, (g _).trans h.c1, (g _).trans h.c2, (g _).trans h.c3, (g _).trans h.c4, (g _).trans h.c5, (g _).trans h.c6, fun j => ?_, ?_⟩
  · rw [← h.fr j]; simp only [World.frozen?, hk]
  · unfold NoNd tyAt; rw [hk]; exact h.nb
theorem LL.row {w0 w w' : World} {q : Nat} {mode : Int} {all : List UInt8} {own : Option Nat} (h : LL w0 w q mode all) (hs : RowStep q own w w') : LL w0 w' q mode all := by
  obtain ⟨begun, enc, mark, t, R, v, ws, h1, h2, h3, h4⟩ := h
  have hq : w'.heap[q]? = w.heap[q]? := hs.keep q h1.ld.lt (fun e => by have := (hs.ty q e).1; omega)
  refine ⟨begun, enc, mark, t, R, v, ws, ⟨h1.ld.same hq, h1.wt.kept (fun k hk => hs.keep k (h1.wt.blk_lt hk).1 ?_), h1.nq, h1.tr.row hs⟩, h2, h3.trans ⟨hs.os, hs.tape, hs.output, hs.size, fun k hk => hs.keep k (Nat.lt_of_lt_of_le hk h3.size) (fun e => by have := (hs.ty k e).1; omega)⟩, h4⟩
  rcases h1.wt with ⟨rfl, rfl⟩ | ⟨g, o, cap, cur, rfl, hg, hh, r⟩
  · cases hk
  · cases hk
    exact hs.ne (t := 5) (by unfold tyAt; rw [hh]) (by decide)
theorem apiS : ApiS Tabs DD LL SV where
  base := api
  begin_ := fun mode w ht h0 h7 => (begin_ok mode w h0 h7).mono fun e w' ⟨he, hw⟩ => by
    have hba := (Below.refl w.heap.size w).alloc (Nat.le_refl _) (.cells #[.int .i64 mode, .bool false, .int .i64 0, .bool false, .nilIface, .string ⟨#[]⟩, .slice none 0 0] 96)
    subst hw
    exact ⟨_, he, false, 0, false, none, [], .slice none 0 0, [], ⟨LdC.of_heap (heap_alloc_new w _) (by decide) (by decide), .inl ⟨rfl, rfl⟩, (by intro e; cases e), ⟨fun n hn => (by cases hn), fun _ => rfl, fun x hx => (by cases hx)⟩⟩, .inl ⟨rfl, rfl, rfl, rfl⟩, hba, Nat.le_refl _⟩
  begin_no := fun mode w h => (begin_no mode w h).mono fun e w' ⟨he, hw⟩ => ⟨he, by rw [hw]; exact Below.refl _ _⟩
  lq := fun ⟨_, _, _, _, _, _, _, h1, _, _, h4⟩ => ⟨h4, h1.ld.lt⟩
  lbelow := fun ⟨_, _, _, _, _, _, _, _, _, h, _⟩ => h
  llow := fun ⟨begun, enc, mark, t, R, v, ws, h1, h2, h3, h4⟩ hb => ⟨begun, enc, mark, t, R, v, ws, h1.low hb, h2, h3.trans (hb.mono h3.size), h4⟩
  lrow := fun h hs => LL.row h hs
  drow := fun h hs => DD.row h hs
  push := fun w0 w q mode all b ht ⟨begun, enc, mark, t, R, v, ws, h1, h2, h3, h4⟩ h0 h7 hl =>
    (push_any w0.heap.size q mode enc begun mark t R v ws all b w0 w ht h4 (Nat.le_refl _) h3.size h3 h1 h2 hl h0 h7).mono fun e w' ⟨begun', enc', mark', t', R', v', ws', he, hl', hi', hp'⟩ =>
      ⟨he, ⟨begun', enc', mark', t', R', v', ws', hl', hi', hp'.below h1.wt h4 (Nat.le_refl _) h3, h4⟩, fun p enc2 mark2 body hd => DD.ps h1 hp' hd, fun k hk hq ht => hp'.other h1.wt k hk hq ht⟩
  end_ := fun w0 w q mode b ht ⟨begun, enc, mark, t, R, v, ws, h1, h2, h3, h4⟩ h0 h7 hl =>
    (end_any w0.heap.size q mode enc begun mark t R v ws b w (ht.below h3) h1 h2 hl h0 h7).mono fun e w' ⟨p, he, _, hd, hb⟩ => ⟨p, he, hd, hb⟩
  saver := docSaver
  slow := fun ⟨enc, mark, n, R, tail, h⟩ hb => ⟨enc, mark, n, R, tail, h.low hb⟩
  fill := fun s bs g c w ht hs => (fill_any s bs g c w ht hs).mono fun e w' ⟨he, hs', htn⟩ => by
    refine ⟨he, hs', ?_, fun p enc mark body hd => DD.sv hs htn hd, fun w0 h0 hb => low_tn hb h0 htn⟩
    obtain ⟨enc, mark, n, R, tail, h⟩ := hs
    exact ht.tn h.at_.1 htn
end Go.Proofs.YtoejbngihecafaaGreatDoor
