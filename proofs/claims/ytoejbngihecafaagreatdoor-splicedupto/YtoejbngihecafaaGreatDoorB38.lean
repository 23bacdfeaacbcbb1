import Derived.Test.YtoejbngihecafaaGreatDoorB35
import Derived.Test.YtoejbngihecafaaGreatDoorB36
import Derived.Test.YtoejbngihecafaaGreatDoorB26
import Derived.Test.YtoejbngihecafaaGreatDoorB32
import Derived.Test.YtoejbngihecafaaGreatDoorB25
namespace Go.Proofs.YtoejbngihecafaaGreatDoor
open Go.RowKit
def kc (k:Kp):List Value:=[.int .i64 k.enc,.bool k.mark,.string k.body]
def kcs (l:List Kp):List Value:=l.flatMap kc
def Kr (B:Nat) (w:World) (v:Value) (l:List Kp):Prop :=
 (v=.slice none 0 0/\l=[])\/∃g o cap cur,v=.slice (some ⟨g,o,none⟩) l.length cap/\B<=g/\w.heap[g]?=some (.cells cur 99 (0,0))/\o+cap * 3<=cur.size/\l.length<=cap/\cap<=maxLen/\(cur.toList.drop o).take (l.length * 3)=kcs l
end Go.Proofs.YtoejbngihecafaaGreatDoor
namespace Go.Proofs.YtoejbngihecafaaGreatDoor
open Go.RowKit
structure St where
 k:Kp
 O:List Kp
 U:List Kp
def pushK (O:List Kp) (x:Kp):List Kp:=(if O.length=30 then O.drop 1 else O)++[x]
structure Turn (F F':Nat->Prop) (w w':World):Prop where
 os:w'.os=w.os
 tape:w'.tape=w.tape
 output:w'.output=w.output
 size:w.heap.size<=w'.heap.size
 keep:∀i,i<w.heap.size->¬F i->w'.heap[i]?=w.heap[i]?
 new:∀i,F' i->F i\/w.heap.size<=i
theorem Turn.trans {F1 F2 F3:Nat->Prop} {w1 w2 w3:World} (h:Turn F1 F2 w1 w2) (k:Turn F2 F3 w2 w3):Turn F1 F3 w1 w3 :=
 ⟨k.os.trans h.os,k.tape.trans h.tape,k.output.trans h.output,Nat.le_trans h.size k.size,
  fun i h1 h2=>(k.keep i (Nat.lt_of_lt_of_le h1 h.size) (fun e=>by
   rcases h.new i e with x|x
   ·exact h2 x
   ·omega)).trans (h.keep i h1 h2),
  fun g hg=>by
   have:=h.size
   rcases k.new g hg with x|x
   ·exact h.new g x
   ·exact .inr (by omega)⟩
theorem Turn.of_below {F:Nat->Prop} {w w':World} (h:Below w.heap.size w w'):Turn F F w w':=⟨h.os,h.tape,h.output,h.size,fun k h1 _=>h.block k h1,fun _ h=>.inl h⟩
theorem Turn.below {F F':Nat->Prop} {w0 w w':World} (h:Turn F F' w w') (hb:Below w0.heap.size w0 w) (hF:∀i,F i->w0.heap.size<=i):Below w0.heap.size w0 w' :=
 ⟨h.os.trans hb.os,h.tape.trans hb.tape,h.output.trans hb.output,Nat.le_trans hb.size h.size,fun k hk=>(h.keep k (Nat.lt_of_lt_of_le hk hb.size) (fun e=>by have:=hF k e;omega)).trans (hb.block k hk)⟩
end Go.Proofs.YtoejbngihecafaaGreatDoor
namespace Go.Proofs.YtoejbngihecafaaGreatDoor
open Go.RowKit
structure RHs (B:Nat) (w:World) (r:Nat) (s:St) (vo vb:Value):Prop where
 blk:w.heap[r]?=some (.cells #[.int .i64 s.k.enc,.bool s.k.mark,.string s.k.body,vo,vb] 103)
 ho:Kr B w vo s.O
 hb:Kr B w vb s.U
 ne:∀g,wblk vo=some g->wblk vb≠some g
 rB:B<=r
def fp (r:Nat) (vo vb:Value) (i:Nat):Prop:=i=r\/wblk vo=some i\/wblk vb=some i
def RH (B:Nat) (w:World) (r:Nat) (s:St) (G:Nat->Prop):Prop:=∃vo vb,RHs B w r s vo vb/\G=fp r vo vb
section
variable {B:Nat} {w w':World} {r:Nat} {s:St} {vo vb:Value} {G:Nat->Prop}
end
end Go.Proofs.YtoejbngihecafaaGreatDoor
namespace Go.Proofs.YtoejbngihecafaaGreatDoor
open Go.RowKit
end Go.Proofs.YtoejbngihecafaaGreatDoor
