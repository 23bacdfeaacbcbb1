import Derived.Test.YtoejbngihecafabGreatDoorProg
import Derived.WalkKit
import Derived.WalkSpells
import Derived.WalkLawsBesides
import Derived.Deep.QuietTactic
import Derived.BigQuiet
import Derived.Deep.RegionHeld3
import Derived.Laws.BytesArg
import Derived.OwnWalk
import Derived.Maps.AppendAt
import Derived.RangeFuncBox
import Derived.Lib.Strings
import Derived.Lib.IndexBytes
import Derived.Deep.Heap
import Derived.Lib.AppendStr
import Derived.Lib.SlBytesRow
import Derived.Test.YtoejbngihecafabGreatDoorB2
import Derived.Test.YtoejbngihecafabGreatDoorB1
namespace Go.Proofs.YtoejbngihecafabGreatDoor
open Go.RowKit
theorem conv1 (w:World) (a:Int):(convert 71 9 (.slice (some ⟨w.heap.size,0,none⟩) 1 1)).run Tryz.prog (w.alloc (.cells #[.int .u8 a] 5))=.ok (.string (strOfNums [a])) (w.alloc (.cells #[.int .u8 a] 5)) :=
 run_convert_bytes_arg _ 71 5 Tryz.underlying71 Tryz.underlying5 w.heap.size 0 1 1 [a] rfl (fun i hi=>by
  have:i=0:=by omega
  subst this;simp) 9 Tryz.underlying9
theorem conv2 (w:World) (a b:Int):(convert 71 9 (.slice (some ⟨w.heap.size,0,none⟩) 2 2)).run Tryz.prog (w.alloc (.cells #[.int .u8 a,.int .u8 b] 5))=.ok (.string (strOfNums [a,b])) (w.alloc (.cells #[.int .u8 a,.int .u8 b] 5)) :=
 run_convert_bytes_arg _ 71 5 Tryz.underlying71 Tryz.underlying5 w.heap.size 0 2 2 [a,b] rfl (fun i hi=>by
  have:i=0\/i=1:=by omega
  rcases this with rfl|rfl<;>simp) 9 Tryz.underlying9
theorem conv3 (w:World) (a b c:Int):(convert 71 9 (.slice (some ⟨w.heap.size,0,none⟩) 3 3)).run Tryz.prog (w.alloc (.cells #[.int .u8 a,.int .u8 b,.int .u8 c] 5))=.ok (.string (strOfNums [a,b,c])) (w.alloc (.cells #[.int .u8 a,.int .u8 b,.int .u8 c] 5)) :=
 run_convert_bytes_arg _ 71 5 Tryz.underlying71 Tryz.underlying5 w.heap.size 0 3 3 [a,b,c] rfl (fun i hi=>by
  have:i=0\/i=1\/i=2:=by omega
  rcases this with rfl|rfl|rfl<;>simp) 9 Tryz.underlying9
theorem conv4 (w:World) (a b c d:Int):(convert 71 9 (.slice (some ⟨w.heap.size,0,none⟩) 4 4)).run Tryz.prog (w.alloc (.cells #[.int .u8 a,.int .u8 b,.int .u8 c,.int .u8 d] 5))=.ok (.string (strOfNums [a,b,c,d])) (w.alloc (.cells #[.int .u8 a,.int .u8 b,.int .u8 c,.int .u8 d] 5)) :=
 run_convert_bytes_arg _ 71 5 Tryz.underlying71 Tryz.underlying5 w.heap.size 0 4 4 [a,b,c,d] rfl (fun i hi=>by
  have:i=0\/i=1\/i=2\/i=3:=by omega
  rcases this with rfl|rfl|rfl|rfl<;>simp) 9 Tryz.underlying9
theorem ret_str {a b:ByteArray} (h:a=b):Ending.returned (.string a)=.returned (.string b):=by rw[h]
end Go.Proofs.YtoejbngihecafabGreatDoor
namespace Go.Proofs.YtoejbngihecafabGreatDoor
open Go.RowKit
theorem Z2 {p:Prop} (h:p):Hid p:=h
end Go.Proofs.YtoejbngihecafabGreatDoor
namespace Go.Proofs.YtoejbngihecafabGreatDoor
open Go.RowKit
theorem sc_eq (W:World) (B i:Nat) (v u:Value) (h:W.cell? ⟨B,i,none⟩=some u):(W.setCell ⟨B,i,none⟩ v).cell? ⟨B,i,none⟩=some v:=World.cell?_setCell_same' W _ v (by rw[h];rfl)
def rdVal (enc:Int) (s:ByteArray) (i:Nat):Value :=
 match Vm.rd enc (s.data.toList.drop i) with
 |none=>.tuple #[.agg #[.int .i64 0,.bool false,.int .i64 0,.int .i64 i,.int .i64 ((i:Int)+1)],.bool false]
 |some x=>.tuple #[.agg #[.int .i64 x.1,.bool x.2.1,.int .i64 0,.int .i64 i,.int .i64 ((i:Int)+x.2.2)],.bool true]
end Go.Proofs.YtoejbngihecafabGreatDoor
namespace Go.Proofs.YtoejbngihecafabGreatDoor
open Go.RowKit
structure Bx5 (w:World) (B:Nat) (v0 v1 v2 v3 v4:Value):Prop where
 c:w.cell? ⟨B,0,none⟩=some v0/\w.cell? ⟨B,1,none⟩=some v1/\w.cell? ⟨B,2,none⟩=some v2/\w.cell? ⟨B,3,none⟩=some v3/\w.cell? ⟨B,4,none⟩=some v4
 f:w.frozen? ⟨B,0,none⟩=false/\w.frozen? ⟨B,1,none⟩=false/\w.frozen? ⟨B,2,none⟩=false/\w.frozen? ⟨B,3,none⟩=false/\w.frozen? ⟨B,4,none⟩=false
end Go.Proofs.YtoejbngihecafabGreatDoor
namespace Go.Proofs.YtoejbngihecafabGreatDoor
open Go.RowKit
def cellsRA (a:Vm.RA):List Value:=[.int .i64 a.1,.bool a.2.1,.int .i64 a.2.2.1,.int .i64 a.2.2.2.1,.int .i64 a.2.2.2.2]
def flatRA (L:List Vm.RA):List Value:=L.flatMap cellsRA
end Go.Proofs.YtoejbngihecafabGreatDoor
namespace Go.Proofs.YtoejbngihecafabGreatDoor
open Go.RowKit
theorem markB_3:markB 3=⟨#[]⟩:=rfl
end Go.Proofs.YtoejbngihecafabGreatDoor
namespace Go.Proofs.YtoejbngihecafabGreatDoor
open Go.RowKit
def ofMark (s:ByteArray) (enc:Int):Bool:=decide ((markB enc).size≠0)&&(markB enc).data.toList.isPrefixOf s.data.toList
def ofBody (s:ByteArray) (enc:Int):ByteArray:=if ofMark s enc then s.extract (markB enc).size s.size else s
def bytesOf (enc:Int) (mark:Bool) (body:ByteArray):ByteArray:=if mark then markB enc++body else body
theorem markB_size (enc:Int):(markB enc).size<=3:=by
 unfold markB;(repeat' split)<;>decide
theorem ofMark_size {s:ByteArray} {enc:Int} (h:ofMark s enc=true):(markB enc).size<=s.size:=by
 unfold ofMark at h
 simp only[Bool.and_eq_true] at h
 exact (List.isPrefixOf_iff_prefix.1 h.2).length_le
theorem ofBody_size (s:ByteArray) (enc:Int):(ofBody s enc).size<=s.size:=by
 unfold ofBody
 split
 ·rw[ByteArray.size_extract];omega
 ·exact Nat.le_refl _
theorem bytes_ext {a b:ByteArray} (h:a.data.toList=b.data.toList):a=b:=by
 cases a;cases b;simp at h;simp [h]
theorem append_data (a b:ByteArray):(a++b).data.toList=a.data.toList++b.data.toList:=by simp
structure Bx3 (w:World) (B:Nat) (v0 v1 v2:Value):Prop where
 c:w.cell? ⟨B,0,none⟩=some v0/\w.cell? ⟨B,1,none⟩=some v1/\w.cell? ⟨B,2,none⟩=some v2
 f:w.frozen? ⟨B,0,none⟩=false/\w.frozen? ⟨B,1,none⟩=false/\w.frozen? ⟨B,2,none⟩=false
end Go.Proofs.YtoejbngihecafabGreatDoor
namespace Go.Proofs.YtoejbngihecafabGreatDoor
open Go.RowKit
def sniffTo (s:ByteArray) (e0:Int):Nat->Int
 |0=>e0
 |k+1=>if ofMark s k then k else sniffTo s e0 k
def encOf (s:ByteArray) (mode:Int):Int:=if 4<=mode then sniffTo s (mode%4) 3 else mode%4
theorem sniffTo_bd (s:ByteArray) (e0:Int) (h0:0<=e0) (h3:e0<=3):∀k,k<=3->0<=sniffTo s e0 k/\sniffTo s e0 k<=3
 |0,_=>⟨h0,h3⟩
 |k+1,hk=>by
  unfold sniffTo
  split
  ·omega
  ·exact sniffTo_bd s e0 h0 h3 k (by omega)
def tyAt (w:World) (q:Nat):Option TypeId:=match w.heap[q]? with
 |some (.cells _ t _)=>some t
 |_=>none
theorem tyAt_set (w:World) (a:Addr) (v:Value) (q:Nat):tyAt (w.setCell a v) q=tyAt w q:=by
 unfold tyAt
 by_cases h:q=a.block
 ·subst h
  simp only[World.setCell,Array.getElem?_modify,if_true]
  cases hh:w.heap[a.block]? with
  |none=>rfl
  |some o=>cases o<;>rfl
 ·rw[Deep.blk_setCell_other w a v q h]
theorem tyAt_low {w w':World} {q:Nat} (hq:q<w.heap.size) (hb:Below w.heap.size w w'):tyAt w' q=tyAt w q:=by
 unfold tyAt;rw[hb.block q hq]
structure RDoc (w:World) (B:Nat) (enc:Int) (mark:Bool) (body:ByteArray):Prop where
 c0:w.cell? ⟨B,0,none⟩=some (.int .i64 enc)
 c1:w.cell? ⟨B,1,none⟩=some (.bool mark)
 c2:w.cell? ⟨B,2,none⟩=some (.string body)
 ty:tyAt w B≠some 5
def stableB (enc:Int) (mark:Bool) (body:ByteArray):Bool:=encOf (bytesOf enc mark body) (4+enc)==enc
end Go.Proofs.YtoejbngihecafabGreatDoor
namespace Go.Proofs.YtoejbngihecafabGreatDoor
open Go.RowKit
theorem strOf_append (a b:List Int):strOfNums (a++b)=strOfNums a++strOfNums b:=by
 apply bytes_ext
 rw[append_data]
 simp [strOfNums]
theorem Tryz.infoByte:(Tryz.prog.info? 5).map (fun i=>(i.zero,i.size,i.bytes))=some (some (.int .u8 0),1,1):=by kernel_rfl
def textTo (A:List Vm.At) (k:Nat):ByteArray:=strOfNums (Vm.textL (A.take k))
def OwnB (w:World) (base:Nat) (p:Option Addr) (cap:Nat) (t:ByteArray):Prop:=w.ownsRow base 5 1 (.slice p t.size cap) t.size (Lib.strCells t)
end Go.Proofs.YtoejbngihecafabGreatDoor
namespace Vm
def cntK (A:List At) (j:Int):Nat:=(A.filter (fun x=>x.1==j)).length
theorem cntK_snoc (A:List At) (x:At) (j:Int):cntK (A++[x]) j=cntK A j+if x.1=j then 1 else 0:=by
 unfold cntK
 rw[List.filter_append,List.length_append]
 by_cases h:x.1=j<;>simp [h]
theorem cntK_le (A:List At) (j:Int):cntK A j<=A.length:=List.length_filter_le _ _
def endingOf (a b c:Nat):Int:=if (if a<b then b else a)<c then 2 else if a<b then 1 else 0
end Vm
namespace Go.Proofs.YtoejbngihecafabGreatDoor
open Go.RowKit
end Go.Proofs.YtoejbngihecafabGreatDoor
namespace Vm
def bytesA (A:List At):Nat:=(A.map lenA).sum
def unitsA (A:List At):Nat:=(A.map unA).sum
def linesA (A:List At):Nat:=(A.filter (fun x=>decide (x.1<=2))).length
theorem bytesA_take {A:List At} {k:Nat} {x:At} (h:A[k]?=some x):bytesA (A.take (k+1))=bytesA (A.take k)+lenA x:=by
 rw[List.take_add_one,h];simp [bytesA]
theorem bytesA_le (A:List At):bytesA A<=4 * A.length:=by
 induction A with
 |nil=>simp [bytesA]
 |cons a A ih =>
  have h1:lenA a<=4:=by have:=utfLen_cases (chA a);unfold lenA;omega
  have h2:bytesA (a :: A)=lenA a+bytesA A:=by simp [bytesA]
  rw[h2,List.length_cons];omega
theorem unitsA_le (A:List At):unitsA A<=2 * A.length:=by
 induction A with
 |nil=>simp [unitsA]
 |cons a A ih =>
  have h1:unA a<=2:=by unfold unA;split<;>omega
  have h2:unitsA (a :: A)=unA a+unitsA A:=by simp [unitsA]
  rw[h2,List.length_cons];omega
end Vm
namespace Go.Proofs.YtoejbngihecafabGreatDoor
open Go.RowKit
structure Bx9 (w:World) (B:Nat) (v0 v1 v2 v3 v4 v5 v6 v7 v8:Value):Prop where
 c0:w.cell? ⟨B,0,none⟩=some v0
 c1:w.cell? ⟨B,1,none⟩=some v1
 c2:w.cell? ⟨B,2,none⟩=some v2
 c3:w.cell? ⟨B,3,none⟩=some v3
 c4:w.cell? ⟨B,4,none⟩=some v4
 c5:w.cell? ⟨B,5,none⟩=some v5
 c6:w.cell? ⟨B,6,none⟩=some v6
 c7:w.cell? ⟨B,7,none⟩=some v7
 c8:w.cell? ⟨B,8,none⟩=some v8
 f:∀j,w.frozen? ⟨B,j,none⟩=false
theorem Bx9.below {w w':World} {B:Nat} {v0 v1 v2 v3 v4 v5 v6 v7 v8:Value} (h:Bx9 w B v0 v1 v2 v3 v4 v5 v6 v7 v8) (hb:Below w.heap.size w w'):Bx9 w' B v0 v1 v2 v3 v4 v5 v6 v7 v8:=by
 have hB:=Z3 h.c0
 have g:∀o,w'.cell? ⟨B,o,none⟩=w.cell? ⟨B,o,none⟩:=fun o=>hb.cell (p:=⟨B,o,none⟩) hB
 exact⟨(g _).trans h.c0,(g _).trans h.c1,(g _).trans h.c2,(g _).trans h.c3,(g _).trans h.c4,(g _).trans h.c5,(g _).trans h.c6,(g _).trans h.c7,(g _).trans h.c8,fun j=>(hb.frozen (p:=⟨B,j,none⟩) hB).trans (h.f j)⟩
theorem Bx9.new (w:World) (t:TypeId) (v0 v1 v2 v3 v4 v5 v6 v7 v8:Value):Bx9 (w.alloc (.cells #[v0,v1,v2,v3,v4,v5,v6,v7,v8] t)) w.heap.size v0 v1 v2 v3 v4 v5 v6 v7 v8 :=
 ⟨by simp,by simp,by simp,by simp,by simp,by simp,by simp,by simp,by simp,fun j=>by simp [go_sem]⟩
variable {w:World} {B:Nat} {v0 v1 v2 v3 v4 v5 v6 v7 v8:Value}
end Go.Proofs.YtoejbngihecafabGreatDoor
