import Derived.Test.YtoejbngihecafaaGreatDoorProg
import Derived.WalkKit
import Derived.WalkSpells
import Derived.WalkLawsBesides
import Derived.Deep.QuietTactic
import Derived.BigQuiet
import Derived.Test.YtoejbngihecafaaGreatDoorC15
import Derived.Test.YtoejbngihecafaaGreatDoorC9
import Derived.Test.YtoejbngihecafaaGreatDoorC1
import Derived.Test.YtoejbngihecafaaGreatDoorC0
set_option maxRecDepth 100000
set_option maxHeartbeats 1000000
open Go.Proofs.Tryz
namespace Go.Proofs.YtoejbngihecafaaGreatDoor
open Go.RowKit
variable {B b:Nat} {bs:List Value} {w:World}
def Nd.wf:Nd->Nat
 |.leaf _ _ _=>202
 |.inner _ _ _ _ _=>209
theorem Qfg (f : Nat) (v : Value) (w : World) : (method (f + 1) 184 v "vellum/atoms.write").run prog w = .ok (202, v) w := by kernel_rfl
theorem QeR (f : Nat) (v : Value) (w : World) : (method (f + 1) 215 v "vellum/atoms.write").run prog w = .ok (209, v) w := by kernel_rfl
theorem QbT (n : Nd) (f : Nat) (v : Value) (w : World) : (method (f + 1) n.ty v "vellum/atoms.write").run prog w = .ok (n.wf, v) w := by
 cases n
 ·exact Qfg f v w
 exact QeR f v w
theorem Ql2 (h:Bd B b bs w):Bd B b bs w.drew:=h
theorem QgQ (B b:Nat) (bs:List Value) (Bl:Nat) (c:Cn) (s:ByteArray) (f t:Int) (w:World) (hl:(Nd.leaf Bl c s).In w) (hc:c.body=s.size) (hd:Bd B b bs w) (hBw:B<=w.heap.size)
  (hlen:bs.length+s.size<=140737488355328) (_h1:-4611686018427387904<=f) (h2:t<=4611686018427387904) (hft:f<=t) (hin:f<s.size) (h0:0<t) (hBl:Bl<B) :
  Calls prog 202 #[.pointer (some ⟨Bl,0,none⟩),.pointer (some ⟨b,0,none⟩),.int .i64 f,.int .i64 t] w fun e w'=>e=.returned (.tuple #[])/\Bd B b (bs++Lib.byteCells (Vm.partL s.data.toList f t)) w'/\Below B w w':=by
 have c0:=C0 hl
 have c9:w.cell? ⟨Bl,9,none⟩=some (.string s):=by rw[Lib.cell_of_heap hl];rfl
 have hbz:=Z4 hl
 rw[hc] at c0
 clear hl hc
 have HD:=Z1 hd
 clear hd
 have x1:(0:Int)<=max f 0:=by omega
 have x2:max f 0<=min t (s.size:Int):=by omega
 have x3:(0:Int)<=min t (s.size:Int):=by omega
 have x4:min t (s.size:Int)<=(s.size:Int):=by omega
 have HW:=Z1 (fun w' (h:Bd B b bs w') (hz:B<=w'.heap.size)=>QiB B b bs (s.extract (max f 0).toNat (min t (s.size:Int)).toNat) w' h (by rw[ByteArray.size_extract];omega) hz)
 have HX:=Z1 (Vm.Qcw s (max f 0).toNat (min t (s.size:Int)).toNat f t (by omega) (by omega))
 go_enter func202,ntmps202
 go_wp2_with fail
 go_region_held3 (fun w'=>w'.cell? ⟨Bl,0,none⟩=some (.int .i64 s.size)/\w'.cell? ⟨Bl,9,none⟩=some (.string s)) (first|exact⟨k0,k9⟩|go_keep)
  (first
   |(go_at_call 87;refine (HW.o _ (Ql2 HD.o) hBw).mono ?_;rintro e w1 ⟨rfl,hd1,hb1⟩;have k0:w1.cell? ⟨Bl,0,none⟩=some (.int .i64 s.size):=(hb1.cell (p:=⟨Bl,0,none⟩) hBl).trans c0;have k9:w1.cell? ⟨Bl,9,none⟩=some (.string s):=(hb1.cell (p:=⟨Bl,9,none⟩) hBl).trans c9))
 all_goals
  go_wp2_with fail;go_returns;refine⟨rfl,?_,⟨hb1.os,hb1.tape,hb1.output,hb1.size,hb1.block⟩⟩;rw[<-HX.o];exact hd1
theorem Qdi (b:Nat) (Bl:Nat) (c:Cn) (s:ByteArray) (f t:Int) (w:World) (hl:(Nd.leaf Bl c s).In w) (hc:c.body=s.size) (h:(s.size:Int)<=f\/t<=0) :
  Calls prog 202 #[.pointer (some ⟨Bl,0,none⟩),.pointer (some ⟨b,0,none⟩),.int .i64 f,.int .i64 t] w fun e w'=>e=.returned (.tuple #[])/\w'=w:=by
 have c0:=C0 hl
 have hbz:=Z4 hl
 rw[hc] at c0
 clear hl hc
 by_cases hf:(s.size:Int)<=f
 ·have hf':¬f<(s.size:Int):=by omega
  clear h;go_enter func202,ntmps202;go_wp2_with fail;go_returns;exact⟨rfl,rfl⟩
 have ht:t<=0:=h.resolve_left hf
 have hf':f<(s.size:Int):=by omega
 have ht':¬0<t:=by omega
 clear h hf
 go_enter func202,ntmps202
 go_wp2_with fail
 go_returns
 exact⟨rfl,rfl⟩
theorem QcY (b:Nat) (Bl:Nat) (c:Cn) (k:Nat) (l r:Nd) (f t:Int) (w:World) (hl:(Nd.inner Bl c k l r).In w) (h:(c.body:Int)<=f\/t<=0) :
  Calls prog 209 #[.pointer (some ⟨Bl,0,none⟩),.pointer (some ⟨b,0,none⟩),.int .i64 f,.int .i64 t] w fun e w'=>e=.returned (.tuple #[])/\w'=w:=by
 have c0:=C0 hl.1
 have hbz:=Z4 hl.1
 clear hl
 by_cases hf:(c.body:Int)<=f
 ·have hf':¬f<(c.body:Int):=by omega
  clear h;go_enter func209,ntmps209;go_wp2_with fail;go_returns;exact⟨rfl,rfl⟩
 have ht:t<=0:=h.resolve_left hf
 have hf':f<(c.body:Int):=by omega
 have ht':¬0<t:=by omega
 clear h hf
 go_enter func209,ntmps209
 go_wp2_with fail
 go_returns
 exact⟨rfl,rfl⟩
def Writes (n:Nd) (B:Nat):Prop:=∀(b:Nat) (bs:List Value) (f t:Int) (w:World),n.In w->Bd B b bs w->B<=w.heap.size->bs.length+(rowB n.row).length<=140737488355328->((rowB n.row).length:Int) - 4611686018427387904<=f->t<=4611686018427387904->f<=t ->
 Calls prog n.wf #[.pointer (some ⟨n.blk,0,none⟩),.pointer (some ⟨b,0,none⟩),.int .i64 f,.int .i64 t] w fun e w'=>e=.returned (.tuple #[])/\Bd B b (bs++Lib.byteCells (Vm.partL (rowB n.row) f t)) w'/\Below B w w'
theorem Qa8 :Lib.byteCells []=[]:=rfl
theorem Qjd (Bl:Nat) (c:Cn) (s:ByteArray) (B:Nat) (hB:Bl<B) (hc:c.body=s.size):Writes (.leaf Bl c s) B:=by
 intro b bs f t w hl hd hBw hlen h1 h2 hft;have hr:rowB (Nd.leaf Bl c s).row=s.data.toList:=by simp [rowB,Nd.row]
 rw[hr] at hlen h1 ⊢;by_cases h:(s.size:Int)<=f\/t<=0
 ·have hp:Vm.partL s.data.toList f t=[]:=Vm.QdR (h.elim (fun x=>.inl x) (fun x=>.inr (.inl x)));rw[hp,Qa8,List.append_nil];refine (Qdi b Bl c s f t w hl hc h).mono ?_;rintro e w' ⟨rfl,rfl⟩;exact⟨rfl,hd,Below.refl _ _⟩
 exact QgQ B b bs Bl c s f t w hl hc hd hBw hlen (by omega) h2 hft (by omega) (by omega) hB
open Go.RowKit Go.Vit
theorem Bd.low {w':World} (h:Bd B b bs w) (hb:Below w.heap.size w w'):Bd B b bs w':=by
 have hbz:b<w.heap.size:=by
  obtain⟨_,v,hbk,_⟩:=h;exact Z4 hbk
 exact h.it (ItStep.of_below hb (Z6 _) (fun k hk=>(h.mem k hk).2)) hbz
theorem Qcg (n:Nd) (args:Array Value) (w:World):(callFunc n.wf args).run prog w=.ok (.enter n.wf args) w:=by
 cases n
 ·exact enters_of func202 (by kernel_rfl) rfl args w
 exact enters_of func209 (by kernel_rfl) rfl args w
theorem Qf8 (B:Nat) (Bl:Nat) (c:Cn) (k:Nat) (l r:Nd) (hu:(Nd.inner Bl c k l r).Und B) (hlc:l.cn.body=(rowB l.row).length) (ihl:Writes l B) (ihr:Writes r B)
  (b:Nat) (bs:List Value) (f t:Int) (w:World) (hl:(Nd.inner Bl c k l r).In w) (hd:Bd B b bs w) (hBw:B<=w.heap.size) (hlen:bs.length+((rowB l.row).length+(rowB r.row).length)<=140737488355328) (h1:(((rowB l.row).length+(rowB r.row).length:Nat):Int) - 4611686018427387904<=f) (h2:t<=4611686018427387904) (hft:f<=t) (hf':f<(c.body:Int)) (h0:0<t) :
  Calls prog 209 #[.pointer (some ⟨Bl,0,none⟩),.pointer (some ⟨b,0,none⟩),.int .i64 f,.int .i64 t] w fun e w'=>e=.returned (.tuple #[]) /\
   Bd B b (bs++Lib.byteCells (Vm.partL (rowB l.row) f t)++Lib.byteCells (Vm.partL (rowB r.row) (f - (rowB l.row).length) (t - (rowB l.row).length))) w'/\Below B w w':=by
 have c0:=C0 hl.1
 obtain⟨p9,p10⟩:=Qal hl
 have hbz:=Z4 hl.1
 have hw1:=Qcg l
 have hw2:=Qcg r
 have hm1:=QbT l 362
 have hm2:=QbT r 362
 have fb:=QaA
 have HL:=Z1 hl
 have HD:=Z1 hd
 clear hl hd
 go_enter func209,ntmps209
 go_wp2_with fail
 rw[Qa0 l 362 _ HL.o.2.1]
 go_wp2_with fail
 refine (Qbn l.cn _).mono ?_
 rintro e w1 ⟨rfl,hb1⟩
 have HL1:=Z1 (Nd.low hb1 HL.o)
 have HD1:=Z1 (HD.o.low hb1)
 have hs1:=hb1.size
 have HB1:=Z1 (hb1.mono hBw)
 clear c0 p9 p10 hb1 HL HD
 obtain⟨p9,p10⟩:=Qal HL1.o
 have hbz1:=Z4 HL1.o.1
 generalize hlcn:l.cn=lc at *
 obtain⟨d0,d1,d2,d3,d4,d5,d6,d7⟩:=lc
 simp only[Cn.val] at hlc ⊢
 clear hlcn
 go_wp2_with fail
 refine (ihl b bs f t w1 HL1.o.2.1 HD1.o (by omega) (by omega) (by omega) h2 hft).mono ?_
 rintro e w2 ⟨rfl,hd2,hb2⟩
 have HL2:=Z1 (Nd.kept hb2.block hu HL1.o)
 have HD2:=Z1 hd2
 have hs2:=hb2.size
 have HB2:=Z1 (HB1.o.trans hb2)
 clear p9 p10 hb2 HL1 HD1 hd2 HB1
 obtain⟨p9,p10⟩:=Qal HL2.o
 have hbz2:=Z4 HL2.o.1
 have hpl:=Vm.Qcn (rowB l.row) f t
 have hbl:=Lib.byteCells_length (Vm.partL (rowB l.row) f t)
 have hq:=ihr b (bs++Lib.byteCells (Vm.partL (rowB l.row) f t)) (f - (rowB l.row).length) (t - (rowB l.row).length) w2 HL2.o.2.2 HD2.o (by omega) (by rw[List.length_append,hbl];omega) (by omega) (by omega) (by omega)
 have HR:=Z1 hq
 clear hq hpl hbl
 generalize hah:(rowB l.row).length=ah at *
 have HAH:=Z1 hah
 clear hah
 go_wp2_with fail
 refine HR.o.mono ?_
 rintro e w3 ⟨rfl,hd3,hb3⟩
 have HD3:=Z1 hd3
 have HB3:=Z1 (HB2.o.trans hb3)
 clear hd3 hb3 HR
 go_wp2_with fail
 go_returns
 rw[HAH.o]
 exact⟨rfl,HD3.o,HB3.o⟩
theorem Qec (B:Nat):∀(n:Nd) (enc:Int),n.Und B->n.Ok->(∀x∈n.row,LeafOk enc x)->Writes n B
 |.leaf Bl c s,_,hu,ho,_=>Qjd Bl c s B hu ho
 |.inner Bl c k l r,enc,hu,ho,hr=>by
  have ol:=ho.2.2.1
  have or:=ho.2.2.2
  have rl:∀x∈l.row,LeafOk enc x:=fun x hx=>hr x (by simp [Nd.row,hx])
  have rr:∀x∈r.row,LeafOk enc x:=fun x hx=>hr x (by simp [Nd.row,hx])
  have ihl:=Qec B l enc hu.2.1 ol rl
  have ihr:=Qec B r enc hu.2.2 or rr
  have hlc:l.cn.body=(rowB l.row).length:=by rw[Nd.cn_row enc ol rl];exact Qae rl
  have hrc:r.cn.body=(rowB r.row).length:=by rw[Nd.cn_row enc or rr];exact Qae rr
  have hc:c.body=(rowB l.row).length+(rowB r.row).length:=by
   have:c=l.cn.plus r.cn:=ho.1;rw[this];show l.cn.body+r.cn.body=_;rw[hlc,hrc]
  have hrow:rowB (Nd.inner Bl c k l r).row=rowB l.row++rowB r.row:=by show rowB (l.row++r.row)=_;exact Qaf _ _
  intro b bs f t w hl hd hBw hlen h1 h2 hft;rw[hrow] at hlen h1 ⊢;rw[List.length_append] at hlen h1;by_cases h:(c.body:Int)<=f\/t<=0
  ·have hp:Vm.partL (rowB l.row++rowB r.row) f t=[]:=Vm.QdR (h.elim (fun x=>.inl (by rw[List.length_append,<-hc];exact x)) (fun x=>.inr (.inl x)));rw[hp,Qa8,List.append_nil];refine (QcY b Bl c k l r f t w hl h).mono ?_;rintro e w' ⟨rfl,rfl⟩;exact⟨rfl,hd,Below.refl _ _⟩
  refine (Qf8 B Bl c k l r hu hlc ihl ihr b bs f t w hl hd hBw hlen h1 h2 hft (by omega) (by omega)).mono ?_;rintro e w' ⟨rfl,hd',hb'⟩;refine⟨rfl,?_,hb'⟩
  have e1:Lib.byteCells (Vm.partL (rowB l.row++rowB r.row) f t)=Lib.byteCells (Vm.partL (rowB l.row) f t)++Lib.byteCells (Vm.partL (rowB r.row) (f - (rowB l.row).length) (t - (rowB l.row).length)):=by
   rw[Vm.Qb8];simp [Lib.byteCells]
  rw[e1,<-List.append_assoc];exact hd'
end Go.Proofs.YtoejbngihecafaaGreatDoor
