import Derived.StillTailTactics
import Derived.Lib.LaidU8T
import Derived.PinnedBridge
import Derived.Deep.Slices
import Derived.Carry
import Derived.Test.YtoejbngihecafabGreatDoorB45
import Derived.Test.YtoejbngihecafabGreatDoorB46
import Derived.Test.YtoejbngihecafabGreatDoorB23
import Derived.Test.YtoejbngihecafabGreatDoorB38
import Derived.Test.YtoejbngihecafabGreatDoorB37
import Derived.Test.YtoejbngihecafabGreatDoorB7
set_option maxRecDepth 100000
set_option maxHeartbeats 200000
namespace Go.Proofs.YtoejbngihecafabGreatDoor
open Go.RowKit
end Go.Proofs.YtoejbngihecafabGreatDoor
namespace Go.Proofs.YtoejbngihecafabGreatDoor
open Go.RowKit
end Go.Proofs.YtoejbngihecafabGreatDoor
namespace Go.Proofs.YtoejbngihecafabGreatDoor
open Go.RowKit
def sayB (en:Int) (A:List Vm.At):Bool:=A.all (fun x=>decide (en≠3\/x.2.1<=255))
end Go.Proofs.YtoejbngihecafabGreatDoor
namespace Go.Proofs.YtoejbngihecafabGreatDoor
open Go.RowKit
end Go.Proofs.YtoejbngihecafabGreatDoor
namespace Go.Proofs.YtoejbngihecafabGreatDoor
open Go.RowKit
end Go.Proofs.YtoejbngihecafabGreatDoor
namespace Go.Proofs.YtoejbngihecafabGreatDoor
open Go.RowKit
section
variable {B:Nat} {w w' w1 w2:World} {x p r:Nat} {s s':St} {F F' G G' K:Nat->Prop}
end
def St.op (s:St) (kind a b:Int) (S:ByteArray):Int × St :=
 if kind=1 then s.rpl a b S else if kind=2 then s.mrk (decide (0<a)) else if kind=3 then s.eds a else if kind=4 then s.cod a else if kind=5 then s.und else if kind=6 then s.red else (0,s)
end Go.Proofs.YtoejbngihecafabGreatDoor
namespace Go.Proofs.YtoejbngihecafabGreatDoor
open Go.RowKit
end Go.Proofs.YtoejbngihecafabGreatDoor
namespace Go.Proofs.YtoejbngihecafabGreatDoor
open Go.RowKit
structure Opr where
 kind:Int
 a:Int
 b:Int
 c:Int
 S:ByteArray
def Opr.val (o:Opr):Value:=.agg #[.int .i64 o.kind,.int .i64 o.a,.int .i64 o.b,.int .i64 o.c,.string o.S]
def OpsAt (w:World) (v:Value) (l:List Opr):Prop :=
 ∃q cap,v=.slice q l.length cap/\∀i o,l[i]?=some o->∃g f,q=some ⟨g,f,none⟩/\w.cell? ⟨g,f+i * 5,none⟩=some (.int .i64 o.kind)/\w.cell? ⟨g,f+i * 5+1,none⟩=some (.int .i64 o.a)/\w.cell? ⟨g,f+i * 5+2,none⟩=some (.int .i64 o.b)/\w.cell? ⟨g,f+i * 5+3,none⟩=some (.int .i64 o.c)/\w.cell? ⟨g,f+i * 5+4,none⟩=some (.string o.S)
def opsS (l:List Opr):Nat:=(l.map (fun o=>o.S.size)).sum
end Go.Proofs.YtoejbngihecafabGreatDoor
namespace Go.Proofs.YtoejbngihecafabGreatDoor
open Go.RowKit Go.Proofs Go.Lib
theorem gEnds : Tryz.prog.globalNamed "vellum/code.ends" = some 3 := by kernel_rfl
theorem tEnds:(Tryz.prog.globals[3]?).map (·.type)=some 137:=by kernel_rfl
theorem arr_str {P:Program} {w:World} {base:Nat} {sp:Nat->Bool} {held:Bool} {fuel n i:Nat} {t e:TypeId} {cs:List Value} {rows:List (DataW Unit)} {l:List UInt8} {p:List MemPlace}
  (ht:P.underlying t=some (.array n e)) (he:P.underlying e=some .string) (hce:P.cellsOf e=1) (h:DataW.trod (fun _=>()) P w base sp held fuel t cs=some (.agg rows,p)) (hi:i<n) (hr:rows[i]?=some (.lit (.string l))):cs[i]?=some (.string ⟨l.toArray⟩):=by
 obtain⟨xs,m,_,hx,_,hxl,hall⟩:=DataW.trod_array ht h
 have hx1:rows=xs.map (fun y=>y.1):=by
  have:=congrArg Prod.fst hx
  injection this
 rw[hx1,List.getElem?_map] at hr
 obtain⟨y,hy,hy2⟩:=Option.map_eq_some_iff.1 hr
 have h2:=hall i hi
 rw[hy] at h2
 obtain⟨y1,y2⟩:=y
 simp only at hy2
 subst hy2
 obtain⟨s,hc,hx2,_⟩:=DataW.trod_string he h2
 have hl:l=s.data.toList:=by
  have:=congrArg Prod.fst hx2
  simp only[DataW.lit.injEq,Lit.string.injEq] at this
  exact this
 subst hl
 rw[hce] at hc
 have h1:=congrArg (fun l=>l[0]?) hc
 simp only[List.getElem?_take,List.getElem?_drop,List.getElem?_cons_zero] at h1
 split at h1
 ·simpa using h1
 ·cases h1
theorem ends_of {W : World} {cs : Array Value} {fuel : Nat} {p : List MemPlace} (hv : W.var? Tryz.prog "vellum/code.ends" = some cs) (hd : DataW.trod (fun _ => ()) Tryz.prog W 0 (fun _ => true) false fuel 137 cs.toList = some (Rows.laid_vellum_code_ends, p)) : TabEnds W := by
 have hc:∀i v,cs.toList[i]?=some v->W.cell? ⟨3,i,none⟩=some v:=fun i v h=>(World.var?_cell gEnds hv i).trans (by rw[<-Array.getElem?_toList];exact h)
 have ce:Tryz.prog.cellsOf 9=1:=by kernel_rfl
 exact⟨hc 0 _ (arr_str (i:=0) Tryz.underlying137 Tryz.underlying9 ce hd (by decide) rfl),hc 1 _ (arr_str (i:=1) Tryz.underlying137 Tryz.underlying9 ce hd (by decide) rfl),hc 2 _ (arr_str (i:=2) Tryz.underlying137 Tryz.underlying9 ce hd (by decide) rfl)⟩
theorem u8x:U8Extra Tryz.prog ren3 where
 n3:=by kernel_rfl
 n4:=by kernel_rfl
 y3:=by kernel_rfl
 y4:=by kernel_rfl
 c5:=by kernel_rfl
 c119:=by kernel_rfl
 c138:=by kernel_rfl
theorem acc_eq:(Rows.laid_unicode_utf8_acceptRanges:DataW Unit)=acceptData:=by kernel_rfl
theorem taba_of {W : World} {l : List (String × DataW Unit)} {ps : List MemPlace} (h : DataW.LaidVars Tryz.prog W l ps) (m1 : ("unicode/utf8.acceptRanges", Rows.laid_unicode_utf8_acceptRanges) ∈ l) (m2 : ("vellum/code.encodings", Rows.laid_vellum_code_encodings) ∈ l) (m3 : ("vellum/code.sequences", Rows.laid_vellum_code_sequences) ∈ l) (m4 : ("vellum/code.halves", Rows.laid_vellum_code_halves) ∈ l) (m5 : ("vellum/code.ends", Rows.laid_vellum_code_ends) ∈ l) (m6 : ("unicode/utf8.first", Rows.laid_unicode_utf8_first) ∈ l) : TabA W := by
 have v1:=LaidVars_reads h _ _ m1
 have v6:=LaidVars_reads h _ _ m6
 obtain⟨g2,t2,cs2,f2,p2,hg2,ht2,hv2,hd2⟩:=LaidVars_reads h _ _ m2
 obtain⟨g3,t3,cs3,f3,p3,hg3,ht3,hv3,hd3⟩:=LaidVars_reads h _ _ m3
 obtain⟨g4,t4,cs4,f4,p4,hg4,ht4,hv4,hd4⟩:=LaidVars_reads h _ _ m4
 obtain⟨g5,t5,cs5,f5,p5,hg5,ht5,hv5,hd5⟩:=LaidVars_reads h _ _ m5
 obtain rfl:=Option.some.inj (gEnc.symm.trans hg2)
 obtain rfl:=Option.some.inj (gSeq.symm.trans hg3)
 obtain rfl:=Option.some.inj (gHalf.symm.trans hg4)
 obtain rfl:=Option.some.inj (gEnds.symm.trans hg5)
 obtain rfl:=Option.some.inj (tEnc.symm.trans ht2)
 obtain rfl:=Option.some.inj (tSeq.symm.trans ht3)
 obtain rfl:=Option.some.inj (tHalf.symm.trans ht4)
 obtain rfl:=Option.some.inj (tEnds.symm.trans ht5)
 refine⟨⟨⟨seq_of hv3 hd3,half_of hv4 hd4,enc_of hv2 hd2⟩,ends_of hv5 hd5⟩,?_⟩
 rw[acc_eq] at v1
 have e6:(Rows.laid_unicode_utf8_first:DataW Unit)=firstData:=Go.Pinned.utf8First_eq
 rw[e6] at v6
 exact utf8Tabs_of_readsT (U8Types.of196 lays196) u8x v6 v1
end Go.Proofs.YtoejbngihecafabGreatDoor
namespace Go.Proofs.YtoejbngihecafabGreatDoor
open Go.ChangeShapes Go.WideShapes Go.ChangeAt Go.RowKit
def dOp {H:Type}:DataW H->Opr
 |.agg [.lit (.int _ k),.lit (.int _ a),.lit (.int _ b),.lit (.int _ c),.lit (.string s)]=>⟨k,a,b,c,⟨s.toArray⟩⟩
 |_=>⟨0,0,0,0,⟨#[]⟩⟩
noncomputable def laidWorldE (os:Os):World :=
 { fin.laidWorld os with heap:=(((fin.laidWorld os).heap.modify 3 (fin.putCells #[.string ⟨#[10]⟩,.string ⟨#[13,10]⟩,.string ⟨#[13]⟩])).modify 0 (fin.putCells (Lib.firstTab.map fun z=>Value.int .u8 z).toArray)).modify 1 (fin.putCells ((List.range 16).flatMap fun i=>[Value.int .u8 (Lib.accLo i),.int .u8 (Lib.accHi i)]).toArray) }
end Go.Proofs.YtoejbngihecafabGreatDoor
