import Derived.Lib.LaidU8T
import Derived.PinnedBridge
import Derived.Deep.Slices
import Derived.Carry
import Derived.Test.YtoejbngihecafaaGreatDoorC47
import Derived.Test.YtoejbngihecafaaGreatDoorC37
import Derived.Test.YtoejbngihecafaaGreatDoorC7
import Derived.Test.YtoejbngihecafaaGreatDoorC0
set_option maxRecDepth 100000
set_option maxHeartbeats 200000
open Go.Proofs.Tryz
namespace Go.Proofs.YtoejbngihecafaaGreatDoor
open Go.RowKit Go.Proofs Go.Lib
variable {fuel:Nat} {W:World}
theorem gEnds : prog.globalNamed "vellum/code.ends" = some 3 := by kernel_rfl
theorem tEnds :(prog.globals[3]?).map (·.type)=some 229:=by kernel_rfl
theorem Qjl {P:Program} {w:World} {base:Nat} {sp:Nat->Bool} {held:Bool} {n i:Nat} {t e:TypeId} {cs:List Value} {rows:List (DataW Unit)} {l:List UInt8} {p:List MemPlace}
  (ht:P.underlying t=some (.array n e)) (he:P.underlying e=some .string) (hce:P.cellsOf e=1) (h:DataW.trod (fun _=>()) P w base sp held fuel t cs=some (.agg rows,p)) (hi:i<n) (hr:rows[i]?=some (.lit (.string l))):cs[i]?=some (.string ⟨l.toArray⟩):=by
 obtain⟨xs,m,_,hx,_,hxl,hall⟩:=DataW.trod_array ht h
 have hx1:rows=xs.map (fun y=>y.1):=by
  have:=congrArg Prod.fst hx;injection this
 rw[hx1,List.getElem?_map] at hr
 obtain⟨y,hy,hy2⟩:=Option.map_eq_some_iff.1 hr
 have h2:=hall i hi
 rw[hy] at h2
 obtain⟨y1,y2⟩:=y
 simp only at hy2
 subst hy2
 obtain⟨s,hc,hx2,_⟩:=DataW.trod_string he h2
 have hl:l=s.data.toList:=by
  have:=congrArg Prod.fst hx2;simp only[DataW.lit.injEq,Lit.string.injEq] at this;exact this
 subst hl
 rw[hce] at hc
 have h1:=congrArg (fun l=>l[0]?) hc
 simp only[List.getElem?_take,List.getElem?_drop,List.getElem?_cons_zero] at h1
 split at h1
 ·simpa using h1
 cases h1
theorem QoA {cs : Array Value} {p : List MemPlace} (hv : W.var? prog "vellum/code.ends" = some cs) (hd : DataW.trod (fun _ => ()) prog W 0 (fun _ => true) false fuel 229 cs.toList = some (Rows.laid_vellum_code_ends, p)) : TabEnds W := by
 have hc:∀i v,cs.toList[i]?=some v->W.cell? ⟨3,i,none⟩=some v:=fun i v h=>(World.var?_cell gEnds hv i).trans (by rw[<-Array.getElem?_toList];exact h)
 have ce:prog.cellsOf 9=1:=by kernel_rfl
 exact⟨hc 0 _ (Qjl (i:=0) underlying229 underlying9 ce hd (by decide) rfl),hc 1 _ (Qjl (i:=1) underlying229 underlying9 ce hd (by decide) rfl),hc 2 _ (Qjl (i:=2) underlying229 underlying9 ce hd (by decide) rfl)⟩
theorem u8x :U8Extra prog ren3 where
 n3:=by kernel_rfl
 n4:=by kernel_rfl
 y3:=by kernel_rfl
 y4:=by kernel_rfl
 c5:=by kernel_rfl
 c119:=by kernel_rfl
 c138:=by kernel_rfl
theorem Qo1 :(Rows.laid_unicode_utf8_acceptRanges:DataW Unit)=acceptData:=by kernel_rfl
theorem QoR {l : List (String × DataW Unit)} {ps : List MemPlace} (h : DataW.LaidVars prog W l ps) (m1 : ("unicode/utf8.acceptRanges", Rows.laid_unicode_utf8_acceptRanges) ∈ l) (m2 : ("vellum/code.encodings", Rows.laid_vellum_code_encodings) ∈ l) (m3 : ("vellum/code.sequences", Rows.laid_vellum_code_sequences) ∈ l) (m4 : ("vellum/code.halves", Rows.laid_vellum_code_halves) ∈ l) (m5 : ("vellum/code.ends", Rows.laid_vellum_code_ends) ∈ l) (m6 : ("unicode/utf8.first", Rows.laid_unicode_utf8_first) ∈ l) : TabA W := by
 have v1:=LaidVars_reads h _ _ m1
 have v6:=LaidVars_reads h _ _ m6
 obtain⟨g2,t2,cs2,f2,p2,hg2,ht2,hv2,hd2⟩:=LaidVars_reads h _ _ m2
 obtain⟨g3,t3,cs3,f3,p3,hg3,ht3,hv3,hd3⟩:=LaidVars_reads h _ _ m3
 obtain⟨g4,t4,cs4,f4,p4,hg4,ht4,hv4,hd4⟩:=LaidVars_reads h _ _ m4
 obtain⟨g5,t5,cs5,f5,p5,hg5,ht5,hv5,hd5⟩:=LaidVars_reads h _ _ m5
 obtain rfl:=Option.some.inj (gEnc.symm.trans hg2)
 obtain rfl:=Option.some.inj (gSeq.symm.trans hg3)
 obtain rfl:=Option.some.inj (gHalf.symm.trans hg4)
 obtain rfl:=Option.some.inj (gEnds.symm.trans hg5)
 obtain rfl:=Option.some.inj (tEnc.symm.trans ht2)
 obtain rfl:=Option.some.inj (tSeq.symm.trans ht3)
 obtain rfl:=Option.some.inj (tHalf.symm.trans ht4)
 obtain rfl:=Option.some.inj (tEnds.symm.trans ht5)
 refine⟨⟨⟨QoZ hv3 hd3,Qn9 hv4 hd4,QoX hv2 hd2⟩,QoA hv5 hd5⟩,?_⟩
 rw[Qo1] at v1
 have e6:(Rows.laid_unicode_utf8_first:DataW Unit)=firstData:=Go.Pinned.utf8First_eq
 rw[e6] at v6
 exact utf8Tabs_of_readsT (U8Types.of196 lays196) u8x v6 v1
open Go.ChangeShapes Go.WideShapes Go.ChangeAt Go.RowKit
def dOp {H:Type}:DataW H->Opr
 |.agg [.lit (.int _ k),.lit (.int _ a),.lit (.int _ b),.lit (.int _ c),.lit (.string s)]=>⟨k,a,b,c,⟨s.toArray⟩⟩
 |_=>⟨0,0,0,0,⟨#[]⟩⟩
theorem Qj2 {H:Type}:∀(L:List (DataW H)),(∀d∈L,∃(k a b c:Int) (s:ByteArray),d=.agg [.lit (.int .i64 k),.lit (.int .i64 a),.lit (.int .i64 b),.lit (.int .i64 c),.lit (.string s.data.toList)])->opsS (L.map dOp)+L.length<=Rows.uptoBulkAll L
 |[],_=>by simp [opsS]
 |d :: L,h=>by
  have ih:=Qj2 L (fun x hx=>h x (by simp [hx]))
  obtain⟨k,a,b,c,s,rfl⟩:=h d (by simp)
  have e:opsS ((DataW.agg [.lit (.int .i64 k),.lit (.int .i64 a),.lit (.int .i64 b),.lit (.int .i64 c),.lit (.string s.data.toList)] :: L).map dOp)=s.size+opsS (L.map dOp):=by
   unfold opsS;simp [dOp]
  have hs:s.data.toList.length=s.size:=rfl;rw[e,List.length_cons];simp only[Rows.uptoBulkAll,Rows.uptoBulk];omega
theorem Tryz.laidOutK :laidOutB prog=true:=by kernel_rfl
noncomputable def laidWorldE (os:Os):World :=
 { fin.laidWorld os with heap:=(((fin.laidWorld os).heap.modify 3 (fin.putCells #[.string ⟨#[10]⟩,.string ⟨#[13,10]⟩,.string ⟨#[13]⟩])).modify 0 (fin.putCells (Lib.firstTab.map fun z=>Value.int .u8 z).toArray)).modify 1 (fin.putCells ((List.range 16).flatMap fun i=>[Value.int .u8 (Lib.accLo i),.int .u8 (Lib.accHi i)]).toArray) }
end Go.Proofs.YtoejbngihecafaaGreatDoor
