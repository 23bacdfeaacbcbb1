import Derived.Test.YtoejbngihecafaaGreatDoorRows
import Derived.OpenShut
import Derived.LaidLaws
import Derived.Lib.LaidTab
import Derived.Test.YtoejbngihecafaaGreatDoorCards
import Derived.Test.YtoejbngihecafaaGreatDoorTie
import Derived.ProofKit
import Derived.Deep.DeepHandedRow
import Derived.Test.YtoejbngihecafaaGreatDoorC4
import Derived.Test.YtoejbngihecafaaGreatDoorC6
import Derived.Test.YtoejbngihecafaaGreatDoorC0
set_option maxRecDepth 100000
set_option maxHeartbeats 200000
open Go.Proofs.Tryz
namespace Go.Proofs.YtoejbngihecafaaGreatDoor
open Go.RowKit
variable {P:Program} {w W:World} {base fuel n i j:Nat} {held:Bool} {t e:TypeId} {cs:List Value}
theorem Qh2 {sp:Nat->Bool} {fs:Array Field} {f:Field} {rows flds:List (DataW Unit)} {d:DataW Unit} {p:List MemPlace}
  (ht:P.underlying t=some (.array n e)) (he:P.underlying e=some (.struct fs)) (h:DataW.trod (fun _=>()) P w base sp held fuel t cs=some (.agg rows,p)) (hi:i<n) (hr:rows[i]?=some (.agg flds)) (hf:fs[j]?=some f) (hd:flds[j]?=some d) :
  ∃m q,DataW.trod (fun _=>()) P w base sp held m f.type ((((cs.drop (i * P.cellsOf e)).take (P.cellsOf e)).drop f.offset).take (P.cellsOf f.type))=some (d,q):=by
 obtain⟨xs,m,_,hx,_,hxl,hall⟩:=DataW.trod_array ht h
 have hx1:rows=xs.map (fun y=>y.1):=by
  have:=congrArg Prod.fst hx;injection this
 rw[hx1,List.getElem?_map] at hr
 obtain⟨y,hy,hy2⟩:=Option.map_eq_some_iff.1 hr
 have h2:=hall i hi
 rw[hy] at h2
 obtain⟨y1,y2⟩:=y
 simp only at hy2
 subst hy2
 obtain⟨zs,m2,_,hz,_,hzl,hall2⟩:=DataW.trod_struct he h2
 have hz1:flds=zs.map (fun y=>y.1):=by
  have:=congrArg Prod.fst hz;injection this
 rw[hz1,List.getElem?_map] at hd
 obtain⟨u,hu,hu2⟩:=Option.map_eq_some_iff.1 hd
 have h3:=hall2 j f hf
 rw[hu] at h3
 obtain⟨u1,u2⟩:=u
 simp only at hu2
 subst hu2
 exact⟨m2,u2,h3⟩
theorem QeJ {a b c d:Nat} {v:Value} (h:((((cs.drop a).take b).drop c).take d)=[v]):cs[a+c]?=some v:=by
 have h1:=congrArg (fun l=>l[0]?) h;simp only[List.getElem?_take,List.getElem?_drop,List.getElem?_cons_zero] at h1;split at h1
 ·split at h1
  ·simpa using h1
  cases h1
 cases h1
theorem QaM {sp:Nat->Bool} {fs:Array Field} {f:Field} {rows flds:List (DataW Unit)} {k:IntKind} {z:Int} {p:List MemPlace}
  (ht:P.underlying t=some (.array n e)) (he:P.underlying e=some (.struct fs)) (h:DataW.trod (fun _=>()) P w base sp held fuel t cs=some (.agg rows,p)) (hi:i<n) (hr:rows[i]?=some (.agg flds)) (hf:fs[j]?=some f) (hd:flds[j]?=some (.lit (.int k z))) (hu:P.underlying f.type=some (.int k)) :
  cs[i * P.cellsOf e+f.offset]?=some (.int k z):=by
 obtain⟨m,q,h1⟩:=Qh2 ht he h hi hr hf hd
 obtain⟨z',hc,hx,_⟩:=DataW.trod_int hu h1
 have:z'=z:=by
  have:=congrArg Prod.fst hx;simp only[DataW.lit.injEq,Lit.int.injEq,true_and] at this;exact this.symm
 subst this
 exact QeJ hc
theorem QgW {sp:Nat->Bool} {fs:Array Field} {f:Field} {rows flds:List (DataW Unit)} {l:List UInt8} {p:List MemPlace}
  (ht:P.underlying t=some (.array n e)) (he:P.underlying e=some (.struct fs)) (h:DataW.trod (fun _=>()) P w base sp held fuel t cs=some (.agg rows,p)) (hi:i<n) (hr:rows[i]?=some (.agg flds)) (hf:fs[j]?=some f) (hd:flds[j]?=some (.lit (.string l))) (hu:P.underlying f.type=some .string) :
  cs[i * P.cellsOf e+f.offset]?=some (.string ⟨l.toArray⟩):=by
 obtain⟨m,q,h1⟩:=Qh2 ht he h hi hr hf hd
 obtain⟨s,hc,hx,_⟩:=DataW.trod_string hu h1
 have:l=s.data.toList:=by
  have:=congrArg Prod.fst hx;simp only[DataW.lit.injEq,Lit.string.injEq] at this;exact this
 subst this
 simpa using QeJ hc
theorem gHalf : prog.globalNamed "vellum/code.halves" = some 5 := by kernel_rfl
theorem gSeq : prog.globalNamed "vellum/code.sequences" = some 6 := by kernel_rfl
theorem gEnc : prog.globalNamed "vellum/code.encodings" = some 2 := by kernel_rfl
theorem Qn9 {cs : Array Value} {p : List MemPlace} (hv : W.var? prog "vellum/code.halves" = some cs) (hd : DataW.trod (fun _ => ()) prog W 0 (fun _ => true) false fuel 240 cs.toList = some (Rows.laid_vellum_code_halves, p)) : TabHalf W := by
 have hc:∀i v,cs.toList[i]?=some v->W.cell? ⟨5,i,none⟩=some v:=fun i v h=>(World.var?_cell gHalf hv i).trans (by rw[<-Array.getElem?_toList];exact h)
 have ce:prog.cellsOf 239=2:=by kernel_rfl
 have c0:=QaM (i:=0) (j:=0) underlying240 underlying239 hd (by decide) rfl rfl rfl underlying21
 have c1:=QaM (i:=0) (j:=1) underlying240 underlying239 hd (by decide) rfl rfl rfl underlying21
 have c2:=QaM (i:=1) (j:=0) underlying240 underlying239 hd (by decide) rfl rfl rfl underlying21
 have c3:=QaM (i:=1) (j:=1) underlying240 underlying239 hd (by decide) rfl rfl rfl underlying21
 rw[ce] at c0 c1 c2 c3
 exact⟨hc 0 _ c0,hc 1 _ c1,hc 2 _ c2,hc 3 _ c3⟩
theorem QoX {cs : Array Value} {p : List MemPlace} (hv : W.var? prog "vellum/code.encodings" = some cs) (hd : DataW.trod (fun _ => ()) prog W 0 (fun _ => true) false fuel 198 cs.toList = some (Rows.laid_vellum_code_encodings, p)) : TabEnc W := by
 have hc:∀i v,cs.toList[i]?=some v->W.cell? ⟨2,i,none⟩=some v:=fun i v h=>(World.var?_cell gEnc hv i).trans (by rw[<-Array.getElem?_toList];exact h)
 have ce:prog.cellsOf 197=4:=by kernel_rfl
 have m0:=QgW (i:=0) (j:=0) underlying198 underlying197 hd (by decide) rfl rfl rfl underlying9
 have g0:=QaM (i:=0) (j:=1) underlying198 underlying197 hd (by decide) rfl rfl rfl underlying21
 have l0:=QaM (i:=0) (j:=2) underlying198 underlying197 hd (by decide) rfl rfl rfl underlying3
 have h0:=QaM (i:=0) (j:=3) underlying198 underlying197 hd (by decide) rfl rfl rfl underlying3
 have m1:=QgW (i:=1) (j:=0) underlying198 underlying197 hd (by decide) rfl rfl rfl underlying9
 have g1:=QaM (i:=1) (j:=1) underlying198 underlying197 hd (by decide) rfl rfl rfl underlying21
 have l1:=QaM (i:=1) (j:=2) underlying198 underlying197 hd (by decide) rfl rfl rfl underlying3
 have h1:=QaM (i:=1) (j:=3) underlying198 underlying197 hd (by decide) rfl rfl rfl underlying3
 have m2:=QgW (i:=2) (j:=0) underlying198 underlying197 hd (by decide) rfl rfl rfl underlying9
 have g2:=QaM (i:=2) (j:=1) underlying198 underlying197 hd (by decide) rfl rfl rfl underlying21
 have l2:=QaM (i:=2) (j:=2) underlying198 underlying197 hd (by decide) rfl rfl rfl underlying3
 have h2:=QaM (i:=2) (j:=3) underlying198 underlying197 hd (by decide) rfl rfl rfl underlying3
 have m3:=QgW (i:=3) (j:=0) underlying198 underlying197 hd (by decide) rfl rfl rfl underlying9
 have g3:=QaM (i:=3) (j:=1) underlying198 underlying197 hd (by decide) rfl rfl rfl underlying21
 have l3:=QaM (i:=3) (j:=2) underlying198 underlying197 hd (by decide) rfl rfl rfl underlying3
 have h3:=QaM (i:=3) (j:=3) underlying198 underlying197 hd (by decide) rfl rfl rfl underlying3
 rw[ce] at m0 g0 l0 h0 m1 g1 l1 h1 m2 g2 l2 h2 m3 g3 l3 h3
 exact⟨hc 0 _ m0,hc 1 _ g0,hc 2 _ l0,hc 3 _ h0,hc 4 _ m1,hc 5 _ g1,hc 6 _ l1,hc 7 _ h1,hc 8 _ m2,hc 9 _ g2,hc 10 _ l2,hc 11 _ h2,hc 12 _ m3,hc 13 _ g3,hc 14 _ l3,hc 15 _ h3⟩
theorem QoZ {cs : Array Value} {p : List MemPlace} (hv : W.var? prog "vellum/code.sequences" = some cs) (hd : DataW.trod (fun _ => ()) prog W 0 (fun _ => true) false fuel 250 cs.toList = some (Rows.laid_vellum_code_sequences, p)) : TabSeq W := by
 have hc:∀i v,cs.toList[i]?=some v->W.cell? ⟨6,i,none⟩=some v:=fun i v h=>(World.var?_cell gSeq hv i).trans (by rw[<-Array.getElem?_toList];exact h)
 have ce:prog.cellsOf 242=5:=by kernel_rfl
 have hk11:∀k:Nat,k<11->k=0\/k=1\/k=2\/k=3\/k=4\/k=5\/k=6\/k=7\/k=8\/k=9\/k=10:=fun k h=>by omega
 have a:∀k:Nat,k<11->W.cell? ⟨6,k * 5+0,none⟩=some (.int .u8 (Vm.sqUp k)):=by
  intro k hk;rcases hk11 k hk with rfl|rfl|rfl|rfl|rfl|rfl|rfl|rfl|rfl|rfl|rfl
  all_goals
   have c:=QaM (j:=0) underlying250 underlying242 hd hk rfl rfl rfl underlying5;rw[ce] at c;exact hc _ _ c
 have b:∀k:Nat,k<11->W.cell? ⟨6,k * 5+1,none⟩=some (.int .i64 (Vm.sqSize k)):=by
  intro k hk;rcases hk11 k hk with rfl|rfl|rfl|rfl|rfl|rfl|rfl|rfl|rfl|rfl|rfl
  all_goals
   have c:=QaM (j:=1) underlying250 underlying242 hd hk rfl rfl rfl underlying3;rw[ce] at c;exact hc _ _ c
 have c:∀k:Nat,k<11->W.cell? ⟨6,k * 5+2,none⟩=some (.int .u8 (Vm.sqBits k)):=by
  intro k hk;rcases hk11 k hk with rfl|rfl|rfl|rfl|rfl|rfl|rfl|rfl|rfl|rfl|rfl
  all_goals
   have c:=QaM (j:=2) underlying250 underlying242 hd hk rfl rfl rfl underlying5;rw[ce] at c;exact hc _ _ c
 have d:∀k:Nat,k<11->W.cell? ⟨6,k * 5+3,none⟩=some (.int .u8 (Vm.sqLeast k)):=by
  intro k hk;rcases hk11 k hk with rfl|rfl|rfl|rfl|rfl|rfl|rfl|rfl|rfl|rfl|rfl
  all_goals
   have c:=QaM (j:=3) underlying250 underlying242 hd hk rfl rfl rfl underlying5;rw[ce] at c;exact hc _ _ c
 have e:∀k:Nat,k<11->W.cell? ⟨6,k * 5+4,none⟩=some (.int .u8 (Vm.sqMost k)):=by
  intro k hk;rcases hk11 k hk with rfl|rfl|rfl|rfl|rfl|rfl|rfl|rfl|rfl|rfl|rfl
  all_goals
   have c:=QaM (j:=4) underlying250 underlying242 hd hk rfl rfl rfl underlying5;rw[ce] at c;exact hc _ _ c
 exact⟨a,b,c,d,e⟩
theorem tHalf :(prog.globals[5]?).map (·.type)=some 240:=by kernel_rfl
theorem tSeq :(prog.globals[6]?).map (·.type)=some 250:=by kernel_rfl
theorem tEnc :(prog.globals[2]?).map (·.type)=some 198:=by kernel_rfl
end Go.Proofs.YtoejbngihecafaaGreatDoor
namespace Go.Proofs.YtoejbngihecafaaGreatDoor.fin
open Go.ChangeShapes Go.WideShapes Go.ChangeAt Go.RowKit
theorem own :ownKnob prog.godebug=none:=by kernel_rfl
def putCells (cs:Array Value):Obj->Obj
 |.cells _ t frozen=>.cells cs t frozen
 |o=>o
noncomputable def laidWorld (os:Os):World :=
 { World.holding prog os ⟨#[],#[],[]⟩ with heap:=(((World.holding prog os ⟨#[],#[],[]⟩).heap.modify 2 (putCells #[.string ⟨#[239,187,191]⟩,.int .i32 1114111,.int .i64 0,.int .i64 0,.string ⟨#[255,254]⟩,.int .i32 1114111,.int .i64 0,.int .i64 1,.string ⟨#[254,255]⟩,.int .i32 1114111,.int .i64 1,.int .i64 0,.string ⟨#[]⟩,.int .i32 255,.int .i64 0,.int .i64 0])).modify 6 (putCells #[.int .u8 127,.int .i64 1,.int .u8 127,.int .u8 0,.int .u8 0,.int .u8 193,.int .i64 2,.int .u8 0,.int .u8 255,.int .u8 0,.int .u8 223,.int .i64 2,.int .u8 31,.int .u8 128,.int .u8 191,.int .u8 224,.int .i64 3,.int .u8 15,.int .u8 160,.int .u8 191,.int .u8 236,.int .i64 3,.int .u8 15,.int .u8 128,.int .u8 191,.int .u8 237,.int .i64 3,.int .u8 15,.int .u8 128,.int .u8 159,.int .u8 239,.int .i64 3,.int .u8 15,.int .u8 128,.int .u8 191,.int .u8 240,.int .i64 4,.int .u8 7,.int .u8 144,.int .u8 191,.int .u8 243,.int .i64 4,.int .u8 7,.int .u8 128,.int .u8 191,.int .u8 244,.int .i64 4,.int .u8 7,.int .u8 128,.int .u8 143,.int .u8 255,.int .i64 2,.int .u8 0,.int .u8 255,.int .u8 0])).modify 5 (putCells #[.int .i32 55296,.int .i32 56319,.int .i32 56320,.int .i32 57343]) }
end Go.Proofs.YtoejbngihecafaaGreatDoor.fin
namespace Go.Proofs.YtoejbngihecafaaGreatDoor
open Go.ChangeShapes Go.WideShapes Go.ChangeAt Go.RowKit
theorem Qko {H:Type} {enc:TypeId × Value->H} {P:Program} {f:Func} {s:ChangeSpec} {apart fresh handsOn again:Bool} {W W':World} {args:Array Value} {v:Value} {ds gs:List (DataW H)} {before pa pv:List MemPlace}
  (hW:DataW.Whole enc P f.params.toList s.vars apart W args.toList ds gs before)
  (hres:∀(b:Nat) (sp:Nat->Bool) (hd:Bool),DataW.TrodAll enc P W' b sp hd f.resultTypes.toList (v.resultList f.resultTypes.size) (s.fn H (ds++gs)).results [])
  (hargs:∀sp:Nat->Bool,(∀p∈before,sp p.block=true)->DataW.TrodAll enc P W' 0 sp true f.params.toList args.toList (s.fn H (ds++gs)).args pa)
  (hvars:∀sp:Nat->Bool,(∀p∈before,sp p.block=true)->DataW.TrodVars enc P W' sp s.vars (s.fn H (ds++gs)).vars pv)
  (hps:before=pa++pv) (hb:Below W.heap.size W W')
  (hok:∀(j:Nat) (t:TypeId) (r:Value),f.resultTypes[j]?=some t->(v.resultList f.resultTypes.size)[j]?=some r->Value.okWide P W' .any 0 t r) :
  s.post enc P f apart fresh handsOn again W args v W':=by
 have hlt:=hW.lt
 have hold:∀p∈before,(fun b=>decide (b<W.heap.size)) p.block=true:=fun p hp=>by simpa using hlt p hp
 refine⟨ds,gs,before,[],pa,pv,hW,hres _ _ _,hargs _ hold,hvars _ hold,hb.frame _,fun _=>?_⟩
 obtain⟨_,_,_,_,_,hz,hn⟩:=hW
 refine⟨hok,_,_,([]++pa)++pv,⟨[]++pa,pv,trodAll_append (hargs _ (fun _ _=>rfl)) (hres _ _ _),hvars _ (fun _ _=>rfl),rfl,?_,?_⟩,?_⟩
 ·intro b off hp;have hm:MemPlace.cell b off∈before:=by rw[hps];simpa using hp
  rw[hb.frozen (p:=⟨b,off,none⟩) (hlt _ hm)];exact hz b off hm
 ·intro ha;have:=hn ha;rw[hps] at this;simpa using this
 intro p hp _
 rw[hps]
 simpa using hp
theorem Qm1 {H:Type} {l:List (DataW H)} {d:DataW H} (h:d∈l):Rows.uptoBulk d<=Rows.uptoBulkAll l:=by
 induction l with
 |nil=>cases h
 |cons x r ih =>
  simp only[Rows.uptoBulkAll];cases List.mem_cons.1 h with
  |inl e=>rw[<-e];omega
  |inr e=>have:=ih e;omega
end Go.Proofs.YtoejbngihecafaaGreatDoor
