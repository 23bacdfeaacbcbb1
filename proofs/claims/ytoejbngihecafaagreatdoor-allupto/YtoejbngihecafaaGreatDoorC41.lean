import Derived.Test.YtoejbngihecafaaGreatDoorC35
import Derived.Test.YtoejbngihecafaaGreatDoorC40
import Derived.Test.YtoejbngihecafaaGreatDoorC0
set_option maxRecDepth 100000
set_option maxHeartbeats 4000000
open Go.Proofs.Tryz
namespace Go.Proofs.YtoejbngihecafaaGreatDoor
open Go.RowKit
variable {n:Option Nd} {tail x:ByteArray} {lo Bt:Nat} {w0 W2 W:World} {enc oth:Int} {mark:Bool}
theorem treeReended (enc k:Int) (t:Option Nd) (R:List (Cn × ByteArray)) (w:World) (ht:TabW w) (hr:TrAt w enc t R) (h0:0<=enc) (h3:enc<=3) (k0:0<=k) (k2:k<=2) (hs:(rowB R).length<=68719476736) (hgd:Gd R) (hln:R.length<=68719476736) :
  Calls prog 139 #[.agg #[trv t],.int .i64 enc,.int .i64 k,.int .i64 1000] w fun e w'=>∃t' R',e=.returned (.agg #[trv t'])/\TrAt w' enc t' R'/\rowB R'=reR enc k R/\rowA enc R'=(rowA enc R).map (Vm.reA enc k)/\Gd R'/\Below w.heap.size w w':=by
 cases t with
 |none =>
  have hR:=hr.non rfl;subst hR;clear hr hgd ht;rw[show trv none=.nilIface from rfl];go_enter func139,ntmps139;go_wp2_with fail;exact bodyPost_ret (v:=.agg #[.nilIface]) (by simp [results,Tryz.results139,go_sem]) rfl ⟨none,[],rfl,TrAt.no _ _,rfl,rfl,Gd.nil,(Z7 _ _).alloc (by simp) _⟩
 |some n =>
  obtain⟨hin,ho,hrow⟩:=hr.inn n rfl;have hl:=hr.ok;subst hrow;have HRE:=Z1 (QiU enc k h0 h3 k0 k2 n ho hl hs hln);have hw0:Below w.heap.size w ((w.alloc (.cells #[.iface n.ty (.pointer (some ⟨n.blk,0,none⟩))] 89)).alloc (.cells #[.nilIface] 89)):=(Z7 _ _).alloc (by simp) _;have nb0:=NB.new1 w (.cells #[.iface n.ty (.pointer (some ⟨n.blk,0,none⟩))] 89) .nilIface;have HW:=Z1 hw0;have HNB:=Z1 nb0;have HT:=Z1 ht;have HIN:=Z1 hin;have hm1:=QcS n 362;have he1:=Qfr n;have HGD:=Z1 hgd;clear hr hl ht hin hgd hw0 nb0;rw[show trv (some n)=.iface n.ty (.pointer (some ⟨n.blk,0,none⟩)) from rfl];go_enter func139,ntmps139;go_wp2_with fail;refine (HRE.o _ (HT.o.below HW.o) (Nd.low HW.o HIN.o)).mono ?_;rintro e w1 ⟨t',R',rfl,htr,hrb,hra,_,hgd,hb1⟩;have nb1:=NB.low HNB.o hb1;obtain⟨b1,b2,b3⟩:=id nb1;have hz:=Z3 b1;have hst:=Qaq t' b1 b2;have c15:=(NB.set nb1 (trv t')).c;have HT15:=Z1 (TrAt.set htr nb1 (trv t'));have HB15:=Z1 (Below.setCell (p:=⟨w.heap.size+1,0,none⟩) (HW.o.trans (hb1.mono HW.o.size)) (Nat.le_succ _) (trv t'));clear htr nb1 hb1 HNB hm1 he1;go_wp2_with fail;exact bodyPost_ret (v:=.agg #[trv t']) (by simp [results,Tryz.results139,go_sem,c15]) rfl ⟨t',R',rfl,HT15.o,hrb,hra,hgd HGD.o,HB15.o⟩
theorem Qou {w:World} {k:Kp} {R:List (Cn × ByteArray)} (hc:CtOk w k n R tail) (kd:Int):(endK k kd).body=ofL (reR k.enc kd R++tail.data.toList):=by
 obtain⟨e1,e2,ew,ea,et⟩:=hc.row;show ofL (Vm.reB k.enc kd k.A k.L++k.L.drop (Vm.sizeA k.A))=_;rw[e2];unfold reR;congr 2;rw[hc.bytes,Qg0 _ _ _ (by rw[hc.sizeA];exact Z6 _),hc.atoms]
theorem Qhx (k:Kp) (n:Option Nd) (R:List (Cn × ByteArray)) (tail:ByteArray) (kd:Int) (w:World) (ht:TabW w) (hc:CtOk w k n R tail) (k0:0<=kd) (k2:kd<=2) (hs:k.body.size<=34359738368) :
  Calls prog 106 #[ctv k n tail,.int .i64 kd] w fun e w'=>∃n' R',e=.returned (ctv (endK k kd) n' tail)/\CtOk w' (endK k kd) n' R' tail/\Below w.heap.size w w':=by
 have h0:=hc.h0
 have h3:=hc.h3
 have H0:=Z1 (S4.start w k.enc k.mark (trv n) tail)
 have HT:=Z1 ht
 have HC:=Z1 hc
 have hlens:=hc.lens
 have hgl:=hc.gd.len
 obtain⟨e1,e2,ew,ea,et⟩:=hc.row
 have HRE:=Z1 (fun X (hX:Below w.heap.size w X)=>treeReended k.enc kd n R X (HT.o.below hX) (HC.o.low hX).tr h0 h3 k0 k2 (by omega) HC.o.gd (by omega))
 have hbd:=Qou hc kd
 have hwh:Vm.Wh k.enc (reR k.enc kd R):=by
  unfold reR;rw[<-ea];exact Qmy h0 h3 k0 k2 ew
 have hra:Vm.atoms k.enc (reR k.enc kd R)=(rowA k.enc R).map (Vm.reA k.enc kd):=by
  unfold reR;rw[<-ea];exact Vm.Qe6 h0 h3 k0 k2 ew
 have HCK:=Z1 (fun X n' R' (h1:TrAt X k.enc n' R') (h2:rowB R'=reR k.enc kd R) (h4:rowA k.enc R'=(rowA k.enc R).map (Vm.reA k.enc kd)) (h5:Gd R')=>(show CtOk X (endK k kd) n' R' tail from
  CtOk.mk' (k:=endK k kd) h1 hbd h2 (h4.trans hra.symm) h5 h0 h3 hwh et))
 unfold ctv
 rw[show (endK k kd).enc=k.enc from rfl,show (endK k kd).mark=k.mark from rfl]
 clear ht hc hlens hgl e1 e2 ew ea et hbd hwh hra
 obtain⟨c0,c1,c2,c3⟩:=H0.o.cs
 obtain⟨r0,r1,r2,r3,rf⟩:=H0.o.rs
 go_enter func106,ntmps106
 go_wp2_with fail
 refine (HRE.o _ H0.o.low).mono ?_
 rintro e w6 ⟨t',R',rfl,htr,hrb,hra,hgd,hb6⟩
 have H6:=Z1 (H0.o.step hb6)
 clear c0 c1 c2 c3 r0 r1 r2 r3 rf hb6 HRE H0
 obtain⟨c0,c1,c2,c3⟩:=H6.o.cs
 have fc:=fun j=>Lib.frozen_of_heap H6.o.c j
 have z0:=Z3 c0
 have hst2:=Qaq t' c2 (fc 2)
 have H7:=Z1 (H6.o.root2 t')
 have HC7:=Z1 (HCK.o _ t' R' (H6.o.trs htr 2 (trv t')) hrb hra hgd)
 obtain⟨d0,d1,d2,d3⟩:=H7.o.cs
 obtain⟨r0,r1,r2,r3,rf⟩:=H7.o.rs
 have z7:=Z3 d0
 have z8:=Z3 r0
 have hst8:=fun (X:World) (a:Addr) (hc:X.cell? a=some .nilIface) (hf:X.frozen? a=false)=>Qaq t' hc hf
 clear H6 htr hrb hra hgd HCK
 go_wp2_with fail
 obtain⟨a0,a1,a2,a3,hlo,hco⟩:=H7.o.out2 (endK k kd) t' tail rfl
 exact bodyPost_ret (v:=.agg #[.int .i64 k.enc,.bool k.mark,trv t',.string tail]) (by simp only[show (endK k kd).enc=k.enc from rfl,show (endK k kd).mark=k.mark from rfl] at a0 a1 a2 a3;simp [results,Tryz.results106,go_sem,a0,a1,a2,a3]) rfl ⟨t',R',rfl,hco HC7.o,hlo⟩
theorem QhZ (kd:Int) (w:World):Calls prog 105 #[.int .i64 kd] w fun e w'=>e=.returned (.bool (decide (0<=kd)&&decide (kd<=2)))/\w'=w:=by
 by_cases h:0<=kd
 ·by_cases h2:kd<=2
  ·go_enter func105,ntmps105;go_wp2_with fail;go_ret;exact⟨by simp [h,h2],rfl⟩
  go_enter func105,ntmps105;go_wp2_with fail;go_ret;exact⟨by simp [h2],rfl⟩
 go_enter func105,ntmps105;go_wp2_with fail;go_ret;exact⟨by rw[decide_eq_false (show ¬0<=kd by omega)];rfl,rfl⟩
open Go.RowKit Go.Shelf Go.Vit
attribute [local go_sem] Oper.semAt_some
def AllG (g:Int) (A:List Vm.At):Prop:=∀a∈A,a.2.1<=g
def OneG (g:Int) (A:List Vm.At):Prop:=∃a∈A,¬a.2.1<=g
structure FtI (w0:World) (enc:Int) (mark:Bool) (n:Option Nd) (tail:ByteArray) (oth:Int) (Bt:Nat) (W:World):Prop where
 c:W.heap[w0.heap.size]?=some (.cells #[.int .i64 enc,.bool mark,trv n,.string tail] 91)
 e:W.heap[w0.heap.size+1]?=some (.cells #[.int .i64 oth] 3)
 r:W.heap[w0.heap.size+2]?=some (.cells #[.bool false] 4)
 t:W.cell? ⟨Bt,0,none⟩=some (trv n)
 inn:InT n W
 low:Below w0.heap.size w0 W
section
variable {w0:World} {enc:Int} {mark:Bool} {n:Option Nd} {tail:ByteArray} {oth:Int} {Bt:Nat} {W W':World}
theorem FtI.kept (h:FtI w0 enc mark n tail oth Bt W) (hs:W.heap.size<=W'.heap.size) (ho:W'.os=W.os) (ht:W'.tape=W.tape) (hou:W'.output=W.output) (hk:∀k,k<lo->W'.heap[k]?=W.heap[k]?) (hlo:w0.heap.size+2<lo) (hBt:Bt<lo) (hu:UndT n w0.heap.size):FtI w0 enc mark n tail oth Bt W' :=
 ⟨(hk _ (by omega)).trans h.c,(hk _ (by omega)).trans h.e,(hk _ (by omega)).trans h.r,(World.cell?_of_block (w:=W) (hk Bt hBt)).trans h.t,InT.kept (fun k hk'=>hk k (by omega)) hu h.inn,h.low.trans ⟨ho,ht,hou,hs,fun k hk'=>hk k (by omega)⟩⟩
theorem FtI.it {M:World->Nat->Prop} (h:FtI w0 enc mark n tail oth Bt W) (st:ItStep M lo W W') (hlo:w0.heap.size+2<lo) (hBt:Bt<lo) (hu:UndT n w0.heap.size):FtI w0 enc mark n tail oth Bt W' :=
 h.kept st.size st.os st.tape st.output (fun k hk=>st.low k hk) hlo hBt hu
theorem FtI.below (h:FtI w0 enc mark n tail oth Bt W) (hb:Below lo W W') (hlo:w0.heap.size+2<lo) (hBt:Bt<lo) (hu:UndT n w0.heap.size):FtI w0 enc mark n tail oth Bt W' :=
 h.kept hb.size hb.os hb.tape hb.output (fun k hk=>hb.block k hk) hlo hBt hu
theorem FtI.put (h:FtI w0 enc mark n tail oth Bt W) (hBt:Bt≠w0.heap.size+2) (hu:UndT n w0.heap.size):FtI w0 enc mark n tail oth Bt (W.setCell ⟨w0.heap.size+2,0,none⟩ (.bool false)):=by
 have hk:∀k,k≠w0.heap.size+2->(W.setCell ⟨w0.heap.size+2,0,none⟩ (.bool false)).heap[k]?=W.heap[k]?:=fun k hk=>Below.heap_setCell _ _ _ _ (by simpa using hk);exact⟨(hk _ (by omega)).trans h.c,(hk _ (by omega)).trans h.e,Qjz h.r _,(World.cell?_of_block (w:=W) (hk Bt hBt)).trans h.t,InT.kept (fun k hk'=>hk k (by omega)) hu h.inn,h.low.setCell (by show _<=w0.heap.size+2;omega) _⟩
end
structure FtN (w0:World) (enc:Int) (mark:Bool) (n:Option Nd) (tail:ByteArray) (oth:Int) (Bt lo:Nat) (x:ByteArray) (W2 W:World):Prop where
 i:FtI w0 enc mark n tail oth Bt W
 bs:BodyStep (fun _ _=>False) lo W2 W
 e:W.cell? ⟨W2.heap.size,0,none⟩=some (.int .i64 enc)
 b:W.cell? ⟨W2.heap.size+1,0,none⟩=some (.string x)
 sz:W2.heap.size+2<=W.heap.size
theorem FtN.it {lo2:Nat} {W':World} (h:FtN w0 enc mark n tail oth Bt lo x W2 W) (st:ItStep (fun _ _=>False) lo2 W W') (h1:w0.heap.size+2<lo2) (h2:Bt<lo2) (h3:W2.heap.size+2<=lo2) (hu:UndT n w0.heap.size):FtN w0 enc mark n tail oth Bt lo x W2 W' :=
 ⟨h.i.it st h1 h2 hu,⟨st.os.trans h.bs.os,st.tape.trans h.bs.tape,st.output.trans h.bs.output,Nat.le_trans h.bs.size st.size,fun k h1 h2 h3=>(st.low k (by omega)).trans (h.bs.keep k h1 h2 h3),fun _ hk=>hk.elim⟩,
  (World.cell?_of_block (w:=W) (st.low W2.heap.size (by omega))).trans h.e,(World.cell?_of_block (w:=W) (st.low (W2.heap.size+1) (by omega))).trans h.b,Nat.le_trans h.sz st.size⟩
theorem FtN.put (h:FtN w0 enc mark n tail oth Bt lo x W2 W) (hBt:Bt≠w0.heap.size+2) (hlo:w0.heap.size+2<lo) (hW:w0.heap.size+2<W2.heap.size) (hu:UndT n w0.heap.size):FtN w0 enc mark n tail oth Bt lo x W2 (W.setCell ⟨w0.heap.size+2,0,none⟩ (.bool false)):=by
 have hk:∀k,k≠w0.heap.size+2->(W.setCell ⟨w0.heap.size+2,0,none⟩ (.bool false)).heap[k]?=W.heap[k]?:=fun k hk=>Below.heap_setCell _ _ _ _ (by simpa using hk);exact⟨h.i.put hBt hu,h.bs.trans (BodyStep.setCell W (p:=⟨w0.heap.size+2,0,none⟩) hlo _ (fun _ hf=>hf)),(World.cell?_of_block (w:=W) (hk W2.heap.size (by omega))).trans h.e,(World.cell?_of_block (w:=W) (hk (W2.heap.size+1) (by omega))).trans h.b,by simpa [World.setCell] using h.sz⟩
theorem Qng {K Z:Nat} (hne:Z<K) (v:Value) (y:Obj) {u:Value} (hr:W.cell? ⟨Z,0,none⟩=some u):((W.setCell ⟨Z,0,none⟩ v).putObj K y).cell? ⟨Z,0,none⟩=some v/\(W.setCell ⟨Z,0,none⟩ v).heap[K]?=W.heap[K]?:=by
 refine⟨?_,Below.heap_setCell _ _ _ _ (show K≠Z by omega)⟩;rw[World.cell?_of_block (w:=(W.setCell ⟨Z,0,none⟩ v)) (a:=⟨Z,0,none⟩) (World.putObj_heap_other (by show Z≠K;omega))];exact World.cell?_setCell_same' _ _ _ (by rw[hr];rfl)
theorem QnL (enc:Int) (mark:Bool) (n:Option Nd) (R:List (Cn × ByteArray)) (oth:Int) (w:World) (ht:TabW w) (hr:TrAt w enc n R) (h0:0<=enc) (h3:enc<=3) (o0:0<=oth) (o3:oth<=3) (hl:(rowB R).length<=1099511627776) (hesc:Vm.cntK (rowA enc R) 4=0) :
  Calls prog 108 #[.agg #[.int .i64 enc,.bool mark,trv n,.string ⟨#[]⟩],.int .i64 oth] w fun e w'=>e=.returned (.bool ((rowA enc R).all (fun x=>decide (x.2.1<=Vm.great oth))))/\Below w.heap.size w w':=by
 have hfo:prog.follows Departure.mixedOrders=true:=by kernel_rfl
 have HC:=hide (fun w1 (h:TrAt w1 enc n R)=>h.counts)
 have HTB:=hide (Qdt n)
 have hit:=QgG n R
 have hu:=hr.int.und
 have HT:=hide hr
 have HR1:=hide (fun m (h:n=some m)=>(hr.inn m h).2.2)
 have HR2:=hide hr.non
 clear hr
 have fb:∀(v0 v1 v2 v3 v4 v5 v6 v7:Value) (w:World),(Instr.field 119 (.agg #[v0,v1,v2,v3,v4,v5,v6,v7]) 4).run prog w=.ok v4 w:=fun _ _ _ _ _ _ _ _ _=>by kernel_rfl
 obtain⟨wa,hwa⟩:∃wa,wa=((w.alloc (.cells #[.int .i64 enc,.bool mark,trv n,.string ⟨#[]⟩] 91)).alloc (.cells #[.int .i64 oth] 3)).alloc (.cells #[.bool false] 4):=⟨_,rfl⟩
 have hza:wa.heap.size=w.heap.size+3:=by rw[hwa];simp
 have hba:Below w.heap.size w wa:=by rw[hwa];exact ((Z7 _ _).alloc (by simp) _).alloc (by simp;omega) _
 have ka:wa.heap[w.heap.size]?=some (.cells #[.int .i64 enc,.bool mark,trv n,.string ⟨#[]⟩] 91)/\wa.heap[w.heap.size+1]?=some (.cells #[.int .i64 oth] 3)/\wa.heap[w.heap.size+2]?=some (.cells #[.bool false] 4):=by
  rw[hwa];refine⟨?_,?_,?_⟩
  ·rw[Below.heap_alloc _ _ _ (by simp;omega),Below.heap_alloc _ _ _ (by simp)];exact Go.Deep.blk_alloc_new _ _
  ·rw[Below.heap_alloc _ _ _ (by simp)];have:=Go.Deep.blk_alloc_new (w.alloc (.cells #[.int .i64 enc,.bool mark,trv n,.string ⟨#[]⟩] 91)) (.cells #[.int .i64 oth] 3);rwa [World.size_alloc] at this
  have:=Go.Deep.blk_alloc_new ((w.alloc (.cells #[.int .i64 enc,.bool mark,trv n,.string ⟨#[]⟩] 91)).alloc (.cells #[.int .i64 oth] 3)) (.cells #[.bool false] 4);rwa [World.size_alloc,World.size_alloc] at this
 obtain⟨ka0,ka1,ka2⟩:=ka
 have a2:=C2 ka0
 have HB0:=hide hba
 have HK0:=hide ka0
 have HK1:=hide ka1
 have HK2:=hide ka2
 have HWA:=hide hwa
 clear hba ka0 ka1 ka2 hwa
 refine (callsIn_wide (n:=9)).1 ?_
 refine callsIn_of_wp_marks func108 rfl trivial ?_ rfl
 simp only[ntmps108,List.size_toArray,List.length_cons,List.length_nil,Nat.reduceAdd,Nat.reduceSub,Array.replicate_succ,Array.replicate_zero,List.push_toArray,List.append_toArray,List.nil_append,List.cons_append]
 gi_wp2_with fail
 rw[<-HWA.o]
 simp only[Nat.add_assoc,Nat.reduceAdd]
 refine⟨trivial,(callsIn_wide.2 (HC.o _ (HT.o.low HB0.o))).mono ?_⟩
 rintro e w1 ⟨rfl,hb1⟩
 simp only[cnOf,Cn.val]
 rw[show ((Vm.cntK (rowA enc R) 4:Nat):Int)=0 by rw[hesc];rfl]
 have hs1:=hb1.size
 rw[hza] at hs1
 have k0:=(hb1.block w.heap.size (by omega)).trans HK0.o
 have k1:=(hb1.block (w.heap.size+1) (by omega)).trans HK1.o
 have k2:=(hb1.block (w.heap.size+2) (by omega)).trans HK2.o
 have c2:=C2 k0
 have c3:=C3 k0
 have HB1:=hide (HB0.o.trans (hb1.mono (by omega)))
 have HL0:=hide k0
 have HL1:=hide k1
 have HL2:=hide k2
 clear hb1 k0 k1 k2 HC HK0 HK1 HK2 HB0 HWA hza a2
 gi_wp2_with fail
 refine⟨trivial,(callsIn_wide.2 (HTB.o w1)).mono ?_⟩
 rintro e w3 ⟨rfl,hw3⟩
 generalize (Value.agg #[.int .i64 (Vm.sizeA (rowA enc R)),.int .i64 (Vm.bytesA (rowA enc R)),.int .i64 (rowA enc R).length,.int .i64 (Vm.unitsA (rowA enc R)),.int .i64 0,.int .i64 (Vm.cntK (rowA enc R) 0),.int .i64 (Vm.cntK (rowA enc R) 1),.int .i64 (Vm.cntK (rowA enc R) 2)])=cv
 have hb3:Below w1.heap.size w1 w3:=by rw[hw3];exact Z7 _ _
 have hs3:w3.heap.size<=w1.heap.size+1:=by rw[hw3];simp
 have hs3b:w1.heap.size+1<=w3.heap.size:=by rw[hw3];simp
 have hI0:FtI w enc mark n ⟨#[]⟩ oth w1.heap.size w3:=by
  refine⟨(hb3.block _ (by omega)).trans HL0.o,(hb3.block _ (by omega)).trans HL1.o,(hb3.block _ (by omega)).trans HL2.o,?_,?_,HB1.o.trans (hb3.mono (by omega))⟩
  ·rw[hw3];simp [go_sem]
  exact InT.kept (HB1.o.trans (hb3.mono (by omega))).block hu HT.o.int
 clear hw3 c2 c3 HL0 HL1 HL2 HTB fb
 have HTW:=hide ht
 clear ht
 gi_wp2
 refine QfW (gf:=134) rfl (enters_of func134 (by kernel_rfl) rfl) (hit w1.heap.size HR1.o HR2.o) (fun _=>rfl) (fun _ _=>False) (Qbg _)
  (fun pre W=>FtI w enc mark n ⟨#[]⟩ oth w1.heap.size W/\AllG (Vm.great oth) (atB enc pre)) (fun c _ W=>c=.ret/\FtI w enc mark n ⟨#[]⟩ oth w1.heap.size W/\OneG (Vm.great oth) (rowA enc R)) ?hI ?hIx ?hN ⟨hI0,fun a ha=>by simp [atB] at ha⟩ ?a1 ?assign ?body ?done ?stop
 case hI =>
  rintro s A B ⟨h1,h2⟩ st;exact⟨h1.it st (by omega) (by omega) hu,h2⟩
 case hIx =>
  rintro c s A B ⟨h1,h2,h3⟩ st;exact⟨h1,h2.it st (by omega) (by omega) hu,h3⟩
 case hN =>
  rintro s A ⟨h1,h2⟩;exact⟨⟨h1.t,h1.inn⟩,fun k hk=>hk.elim⟩
 case assign =>
  intro l x W K hK;dsimp only [encB];gi_wp2;exact hK
 case body =>
  rintro l2 pre x W2 hsz2 ⟨r,hr⟩ hl2 ⟨hi,hall⟩ hpre;have c0:=C0 hi.c;have HI:=hide hi;have HP:=hide hpre;clear hi hpre;gi_wp2_with fail;refine⟨trivial,(CallsIn.inRound l2 (callsIn_wide.2 (Qcm enc x W2))).mono ?_⟩;rintro e w4 ⟨rfl,hw4⟩;have hs4:w4.heap.size<=W2.heap.size+2:=by rw[hw4];simp
  have hs4b:W2.heap.size+2<=w4.heap.size:=by rw[hw4];simp
  have hb4:Below W2.heap.size W2 w4:=by rw[hw4];exact (Z7 _ _).alloc (by simp) _
  have e4:w4.cell? ⟨W2.heap.size,0,none⟩=some (.int .i64 enc):=by rw[hw4];simp [go_sem]
  have b4:w4.cell? ⟨W2.heap.size+1,0,none⟩=some (.string x):=by rw[hw4];simp [go_sem]
  clear hw4;have hr4:w4.heap[l2]?=some (.loop r):=(hb4.block l2 (Z4 hr)).trans hr
  have hN0:FtN w enc mark n ⟨#[]⟩ oth w1.heap.size w3.heap.size x W2 w4 :=
   ⟨HI.o.below hb4 (by omega) (by omega) hu,BodyStep.of_below (Qbg _) hb4 (by omega),e4,b4,by omega⟩
  have hxm:x∈R.map (fun y=>y.2):=HP.o.subset (by simp);have hxs:=QeX hxm
  have HXR:=hide (show ∀a∈Vm.atoms enc x.data.toList,a∈rowA enc R from fun a ha=>by
   rw[<-Qcd];exact List.mem_flatMap.2 ⟨x,hxm,ha⟩)
  have hiA:=Qci x enc W2.heap.size (W2.heap.size+1) (by omega) h0 h3;have HN0:=hide hN0;clear hN0 e4 b4 c0;gi_wp2
  refine QhH hr4 (gf:=135) rfl (enters_of func135 (by kernel_rfl) rfl) hiA (fun _=>rfl) (fun _ _=>False) (Qbg _)
   (fun A W=>FtN w enc mark n ⟨#[]⟩ oth w1.heap.size w3.heap.size x W2 W/\AllG (Vm.great oth) A) (fun c _ W=>c=.ret/\FtN w enc mark n ⟨#[]⟩ oth w1.heap.size w3.heap.size x W2 W/\OneG (Vm.great oth) (rowA enc R)) ?hI2 ?hIx2 ?hN2 ⟨HN0.o,fun a ha=>(by cases ha)⟩ (fun y a' W=>∃Bq,a' = { tmps:=#[.agg #[.int .i64 enc,.bool mark,trv n,.string { data:=#[] }],.int .i64 oth,.pointer (some ⟨w.heap.size,0,none⟩),.pointer (some ⟨w.heap.size+1,0,none⟩),.pointer (some ⟨w.heap.size+2,0,none⟩),.string x,.pointer (some ⟨Bq,0,none⟩),.pointer (some ⟨w.heap.size,2,none⟩),.agg #[trv n],cv,.int .i64 0,.bool false,.bool false,.pointer (some ⟨w.heap.size,3,none⟩),.string { data:=#[] },.bool false,.bool false,.pointer (some ⟨w.heap.size,2,none⟩),.agg #[trv n],.func (.func 134) #[] #[.pointer (some ⟨w1.heap.size,0,none⟩)],.string x,.pointer (some ⟨w.heap.size,0,none⟩),.int .i64 enc,.string x,.func (.func 135) #[] #[.pointer (some ⟨W2.heap.size,0,none⟩),.pointer (some ⟨W2.heap.size+1,0,none⟩)],.agg #[.int .i64 y.1,.int .i32 y.2.1,.int .i64 y.2.2],undef,undef,undef,undef,undef],defers:=[] }/\W.heap[Bq]?=some (.cells #[.int .i64 y.1,.int .i32 y.2.1,.int .i64 y.2.2] 175)) ?hAx2 ?assign2 ?body2 ?done2 ?stop2
  case hI2 =>
   rintro s A B ⟨h1,h2⟩ st;exact⟨h1.it st (by omega) (by omega) (by omega) hu,h2⟩
  case hIx2 =>
   rintro c s A B ⟨h1,h2,h3⟩ st;exact⟨h1,h2.it st (by omega) (by omega) (by omega) hu,h3⟩
  case hN2 =>
   rintro s A ⟨h1,h2⟩;exact⟨⟨(HTW.o.below h1.i.low).tabs,h1.e,h1.b⟩,fun k hk=>hk.elim⟩
  case hAx2 =>
   rintro y a' A L r' o ⟨Bq,h1,h2⟩ hl;refine⟨Bq,h1,?_⟩;rw[World.putObj_heap_other (fun e=>by rw[e,hl] at h2;cases h2)];exact h2
  case assign2 =>
   rintro l A y W K hszW ⟨hi,hq⟩ hK;dsimp only [encAt];gi_wp2;have hbw:Below W.heap.size W (W.alloc (.cells #[.int .i64 y.1,.int .i32 y.2.1,.int .i64 y.2.2] 175)):=Z7 _ _;have stw:ItStep (fun _ _=>False) W.heap.size W (W.alloc (.cells #[.int .i64 y.1,.int .i32 y.2.1,.int .i64 y.2.2] 175)):=ItStep.of_below hbw (Z6 _) (fun k hk=>hk.elim);have hsW:=hi.sz;exact hK _ _ (BodyStep.of_below (Qbg _) hbw (by omega)) ⟨hi.it stw (by omega) (by omega) (by omega) hu,hq⟩ ⟨W.heap.size,rfl,Go.Deep.blk_alloc_new _ _⟩
  case body2 =>
   rintro l3 A y a' W hszW ⟨r3,hr3⟩ hl3 ⟨hi,hq⟩ ⟨Bq,rfl,hqb⟩ hpreA;have q1:=C1 hqb;have e1:=C0 hi.i.e;have r1:=C0 hi.i.r;have rf:W.frozen? ⟨w.heap.size+2,0,none⟩=false:=Lib.frozen_of_heap hi.i.r 0;have hbq:=Z4 hqb;have zr:=Z3 r1;have hyR:=HXR.o y (hpreA.subset (by simp));have HH:=hide (Qlf oth y.2.1 W (HTW.o.below hi.i.low).tabs.enc o0 o3);have HII:=hide hi;have HQ:=hide hq;have HPA:=hide hpreA;have HBS:=hide (BodyStep.setCell (M:=fun _ _=>False) (lo:=w4.heap.size) W (p:=⟨w.heap.size+2,0,none⟩) (by show w.heap.size+2<_;omega) (.bool false) (fun _ hf=>hf));have HPU:=hide (hi.put (by omega) (by omega) (by omega) hu);clear hi hq hpreA hqb;by_cases hle:y.2.1<=Vm.great oth
   ·rw[decide_eq_true hle] at HH;gi_wp2_with fail;refine⟨trivial,(CallsIn.inRound l3 (callsIn_wide.2 HH.o)).mono ?_⟩;rintro e W3 ⟨rfl,rfl⟩;clear HH;gi_wp2;refine⟨BodyStep.refl _ _ _,HII.o,fun a ha=>?_⟩;rcases List.mem_append.1 ha with q|q
    ·exact HQ.o a q
    rw[List.mem_singleton.1 q];exact hle
   rw[decide_eq_false hle] at HH;gi_wp2_with fail;refine⟨trivial,(CallsIn.inRound l3 (callsIn_wide.2 HH.o)).mono ?_⟩;rintro e W3 ⟨rfl,rfl⟩;clear HH;gi_wp2;exact⟨HBS.o,rfl,HPU.o,⟨y,hyR,Int.not_le.2 hle⟩⟩
  case done2 =>
   rintro W hszW ⟨hi,hq⟩;have HBS:=hide hi.bs;have HX:=hide hi.i;clear hi;gi_wp2;refine⟨HBS.o,HX.o,fun a ha=>?_⟩;rw[QgM] at ha;rcases List.mem_append.1 ha with q|q
   ·exact hall a q
   exact hq a q
  case stop2 =>
   rintro c A W hszW hpA ⟨rfl,hi,hx⟩;have HBS:=hide hi.bs;have HX:=hide hi.i;clear hi;gi_wp2;exact⟨HBS.o,rfl,HX.o,hx⟩
 case done =>
  rintro W hszW ⟨hi,hall⟩ hd hmd;rw[Qcd] at hall;have r1:=C0 hi.r;have rf:W.frozen? ⟨w.heap.size+2,0,none⟩=false:=Lib.frozen_of_heap hi.r 0;have zr:=Z3 r1;obtain⟨f1,f2⟩:=Qng (K:=w3.heap.size) (by omega) (.bool true) (.deferred none) r1;have HL:=hide (Below.setCell (p:=⟨w.heap.size+2,0,none⟩) hi.low (by show _<=w.heap.size+2;omega) (.bool true));clear hi;gi_wp2;refine⟨by simp,.inl ⟨_,_,rfl,run_takeDeferred (f2.trans hd),?_⟩⟩;refine⟨.bool true,by simp [results,Tryz.results108,go_sem,f1],?_,?_⟩
  ·rw[show (rowA enc R).all (fun x=>decide (x.2.1<=Vm.great oth))=true from List.all_eq_true.2 (fun a ha=>decide_eq_true (hall a ha))]
  have hz:=HL.o;exact⟨hz.os,hz.tape,hz.output,by simpa using hz.size,fun k hk=>(World.putObj_heap_other (by omega)).trans (hz.block k hk)⟩
 case stop =>
  rintro c pre W hszW hpre ⟨rfl,hi,⟨a,ha,hna⟩⟩ hd hmd;have r1:=C0 hi.r
  have f1:(W.putObj w3.heap.size (.deferred none)).cell? ⟨w.heap.size+2,0,none⟩=some (.bool false):=by
   rw[World.cell?_of_block (w:=W) (a:=⟨w.heap.size+2,0,none⟩) (World.putObj_heap_other (by show w.heap.size+2≠_;omega))];exact r1
  have HL:=hide hi.low;clear hi;gi_wp2;refine⟨by simp,.inl ⟨_,_,rfl,run_takeDeferred hd,?_⟩⟩;refine⟨.bool false,by simp [results,Tryz.results108,go_sem,f1],?_,?_⟩
  ·rw[show (rowA enc R).all (fun x=>decide (x.2.1<=Vm.great oth))=false from by
    cases hq:(rowA enc R).all (fun x=>decide (x.2.1<=Vm.great oth)) with
    |false=>rfl
    |true=>exact absurd (of_decide_eq_true (List.all_eq_true.1 hq a ha)) (Int.not_le.2 hna)]
  have hz:=HL.o;exact⟨hz.os,hz.tape,hz.output,by simpa using hz.size,fun k hk=>(World.putObj_heap_other (by omega)).trans (hz.block k hk)⟩
theorem QnK (enc:Int) (mark:Bool) (n:Option Nd) (R:List (Cn × ByteArray)) (tail:ByteArray) (oth:Int) (w:World) (hr:TrAt w enc n R) (hesc:Vm.cntK (rowA enc R) 4≠0) :
  Calls prog 108 #[.agg #[.int .i64 enc,.bool mark,trv n,.string tail],.int .i64 oth] w fun e w'=>e=.returned (.bool false)/\Below w.heap.size w w':=by
 have fb:∀(v0 v1 v2 v3 v4 v5 v6 v7:Value) (w:World),(Instr.field 119 (.agg #[v0,v1,v2,v3,v4,v5,v6,v7]) 4).run prog w=.ok v4 w:=fun _ _ _ _ _ _ _ _ _=>by kernel_rfl
 have hba:Below w.heap.size w (((w.alloc (.cells #[.int .i64 enc,.bool mark,trv n,.string tail] 91)).alloc (.cells #[.int .i64 oth] 3)).alloc (.cells #[.bool false] 4)):=((Z7 _ _).alloc (by simp) _).alloc (by simp;omega) _
 have HC:=Z1 ((hr.low hba).counts)
 have HB:=Z1 hba
 have k2:(((w.alloc (.cells #[.int .i64 enc,.bool mark,trv n,.string tail] 91)).alloc (.cells #[.int .i64 oth] 3)).alloc (.cells #[.bool false] 4)).heap[w.heap.size+1+1]?=some (.cells #[.bool false] 4):=by
  have:=Go.Deep.blk_alloc_new ((w.alloc (.cells #[.int .i64 enc,.bool mark,trv n,.string tail] 91)).alloc (.cells #[.int .i64 oth] 3)) (.cells #[.bool false] 4);rwa [World.size_alloc,World.size_alloc] at this
 have HK:=Z1 k2
 have hpos:(0:Int)<(Vm.cntK (rowA enc R) 4:Nat):=by omega
 simp only[cnOf,Cn.val] at HC
 generalize Vm.cntK (rowA enc R) 4=x4 at *
 clear hba k2 hr
 go_enter func108,ntmps108
 go_wp2_with fail
 refine HC.o.mono ?_
 rintro e w1 ⟨rfl,hb1⟩
 have hs0:(((w.alloc (.cells #[.int .i64 enc,.bool mark,trv n,.string tail] 91)).alloc (.cells #[.int .i64 oth] 3)).alloc (.cells #[.bool false] 4)).heap.size=w.heap.size+3:=by simp
 have hk1:=(hb1.block (w.heap.size+1+1) (by rw[hs0];omega)).trans HK.o
 have r1:=C0 hk1
 have rf:w1.frozen? ⟨w.heap.size+1+1,0,none⟩=false:=Lib.frozen_of_heap hk1 0
 have zr:=Z3 r1
 have HB1:=Z1 (HB.o.trans (hb1.mono (by rw[hs0];omega)))
 have HF:=Z1 (World.cell?_setCell_same' w1 ⟨w.heap.size+1+1,0,none⟩ (.bool false) (by rw[r1];rfl))
 clear hb1 hk1 HC HB HK hs0
 go_wp2_with fail
 exact bodyPost_ret (v:=.bool false) (by simp [results,Tryz.results108,go_sem,HF.o]) rfl ⟨rfl,Below.setCell (p:=⟨w.heap.size+1+1,0,none⟩) HB1.o (by show _<=w.heap.size+1+1;omega) _⟩
theorem QlE (enc:Int) (mark:Bool) (n:Option Nd) (R:List (Cn × ByteArray)) (tail:ByteArray) (oth:Int) (w:World) (hr:TrAt w enc n R) (hesc:Vm.cntK (rowA enc R) 4=0) (htl:tail≠⟨#[]⟩) :
  Calls prog 108 #[.agg #[.int .i64 enc,.bool mark,trv n,.string tail],.int .i64 oth] w fun e w'=>e=.returned (.bool false)/\Below w.heap.size w w':=by
 have fb:∀(v0 v1 v2 v3 v4 v5 v6 v7:Value) (w:World),(Instr.field 119 (.agg #[v0,v1,v2,v3,v4,v5,v6,v7]) 4).run prog w=.ok v4 w:=fun _ _ _ _ _ _ _ _ _=>by kernel_rfl
 have hba:Below w.heap.size w (((w.alloc (.cells #[.int .i64 enc,.bool mark,trv n,.string tail] 91)).alloc (.cells #[.int .i64 oth] 3)).alloc (.cells #[.bool false] 4)):=((Z7 _ _).alloc (by simp) _).alloc (by simp;omega) _
 have HC:=Z1 ((hr.low hba).counts)
 have HB:=Z1 hba
 have k2:(((w.alloc (.cells #[.int .i64 enc,.bool mark,trv n,.string tail] 91)).alloc (.cells #[.int .i64 oth] 3)).alloc (.cells #[.bool false] 4)).heap[w.heap.size+1+1]?=some (.cells #[.bool false] 4):=by
  have:=Go.Deep.blk_alloc_new ((w.alloc (.cells #[.int .i64 enc,.bool mark,trv n,.string tail] 91)).alloc (.cells #[.int .i64 oth] 3)) (.cells #[.bool false] 4);rwa [World.size_alloc,World.size_alloc] at this
 have k0:(((w.alloc (.cells #[.int .i64 enc,.bool mark,trv n,.string tail] 91)).alloc (.cells #[.int .i64 oth] 3)).alloc (.cells #[.bool false] 4)).heap[w.heap.size]?=some (.cells #[.int .i64 enc,.bool mark,trv n,.string tail] 91):=by
  rw[Below.heap_alloc _ _ _ (by simp;omega),Below.heap_alloc _ _ _ (by simp)];exact Go.Deep.blk_alloc_new _ _
 have HK:=Z1 k2
 have HK0:=Z1 k0
 simp only[cnOf,Cn.val] at HC
 rw[show ((Vm.cntK (rowA enc R) 4:Nat):Int)=0 by rw[hesc];rfl] at HC
 have hne:tail.toList.isEmpty=false:=by
  rw[ByteArray.toList_eq];cases hq:tail.data.toList with
  |nil=>exact absurd (QcO hq) htl
  |cons a l=>rfl
 clear hba k2 k0 hr hesc
 go_enter func108,ntmps108
 go_wp2_with fail
 refine HC.o.mono ?_
 rintro e w1 ⟨rfl,hb1⟩
 have hs0:(((w.alloc (.cells #[.int .i64 enc,.bool mark,trv n,.string tail] 91)).alloc (.cells #[.int .i64 oth] 3)).alloc (.cells #[.bool false] 4)).heap.size=w.heap.size+3:=by simp
 have hk1:=(hb1.block (w.heap.size+1+1) (by rw[hs0];omega)).trans HK.o
 have hk0:=(hb1.block w.heap.size (by rw[hs0];omega)).trans HK0.o
 have c3:=C3 hk0
 have r1:=C0 hk1
 have rf:w1.frozen? ⟨w.heap.size+1+1,0,none⟩=false:=Lib.frozen_of_heap hk1 0
 have zr:=Z3 r1
 have HB1:=Z1 (HB.o.trans (hb1.mono (by rw[hs0];omega)))
 have HF:=Z1 (World.cell?_setCell_same' w1 ⟨w.heap.size+1+1,0,none⟩ (.bool false) (by rw[r1];rfl))
 clear hb1 hk1 hk0 HC HB HK HK0 hs0
 go_wp2_with fail
 exact bodyPost_ret (v:=.bool false) (by simp [results,Tryz.results108,go_sem,HF.o]) rfl ⟨rfl,Below.setCell (p:=⟨w.heap.size+1+1,0,none⟩) HB1.o (by show _<=w.heap.size+1+1;omega) _⟩
theorem Qne (A:List Vm.At):A.all (fun x=>x.1 != 4)=decide (Vm.cntK A 4=0):=by
 induction A with
 |nil=>rfl
 |cons x A ih =>
  rw[List.all_cons,ih,Vm.QcZ];by_cases h:x.1=4
  ·simp [h]
  simp [h]
theorem Qna (k:Kp) (n:Option Nd) (R:List (Cn × ByteArray)) (tail:ByteArray) (e:Int) (w:World) (ht:TabW w) (hc:CtOk w k n R tail) (e0:0<=e) (e3:e<=3) (hs:k.body.size<=274877906944) :
  Calls prog 108 #[ctv k n tail,.int .i64 e] w fun x w'=>x=.returned (.bool (fitsK k e))/\Below w.heap.size w w':=by
 have hsA:=hc.sizeA
 have hlens:=hc.lens
 have hL:k.L.length=k.body.size:=rfl
 unfold fitsK
 rw[Qne,hc.atoms]
 rw[hc.atoms] at hsA
 unfold ctv
 by_cases h4:Vm.cntK (rowA k.enc R) 4=0
 ·by_cases htl:tail=⟨#[]⟩
  ·subst htl;have hz:(⟨#[]⟩:ByteArray).size=0:=rfl;rw[decide_eq_true h4,decide_eq_true (show Vm.sizeA (rowA k.enc R)=k.L.length by omega),Bool.true_and,Bool.true_and];refine (QnL k.enc k.mark n R e w ht hc.tr hc.h0 hc.h3 e0 e3 (by omega) h4).mono ?_;rintro x w' ⟨rfl,hb⟩;refine⟨?_,hb⟩;congr 2;by_cases he:e=3
   ·subst he;rfl
   rw[decide_eq_true (show e≠3 from he),Bool.true_or];refine List.all_eq_true.2 (fun a ha=>decide_eq_true ?_)
   have hv:Vm.validB a.2.1=true:=by
    simp only[rowA,List.mem_flatMap] at ha;obtain⟨y,_,hy⟩:=ha;exact (Vm.QbM k.enc _ a hy).1
   unfold Vm.great;rw[if_neg he];simp only[Vm.validB,Bool.or_eq_true,Bool.and_eq_true,decide_eq_true_eq] at hv;omega
  have hts:tail.size≠0:=fun q=>htl (QcO (by
   have:tail.data.size=0:=q
   rw[Array.size_eq_zero_iff.1 this]))
  rw[decide_eq_false (show ¬Vm.sizeA (rowA k.enc R)=k.L.length by omega),Bool.and_false,Bool.false_and];exact QlE k.enc k.mark n R tail e w hc.tr h4 htl
 rw[decide_eq_false h4,Bool.false_and,Bool.false_and]
 exact QnK k.enc k.mark n R tail e w hc.tr h4
theorem Qf6 (e:Int) (w:World):Calls prog 107 #[.int .i64 e] w fun x w'=>x=.returned (.bool (decide (0<=e)&&decide (e<=3)))/\w'=w:=by
 by_cases h:0<=e
 ·by_cases h2:e<=3
  ·go_enter func107,ntmps107;go_wp2_with fail;go_ret;exact⟨by simp [h,h2],rfl⟩
  go_enter func107,ntmps107;go_wp2_with fail;go_ret;exact⟨by simp [h2],rfl⟩
 go_enter func107,ntmps107;go_wp2_with fail;go_ret;exact⟨by rw[decide_eq_false (show ¬0<=e by omega)];rfl,rfl⟩
end Go.Proofs.YtoejbngihecafaaGreatDoor
