import Derived.Deep.RegionLaw
import Derived.Test.YtoejbngihecafaaGreatDoorC27
import Derived.Test.YtoejbngihecafaaGreatDoorC0
set_option maxRecDepth 100000
set_option maxHeartbeats 2000000
open Go.Proofs.Tryz
namespace Go.Proofs.YtoejbngihecafaaGreatDoor
open Go.RowKit
variable {w:World} {enc:Int} {mark:Bool} {p:Nat} {body:ByteArray}
theorem Qat {P:Program} {ops:Array Oper} {o:Oper} {a:Act} {K:Act->World->Prop} {Q:Exit->Act->World->Prop} {E:Prop}
  (hg:o.guard=none) (s x:Operand) (t1 t2:TypeId) (hop:o.op=Op.call { callee:=Callee.builtin Builtin.append,args:=#[s,x],argTypes:=#[t1,t2] })
  (u1 u2:Value) (hs:a.eval s=u1) (hx:a.eval x=u2) (v:Value) (w':World) (hrun:(Builtin.append_ #[t1,t2] o.type #[u1,u2]).run P w=.ok v w') (hK:K (a.put o.dst v) w') :
  if Region.wanted o (yielded ops a.tmps)=true then Oper.wp P o a w K Q else E:=by
 have hw:Region.wanted o (yielded ops a.tmps)=true:=by simp [Region.wanted,hg]
 rw[if_pos hw]
 unfold Oper.wp
 simp [execOp,hop,resolve,invoke,builtin,hs,hx,hrun,Result.andThen]
 exact hK
structure TkI (B q:Nat) (mode:Int) (all:List UInt8) (b:ByteArray) (v0:Value) (w0:World) (begun:Bool) (enc:Int) (mark:Bool) (t:Option Nd) (R:List (Cn × ByteArray)) (v:Value) (ws:List UInt8) (r:ByteArray) (w:World):Prop where
 ls:LdS B q mode begun enc mark t R v ws w
 inv:∃done,done++r.data.toList=b.data.toList/\Inv mode (all++done) begun enc mark t R ws
 ps:Ps q v0 w0 v w
theorem QgN (B q:Nat) (mode enc:Int) (begun mark:Bool) (t:Option Nd) (R:List (Cn × ByteArray)) (v:Value) (ws all:List UInt8) (b:ByteArray) (w00 w:World) (ht:Tabs w00) (hq0:w00.heap.size<=q) (hB0:w00.heap.size<=B) (hBw:B<=w.heap.size) (hb0:Below w00.heap.size w00 w) (h:LdS B q mode begun enc mark t R v ws w) (hi:Inv mode all begun enc mark t R ws) (hl:all.length+b.size<=1099511627776) (h0:0<=mode) (h7:mode<=7) :
  Calls prog 43 #[.pointer (some ⟨q,0,none⟩),.string b] w fun e w'=>∃begun' enc' mark' t' R' v' ws',e=.returned (.tuple #[])/\LdS B q mode begun' enc' mark' t' R' v' ws' w'/\Inv mode (all++b.data.toList) begun' enc' mark' t' R' ws'/\Ps q v w v' w':=by
 have HP:=Z1 (fun v' w' (hp:Ps q v w v' w')=>hp.below h.wt hq0 hB0 hb0)
 have hT0:TkI B q mode all b v w begun enc mark t R v ws b w:=⟨h,⟨[],rfl,by rw[List.append_nil];exact hi⟩,Ps.refl _ _ _⟩
 have HT0:=Z1 hT0
 have HT:=Z1 ht
 clear h hi ht hb0 hT0
 go_enter func43,ntmps43
 go_wp2_with fail
 go_loopg [1] b.size (fun k s1 wx=>∃begun2 enc2 mark2 t2 R2 v2 ws2 r,s1=.string r/\k=r.size/\TkI B q mode all b v w begun2 enc2 mark2 t2 R2 v2 ws2 r wx)
 case atStart=>exact⟨begun,enc,mark,t,R,v,ws,b,rfl,rfl,HT0.o⟩
 case round =>
  clear HT0;obtain⟨begun2,enc2,mark2,t2,R2,v2,ws2,r,rfl,rfl,hI⟩:=hrel;obtain⟨p2,cap2,rfl,hcap2⟩:=hI.ls.wt.val;have c6:=hI.ls.ld.c6;have hz:=Z3 c6;have I2:=Z1 hI;clear hI;by_cases hr:r.size=0
  ·obtain rfl:r=⟨#[]⟩:=by
    cases r with|mk a=>congr;exact Array.eq_empty_of_size_eq_zero hr
   go_wp2_with fail;go_returns;obtain⟨done,hd,hv⟩:=I2.o.inv;have hd2:done=b.data.toList:=by simpa using hd
   subst hd2;exact⟨_,_,_,_,_,_,_,rfl,I2.o.ls,hv,I2.o.ps⟩
  have hre:r.toList.isEmpty=false:=by
   cases hc:r.toList.isEmpty with
   |false=>rfl
   |true =>
    rw[ByteArray.toList_eq,List.isEmpty_iff] at hc;have:r.data.toList.length=r.size:=rfl;rw[hc] at this;exact absurd this.symm hr
  have hsz:r.size<=b.size:=by
   obtain⟨done,hd,_⟩:=I2.o.inv;have:=congrArg List.length hd;rw[List.length_append] at this;have e1:r.data.toList.length=r.size:=rfl;have e2:b.data.toList.length=b.size:=rfl;omega
  have hwl:ws2.length+r.size<=1099511627776:=by
   obtain⟨done,hd,hv⟩:=I2.o.inv;have h1:=hv.sizes;have h2:=congrArg List.length hd;rw[List.length_append] at h1 h2;have e1:r.data.toList.length=r.size:=rfl;have e2:b.data.toList.length=b.size:=rfl;omega
  obtain⟨n,hn⟩:∃n,n=min r.size 1000:=⟨_,rfl⟩;have hmn:min (r.size:Int) 1000=(n:Int):=by omega
  have hmn':min (1000:Int) (r.size:Int)=(n:Int):=by omega
  have hn0:(0:Int)<=(n:Int):=by omega
  have hn1:(n:Int)<=(r.size:Int):=by omega
  have hn2:n<=r.size:=by omega
  have hn3:1<=n:=by omega
  have hes:(r.extract 0 n).size=n:=by simp [ByteArray.size_extract];omega
  clear hn;obtain⟨v3,w3,hap,hwt3,hst3,hvb3⟩:=QmB 92 B (.slice p2 ws2.length cap2) ws2 (r.extract 0 n) wr.drew (I2.o.ls.low ((Below.refl _ _).drew)).wt (by rw[hes];omega) (Nat.le_trans hBw I2.o.ps.size);obtain⟨p3,cap3,rfl,hcap3⟩:=hwt3.val
  have hel:(r.extract 0 n).data.toList=r.data.toList.take n:=by
   rw[ByteArray.data_extract,Array.toList_extract,List.extract_eq_take_drop,List.drop_zero,Nat.sub_zero]
  have her:(r.extract n r.size).data.toList=r.data.toList.drop n:=by
   rw[ByteArray.data_extract,Array.toList_extract,List.extract_eq_take_drop];exact List.take_of_length_le (by rw[List.length_drop];exact Z6 _)
  have hers:(r.extract n r.size).size=r.size - n:=by
   have:(r.extract n r.size).data.toList.length=(r.extract n r.size).size:=rfl;rw[<-this,her,List.length_drop];rfl
  have hrl:r.data.toList.length=r.size:=rfl
  have hlen:(ws2++(r.extract 0 n).data.toList).length=ws2.length+n:=by
   rw[List.length_append,hel,List.length_take];omega
  rw[hlen] at hap hwt3 hvb3;clear hcap3 hlen;have HWT3:=Z1 hwt3;have HST3:=Z1 hst3;have HVB3:=Z1 hvb3;have d6:=((I2.o.ls.low ((Below.refl _ _).drew)).ld.wtstep hst3 I2.o.ls.nq).c6;have e6:=((I2.o.ls.low ((Below.refl _ _).drew)).ld.wtstep hst3 I2.o.ls.nq).fr 6;have z3:=Z3 d6;go_wp2_with fail;go_region_law (refine Qat rfl _ _ _ _ rfl _ _ rfl rfl _ _ hap ?_);have H4:=Z1 ((I2.o.ls.low ((Below.refl _ _).drew)).wait _ _ HWT3.o HST3.o HVB3.o);have P4:=Z1 (I2.o.ps.trans ((Ps.of_low (v':=.slice p2 ws2.length cap2) ((Below.refl _ _).drew) rfl).trans ((Ps.of_wt HST3.o HVB3.o).trans (Ps.of_tn ((Tn.refl _ _).setCell (j:=6) (.slice p3 (ws2.length+n) cap3)) rfl))));clear hst3 hwt3 hvb3 hap d6 e6 z3 c6 hz HWT3 HST3 HVB3;go_wp2_with fail;generalize w3.setCell ⟨q,6,none⟩ (.slice p3 (ws2.length+n) cap3)=w4 at *;obtain⟨done,hd,hv⟩:=I2.o.inv;have hdl:=congrArg List.length hd;have hbl:b.data.toList.length=b.size:=rfl;rw[List.length_append] at hdl;refine (Qkb B q mode enc2 begun2 mark2 t2 R2 _ _ ((all++done)++(r.extract 0 n).data.toList) w00 w4 HT.o hq0 hB0 (HP.o _ _ P4.o) H4.o (hv.more _) (by rw[List.length_append,List.length_append,hel,List.length_take];omega) h0 h7).mono ?_;rintro e w5 ⟨begun5,enc5,mark5,t5,R5,v5,ws5,rfl,hL5,hI5,hP5⟩;go_wp2_with fail;go_roundg (r.size - n)
  case measure=>omega
  case rel =>
   refine⟨begun5,enc5,mark5,t5,R5,v5,ws5,r.extract n r.size,rfl,hers.symm,hL5,⟨done++r.data.toList.take n,?_,?_⟩,P4.o.trans hP5⟩
   ·rw[her,List.append_assoc,List.take_append_drop,hd]
   rw[<-hel,<-List.append_assoc];exact hI5
theorem Qj0 (B q:Nat) (mode enc:Int) (begun mark:Bool) (t:Option Nd) (R:List (Cn × ByteArray)) (v:Value) (ws all:List UInt8) (b:ByteArray) (w00 w:World) (ht:Tabs w00) (hq0:w00.heap.size<=q) (hB0:w00.heap.size<=B) (hBw:B<=w.heap.size) (hb0:Below w00.heap.size w00 w) (h:LdS B q mode begun enc mark t R v ws w) (hi:Inv mode all begun enc mark t R ws) (hl:all.length+b.size<=1099511627776) (h0:0<=mode) (h7:mode<=7) :
  Calls prog 13 #[.pointer (some ⟨q,0,none⟩),.string b] w fun e w'=>∃begun' enc' mark' t' R' v' ws',e=.returned (.tuple #[])/\LdS B q mode begun' enc' mark' t' R' v' ws' w'/\Inv mode (all++b.data.toList) begun' enc' mark' t' R' ws'/\Ps q v w v' w':=by
 have HT:=Z1 (QgN B q mode enc begun mark t R v ws all b w00 w ht hq0 hB0 hBw hb0 h hi hl h0 h7)
 have hz:=Z3 h.ld.c0
 clear h hi ht hb0
 go_enter func13,ntmps13
 go_wp2_with fail
 refine HT.o.mono ?_
 rintro e w5 ⟨begun5,enc5,mark5,t5,R5,v5,ws5,rfl,hL5,hI5,hP5⟩
 go_wp2_with fail
 go_returns
 exact⟨_,_,_,_,_,_,_,rfl,hL5,hI5,hP5⟩
theorem LdC.of_heap {q:Nat} {mode:Int} {begun:Bool} {tv:Value} {tail:ByteArray} {v:Value} {ty:TypeId} (h:w.heap[q]?=some (.cells #[.int .i64 mode,.bool begun,.int .i64 enc,.bool mark,tv,.string tail,v] ty)) (h1:ty≠188) (h2:ty≠217):LdC w q mode begun enc mark tv tail v:=by
 refine⟨by rw[Lib.cell_of_heap h];rfl,by rw[Lib.cell_of_heap h];rfl,by rw[Lib.cell_of_heap h];rfl,by rw[Lib.cell_of_heap h];rfl,by rw[Lib.cell_of_heap h];rfl,by rw[Lib.cell_of_heap h];rfl,by rw[Lib.cell_of_heap h];rfl,fun j=>Lib.frozen_of_heap h j,?_⟩;have ht:tyAt w q=some ty:=by unfold tyAt;rw[h]
 unfold NoNd;rw[ht];exact⟨fun e=>h1 (Option.some.inj e),fun e=>h2 (Option.some.inj e)⟩
theorem Qji (B:Nat) (mode enc:Int) (begun mark:Bool) (t:Option Nd) (R:List (Cn × ByteArray)) (v:Value) (ws:List UInt8) (b:ByteArray) (w:World) (ht:Tabs w) (hw:Wt w B v ws) (htr:TrAt w enc t R) (hi:Inv mode b.data.toList begun enc mark t R ws) (hl:b.size<=1099511627776) (h0:0<=mode) (h7:mode<=7) :
  Calls prog 49 #[.agg #[.int .i64 mode,.bool begun,.int .i64 enc,.bool mark,trv t,.string ⟨#[]⟩,v]] w fun e w'=>∃n R' tail',e=.returned (.agg #[.int .i64 (encOf b mode),.bool (ofMark b (encOf b mode)),trv (some n),.string tail'])/\TrAt w' (encOf b mode) (some n) R' /\
   (ofBody b (encOf b mode)).data.toList=rowB R'++tail'.data.toList/\Vm.atoms (encOf b mode) (ofBody b (encOf b mode)).data.toList=rowA (encOf b mode) R'/\Gd R'/\Below w.heap.size w w':=by
 have hbl:b.data.toList.length=b.size:=rfl
 have hba:=Z7 w (.cells #[.int .i64 mode,.bool begun,.int .i64 enc,.bool mark,trv t,.string ⟨#[]⟩,v] 94)
 have hbb:=hba.alloc (by simp) (.cells #[.int .i64 0,.bool false,.nilIface,.string ⟨#[]⟩] 91)
 have hZ:((w.alloc (.cells #[.int .i64 mode,.bool begun,.int .i64 enc,.bool mark,trv t,.string ⟨#[]⟩,v] 94)).alloc (.cells #[.int .i64 0,.bool false,.nilIface,.string ⟨#[]⟩] 91)).heap[w.heap.size]?=some (.cells #[.int .i64 mode,.bool begun,.int .i64 enc,.bool mark,trv t,.string ⟨#[]⟩,v] 94):=by
  rw[Below.heap_alloc _ _ _ (by simp)];exact heap_alloc_new w _
 have hR:((w.alloc (.cells #[.int .i64 mode,.bool begun,.int .i64 enc,.bool mark,trv t,.string ⟨#[]⟩,v] 94)).alloc (.cells #[.int .i64 0,.bool false,.nilIface,.string ⟨#[]⟩] 91)).heap[w.heap.size+1]?=some (.cells #[.int .i64 0,.bool false,.nilIface,.string ⟨#[]⟩] 91):=by
  have:=heap_alloc_new (w.alloc (.cells #[.int .i64 mode,.bool begun,.int .i64 enc,.bool mark,trv t,.string ⟨#[]⟩,v] 94)) (.cells #[.int .i64 0,.bool false,.nilIface,.string ⟨#[]⟩] 91);simpa using this
 have hld:=LdC.of_heap hZ (by decide) (by decide)
 have hnz:wblk v≠some w.heap.size:=fun e=>by have:=(hw.blk_lt e).1;omega
 have fin:∀(E:Int) (mk:Bool) (t1:Option Nd) (R1:List (Cn × ByteArray)) (ws1:List UInt8),trv t1=trv t->Said mode b.data.toList E mk R1 ws1 ->
   (Calls prog 80 #[.pointer (some ⟨w.heap.size,0,none⟩)] ((w.alloc (.cells #[.int .i64 mode,.bool begun,.int .i64 enc,.bool mark,trv t,.string ⟨#[]⟩,v] 94)).alloc (.cells #[.int .i64 0,.bool false,.nilIface,.string ⟨#[]⟩] 91)) fun e w1=>e=.returned (.tuple #[])/\∃v1,AlI B w.heap.size w mode E mk t1 ⟨#[]⟩ v1 ws1 R1 w1) ->
   Calls prog 49 #[.agg #[.int .i64 mode,.bool begun,.int .i64 enc,.bool mark,trv t,.string ⟨#[]⟩,v]] w fun e w'=>∃n R' tail',e=.returned (.agg #[.int .i64 (encOf b mode),.bool (ofMark b (encOf b mode)),trv (some n),.string tail'])/\TrAt w' (encOf b mode) (some n) R' /\
    (ofBody b (encOf b mode)).data.toList=rowB R'++tail'.data.toList/\Vm.atoms (encOf b mode) (ofBody b (encOf b mode)).data.toList=rowA (encOf b mode) R'/\Gd R'/\Below w.heap.size w w':=by
  intro E mk t1 R1 ws1 het hS hB
  have hs:=hS.sizes
  have hr:=hS.len
  rw[<-het] at hB ⊢
  refine (Qos B mode enc E begun mark mk t1 ⟨#[]⟩ v ws1 R1 w hS.bd.1 hS.bd.2 (by omega) (by omega) (by omega) hB).mono ?_
  rintro e w' ⟨n,R',tail',rfl,htr',hb',ha',htl',hgd',hbl'⟩
  obtain⟨rfl,rfl,g3,g4⟩:=hS.doc b rfl tail' hb' ha' htl'
  exact⟨n,R',tail',rfl,htr',g3,g4,hgd' hS.gd,hbl'⟩
 rcases hi with ⟨rfl,rfl,rfl,rfl⟩|⟨rfl,ha,hs⟩
 ·refine fin _ _ none [] _ rfl (Qgc mode b.data.toList) ((QhW B w.heap.size mode enc mark none ⟨#[]⟩ v b.data.toList w _ ht (Z6 _) hbb hld (hw.low hbb) hnz (by omega) h0 h7).mono ?_);rintro e w1 ⟨v1,rfl,g1,g2,g3,g4⟩;exact⟨rfl,v1,g1,g2,by rw[g3];exact hnz,⟨fun n hn=>(by cases hn),fun _=>rfl,fun x hx=>(by cases hx)⟩,ht,Z6 _,(g4.keep _ (Z4 hR) (by omega)).trans hR,QbK hbb (Z6 _) g4⟩
 refine fin enc mark t R ws rfl hs ((Qgo _ mode enc mark (trv t) ⟨#[]⟩ v _ hld).mono ?_)
 rintro e w1 ⟨rfl,rfl⟩
 exact⟨rfl,v,hld,hw.low hbb,hnz,htr.low hbb,ht,Z6 _,hR,hbb⟩
def DF (w:World) (p:Nat) (enc:Int) (mark:Bool) (body:ByteArray):Prop:=∃n R tail,DocAt w p enc mark body n R tail/\w.heap[p]?=some (.cells #[.int .i64 enc,.bool mark,trv n,.string tail,.slice none 0 0,.slice none 0 0] 110)
theorem DF.dd (h:DF w p enc mark body):DD w p enc mark body:=by
 obtain⟨n,R,tail,h,_⟩:=h;exact⟨n,R,tail,h⟩
theorem DF.low {w':World} (h:DF w p enc mark body) (hb:Below w.heap.size w w'):DF w' p enc mark body:=by
 obtain⟨n,R,tail,h,h2⟩:=h;exact⟨n,R,tail,h.low hb,(hb.block p h.lt).trans h2⟩
theorem Qk0 (B q:Nat) (mode enc:Int) (begun mark:Bool) (t:Option Nd) (R:List (Cn × ByteArray)) (v:Value) (ws:List UInt8) (b:ByteArray) (w:World) (ht:Tabs w) (h:LdS B q mode begun enc mark t R v ws w) (hi:Inv mode b.data.toList begun enc mark t R ws) (hl:b.size<=1099511627776) (h0:0<=mode) (h7:mode<=7) :
  Calls prog 17 #[.pointer (some ⟨q,0,none⟩)] w fun e w'=>∃p,e=.returned (.pointer (some ⟨p,0,none⟩))/\w.heap.size<=p/\DF w' p (encOf b mode) (ofMark b (encOf b mode)) (ofBody b (encOf b mode))/\Below w.heap.size w w':=by
 have HA:=Z1 (Qji B mode enc begun mark t R v ws b w ht h.wt h.tr hi hl h0 h7)
 obtain⟨p,cap,rfl,hcap⟩:=h.wt.val
 have c0:=h.ld.c0
 have c1:=h.ld.c1
 have c2:=h.ld.c2
 have c3:=h.ld.c3
 have c4:=h.ld.c4
 have c5:=h.ld.c5
 have c6:=h.ld.c6
 have hz:=Z3 c0
 clear h hi ht
 go_enter func17,ntmps17
 go_wp2_with fail
 refine HA.o.mono ?_
 rintro e w1 ⟨n,R',tail',rfl,htr,hby,hat,hgd,hb1⟩
 simp only[QbF]
 have hbd:0<=encOf b mode/\encOf b mode<=3:=by
  have:=QjG b.data.toList mode;rw[(Qg7 b b.data.toList mode (List.prefix_refl _) (.inr rfl)).1] at this;exact this
 have hos:=Nat.le_trans (QiW b (encOf b mode)) hl
 have HTR:=Z1 htr
 clear HA c0 c1 c2 c3 c4 c5 c6 hz htr
 go_wp2_with fail
 go_ret
 have hba:=Z7 w1 (.cells #[.int .i64 (encOf b mode),.bool (ofMark b (encOf b mode)),.iface n.ty (.pointer (some ⟨n.blk,0,none⟩)),.string tail',.slice none 0 0,.slice none 0 0] 110)
 exact⟨_,rfl,hb1.size,⟨some n,R',tail',⟨⟨_,_,heap_alloc_new w1 _⟩,HTR.o.low hba,hbd.1,hbd.2,hby,hat,hos,hgd⟩,heap_alloc_new w1 _⟩,hb1.trans (hba.mono hb1.size)⟩
theorem Qjr (b:ByteArray) (mode:Int) (w:World) (ht:Tabs w) (hl:b.size<=1099511627776) (h0:0<=mode) (h7:mode<=7) :
  Calls prog 36 #[.string b,.int .i64 mode] w fun e w'=>∃p,e=.returned (.tuple #[.pointer (some ⟨p,0,none⟩),.int .i64 0])/\w.heap.size<=p/\DF w' p (encOf b mode) (ofMark b (encOf b mode)) (ofBody b (encOf b mode))/\Below w.heap.size w w':=by
 have HB:=Z1 (QjW mode w h0 h7)
 have hba:=Z7 w (.cells #[.int .i64 mode,.bool false,.int .i64 0,.bool false,.nilIface,.string ⟨#[]⟩,.slice none 0 0] 96)
 have hls:LdS w.heap.size w.heap.size mode false 0 false none [] (.slice none 0 0) [] (w.alloc (.cells #[.int .i64 mode,.bool false,.int .i64 0,.bool false,.nilIface,.string ⟨#[]⟩,.slice none 0 0] 96)) :=
  ⟨LdC.of_heap (heap_alloc_new w _) (by decide) (by decide),.inl ⟨rfl,rfl⟩,(by intro e;cases e),⟨fun n hn=>(by cases hn),fun _=>rfl,fun x hx=>(by cases hx)⟩⟩
 have HP:=Z1 (Qj0 w.heap.size w.heap.size mode 0 false false none [] (.slice none 0 0) [] [] b w _ ht (Z6 _) (Z6 _) hba.size hba hls (.inl ⟨rfl,rfl,rfl,rfl⟩) (by simpa using hl) h0 h7)
 have HW:=Z1 (fun v' w' (hp:Ps w.heap.size (.slice none 0 0) _ v' w')=>hp.below hls.wt (Z6 _) (Z6 _) hba)
 have HT:=Z1 ht
 have hz:=hls.ld.lt
 clear hls hba ht
 go_enter func36,ntmps36
 go_wp2_with (go_at_call 10;refine HB.o.mono ?_;rintro e w' ⟨rfl,rfl⟩)
 refine HP.o.mono ?_
 rintro e w2 ⟨begun2,enc2,mark2,t2,R2,v2,ws2,rfl,hL2,hI2,hP2⟩
 have hb2:=HW.o _ _ hP2
 have hz2:=hL2.ld.lt
 have HE:=Z1 (Qk0 _ _ mode enc2 begun2 mark2 t2 R2 v2 ws2 b w2 (HT.o.below hb2) hL2 (by simpa using hI2) hl h0 h7)
 clear hL2 hI2 hP2 HP HW HB
 go_wp2_with fail
 refine HE.o.mono ?_
 rintro e w3 ⟨p,rfl,hp,hd,hb3⟩
 go_wp2_with fail
 go_ret2
 exact⟨p,rfl,Nat.le_trans hb2.size hp,hd,hb2.trans (hb3.mono hb2.size)⟩
theorem Qoh (b:ByteArray) (mode:Int) (w:World) (ht:Tabs w) (hl:b.size<=1099511627776) (h0:0<=mode) (h7:mode<=7) :
  Calls prog 36 #[.string b,.int .i64 mode] w fun e w'=>∃p,e=.returned (.tuple #[.pointer (some ⟨p,0,none⟩),.int .i64 0])/\DD w' p (encOf b mode) (ofMark b (encOf b mode)) (ofBody b (encOf b mode))/\Below w.heap.size w w' :=
 (Qjr b mode w ht hl h0 h7).mono fun _ _ ⟨p,h1,_,h3,h4⟩=>⟨p,h1,h3.dd,h4⟩
theorem api :Api Tabs DD where
 tab:=fun h hb=>h.below hb
 low:=fun ⟨n,R,tail,h⟩ hb=>⟨n,R,tail,h.low hb⟩
 load:=Qoh
 load_no:=fun b mode w _ h=>(load_no b mode w h).mono fun e w1 ⟨he,hw⟩=>⟨he,by rw[hw];exact Below.refl _ _⟩
 text:=docText
 state:=docShow
 save:=docSave
 stable:=docStable
end Go.Proofs.YtoejbngihecafaaGreatDoor
