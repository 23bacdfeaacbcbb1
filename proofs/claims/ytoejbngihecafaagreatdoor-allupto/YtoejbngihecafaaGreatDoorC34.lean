import Derived.Lib.OthersKept
import Derived.Test.YtoejbngihecafaaGreatDoorC9
import Derived.Test.YtoejbngihecafaaGreatDoorC18
import Derived.Test.YtoejbngihecafaaGreatDoorC24
import Derived.Test.YtoejbngihecafaaGreatDoorC6
import Derived.Test.YtoejbngihecafaaGreatDoorC16
import Derived.Test.YtoejbngihecafaaGreatDoorC0
set_option maxRecDepth 100000
set_option maxHeartbeats 1000000
open Go.Proofs.Tryz
namespace Go.Proofs.YtoejbngihecafaaGreatDoor
open Go.RowKit Go.Vit
variable {B b:Nat} {w w':World} {P:Program}
theorem Bd.val {bs:List Value} (h:Bd B b bs w):∃p cap,w.heap[b]?=some (.cells #[.pointer (some ⟨b,0,none⟩),.slice p bs.length cap] 144)/\w.ownsRow B 5 1 (.slice p bs.length cap) bs.length bs/\(Value.slice p bs.length cap).ownBlock≠some b:=by
 obtain⟨hB,v,hbk,hown,hne⟩:=h
 obtain⟨p,cap,rfl⟩:∃p cap,v=.slice p bs.length cap:=by
  rcases hown.2 with ⟨x,y⟩|⟨g,c,cur,x,_⟩
  ·exact⟨none,0,by rw[x,y]⟩
  exact⟨_,_,x⟩
 exact⟨p,cap,hbk,hown,hne⟩
theorem Qlr {n:Nat} {v v':Value} {xs:List Value} {w2:World} (hB:B<=b) (hbz:b<w.heap.size)
  (hbk:w.heap[b]?=some (.cells #[.pointer (some ⟨b,0,none⟩),v] 144)) (hne:v.ownBlock≠some b) (hgr:w.grownBy w2 v.ownBlock)
  (hown:w2.ownsRow B 5 1 v' n xs) (hat:v'.ownBlock=v.ownBlock\/v'.ownBlock=some w.heap.size) :
  w2.cell? ⟨b,1,none⟩=some v/\w2.frozen? ⟨b,1,none⟩=false/\Bd B b xs (w2.setCell ⟨b,1,none⟩ v')/\Gr b w (w2.setCell ⟨b,1,none⟩ v'):=by
 have hkb:w2.heap[b]?=some (.cells #[.pointer (some ⟨b,0,none⟩),v] 144):=by
  rw[hgr.block b hbz (fun e=>hne e.symm)];exact hbk
 have c1:=C1 hkb
 have hsz:=hgr.size
 have hw:=C1 hbk
 have hvb:v'.ownBlock≠some b:=by
  rcases hat with x|x
  ·rw[x];exact hne
  rw[x];intro e;injection e with e;omega
 have hn:n=xs.length:=by have:=hown.1;omega
 subst hn
 refine⟨c1,by simp [World.frozen?,hkb],⟨hB,v',?_,⟨hown.1,?_⟩,hvb⟩,rfl.trans hgr.os,hgr.tape,hgr.output,?_,?_,?_⟩
 ·simp [World.setCell,Array.getElem?_modify,hkb]
 ·rcases hown.2 with x|⟨g,cap,cur,e1,e2,e3,r⟩
  ·exact .inl x
  refine .inr ⟨g,cap,cur,e1,e2,?_,r⟩;rw[Below.heap_setCell _ _ _ _ (fun e=>hvb (by rw[e1,e];rfl))];exact e3
 ·simp [World.setCell];omega
 ·intro k h1 h2 h3;rw[Below.heap_setCell _ _ _ _ (by simpa using h2)];rw[hgr.block k h1 (fun e=>h3 ⟨v,hw,e.symm⟩)]
 rintro k ⟨u,h1,h2⟩
 rw[sc_eq _ _ 1 _ _ c1] at h1
 injection h1 with h1
 subst h1
 rcases hat with x|x
 ·exact .inl ⟨v,hw,x ▸ h2⟩
 rw[x] at h2;injection h2 with h2;exact .inr (by omega)
theorem Qcs (w:World) (base:Nat) (t u ty e:TypeId) (i:TypeInfo) (ht:P.underlying t=some (.slice e)) (hu:P.underlying u=some .string) (hi:P.info? e=some i) (hz:i.zero=some (.int .u8 0))
  (hsize:i.size=1) (hby:i.bytes=1) (v:Value) (n:Nat) (xs:List Value) (hown:w.ownsRow base e 1 v n xs) (s:ByteArray) (h63:n+s.size<=maxLen) (hbytes:n+s.size<=140737488355328) (hbase:base<=w.heap.size) :
  ∃v' w',(Builtin.append_ #[t,u] ty #[v,.string s]).run P w=.ok v' w'/\w'.ownsRow base e 1 v' (n+s.size) (xs++Lib.strCells s)/\w.grownBy w' v.ownBlock/\(v'.ownBlock=v.ownBlock\/v'.ownBlock=some w.heap.size):=by
 obtain⟨v',w',hr,h2,h3,h4⟩:=Lib.run_append_own_string (P:=P) w base t u ty e i ht hu hi hz hsize hby v n xs hown s h63 hbytes hbase
 refine⟨v',w',hr,h2,h3,?_⟩
 have hsmall:n+s.size<=9223372036854775807:=by simp only[maxLen] at h63;omega
 have hxl:xs.length=n:=by simpa using hown.1
 rcases hown.2 with ⟨rfl,rfl⟩|⟨g,cap,cur,rfl,hbg,hg,hnc,hcm,hcs,htake⟩
 ·by_cases hm:s.size=0
  ·left;rw[h4.2 ⟨rfl,hm⟩]
  right;have hr2:=run_append_nil_string (P:=P) w t u ty e i (.int .u8 0) ht hu hi hz s (by omega) (by omega) (by rw[hby];omega);rw[hr] at hr2;injection hr2 with e1 e2
  rw[e1];rfl
 by_cases hroom:n+s.size<=cap
 ·left;have hcs':cur.size=cap:=by simpa using hcs
  have hr2:=Lib.run_append_room_string (P:=P) w t u ty e i ht hu hi hsize g n cap cur hg s hroom (by omega);rw[hr] at hr2;injection hr2 with e1 e2
  rw[e1];rfl
 right
 have holds:∀j u,xs[j]?=some u->w.cell? ((⟨g,0,none⟩:Addr).add j)=some u:=hown.cells (g:=g) rfl
 have hr2:=Lib.run_append_grow_string (P:=P) w t u ty e i (.int .u8 0) ht hu hi hz ⟨g,0,none⟩ n cap xs (by rw[hsize];simpa using hxl) holds s (by omega) (by omega) (by rw[hby];exact growslice_fits (by omega) (by omega))
 rw[hr] at hr2
 injection hr2 with e1 e2
 rw[e1];rfl
theorem QcL {ops:Array Oper} {rest:List Oper} {o:Oper} {a:Act} {Q:Exit->Act->World->Prop} (hgd:o.guard=none) (sl x:Operand) (t u:TypeId)
  (ho:o.op=.call { callee:=.builtin .append,args:=#[sl,x],argTypes:=#[t,u] })
  (base:Nat) (e:TypeId) (i:TypeInfo) (ht:P.underlying t=some (.slice e)) (hu:P.underlying u=some .string) (hi:P.info? e=some i) (hz:i.zero=some (.int .u8 0))
  (hsize:i.size=1) (hby:i.bytes=1)
  (v:Value) (n:Nat) (xs:List Value) (hs:a.eval sl=v) (hown:w.ownsRow base e 1 v n xs) (s:ByteArray) (hx:a.eval x=.string s)
  (h63:n+s.size<=maxLen) (hbytes:n+s.size<=140737488355328) (hbase:base<=w.heap.size)
  (h:∀v' w',w'.ownsRow base e 1 v' (n+s.size) (xs++Lib.strCells s)->w.grownBy w' v.ownBlock->(v'.ownBlock=v.ownBlock\/v'.ownBlock=some w.heap.size)->wpList P ops Q rest (a.put o.dst v') w'):wpList P ops Q (o :: rest) a w:=by
 refine wpList_plain hgd fun K hK=>?_
 obtain⟨v',w',hr,h2,h3,h4⟩:=Qcs (P:=P) w base t u o.type e i ht hu hi hz hsize hby v n xs hown s h63 hbytes hbase
 unfold Oper.wp execOp
 simp only[ho,resolve,invoke,builtin,Sem.run_bind,Sem.run_pure,Result.andThen_ok,List.map_toArray,List.map_cons,List.map_nil,hs,hx,hr]
 exact hK _ _ (h v' w' h2 h3 h4)
theorem QnN (B b:Nat) (bs:List Value) (c:Int) (w:World) (h:Bd B b bs w) (hlen:bs.length+1<=140737488355328) (hBw:B<=w.heap.size) :
  Calls prog 156 #[.pointer (some ⟨b,0,none⟩),.int .u8 c] w fun e w'=>(∃v,e=.returned v)/\Bd B b (bs++[.int .u8 c]) w'/\Gr b w w':=by
 obtain⟨i0,hi,hz0,hz1,hz2⟩:=info_parts Tryz.infoByte
 have hB:=h.1
 obtain⟨p,cap,hbk,hown,hne⟩:=h.val
 have c0:=C0 hbk
 have c1:=C1 hbk
 have hbz:=Z3 c0
 have HO:=Z2 hown
 have HK:=Z2 hbk
 have HN:=Z2 hne
 clear hown hbk hne h
 go_enter func156,ntmps156
 go_wp2_with fail
 refine (Qha b _ c0).mono ?_
 rintro e w1 ⟨rfl,rfl⟩
 go_wp2_with (at_builtin;refine wpList_append_own_at _ rfl _ _ 92 rfl B 5 i0 (.int .u8 0) 1 1 underlying92 hi hz0 hz1 hz2 rfl (by decide) _ bs.length bs rfl (HO.o.alloc _) ⟨_,0,none⟩ 1 1 [.int .u8 c] rfl rfl (QaI _ [.int .u8 c] 5) ?h1 ?h63 ?hby ?hbase ?_)
 case h1=>simp [Value.oneCell']
 try case h63=>unfold maxLen;omega
 try case hby=>omega
 try case hbase=>first|omega|(simp;omega)
 intro v' w2 hown2 hgr _ hat
 obtain⟨q,cap2,rfl⟩:∃q cap2,v'=.slice q (bs.length+1) cap2:=by
  rcases hown2.2 with ⟨x,y⟩|⟨g,c,cur,x,_⟩
  ·omega
  exact⟨_,_,x⟩
 have hput:=QnV hB hbz HK.o HN.o hgr hown2 (by simpa using hat)
 have c1':=hput.1
 have f1':=hput.2.1
 have HP:=Z2 hput.2.2
 clear hput hgr hown2 hat
 go_wp2
 go_ret
 exact⟨⟨_,rfl⟩,HP.o.1,HP.o.2⟩
theorem Qgi (B b g:Nat) (bs:List Value) (x y:Int) (w:World) (h:Bd B b bs w) (hlen:bs.length+2<=140737488355328) (hBw:B<=w.heap.size)
  (h0:w.cell? ⟨g,0,none⟩=some (.int .u8 x)) (h1:w.cell? ⟨g,1,none⟩=some (.int .u8 y)) :
  Calls prog 178 #[.pointer (some ⟨b,0,none⟩),.slice (some ⟨g,0,none⟩) 2 2] w fun e w'=>(∃v,e=.returned v)/\Bd B b (bs++[.int .u8 x,.int .u8 y]) w'/\Gr b w w':=by
 obtain⟨i0,hi,hz0,hz1,hz2⟩:=info_parts Tryz.infoByte
 have hB:=h.1
 obtain⟨p,cap,hbk,hown,hne⟩:=h.val
 have c0:=C0 hbk
 have c1:=C1 hbk
 have hbz:=Z3 c0
 have HNW:=Z2 (show ∀j u,[Value.int .u8 x,.int .u8 y][j]?=some u->w.cell? ((⟨g,0,none⟩:Addr).add j)=some u from fun j u hj=>by
  have:j=0\/j=1:=by
   rcases Nat.lt_or_ge j 2 with q|q
   ·omega
   rw[List.getElem?_eq_none (by simpa using q)] at hj;cases hj
  rcases this with rfl|rfl
  ·cases hj;exact h0
  cases hj;exact h1)
 have HO:=Z2 hown
 have HK:=Z2 hbk
 have HN:=Z2 hne
 clear hown hbk hne h
 go_enter func178,ntmps178
 go_wp2_with fail
 refine (Qha b _ c0).mono ?_
 rintro e w1 ⟨rfl,rfl⟩
 go_wp2_with (at_builtin;refine wpList_append_own_at _ rfl _ _ 92 rfl B 5 i0 (.int .u8 0) 1 1 underlying92 hi hz0 hz1 hz2 rfl (by decide) _ bs.length bs rfl HO.o ⟨g,0,none⟩ 2 2 [.int .u8 x,.int .u8 y] rfl rfl HNW.o ?h1 ?h63 ?hby ?hbase ?_)
 case h1=>simp [Value.oneCell']
 try case h63=>unfold maxLen;omega
 try case hby=>omega
 try case hbase=>first|omega|(simp;omega)
 intro v' w2 hown2 hgr _ hat
 obtain⟨q,cap2,rfl⟩:∃q cap2,v'=.slice q (bs.length+2) cap2:=by
  rcases hown2.2 with ⟨x,y⟩|⟨g,c,cur,x,_⟩
  ·omega
  exact⟨_,_,x⟩
 have hput:=Qlr hB hbz HK.o HN.o hgr hown2 hat
 have c1':=hput.1
 have f1':=hput.2.1
 have HP:=Z2 hput.2.2
 clear hput hgr hown2 hat
 go_wp2
 go_ret2
 exact⟨⟨_,rfl⟩,HP.o.1,HP.o.2⟩
theorem Qnl (B b:Nat) (bs:List Value) (s:ByteArray) (w:World) (h:Bd B b bs w) (hlen:bs.length+s.size<=140737488355328) (hBw:B<=w.heap.size) :
  Calls prog 87 #[.pointer (some ⟨b,0,none⟩),.string s] w fun e w'=>(∃v,e=.returned v)/\Bd B b (bs++Lib.strCells s) w'/\Gr b w w':=by
 obtain⟨i0,hi,hz0,hz1,hz2⟩:=info_parts Tryz.infoByte
 have hB:=h.1
 obtain⟨p,cap,hbk,hown,hne⟩:=h.val
 have c0:=C0 hbk
 have c1:=C1 hbk
 have hbz:=Z3 c0
 have HO:=Z2 hown
 have HK:=Z2 hbk
 have HN:=Z2 hne
 clear hown hbk hne h
 go_enter func87,ntmps87
 go_wp2_with fail
 refine (Qha b _ c0).mono ?_
 rintro e w1 ⟨rfl,rfl⟩
 go_wp2_with (at_builtin;refine QcL rfl _ _ 92 9 rfl B 5 i0 underlying92 underlying9 hi hz0 hz1 hz2 _ bs.length bs rfl HO.o s rfl ?h63 ?hby ?hbase ?_)
 try case h63=>unfold maxLen;omega
 try case hby=>omega
 try case hbase=>first|omega|(simp;omega)
 intro v' w2 hown2 hgr hat
 obtain⟨q,cap2,rfl⟩:∃q cap2,v'=.slice q (bs.length+s.size) cap2:=by
  rcases hown2.2 with ⟨x,y⟩|⟨g,c,cur,x,_⟩
  ·exact⟨none,0,by rw[x,y]⟩
  exact⟨_,_,x⟩
 have hput:=Qlr hB hbz HK.o HN.o hgr hown2 hat
 have c1':=hput.1
 have f1':=hput.2.1
 have HP:=Z2 hput.2.2
 clear hput hgr hown2 hat
 go_wp2
 go_ret2
 exact⟨⟨_,rfl⟩,HP.o.1,HP.o.2⟩
theorem Gr.of_below (h:Below w.heap.size w w') (hb:b<w.heap.size):Gr b w w' :=
 ⟨h.os,h.tape,h.output,h.size,fun k hk _ _=>h.block k hk,fun k hk=>.inl (by
  obtain⟨v,h1,h2⟩:=hk
  exact⟨v,by rw[<-h1];exact (World.cell?_of_block (a:=⟨b,1,none⟩) (h.block b hb)).symm,h2⟩)⟩
def nuCells (l:List Int):List Value:=l.map (.int .u8)
theorem Qav (a b:List Int):nuCells (a++b)=nuCells a++nuCells b:=by simp [nuCells]
theorem QcH (a:List Int):(nuCells a).length=a.length:=by simp [nuCells]
theorem QcK (B b:Nat) (bs:List Value) (enc u:Int) (w:World) (h:Bd B b bs w) (hlen:bs.length+2<=140737488355328) (hBw:B<=w.heap.size) (ht:TabEnc w) (he:enc=1\/enc=2) (h0:0<=u) (h1:u<=65535) :
  Calls prog 170 #[.pointer (some ⟨b,0,none⟩),.int .i64 enc,.int .i32 u] w fun e w'=>e=.returned (.tuple #[])/\Bd B b (bs++nuCells (Vm.unitL enc u)) w'/\Gr b w w':=by
 have hbz:b<w.heap.size:=by obtain⟨p,cap,hbk,_⟩:=h.val;exact Z4 hbk
 have w1:IntKind.u8.wrap u=u%256:=by rw[IntKind.wrap_u8]
 have w2:IntKind.u8.wrap (u / 256)=u / 256:=by rw[IntKind.wrap_u8];omega
 rcases he with rfl|rfl
 ·have g0:=ht.m1;have g1:=ht.g1;have g2:=ht.l1;have g3:=ht.h1;have hz:=Z3 g0;have hba:Below w.heap.size w ((w.alloc (Obj.cells #[Value.int IntKind.u8 (u%256),Value.int IntKind.u8 (u / 256)] 248)).alloc (Obj.cells #[Value.string (markB 1),Value.int IntKind.i32 1114111,Value.int IntKind.i64 0,Value.int IntKind.i64 1] 197)).drew:=((Z7 _ _).alloc (by simp) _).drew;have HD:=Z2 (h.low hba);have HG:=Z2 (Gr.of_below hba hbz);have HS:=Z2 (Nat.le_trans hBw hba.size);clear h hba;go_enter func170,ntmps170;go_wp2_with fail;go_region_held3 (fun w'=>w'.cell? ⟨w.heap.size+1,2,none⟩=some (.int .i64 0)/\w'.cell? ⟨w.heap.size+1,3,none⟩=some (.int .i64 1)) (go_keep) (fail);have n0:((w.alloc (Obj.cells #[Value.int IntKind.u8 (u%256),Value.int IntKind.u8 (u / 256)] 248)).alloc (Obj.cells #[Value.string (markB 1),Value.int IntKind.i32 1114111,Value.int IntKind.i64 0,Value.int IntKind.i64 1] 197)).drew.cell? ⟨w.heap.size,0,none⟩=some (.int .u8 (u%256)):=by simp [go_sem]
  have n1:((w.alloc (Obj.cells #[Value.int IntKind.u8 (u%256),Value.int IntKind.u8 (u / 256)] 248)).alloc (Obj.cells #[Value.string (markB 1),Value.int IntKind.i32 1114111,Value.int IntKind.i64 0,Value.int IntKind.i64 1] 197)).drew.cell? ⟨w.heap.size,1,none⟩=some (.int .u8 (u / 256)):=by simp [go_sem]
  have HW:=Z2 (Qgi B b w.heap.size bs (u%256) (u / 256) _ HD.o hlen HS.o n0 n1);go_wp2_with fail;refine HW.o.mono ?_;rintro e w3 ⟨⟨v,rfl⟩,hd3,hg3⟩;have HX:=Z2 hd3;have HY:=Z2 (HG.o.trans hg3);clear hd3 hg3 HW;go_wp2_with fail;go_returns;exact⟨rfl,HX.o,HY.o⟩
 have g0:=ht.m2
 have g1:=ht.g2
 have g2:=ht.l2
 have g3:=ht.h2
 have hz:=Z3 g0
 have hba:Below w.heap.size w ((w.alloc (Obj.cells #[Value.int IntKind.u8 (u / 256),Value.int IntKind.u8 (u%256)] 248)).alloc (Obj.cells #[Value.string (markB 2),Value.int IntKind.i32 1114111,Value.int IntKind.i64 1,Value.int IntKind.i64 0] 197)).drew:=((Z7 _ _).alloc (by simp) _).drew
 have HD:=Z2 (h.low hba)
 have HG:=Z2 (Gr.of_below hba hbz)
 have HS:=Z2 (Nat.le_trans hBw hba.size)
 clear h hba
 go_enter func170,ntmps170
 go_wp2_with fail
 go_region_held3 (fun w'=>w'.cell? ⟨w.heap.size+1,2,none⟩=some (.int .i64 1)/\w'.cell? ⟨w.heap.size+1,3,none⟩=some (.int .i64 0)) (go_keep) (fail)
 have n0:((w.alloc (Obj.cells #[Value.int IntKind.u8 (u / 256),Value.int IntKind.u8 (u%256)] 248)).alloc (Obj.cells #[Value.string (markB 2),Value.int IntKind.i32 1114111,Value.int IntKind.i64 1,Value.int IntKind.i64 0] 197)).drew.cell? ⟨w.heap.size,0,none⟩=some (.int .u8 (u / 256)):=by simp [go_sem]
 have n1:((w.alloc (Obj.cells #[Value.int IntKind.u8 (u / 256),Value.int IntKind.u8 (u%256)] 248)).alloc (Obj.cells #[Value.string (markB 2),Value.int IntKind.i32 1114111,Value.int IntKind.i64 1,Value.int IntKind.i64 0] 197)).drew.cell? ⟨w.heap.size,1,none⟩=some (.int .u8 (u%256)):=by simp [go_sem]
 have HW:=Z2 (Qgi B b w.heap.size bs (u / 256) (u%256) _ HD.o hlen HS.o n0 n1)
 go_wp2_with fail
 refine HW.o.mono ?_
 rintro e w3 ⟨⟨v,rfl⟩,hd3,hg3⟩
 have HX:=Z2 hd3
 have HY:=Z2 (HG.o.trans hg3)
 clear hd3 hg3 HW
 go_wp2_with fail
 go_returns
 exact⟨rfl,HX.o,HY.o⟩
structure TabEnds (w:World):Prop where
 c0:w.cell? ⟨3,0,none⟩=some (.string ⟨#[10]⟩)
 c1:w.cell? ⟨3,1,none⟩=some (.string ⟨#[13,10]⟩)
 c2:w.cell? ⟨3,2,none⟩=some (.string ⟨#[13]⟩)
theorem TabEnds.below (h:TabEnds w) (hb:Below w.heap.size w w'):TabEnds w' :=
 ⟨(hb.cell (p:=⟨3,0,none⟩) (Z3 h.c0)).trans h.c0,(hb.cell (p:=⟨3,1,none⟩) (Z3 h.c0)).trans h.c1,(hb.cell (p:=⟨3,2,none⟩) (Z3 h.c0)).trans h.c2⟩
structure TabW (w:World):Prop where
 tabs:Tabs w
 ends:TabEnds w
theorem TabW.below (h:TabW w) (hb:Below w.heap.size w w'):TabW w':=⟨h.tabs.below hb,h.ends.below hb⟩
theorem QiK (x:Int) (h₀:0<=x) (h₁:x<=2097151):bits .and .i32 x 1023=x%1024:=bits_mask .i32 31 (by decide) wraps_i32 10 (by decide) x h₀ (by omega)
theorem Qga (B b:Nat) (bs:List Value) (enc n:Int) (w:World) (h:Bd B b bs w) (hlen:bs.length+4<=140737488355328) (hBw:B<=w.heap.size) (ht:∀w',Below B w w'->TabW w') (he:enc=1\/enc=2) (hv:Vm.validB n=true) :
  Calls prog 157 #[.pointer (some ⟨b,0,none⟩),.int .i64 enc,.int .i32 n] w fun e w'=>e=.returned (.tuple #[])/\Bd B b (bs++nuCells (Vm.wrL enc n)) w'/\Gr b w w':=by
 have hn:=(Vm.Qag n).1 hv
 have g0:¬enc=0:=by omega
 have g3:¬enc=3:=by omega
 by_cases hb:65535<n
 ·have e:Vm.wrL enc n=Vm.unitL enc (55296+(n - 65536) / 1024)++Vm.unitL enc (56320+(n - 65536)%1024):=by unfold Vm.wrL;rw[if_neg g0,if_neg g3,if_pos hb]
  rw[e,Qav,<-List.append_assoc];have c0:=(ht w (Below.refl _ _)).tabs.half.c0;have hz0:=Z3 c0;have a1:=QiK (n - 65536) (by omega) (by omega);have HU:=Z2 (QcK B b bs enc (55296+(n - 65536) / 1024) w h (by omega) hBw (ht w (Below.refl _ _)).tabs.enc he (by omega) (by omega));have HD:=Z2 h;have HT:=Z2 ht;have hnn:¬n<=65535:=by omega
  have hw1:IntKind.i32.wrap (n - 65536)=n - 65536:=by rw[IntKind.wrap_i32];omega
  have hw2:IntKind.i32.wrap (55296+(n - 65536) / 1024)=55296+(n - 65536) / 1024:=by rw[IntKind.wrap_i32];omega
  have hw3:IntKind.i32.wrap (56320+(n - 65536)%1024)=56320+(n - 65536)%1024:=by rw[IntKind.wrap_i32];omega
  clear h ht e hv hn;go_enter func157,ntmps157;go_wp2_with fail;refine HU.o.mono ?_;rintro e w1 ⟨rfl,hd1,hg1⟩;have hb1:=hg1.below HD.o hBw;have hs1:=hb1.size;have ht1:=HT.o w1 hb1;have c2:=ht1.tabs.half.c2;have hz2:=Z3 c2;have HU2:=Z2 (QcK B b _ enc (56320+(n - 65536)%1024) w1 hd1 (by rw[List.length_append,QcH,Vm.Qas];omega) (by omega) ht1.tabs.enc he (by omega) (by omega));have HG:=Z2 hg1;clear hd1 hg1 hb1 ht1 HU c0 hz0;go_wp2_with fail;refine HU2.o.mono ?_;rintro e w2 ⟨rfl,hd2,hg2⟩;have HX:=Z2 hd2;have HY:=Z2 (HG.o.trans hg2);clear hd2 hg2 HU2;go_wp2_with fail;go_returns;exact⟨rfl,HX.o,HY.o⟩
 have e:Vm.wrL enc n=Vm.unitL enc n:=by unfold Vm.wrL;rw[if_neg g0,if_neg g3,if_neg hb]
 rw[e]
 have HU:=Z2 (QcK B b bs enc n w h (by omega) hBw (ht w (Below.refl _ _)).tabs.enc he (by omega) (by omega))
 have hnn:n<=65535:=by omega
 clear h ht e hv hn
 go_enter func157,ntmps157
 go_wp2_with fail
 refine HU.o.mono ?_
 rintro e w1 ⟨rfl,hd1,hg1⟩
 have HX:=Z2 hd1
 have HY:=Z2 hg1
 clear hd1 hg1 HU
 go_wp2_with fail
 go_returns
 exact⟨rfl,HX.o,HY.o⟩
theorem Qbu (B b:Nat) (bs:List Value) (enc n:Int) (w:World) (h:Bd B b bs w) (hlen:bs.length+4<=140737488355328) (hBw:B<=w.heap.size) (ht:∀w',Below B w w'->TabW w') (h0:0<=enc) (h3:enc<=3) (hv:Vm.validB n=true) :
  Calls prog 132 #[.pointer (some ⟨b,0,none⟩),.int .i64 enc,.int .i32 n] w fun e w'=>e=.returned (.tuple #[])/\Bd B b (bs++nuCells (Vm.wrL enc n)) w'/\Gr b w w':=by
 have hc:enc=0\/enc=3\/(enc=1\/enc=2):=by omega
 rcases hc with rfl|rfl|hc
 ·have HU:=Z2 (Qjy B b bs n hv w h hlen hBw);clear h ht;go_enter func132,ntmps132;go_wp2_with fail;refine HU.o.mono ?_;rintro e w1 ⟨⟨v,rfl⟩,hd1,hg1⟩;have HX:=Z2 hd1;have HY:=Z2 hg1;clear hd1 hg1 HU;go_wp2_with fail;go_returns;exact⟨rfl,HX.o,HY.o⟩
 ·have HU:=Z2 (QnN B b bs (n%256) w h (by omega) hBw);have hw:IntKind.u8.wrap n=n%256:=by rw[IntKind.wrap_u8]
  clear h ht;go_enter func132,ntmps132;go_wp2_with fail;refine HU.o.mono ?_;rintro e w1 ⟨⟨v,rfl⟩,hd1,hg1⟩;have HX:=Z2 hd1;have HY:=Z2 hg1;clear hd1 hg1 HU;go_wp2_with fail;go_returns;exact⟨rfl,HX.o,HY.o⟩
 have HU:=Z2 (Qga B b bs enc n w h hlen hBw ht hc hv)
 have hb0:(enc==0)=false:=by simp;omega
 have hb3:(enc==3)=false:=by simp;omega
 clear h ht hc
 go_enter func132,ntmps132
 go_wp2_with fail
 refine HU.o.mono ?_
 rintro e w1 ⟨rfl,hd1,hg1⟩
 have HX:=Z2 hd1
 have HY:=Z2 hg1
 clear hd1 hg1 HU
 go_wp2_with fail
 go_returns
 exact⟨rfl,HX.o,HY.o⟩
end Go.Proofs.YtoejbngihecafaaGreatDoor
namespace Vm
theorem QeK (enc n:Int):(wrL enc n).length<=4:=by
 unfold wrL;split
 ·rw[QaS];have:=Qaa n;omega
 split
 ·simp
 split
 ·rw[List.length_append,Qas,Qas];omega
 rw[Qas];omega
end Vm
namespace Go.Proofs.YtoejbngihecafaaGreatDoor
open Go.RowKit Go.Vit
variable {B b K pos:Nat} {w w0:World} {bs:List Value} {s:ByteArray}
structure ItS (B b K:Nat) (w0:World) (s:ByteArray) (pos:Nat) (bs:List Value) (w:World):Prop where
 bd:Bd B b bs w
 it:w.heap[K]?=some (.stringIter s pos)
 nm:¬MB b w K
 nb:K≠b
 gr:Gr b w0 w
 size:B<=w.heap.size
 hK:w0.heap.size<=K
theorem ItS.start (h:Bd B b bs w) (hB:B<=w.heap.size) (s:ByteArray):ItS B b w.heap.size w s 0 bs (w.iter s 0):=by
 have hba:Below w.heap.size w (w.iter s 0):=Z7 _ _;have hbz:b<w.heap.size:=by obtain⟨p,cap,hbk,_⟩:=h.val;exact Z4 hbk
 refine⟨h.low hba,World.iter_heap _ _ _,fun hm=>?_,by omega,Gr.of_below hba hbz,Nat.le_trans hB hba.size,Z6 _⟩;rcases (Gr.of_below hba hbz).new _ hm with x|x
 ·have:=(h.mem _ x).2;omega
 have hm':=((h.low hba).mem _ hm).2;obtain⟨v,h1,h2⟩:=hm;obtain⟨p,cap,hbk,hown,_⟩:=h.val;have c1:=C1 hbk;have c2:(w.iter s 0).cell? ⟨b,1,none⟩=w.cell? ⟨b,1,none⟩:=World.cell?_of_block (a:=⟨b,1,none⟩) (hba.block b hbz);rw[c2,c1] at h1;injection h1 with h1
 subst h1;have:=(h.mem w.heap.size ⟨_,c1,h2⟩).2;omega
theorem ItS.next (h:ItS B b K w0 s pos bs w) (pos':Nat):ItS B b K w0 s pos' bs (w.iterAt K s pos'):=by
 have hh:(w.iterAt K s pos').heap[K]?=some (.stringIter s pos'):=Lib.iterAt_heap w K s pos pos' h.it;have ho:∀k,k≠K->(w.iterAt K s pos').heap[k]?=w.heap[k]?:=fun k hk=>Lib.iterAt_other w K k s pos' hk;have hs:(w.iterAt K s pos').heap.size=w.heap.size:=Lib.iterAt_size w K s pos'
 have hmb:∀k,MB b (w.iterAt K s pos') k->MB b w k:=fun k hk=>by
  obtain⟨v,h1,h2⟩:=hk;exact⟨v,by rw[<-h1];exact (World.cell?_of_block (a:=⟨b,1,none⟩) (ho b (Ne.symm h.nb))).symm,h2⟩
 obtain⟨hB,v,hbk,hown,hne⟩:=h.bd;have c1:=C1 hbk;refine⟨⟨hB,v,(ho b (Ne.symm h.nb)).trans hbk,⟨hown.1,?_⟩,hne⟩,hh,fun hm=>h.nm (hmb _ hm),h.nb,?_,by rw[hs];exact h.size,h.hK⟩
 ·rcases hown.2 with x|⟨g,cap,cur,e1,e2,e3,r⟩
  ·exact .inl x
  refine .inr ⟨g,cap,cur,e1,e2,(ho g (fun e=>h.nm ⟨v,c1,by rw[e1,e];rfl⟩)).trans e3,r⟩
 have hK:=h.hK;exact⟨h.gr.os,h.gr.tape,h.gr.output,by rw[hs];exact h.gr.size,fun k h1 h2 h3=>(ho k (by omega)).trans (h.gr.keep k h1 h2 h3),fun k hk=>h.gr.new k (hmb k hk)⟩
theorem ItS.wrote {w':World} {bs':List Value} (h:ItS B b K w0 s pos bs w) (hd:Bd B b bs' w') (hg:Gr b w w'):ItS B b K w0 s pos bs' w':=by
 have hz:=Z4 h.it;refine⟨hd,(hg.keep K hz h.nb h.nm).trans h.it,fun hm=>?_,h.nb,h.gr.trans hg,Nat.le_trans h.size hg.size,h.hK⟩;rcases hg.new _ hm with x|x
 ·exact h.nm x
 omega
theorem ItS.one (h:ItS B b K w0 s pos bs w) (hp:pos<s.size) (ha:(s[pos]'hp).toNat<128) (ty:TypeId) :
 (Instr.next (.pointer (some ⟨K,0,none⟩)) true ty).run prog w=.ok (.tuple #[.bool true,.int .i64 pos,.int .i32 (s[pos]'hp).toNat]) (w.iterAt K s (pos+1)):=Lib.run_next_ascii_at w K s pos ty h.it hp ha
theorem ItS.no (h:ItS B b K w0 s pos bs w) (hp:¬pos<s.size) (ty:TypeId) :
 (Instr.next (.pointer (some ⟨K,0,none⟩)) true ty).run prog w=.ok (.tuple #[.bool false]) w:=Lib.run_next_end_at w K s pos ty h.it hp
theorem QeO (B b:Nat) (bs:List Value) (enc k n:Int) (c:UInt8) (w:World) (h:Bd B b bs w) (hlen:bs.length+8<=140737488355328) (hBw:B<=w.heap.size) (ht:∀w',Below B w w'->TabW w') (h0:0<=enc) (h3:enc<=3)
  (hk:(k=0/\n=10/\c=10)\/(k=2/\n=13/\c=13)) :
  Calls prog 131 #[.pointer (some ⟨b,0,none⟩),.int .i64 enc,.int .i64 k] w fun e w'=>e=.returned (.tuple #[])/\Bd B b (bs++nuCells (Vm.wrL enc n)) w'/\Gr b w w':=by
 have hbz:b<w.heap.size:=by obtain⟨p,cap,hbk,_⟩:=h.val;exact Z4 hbk
 have t0:=(ht w (Below.refl _ _)).ends.c0
 have t2:=(ht w (Below.refl _ _)).ends.c2
 have hz:=Z3 t0
 have hI0:=ItS.start h hBw ⟨#[c]⟩
 have hn0:=hI0.one (show 0<1 from Nat.zero_lt_one) (by rcases hk with ⟨_,_,rfl⟩|⟨_,_,rfl⟩<;>decide)
 have hcn:(((⟨#[c]⟩:ByteArray)[0]'(show 0<1 from Nat.zero_lt_one)).toNat:Int)=n:=by rcases hk with ⟨_,rfl,rfl⟩|⟨_,rfl,rfl⟩<;>rfl
 have hnv:Vm.validB n=true:=by rcases hk with ⟨_,rfl,_⟩|⟨_,rfl,_⟩<;>decide
 rw[hcn] at hn0
 have HI1:=Z2 (hI0.next 1)
 have HT:=Z2 (fun W (g:Gr b w W) w' (q:Below B W w')=>ht w' ((g.below h hBw).trans q))
 clear hI0 h ht hcn
 rcases hk with ⟨rfl,rfl,rfl⟩|⟨rfl,rfl,rfl⟩
 all_goals
  go_enter func131,ntmps131;go_wp2_with fail;refine wp_loop_rounds 2 ?_;rw[rounds_succ];go_wp2_with fail;refine (Qbu B b bs enc _ _ HI1.o.bd (by omega) HI1.o.size (HT.o _ HI1.o.gr) h0 h3 hnv).mono ?_;rintro e w1 ⟨rfl,hd1,hg1⟩;have hI2:=ItS.wrote HI1.o hd1 hg1;have hn2:=hI2.no (by decide);have HX:=Z2 hI2.bd;have HY:=Z2 hI2.gr;clear hd1 hg1 hI2 hn0 HI1 HT;go_wp2_with fail;rw[rounds_succ];go_wp2_with fail;go_returns;exact⟨rfl,HX.o,HY.o⟩
theorem Qh9 (B b:Nat) (bs:List Value) (enc:Int) (w:World) (h:Bd B b bs w) (hlen:bs.length+8<=140737488355328) (hBw:B<=w.heap.size) (ht:∀w',Below B w w'->TabW w') (h0:0<=enc) (h3:enc<=3) :
  Calls prog 131 #[.pointer (some ⟨b,0,none⟩),.int .i64 enc,.int .i64 1] w fun e w'=>e=.returned (.tuple #[])/\Bd B b (bs++nuCells (Vm.wrL enc 13)++nuCells (Vm.wrL enc 10)) w'/\Gr b w w':=by
 have hbz:b<w.heap.size:=by obtain⟨p,cap,hbk,_⟩:=h.val;exact Z4 hbk
 have t1:=(ht w (Below.refl _ _)).ends.c1
 have hz:=Z3 t1
 have hI0:=ItS.start h hBw ⟨#[13,10]⟩
 have hn0:=hI0.one (by decide) (by decide)
 have hc0:(((⟨#[13,10]⟩:ByteArray)[0]'(by decide)).toNat:Int)=13:=rfl
 have hc1:(((⟨#[13,10]⟩:ByteArray)[1]'(by decide)).toNat:Int)=10:=rfl
 rw[hc0] at hn0
 have HI1:=Z2 (hI0.next 1)
 have HT:=Z2 (fun W (g:Gr b w W) w' (q:Below B W w')=>ht w' ((g.below h hBw).trans q))
 have hl13:(nuCells (Vm.wrL enc 13)).length<=4:=by rw[QcH];exact Vm.QeK enc 13
 clear hI0 h ht hc0
 go_enter func131,ntmps131
 go_wp2_with fail
 refine wp_loop_rounds 3 ?_
 rw[rounds_succ]
 go_wp2_with fail
 refine (Qbu B b bs enc 13 _ HI1.o.bd (by omega) HI1.o.size (HT.o _ HI1.o.gr) h0 h3 (by decide)).mono ?_
 rintro e w1 ⟨rfl,hd1,hg1⟩
 have hI2:=ItS.wrote HI1.o hd1 hg1
 have hn2:=hI2.one (by decide) (by decide)
 rw[hc1] at hn2
 have HI3:=Z2 (hI2.next 2)
 clear hd1 hg1 hI2 hn0 HI1 hc1
 go_wp2_with fail
 rw[rounds_succ]
 go_wp2_with fail
 refine (Qbu B b _ enc 10 _ HI3.o.bd (by rw[List.length_append];omega) HI3.o.size (HT.o _ HI3.o.gr) h0 h3 (by decide)).mono ?_
 rintro e w3 ⟨rfl,hd3,hg3⟩
 have hI4:=ItS.wrote HI3.o hd3 hg3
 have hn4:=hI4.no (by decide)
 have HX:=Z2 hI4.bd
 have HY:=Z2 hI4.gr
 clear hd3 hg3 hI4 hn2 HI3 HT
 go_wp2_with fail
 rw[rounds_succ]
 go_wp2_with fail
 go_returns
 exact⟨rfl,HX.o,HY.o⟩
theorem Qc2 (B b:Nat) (bs:List Value) (enc k:Int) (w:World) (h:Bd B b bs w) (hlen:bs.length+8<=140737488355328) (hBw:B<=w.heap.size) (ht:∀w',Below B w w'->TabW w') (h0:0<=enc) (h3:enc<=3) (k0:0<=k) (k2:k<=2) :
  Calls prog 131 #[.pointer (some ⟨b,0,none⟩),.int .i64 enc,.int .i64 k] w fun e w'=>e=.returned (.tuple #[])/\Bd B b (bs++nuCells (Vm.endL enc k)) w'/\Gr b w w':=by
 have hc:k=0\/k=1\/k=2:=by omega
 rcases hc with rfl|rfl|rfl
 ·exact QeO B b bs enc 0 10 10 w h hlen hBw ht h0 h3 (.inl ⟨rfl,rfl,rfl⟩)
 ·have e:Vm.endL enc 1=Vm.wrL enc 13++Vm.wrL enc 10:=rfl;rw[e,Qav,<-List.append_assoc];exact Qh9 B b bs enc w h hlen hBw ht h0 h3
 exact QeO B b bs enc 2 13 13 w h hlen hBw ht h0 h3 (.inr ⟨rfl,rfl,rfl⟩)
end Go.Proofs.YtoejbngihecafaaGreatDoor
namespace Vm
def great (enc:Int):Int:=if enc=3 then 255 else 1114111
theorem Qgk {L:Bytes} {pre:List Sg} {pos:Nat} (h:signs 0 L=pre++signs 0 (L.drop pos)) (hp:pos<L.length) (hv:(signs 0 L).all (fun x=>x.1 != -1)=true) :
  (utfHead (L.drop pos)).1≠-1/\0<=(utfHead (L.drop pos)).1/\validB (utfHead (L.drop pos)).1=true/\1<=(utfHead (L.drop pos)).2/\pos+(utfHead (L.drop pos)).2<=L.length/\signs 0 L=(pre++[utfHead (L.drop pos)])++signs 0 (L.drop (pos+(utfHead (L.drop pos)).2)):=by
 have hl:(L.drop pos).length=L.length - pos:=List.length_drop ..
 have hh:headSg 0 (L.drop pos)=some (utfHead (L.drop pos)):=by unfold headSg;rw[if_neg (by omega),if_pos rfl]
 have hle:=QaU hh
 rw[hl] at hle
 have hs:=Qap hh
 rw[List.drop_drop] at hs
 have hm:utfHead (L.drop pos)∈signs 0 L:=by rw[h,hs];simp
 have h1:(utfHead (L.drop pos)).1≠-1:=by
  have:=List.all_eq_true.1 hv _ hm;simpa using this
 have h2:validB (utfHead (L.drop pos)).1=true:=by
  rcases Qfu hh with q|q
  ·exact absurd q h1
  exact q
 have h3:=(Qag _).1 h2
 refine⟨h1,by omega,h2,hle.1,by omega,?_⟩
 rw[h,hs,List.append_assoc];rfl
end Vm
namespace Go.Proofs.YtoejbngihecafaaGreatDoor
open Go.RowKit Go.Vit
theorem Qlf (enc n:Int) (w:World) (ht:TabEnc w) (h0:0<=enc) (h3:enc<=3) :
  Calls prog 95 #[.int .i64 enc,.int .i32 n] w fun e w'=>e=.returned (.bool (decide (n<=Vm.great enc)))/\w'=w:=by
 have hc:enc=0\/enc=1\/enc=2\/enc=3:=by omega
 have g0:=ht.g0
 have g1:=ht.g1
 have g2:=ht.g2
 have g3:=ht.g3
 have hz:=Z3 g0
 rcases hc with rfl|rfl|rfl|rfl
 all_goals
  go_enter func95,ntmps95;go_wp2;go_ret;exact⟨rfl,rfl⟩
theorem Qkt (enc:Int) (text:ByteArray) (w:World) (ht:TabEnc w) (h0:0<=enc) (h3:enc<=3) (hv:(Vm.signs 0 text.data.toList).all (fun x=>x.1 != -1)=true) :
  Calls prog 64 #[.int .i64 enc,.string text] w fun e w'=>e=.returned (.bool ((Vm.signs 0 text.data.toList).all (fun x=>decide (x.1<=Vm.great enc))))/\Below w.heap.size w w':=by
 have HT:=Z2 ht
 clear ht
 go_enter func64,ntmps64
 go_wp2_with fail
 go_loopw [] (fun wr=>∃(pos:Nat) (pre:List Vm.Sg),wr.heap[w.heap.size]?=some (.stringIter text pos)/\Below w.heap.size w wr/\Vm.signs 0 text.data.toList=pre++Vm.signs 0 (text.data.toList.drop pos)/\pre.all (fun x=>decide (x.1<=Vm.great enc))=true) (fun wr=>text.size - wr.iterPos w.heap.size)
 case atStart=>exact⟨0,[],World.iter_heap _ _ _,Z7 _ _,by simp,rfl⟩
 case round =>
  obtain⟨pos,pre,hit,hbw,hsg,hall⟩:=hrel;have hz:=Z4 hit;have hl:text.data.toList.length=text.size:=rfl;by_cases hp:pos<text.size
  ·obtain⟨q1,q2,q3,q4,q5,q6⟩:=Vm.Qgk hsg (by omega) hv;have hnx:∀ty,(Instr.next (.pointer (some ⟨w.heap.size,0,none⟩)) true ty).run prog wr=_:=fun ty=>Lib.run_next_any_at wr w.heap.size text pos ty hit hp;rw[Vm.QkY] at hnx;have hit2:=Lib.iterAt_heap wr w.heap.size text pos (pos+(Vm.utfHead (text.data.toList.drop pos)).2) hit;have hbw2:=Lib.below_iterAt hbw (k:=w.heap.size) (Z6 _) text (pos+(Vm.utfHead (text.data.toList.drop pos)).2);have hip:wr.iterPos w.heap.size=pos:=by simp only[World.iterPos,hit]
   unfold Vm.decS at hnx;simp only[if_neg q1] at hnx;generalize Vm.utfHead (text.data.toList.drop pos)=x at *;obtain⟨c,n⟩:=x;simp only at q1 q2 q3 q4 q5 q6 hnx hit2 hbw2;have hcc:(c.toNat:Int)=c:=by omega
   rw[hcc] at hnx;have HH:=Z2 (Qlf enc c _ (HT.o.below hbw2) h0 h3);have H1:=Z2 hit2;have H2:=Z2 hbw2;have H3:=Z2 q6;clear hit2 hbw2 q6;by_cases hg:c<=Vm.great enc
   ·rw[decide_eq_true hg] at HH;go_wp2_with fail;refine HH.o.mono ?_;rintro e w1 ⟨rfl,rfl⟩;go_wp2_with fail;go_roundw
    case rel =>
     refine⟨pos+n,pre++[(c,n)],H1.o,H2.o,H3.o,?_⟩;rw[List.all_append,hall];simp [hg]
    case measure =>
     simp only[World.iterPos,H1.o,hit];omega
   rw[decide_eq_false hg] at HH
   have hfin:(Vm.signs 0 text.data.toList).all (fun x=>decide (x.1<=Vm.great enc))=false:=by
    rw[H3.o];simp [hg]
   have HF:=Z2 hfin;clear hfin;go_wp2_with fail;refine HH.o.mono ?_;rintro e w1 ⟨rfl,rfl⟩;go_wp2_with fail;go_ret;exact⟨by rw[HF.o];rfl,H2.o⟩
  have hnx:∀ty,(Instr.next (.pointer (some ⟨w.heap.size,0,none⟩)) true ty).run prog wr=_:=fun ty=>Lib.run_next_end_at wr w.heap.size text pos ty hit hp
  have hfin:(Vm.signs 0 text.data.toList).all (fun x=>decide (x.1<=Vm.great enc))=true:=by
   rw[hsg,List.drop_eq_nil_of_le (by omega),Vm.QaB,List.append_nil];exact hall
  have HF:=Z2 hfin;clear hfin hall hsg;go_wp2_with fail;go_ret;exact⟨by rw[HF.o];rfl,hbw⟩
end Go.Proofs.YtoejbngihecafaaGreatDoor
namespace Vm
variable {enc k:Int}
def typA (enc k:Int) (x:At):List Int:=if x.1<=2 then endL enc k else wrL enc x.2.1
def typL (enc k:Int) (A:List At):List Int:=A.flatMap (typA enc k)
def txA (enc k last c:Int):List Int:=if last=13/\c=10 then [] else if c=13\/c=10 then endL enc k else wrL enc c
def txS (enc k:Int):Int->List Sg->List Int
 |_,[]=>[]
 |last,x :: r=>txA enc k last x.1++txS enc k x.1 r
def lastS:Int->List Sg->Int
 |last,[]=>last
 |_,x :: r=>lastS x.1 r
theorem QjJ (enc k:Int) (x:Sg):∀(S:List Sg) (last:Int),txS enc k last (S++[x])=txS enc k last S++txA enc k (lastS last S) x.1/\lastS last (S++[x])=x.1
 |[],last=>⟨by simp [txS,lastS],rfl⟩
 |y :: S,last=>by
  obtain⟨h1,h2⟩:=QjJ enc k x S y.1
  refine⟨?_,?_⟩
  ·rw[List.cons_append,txS,txS,h1,lastS,List.append_assoc]
  rw[List.cons_append,lastS];exact h2
theorem Qg2 :∀(S:List Sg) (h:Nat) (last:Int),(∀x∈S,x.1≠-1/\1<=x.2)->((0<h/\last=13)\/(h=0/\last≠13))->(if 0<h then endL enc k else [])++txS enc k last S=typL enc k (atomsF h S)
 |[],h,last,_,hl=>by
  rw[txS,atomsF,List.append_nil]
  by_cases q:0<h
  ·rw[if_pos q,if_pos q];simp [typL,typA]
  rw[if_neg q,if_neg q];rfl
 |x :: r,h,last,hS,hl=>by
  have hr:∀y∈r,y.1≠-1/\1<=y.2:=fun y hy=>hS y (by simp [hy])
  have hx:=hS x (by simp)
  rw[txS,atomsF]
  have one:∀(A B:List At),typL enc k (A++B)=typL enc k A++typL enc k B:=fun A B=>by simp [typL]
  have cons:∀(a:At) (B:List At),typL enc k (a :: B)=typA enc k a++typL enc k B:=fun a B=>rfl
  by_cases q:0<h/\x.1=10
  ·rw[if_pos q,if_pos q.1,cons,<-Qg2 r 0 x.1 hr (.inr ⟨rfl,by rw[q.2];decide⟩)]
   have hl13:last=13:=by omega
   have e:txA enc k last x.1=[]:=by unfold txA;rw[if_pos ⟨hl13,q.2⟩]
   rw[e];rfl
  rw[if_neg q,one]
  have e1:typL enc k (if 0<h then [((2:Int),(10:Int),h)] else [])=if 0<h then endL enc k else []:=by
   by_cases g:0<h
   ·rw[if_pos g,if_pos g];simp [typL,typA]
   rw[if_neg g,if_neg g];rfl
  rw[e1];congr 1;have hnj:¬(last=13/\x.1=10):=fun ⟨a,b⟩=>q ⟨by omega,b⟩;by_cases h13:x.1=13
  ·rw[if_pos h13,<-Qg2 r x.2 x.1 hr (.inl ⟨by omega,h13⟩),if_pos (by omega)];congr 1;unfold txA;rw[if_neg hnj,if_pos (.inl h13)]
  rw[if_neg h13,cons,<-Qg2 r 0 x.1 hr (.inr ⟨rfl,h13⟩)];congr 1;unfold txA singleA;rw[if_neg hnj,if_neg hx.1];by_cases g:x.1=10
  ·rw[if_pos (.inr g),if_pos g];rfl
  rw[if_neg (by omega),if_neg g];rfl
theorem QnP {L:Bytes} (hv:(signs 0 L).all (fun x=>x.1 != -1)=true):txS enc k 0 (signs 0 L)=typL enc k (atoms 0 L):=by
 have:=Qg2 (enc:=enc) (k:=k) (signs 0 L) 0 0 (fun x hx=>⟨by have:=List.all_eq_true.1 hv x hx;simpa using this,Qil 0 L x hx⟩) (.inr ⟨rfl,by decide⟩);rw[if_neg (Nat.lt_irrefl 0),List.nil_append] at this;exact this
theorem Qfm (enc k:Int):(endL enc k).length<=8:=by
 have h1:=QeK enc 13;have h2:=QeK enc 10;unfold endL;split
 ·omega
 split
 ·omega
 rw[List.length_append];omega
theorem Qn5 (enc k last c:Int):(txA enc k last c).length<=8:=by
 have h1:=QeK enc c;have h2:=Qfm enc k;unfold txA;split
 ·simp
 split<;>omega
theorem QlG (enc k:Int):∀(S:List Sg) (last:Int),(txS enc k last S).length<=8 * S.length
 |[],_=>by simp [txS]
 |x :: S,last=>by
  have:=QlG enc k S x.1
  have:=Qn5 enc k last x.1
  rw[txS,List.length_append,List.length_cons];omega
theorem QgS {u:Int} (h0:0<=u) (h1:u<=65535):∀n∈unitL enc u,0<=n/\n<=255:=by
 intro n hn;unfold unitL at hn;split at hn
 ·simp only[List.mem_cons,List.not_mem_nil,or_false] at hn;omega
 simp only[List.mem_cons,List.not_mem_nil,or_false] at hn;omega
theorem Qge {c:Int} (hv:validB c=true):∀n∈wrL enc c,0<=n/\n<=255:=by
 have hc:=(Qag c).1 hv;intro n hn;unfold wrL at hn;split at hn
 ·exact Qlj hv n hn
 split at hn
 ·simp only[List.mem_cons,List.not_mem_nil,or_false] at hn;omega
 split at hn
 ·rcases List.mem_append.1 hn with q|q
  ·exact QgS (by omega) (by omega) n q
  exact QgS (by omega) (by omega) n q
 exact QgS (by omega) (by omega) n hn
theorem QiX (enc k:Int):∀n∈endL enc k,0<=n/\n<=255:=by
 intro n hn;unfold endL at hn;split at hn
 ·exact Qge (by decide) n hn
 split at hn
 ·exact Qge (by decide) n hn
 rcases List.mem_append.1 hn with q|q
 ·exact Qge (by decide) n q
 exact Qge (by decide) n q
theorem Qod {A:List At} (h:∀a∈A,ChOk a):∀n∈typL enc k A,0<=n/\n<=255:=by
 intro n hn;simp only[typL,List.mem_flatMap] at hn;obtain⟨a,ha,hn⟩:=hn;unfold typA at hn;split at hn
 ·exact QiX enc k n hn
 exact Qge (h a ha).1 n hn
end Vm
namespace Go.Proofs.YtoejbngihecafaaGreatDoor
open Go.RowKit Go.Vit
theorem Qmr (enc k:Int) (text:ByteArray) (w:World) (ht:TabW w) (h0:0<=enc) (h3:enc<=3) (k0:0<=k) (k2:k<=2) (hs:text.size<=1099511627776) (hv:(Vm.signs 0 text.data.toList).all (fun x=>x.1 != -1)=true) :
  Calls prog 97 #[.int .i64 enc,.string text,.int .i64 k] w fun e w'=>e=.returned (.string (strOfNums (Vm.typL enc k (Vm.atoms 0 text.data.toList))))/\Below w.heap.size w w':=by
 have HT:=Z2 ht
 clear ht
 go_enter func97,ntmps97
 go_wp2_with fail
 refine (Qd6 w.heap.size w.heap.size text.size _ (Z6 _) (Go.Deep.blk_alloc_new _ _) (by simp) (by omega)).mono ?_
 rintro e w1 ⟨rfl,hd1,hb1⟩
 have hb1':Below w.heap.size w w1:=(Z7 _ _).trans hb1
 have HI:=Z2 (ItS.start hd1 hb1'.size text)
 have HB:=Z2 hb1'
 have HD1:=Z2 hd1
 clear hd1 hb1 hb1'
 have hs1:=HB.o.size
 have hstr:∀pre:List Vm.Sg,pre <+: Vm.signs 0 text.data.toList->pre.length<=text.size:=fun pre hp=>by
  have h1:=hp.length_le;have h2:=Vm.QeB 0 text.data.toList.length text.data.toList;have h3:text.data.toList.length=text.size:=rfl;have h4:(Vm.signs 0 text.data.toList).length<=text.data.toList.length:=h2;omega
 have hnu:∀l:List Int,(∀n∈l,0<=n/\n<=255)->nuCells l=Lib.byteCells (numsB l):=fun l h=>Qdd h
 have HSTR:=Z2 hstr
 clear hstr
 go_wp2_with fail
 go_loopw [8] (fun la wr=>∃(pos:Nat) (pre:List Vm.Sg),la=.int .i32 (Vm.lastS 0 pre)/\ItS w.heap.size w.heap.size w1.heap.size w1 text pos (nuCells (Vm.txS enc k 0 pre)) wr/\Vm.signs 0 text.data.toList=pre++Vm.signs 0 (text.data.toList.drop pos)) (fun _ wr=>text.size - wr.iterPos w1.heap.size)
 case atStart=>exact⟨0,[],rfl,HI.o,by simp⟩
 case round =>
  obtain⟨pos,pre,rfl,hI,hsg⟩:=hrel;have hit:=hI.it;have hz:=Z4 hit;have hl:text.data.toList.length=text.size:=rfl;have hbI:=HB.o.trans (hI.gr.below HD1.o hs1);by_cases hp:pos<text.size
  ·obtain⟨q1,q2,q3,q4,q5,q6⟩:=Vm.Qgk hsg (by omega) hv;have hnx:∀ty,(Instr.next (.pointer (some ⟨w1.heap.size,0,none⟩)) true ty).run prog wr=_:=fun ty=>Lib.run_next_any_at wr w1.heap.size text pos ty hit hp;rw[Vm.QkY] at hnx;have hN:=hI.next (pos+(Vm.utfHead (text.data.toList.drop pos)).2);have hpl:=HSTR.o pre ⟨_,hsg.symm⟩;have htl:=Vm.QlG enc k pre 0;unfold Vm.decS at hnx;simp only[if_neg q1] at hnx;generalize Vm.utfHead (text.data.toList.drop pos)=x at *;obtain⟨c,n⟩:=x;simp only at q1 q2 q3 q4 q5 q6 hnx hN;have hcc:(c.toNat:Int)=c:=by omega
   rw[hcc] at hnx;obtain⟨s1,s2⟩:=Vm.QjJ enc k (c,n) pre 0;have HS1:=Z2 s1;have HS2:=Z2 s2;have hbN:=HB.o.trans (hN.gr.below HD1.o hs1);have HTN:=Z2 (fun w' (q:Below w.heap.size (wr.iterAt w1.heap.size text (pos+n)) w')=>HT.o.below (hbN.trans q));have HN:=Z2 hN;have H3:=Z2 q6;have HIT:=Z2 hit;have hlen:(nuCells (Vm.txS enc k 0 pre)).length<=8 * text.size:=by rw[QcH];omega
   clear hN q6 s1 s2 hit hI hbI hbN;generalize Vm.lastS 0 pre=la at *;by_cases hcr:la=13/\c=10
   ·obtain⟨rfl,rfl⟩:=hcr;have HE:=Z2 (show Vm.txA enc k 13 10=[] by unfold Vm.txA;rw[if_pos ⟨rfl,rfl⟩]);go_wp2_with fail;go_roundw
    case rel =>
     refine⟨pos+n,pre++[(10,n)],by rw[HS2.o],?_,H3.o⟩;rw[HS1.o,HE.o,List.append_nil];exact HN.o
    case measure =>
     simp only[World.iterPos,HN.o.it,HIT.o];omega
   by_cases hce:c=13\/c=10
   ·have HE:=Z2 (show Vm.txA enc k la c=Vm.endL enc k by unfold Vm.txA;rw[if_neg hcr,if_pos hce]);have HW:=Z2 (Qc2 w.heap.size w.heap.size _ enc k _ HN.o.bd (by omega) HN.o.size HTN.o h0 h3 k0 k2);rcases hce with rfl|rfl
    ·by_cases hla:la=13
     ·subst hla;go_wp2_with fail;refine HW.o.mono ?_;rintro e w2 ⟨rfl,hd2,hg2⟩;have HX:=Z2 (ItS.wrote HN.o hd2 hg2);clear hd2 hg2 HW;go_wp2_with fail;go_roundw
      case rel =>
       refine⟨pos+n,pre++[(13,n)],by rw[HS2.o],?_,H3.o⟩;rw[HS1.o,HE.o,Qav];exact HX.o
      case measure =>
       simp only[World.iterPos,HX.o.it,HIT.o];omega
     have hlb:(la==13)=false:=by simpa using hla
     go_wp2_with fail;refine HW.o.mono ?_;rintro e w2 ⟨rfl,hd2,hg2⟩;have HX:=Z2 (ItS.wrote HN.o hd2 hg2);clear hd2 hg2 HW;go_wp2_with fail;go_roundw
     case rel =>
      refine⟨pos+n,pre++[(13,n)],by rw[HS2.o],?_,H3.o⟩;rw[HS1.o,HE.o,Qav];exact HX.o
     case measure =>
      simp only[World.iterPos,HX.o.it,HIT.o];omega
    have hla:¬la=13:=fun q=>hcr ⟨q,rfl⟩;have hlb:(la==13)=false:=by simpa using hla
    go_wp2_with fail;refine HW.o.mono ?_;rintro e w2 ⟨rfl,hd2,hg2⟩;have HX:=Z2 (ItS.wrote HN.o hd2 hg2);clear hd2 hg2 HW;go_wp2_with fail;go_roundw
    case rel =>
     refine⟨pos+n,pre++[(10,n)],by rw[HS2.o],?_,H3.o⟩;rw[HS1.o,HE.o,Qav];exact HX.o
    case measure =>
     simp only[World.iterPos,HX.o.it,HIT.o];omega
   have HE:=Z2 (show Vm.txA enc k la c=Vm.wrL enc c by unfold Vm.txA;rw[if_neg hcr,if_neg hce]);have HW:=Z2 (Qbu w.heap.size w.heap.size _ enc c _ HN.o.bd (by omega) HN.o.size HTN.o h0 h3 q3);have hc1:(c==13)=false:=by simp;omega
   have hc2:(c==10)=false:=by simp;omega
   by_cases hla:la=13
   ·subst hla;go_wp2_with fail;refine HW.o.mono ?_;rintro e w2 ⟨rfl,hd2,hg2⟩;have HX:=Z2 (ItS.wrote HN.o hd2 hg2);clear hd2 hg2 HW;go_wp2_with fail;go_roundw
    case rel =>
     refine⟨pos+n,pre++[(c,n)],by rw[HS2.o],?_,H3.o⟩;rw[HS1.o,HE.o,Qav];exact HX.o
    case measure =>
     simp only[World.iterPos,HX.o.it,HIT.o];omega
   have hlb:(la==13)=false:=by simpa using hla
   go_wp2_with fail;refine HW.o.mono ?_;rintro e w2 ⟨rfl,hd2,hg2⟩;have HX:=Z2 (ItS.wrote HN.o hd2 hg2);clear hd2 hg2 HW;go_wp2_with fail;go_roundw
   case rel =>
    refine⟨pos+n,pre++[(c,n)],by rw[HS2.o],?_,H3.o⟩;rw[HS1.o,HE.o,Qav];exact HX.o
   case measure =>
    simp only[World.iterPos,HX.o.it,HIT.o];omega
  have hnx:∀ty,(Instr.next (.pointer (some ⟨w1.heap.size,0,none⟩)) true ty).run prog wr=_:=fun ty=>Lib.run_next_end_at wr w1.heap.size text pos ty hit hp
  have hfin:Vm.txS enc k 0 pre=Vm.typL enc k (Vm.atoms 0 text.data.toList):=by
   rw[<-Vm.QnP hv,hsg,List.drop_eq_nil_of_le (by omega),Vm.QaB,List.append_nil]
  have hbd:=hI.bd;rw[hfin,hnu _ (Vm.Qod (Vm.QbM 0 text.data.toList))] at hbd;have HS:=Z2 (Qgy w.heap.size w.heap.size _ wr hbd hI.size);have HBI:=Z2 hbI;clear hbd hfin hI hsg hbI;go_wp2_with fail;refine HS.o.mono ?_;rintro e w2 ⟨rfl,hb2⟩;have HB2:=Z2 (HBI.o.trans hb2);clear hb2 HS;go_wp2_with fail;go_ret;exact⟨by rw[Qfq];rfl,HB2.o⟩
end Go.Proofs.YtoejbngihecafaaGreatDoor
