import Derived.Maps.AppendAt
import Derived.Test.YtoejbngihecafaaGreatDoorC5
import Derived.Test.YtoejbngihecafaaGreatDoorC1
import Derived.Test.YtoejbngihecafaaGreatDoorC3
import Derived.Test.YtoejbngihecafaaGreatDoorC8
import Derived.Test.YtoejbngihecafaaGreatDoorC0
set_option maxRecDepth 100000
set_option maxHeartbeats 1000000
open Go.Proofs.Tryz
namespace Go.Proofs.YtoejbngihecafaaGreatDoor
open Go.RowKit Go.Vit
variable {b lo B:Nat} {w2 w w':World} {bs:List Value}
def Bd (B b:Nat) (bs:List Value) (w:World):Prop:=Lib.BuilderAt 144 5 B b (.pointer (some ⟨b,0,none⟩)) bs w
def MB (b:Nat):World->Nat->Prop:=fun W k=>∃v,W.cell? ⟨b,1,none⟩=some v/\v.ownBlock=some k
structure Gr (b:Nat) (w w':World):Prop where
 os:w'.os=w.os
 tape:w'.tape=w.tape
 output:w'.output=w.output
 size:w.heap.size<=w'.heap.size
 keep:∀k,k<w.heap.size->k≠b->¬MB b w k->w'.heap[k]?=w.heap[k]?
 new:∀k,MB b w' k->MB b w k\/w.heap.size<=k
theorem Gr.trans {w1 w3:World} (h:Gr b w1 w2) (k:Gr b w2 w3):Gr b w1 w3 :=
 ⟨k.os.trans h.os,k.tape.trans h.tape,k.output.trans h.output,Nat.le_trans h.size k.size,
  fun i h1 h2 h3=>(k.keep i (Nat.lt_of_lt_of_le h1 h.size) h2 (fun hm=>by
   rcases h.new i hm with x|x
   ·exact h3 x
   omega)).trans (h.keep i h1 h2 h3),
  fun i hi=>by
   have:=h.size
   rcases k.new i hi with x|x
   ·exact h.new i x
   exact .inr (by omega)⟩
theorem Qbh (h:b<lo):MLow (MB b) lo:=fun A B hk k hm=>by
 obtain⟨v,h1,h2⟩:=hm
 refine⟨v,?_,h2⟩
 rw[<-h1]
 exact (World.cell?_of_block (a:=⟨b,1,none⟩) (hk b h)).symm
theorem Gr.body (h:Gr b w w') (hb:b<lo):BodyStep (MB b) lo w w' :=
 ⟨h.os,h.tape,h.output,h.size,fun k h1 h2 h3=>h.keep k h2 (by omega) h3,fun k hk=>(h.new k hk).elim (fun x=>.inr (.inl x)) (fun x=>.inr (.inr x))⟩
theorem Bd.mem (h:Bd B b bs w):∀k,MB b w k->B<=k/\k<w.heap.size:=by
 obtain⟨hB,v,hbk,hown,hne⟩:=h;rintro k ⟨u,h1,h2⟩;have c1:=C1 hbk;rw[c1] at h1;injection h1 with h1
 subst h1;exact hown.lt _ h2
theorem Gr.below (h:Gr b w w') (hd:Bd B b bs w) (hB:B<=w.heap.size):Below B w w' :=
 ⟨h.os,h.tape,h.output,h.size,fun k hk=>h.keep k (by omega) (by have:=hd.1;omega) (fun hm=>by have:=(hd.mem k hm).1;omega)⟩
theorem Bd.it (h:Bd B b bs w) (hs:ItStep (MB b) lo w w') (hb:b<lo):Bd B b bs w':=by
 have hm:=h.mem;obtain⟨hB,v,hbk,hown,hne⟩:=h;have c1:=C1 hbk;refine⟨hB,v,(hs.low b hb).trans hbk,⟨hown.1,?_⟩,hne⟩;rcases hown.2 with x|⟨g,cap,cur,e1,e2,e3,r⟩
 ·exact .inl x
 refine .inr ⟨g,cap,cur,e1,e2,(hs.own g ⟨v,c1,?_⟩).trans e3,r⟩;rw[e1];rfl
theorem Qha (b:Nat) (w:World) (h:w.cell? ⟨b,0,none⟩=some (.pointer (some ⟨b,0,none⟩))) :
  Calls prog 126 #[.pointer (some ⟨b,0,none⟩)] w fun e w'=>e=.returned (.tuple #[])/\w'=w :=
 Any.Builder_copyCheck_used lays240 extraB.toX72 b w h
def chCells (r:Int):List Value:=(Vm.utfL r).map (.int .u8)
theorem Qjp (r:Int):(chCells r).length=Vm.utfLen r:=by unfold chCells;rw[List.length_map,Vm.QaS]
theorem QaI (w:World) (l:List Value) (t:TypeId):∀j u,l[j]?=some u->(w.alloc (.cells l.toArray t)).cell? ((⟨w.heap.size,0,none⟩:Addr).add j)=some u:=by
 intro j u hj
 have e:(⟨w.heap.size,0,none⟩:Addr).add j=⟨w.heap.size,j,none⟩:=by
  unfold Addr.add;split
  ·simp_all
  simp
 rw[e,<-hj];simp
def AppPost (B:Nat) (v:Value) (n:Nat) (xs news:List Value) (w:World) (e:Ending) (w':World):Prop :=
 ∃v',e=.returned v'/\w'.ownsRow B 5 1 v' (n+news.length) (xs++news)/\(∃o,(w.alloc o).grownBy w' v.ownBlock)/\(v'.ownBlock=v.ownBlock\/v'.ownBlock=some (w.heap.size+1))
theorem Qlw (B:Nat) (v:Value) (n:Nat) (xs:List Value) (r:Int) (h0:128<=r) (hv:Vm.validB r=true) (w:World) (hown:w.ownsRow B 5 1 v n xs) (hlen:n+4<=140737488355328) (hB:B<=w.heap.size) :
  Calls prog 163 #[v,.int .i32 r] w (AppPost B v n xs (chCells r) w):=by
 obtain⟨i0,hi,hz0,hz1,hz2⟩:=info_parts Tryz.infoByte
 have hvv:r<=55295\/(57344<=r/\r<=1114111):=by simp [Vm.validB] at hv;omega
 clear hv
 by_cases h2:r<2048
 ·clear hvv;have e:chCells r=[.int .u8 (192+r / 64),.int .u8 (128+r%64)]:=by unfold chCells Vm.utfL;rw[if_neg (by omega),if_pos h2];rfl
  rw[e];clear e;go_enter func163,ntmps163;go_wp2_with (at_builtin;refine wpList_append_own_at _ rfl _ _ 92 rfl B 5 i0 (.int .u8 0) 1 1 underlying92 hi hz0 hz1 hz2 rfl (by decide) _ n xs rfl (hown.alloc _) ⟨w.heap.size,0,none⟩ 2 2 [.int .u8 (192+r / 64),.int .u8 (128+r%64)] rfl rfl (QaI w [.int .u8 (192+r / 64),.int .u8 (128+r%64)] 5) ?h1 ?h63 ?hby ?hbase ?_)
  case h1=>simp [Value.oneCell']
  try case h63=>unfold maxLen;omega
  try case hby=>omega
  try case hbase=>first|omega|(simp;omega)
  intro v' w2 hown2 hgr _ hat;go_wp2;go_ret;exact⟨v',rfl,hown2,⟨_,hgr⟩,by simpa using hat⟩
 have h2':¬r<=2047:=by omega
 by_cases h3:r<65536
 ·rcases hvv with h4|⟨h4,_⟩
  ·have h5:r<55296:=by omega
   have e:chCells r=[.int .u8 (224+r / 4096),.int .u8 (128+r / 64%64),.int .u8 (128+r%64)]:=by unfold chCells Vm.utfL;rw[if_neg (by omega),if_neg h2,if_pos h3];rfl
   rw[e];clear e;go_enter func163,ntmps163;go_wp2_with (at_builtin;refine wpList_append_own_at _ rfl _ _ 92 rfl B 5 i0 (.int .u8 0) 1 1 underlying92 hi hz0 hz1 hz2 rfl (by decide) _ n xs rfl (hown.alloc _) ⟨w.heap.size,0,none⟩ 3 3 [.int .u8 (224+r / 4096),.int .u8 (128+r / 64%64),.int .u8 (128+r%64)] rfl rfl (QaI w [.int .u8 (224+r / 4096),.int .u8 (128+r / 64%64),.int .u8 (128+r%64)] 5) ?h1 ?h63 ?hby ?hbase ?_)
   case h1=>simp [Value.oneCell']
   try case h63=>unfold maxLen;omega
   try case hby=>omega
   try case hbase=>first|omega|(simp;omega)
   intro v' w2 hown2 hgr _ hat;go_wp2;go_ret;exact⟨v',rfl,hown2,⟨_,hgr⟩,by simpa using hat⟩
  have h5:¬r<55296:=by omega
  have h6:57343<r:=by omega
  have h7:r<=65535:=by omega
  have e:chCells r=[.int .u8 (224+r / 4096),.int .u8 (128+r / 64%64),.int .u8 (128+r%64)]:=by unfold chCells Vm.utfL;rw[if_neg (by omega),if_neg h2,if_pos h3];rfl
  rw[e];clear e;go_enter func163,ntmps163;go_wp2_with (at_builtin;refine wpList_append_own_at _ rfl _ _ 92 rfl B 5 i0 (.int .u8 0) 1 1 underlying92 hi hz0 hz1 hz2 rfl (by decide) _ n xs rfl (hown.alloc _) ⟨w.heap.size,0,none⟩ 3 3 [.int .u8 (224+r / 4096),.int .u8 (128+r / 64%64),.int .u8 (128+r%64)] rfl rfl (QaI w [.int .u8 (224+r / 4096),.int .u8 (128+r / 64%64),.int .u8 (128+r%64)] 5) ?h1 ?h63 ?hby ?hbase ?_)
  case h1=>simp [Value.oneCell']
  try case h63=>unfold maxLen;omega
  try case hby=>omega
  try case hbase=>first|omega|(simp;omega)
  intro v' w2 hown2 hgr _ hat;go_wp2;go_ret;exact⟨v',rfl,hown2,⟨_,hgr⟩,by simpa using hat⟩
 have h5:¬r<55296:=by omega
 have h6:57343<r:=by omega
 have h7:¬r<=65535:=by omega
 have h8:65535<r:=by omega
 have h9:r<=1114111:=by omega
 clear hvv
 have e:chCells r=[.int .u8 (240+r / 262144),.int .u8 (128+r / 4096%64),.int .u8 (128+r / 64%64),.int .u8 (128+r%64)]:=by unfold chCells Vm.utfL;rw[if_neg (by omega),if_neg h2,if_neg h3];rfl
 rw[e];clear e
 go_enter func163,ntmps163
 go_wp2_with (at_builtin;refine wpList_append_own_at _ rfl _ _ 92 rfl B 5 i0 (.int .u8 0) 1 1 underlying92 hi hz0 hz1 hz2 rfl (by decide) _ n xs rfl (hown.alloc _) ⟨w.heap.size,0,none⟩ 4 4 [.int .u8 (240+r / 262144),.int .u8 (128+r / 4096%64),.int .u8 (128+r / 64%64),.int .u8 (128+r%64)] rfl rfl (QaI w [.int .u8 (240+r / 262144),.int .u8 (128+r / 4096%64),.int .u8 (128+r / 64%64),.int .u8 (128+r%64)] 5) ?h1 ?h63 ?hby ?hbase ?_)
 case h1=>simp [Value.oneCell']
 try case h63=>unfold maxLen;omega
 try case hby=>omega
 try case hbase=>first|omega|(simp;omega)
 intro v' w2 hown2 hgr _ hat
 go_wp2
 go_ret
 exact⟨v',rfl,hown2,⟨_,hgr⟩,by simpa using hat⟩
theorem Qnj (B:Nat) (v:Value) (n:Nat) (xs:List Value) (r:Int) (hv:Vm.validB r=true) (w:World) (hown:w.ownsRow B 5 1 v n xs) (hlen:n+4<=140737488355328) (hB:B<=w.heap.size) :
  Calls prog 138 #[v,.int .i32 r] w (AppPost B v n xs (chCells r) w):=by
 obtain⟨i0,hi,hz0,hz1,hz2⟩:=info_parts Tryz.infoByte
 have hvv:0<=r/\r<=1114111:=by simp [Vm.validB] at hv;omega
 by_cases h1:r<128
 ·have h1':r<=127:=by omega
  have e:chCells r=[.int .u8 r]:=by unfold chCells Vm.utfL;rw[if_pos h1];rfl
  rw[e];clear e;go_enter func138,ntmps138;go_wp2_with (at_builtin;refine wpList_append_own_at _ rfl _ _ 92 rfl B 5 i0 (.int .u8 0) 1 1 underlying92 hi hz0 hz1 hz2 rfl (by decide) _ n xs rfl (hown.alloc _) ⟨w.heap.size,0,none⟩ 1 1 [.int .u8 r] rfl rfl (QaI w [.int .u8 r] 5) ?h1 ?h63 ?hby ?hbase ?hrest)
  case hrest =>
   intro v' w2 hown2 hgr _ hat;go_wp2;go_ret;exact⟨v',rfl,hown2,⟨_,hgr⟩,by simpa using hat⟩
  case h1=>simp [Value.oneCell']
  all_goals first|omega|(unfold maxLen;omega)|(simp;omega)
 have h1':¬r<=127:=by omega
 have HC:=Z2 (Qlw B v n xs r (by omega) hv w hown hlen hB)
 clear hv hown
 go_enter func138,ntmps138
 go_wp2_with fail
 refine HC.o.mono ?_
 rintro e w2 ⟨v',rfl,h3,h4,h5⟩
 go_wp2
 go_ret
 exact⟨v',rfl,h3,h4,h5⟩
theorem QnV {n:Nat} {v v':Value} {xs:List Value} {o:Obj} (hB:B<=b) (hbz:b<w.heap.size)
  (hbk:w.heap[b]?=some (.cells #[.pointer (some ⟨b,0,none⟩),v] 144)) (hne:v.ownBlock≠some b) (hgr:(w.alloc o).grownBy w2 v.ownBlock)
  (hown:w2.ownsRow B 5 1 v' n xs) (hat:v'.ownBlock=v.ownBlock\/v'.ownBlock=some (w.heap.size+1)) :
  w2.cell? ⟨b,1,none⟩=some v/\w2.frozen? ⟨b,1,none⟩=false/\Bd B b xs (w2.setCell ⟨b,1,none⟩ v')/\Gr b w (w2.setCell ⟨b,1,none⟩ v'):=by
 have hkb:w2.heap[b]?=some (.cells #[.pointer (some ⟨b,0,none⟩),v] 144):=by
  rw[hgr.block b (by rw[World.size_alloc];omega) (fun e=>hne e.symm),Below.heap_alloc _ _ _ hbz];exact hbk
 have c1:=C1 hkb
 have hsz:=hgr.size
 rw[World.size_alloc] at hsz
 have hw:=C1 hbk
 have hvb:v'.ownBlock≠some b:=by
  rcases hat with x|x
  ·rw[x];exact hne
  rw[x];intro e;injection e with e;omega
 have hn:n=xs.length:=by have:=hown.1;omega
 subst hn
 refine⟨c1,by simp [World.frozen?,hkb],⟨hB,v',?_,⟨hown.1,?_⟩,hvb⟩,rfl.trans hgr.os,hgr.tape,hgr.output,?_,?_,?_⟩
 ·simp [World.setCell,Array.getElem?_modify,hkb]
 ·rcases hown.2 with x|⟨g,cap,cur,e1,e2,e3,r⟩
  ·exact .inl x
  refine .inr ⟨g,cap,cur,e1,e2,?_,r⟩;rw[Below.heap_setCell _ _ _ _ (fun e=>hvb (by rw[e1,e];rfl))];exact e3
 ·simp [World.setCell];omega
 ·intro k h1 h2 h3;rw[Below.heap_setCell _ _ _ _ (by simpa using h2)];rw[hgr.block k (by rw[World.size_alloc];omega) (fun e=>h3 ⟨v,hw,e.symm⟩),Below.heap_alloc _ _ _ h1]
 rintro k ⟨u,h1,h2⟩
 rw[sc_eq _ _ 1 _ _ c1] at h1
 injection h1 with h1
 subst h1
 rcases hat with x|x
 ·exact .inl ⟨v,hw,x ▸ h2⟩
 rw[x] at h2;injection h2 with h2;exact .inr (by omega)
theorem Qjy (B b:Nat) (bs:List Value) (r:Int) (hv:Vm.validB r=true) (w:World) (h:Bd B b bs w) (hlen:bs.length+4<=140737488355328) (hBw:B<=w.heap.size) :
  Calls prog 102 #[.pointer (some ⟨b,0,none⟩),.int .i32 r] w fun e w'=>(∃v,e=.returned v)/\Bd B b (bs++chCells r) w'/\Gr b w w':=by
 have hmem:=h.mem
 obtain⟨hB,v,hbk,hown,hne⟩:=h
 have c0:=C0 hbk
 have c1:=C1 hbk
 have hbz:=Z3 c0
 obtain⟨p,cap,rfl⟩:∃p cap,v=.slice p bs.length cap:=by
  rcases hown.2 with ⟨x,y⟩|⟨g,c,cur,x,_⟩
  ·exact⟨none,0,by rw[x,y]⟩
  exact⟨_,_,x⟩
 have hmem1:=hmem
 have HM:=Z2 hmem
 have HO:=Z2 hown
 have HK:=Z2 hbk
 have HN:=Z2 hne
 clear hmem hmem1 hown hbk hne
 go_enter func102,ntmps102
 go_wp2_with fail
 refine (Qha b _ c0).mono ?_
 rintro e w1 ⟨rfl,rfl⟩
 go_wp2_with fail
 refine (Qnj B _ bs.length bs r hv _ HO.o hlen hBw).mono ?_
 rintro e w2 ⟨v',rfl,hown2,⟨o,hgr⟩,hat⟩
 obtain⟨q,cap2,rfl⟩:∃q cap2,v'=.slice q (bs.length+(chCells r).length) cap2:=by
  rcases hown2.2 with ⟨x,y⟩|⟨g,c,cur,x,_⟩
  ·exact⟨none,0,by rw[x,y]⟩
  exact⟨_,_,x⟩
 have hput:=QnV hB hbz HK.o HN.o hgr hown2 hat
 have c1':=hput.1
 have f1':=hput.2.1
 have HP:=Z2 hput.2.2
 clear hput hgr hown2 hat
 go_wp2
 go_ret2
 exact⟨⟨_,rfl⟩,HP.o.1,HP.o.2⟩
end Go.Proofs.YtoejbngihecafaaGreatDoor
namespace Vm
theorem Qlj {r:Int} (h:validB r=true):∀n∈utfL r,0<=n/\n<=255:=by
 have hv:0<=r/\r<=1114111:=by rw[Qag] at h;omega
 unfold utfL;intro n hn;split at hn
 ·simp at hn;omega
 split at hn
 ·simp at hn;omega
 split at hn
 ·simp at hn;omega
 simp at hn;omega
end Vm
namespace Go.Proofs.YtoejbngihecafaaGreatDoor
open Go.RowKit Go.Vit
def numsB (l:List Int):List UInt8:=l.map (fun n=>UInt8.ofNat n.toNat)
theorem Qfq (l:List Int):strOfNums l=⟨(numsB l).toArray⟩:=rfl
theorem Qdd {l:List Int} (h:∀n∈l,0<=n/\n<=255):l.map (Value.int .u8)=Lib.byteCells (numsB l):=by
 induction l with
 |nil=>rfl
 |cons n l ih =>
  have hn:=h n (by simp)
  have e:((UInt8.ofNat n.toNat).toNat:Int)=n:=by
   have:(UInt8.ofNat n.toNat).toNat=n.toNat%256:=by simp
   rw[this];omega
  have:Lib.byteCells (numsB (n :: l))=.int .u8 ((UInt8.ofNat n.toNat).toNat:Int) :: Lib.byteCells (numsB l):=rfl;rw[this,e,<-ih (fun m hm=>h m (by simp [hm]))];rfl
def txCells (A:List Vm.At):List Value:=A.flatMap (fun a=>chCells (Vm.chA a))
theorem Qht (A:List Vm.At) (a:Vm.At):txCells (A++[a])=txCells A++chCells (Vm.chA a):=by simp [txCells]
theorem Qhw {A:List Vm.At} (h:∀a∈A,Vm.ChOk a):txCells A=Lib.byteCells (numsB (Vm.textL A)):=by
 have e:txCells A=(Vm.textL A).map (Value.int .u8):=by simp [txCells,Vm.textL,chCells,List.map_flatMap]
 rw[e];refine Qdd ?_;intro n hn;simp only[Vm.textL,List.mem_flatMap] at hn;obtain⟨a,ha,hn⟩:=hn;exact Vm.Qlj (h a ha).1 n hn
theorem QiC (A:List Vm.At):(txCells A).length<=4 * A.length:=by
 induction A with
 |nil=>simp [txCells]
 |cons a A ih =>
  have e:txCells (a :: A)=chCells (Vm.chA a)++txCells A:=rfl;rw[e,List.length_append,Qjp,List.length_cons];have:=Vm.Qaa (Vm.chA a);omega
theorem Qd6 (B b n:Nat) (w:World) (hB:B<=b) (hbk:w.heap[b]?=some (.cells #[.pointer none,.slice none 0 0] 144)) (hBw:B<=w.heap.size) (hn:n<=281474976710656) :
  Calls prog 86 #[.pointer (some ⟨b,0,none⟩),.int .i64 n] w fun e w'=>e=.returned (.tuple #[])/\Bd B b [] w'/\Below B w w' :=
 Any.Builder_Grow_fresh lays165 extraB B b n w hB hbk hBw hn
theorem QiB (B b:Nat) (bs:List Value) (s:ByteArray) (w:World) (h:Bd B b bs w) (hlen:bs.length+s.size<=140737488355328) (hBw:B<=w.heap.size) :
  Calls prog 87 #[.pointer (some ⟨b,0,none⟩),.string s] w fun e w'=>e=.returned (.tuple #[.int .i64 s.size,.nilIface])/\Bd B b (bs++Lib.strCells s) w'/\Below B w w' :=
 Any.Builder_WriteString lays166 extraB B b bs s w (.inr h) hlen hBw
theorem Qgy (B b:Nat) (l:List UInt8) (w:World) (h:Bd B b (Lib.byteCells l) w) (hBw:B<=w.heap.size) :
  Calls prog 90 #[.pointer (some ⟨b,0,none⟩)] w fun e w'=>e=.returned (.string ⟨l.toArray⟩)/\Below B w w' :=
 Any.Builder_String_any lays169 extraB B b l w (.inr h) hBw
end Go.Proofs.YtoejbngihecafaaGreatDoor
