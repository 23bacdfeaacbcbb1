import Derived.Test.YtoejbngihecafaaGreatDoorC35
import Derived.Test.YtoejbngihecafaaGreatDoorC36
import Derived.Test.YtoejbngihecafaaGreatDoorC26
import Derived.Test.YtoejbngihecafaaGreatDoorC32
import Derived.Test.YtoejbngihecafaaGreatDoorC25
import Derived.Test.YtoejbngihecafaaGreatDoorC0
set_option maxRecDepth 100000
set_option maxHeartbeats 1000000
open Go.Proofs.Tryz
namespace Go.Proofs.YtoejbngihecafaaGreatDoor
open Go.RowKit
variable {B g o cap i:Nat} {w w' w2 W:World} {v v':Value} {l L:List Kp} {F F':Nat->Prop} {z:Kp}
def kc (k:Kp):List Value:=[.int .i64 k.enc,.bool k.mark,.string k.body]
def kcs (l:List Kp):List Value:=l.flatMap kc
theorem Qfd (l:List Kp):(kcs l).length=l.length * 3:=by
 induction l with
 |nil=>rfl
 |cons e l ih =>
  have h1:kcs (e :: l)=kc e++kcs l:=rfl;have h2:(kc e).length=3:=rfl;rw[h1,List.length_append,ih,List.length_cons,h2];omega
theorem QgI (a b:List Kp):kcs (a++b)=kcs a++kcs b:=by simp [kcs]
theorem Qjj (a:List Kp) (k:Kp):kcs (a++[k])=kcs a++kc k:=by rw[QgI];simp [kcs]
theorem QoU (k:Kp):∀u∈kc k,u.oneCell'=true:=by
 intro u hu;have h:u=.int .i64 k.enc\/u=.bool k.mark\/u=.string k.body:=by simpa [kc] using hu
 rcases h with rfl|rfl|rfl<;>rfl
def Kr (B:Nat) (w:World) (v:Value) (l:List Kp):Prop :=
 (v=.slice none 0 0/\l=[])\/∃g o cap cur,v=.slice (some ⟨g,o,none⟩) l.length cap/\B<=g/\w.heap[g]?=some (.cells cur 99 (0,0))/\o+cap * 3<=cur.size/\l.length<=cap/\cap<=maxLen/\(cur.toList.drop o).take (l.length * 3)=kcs l
theorem Kr.low (h:Kr B w v l) (hb:∀g,wblk v=some g->w'.heap[g]?=w.heap[g]?):Kr B w' v l:=by
 rcases h with h|⟨g,o,cap,cur,e1,e2,e3,r⟩
 ·exact .inl h
 exact .inr ⟨g,o,cap,cur,e1,e2,(hb g (by rw[e1];rfl)).trans e3,r⟩
theorem Kr.lt (h:Kr B w v l) (hg:wblk v=some g):B<=g/\g<w.heap.size/\tyAt w g=some 99:=by
 rcases h with ⟨x,_⟩|⟨g',o,cap,cur,e1,e2,e3,r⟩
 ·rw[x] at hg;cases hg
 rw[e1] at hg;have e:g'=g:=Option.some.inj hg;subst e;exact⟨e2,Z4 e3,by unfold tyAt;rw[e3]⟩
theorem Kr.val (h:Kr B w v l):∃q cap,v=.slice q l.length cap/\l.length<=cap/\cap<=maxLen:=by
 rcases h with ⟨x,y⟩|⟨g,o,cap,cur,e1,e2,e3,e4,e5,e6,r⟩
 ·exact⟨none,0,by rw[x,y];rfl,by rw[y];exact Z6 _,Nat.zero_le _⟩
 exact⟨_,cap,e1,e5,e6⟩
theorem Kr.cell (h:Kr B w (.slice (some ⟨g,o,none⟩) l.length cap) l) {j:Nat} {k:Kp} (hj:l[j]?=some k) :
  w.cell? ⟨g,o+j * 3,none⟩=some (.int .i64 k.enc)/\w.cell? ⟨g,o+j * 3+1,none⟩=some (.bool k.mark)/\w.cell? ⟨g,o+j * 3+2,none⟩=some (.string k.body):=by
 rcases h with ⟨x,y⟩|⟨g',o',cap',cur,e1,e2,e3,e4,e5,e6,e7⟩
 ·cases x
 injection e1 with e1 _ _
 injection e1 with e1
 injection e1 with a b _
 subst a b
 have hlt:j<l.length:=(List.getElem?_eq_some_iff.1 hj).1
 have key:∀i,i<3->w.cell? ⟨g,o+j * 3+i,none⟩=(kc k)[i]?:=by
  intro i hi;rw[Lib.cell_of_heap e3]
  have h1:cur[o+j * 3+i]?=((cur.toList.drop o).take (l.length * 3))[j * 3+i]?:=by
   rw[List.getElem?_take_of_lt (by omega),List.getElem?_drop,Array.getElem?_toList];congr 1;omega
  rw[h1,e7]
  have h2:l=l.take j++k :: l.drop (j+1):=by
   have:=List.take_append_drop j l;rw[List.drop_eq_getElem_cons hlt] at this;rw[(List.getElem?_eq_some_iff.1 hj).2] at this;exact this.symm
  have hlj:(l.take j).length=j:=by rw[List.length_take];omega
  have h3:kcs l=kcs (l.take j)++(kc k++kcs (l.drop (j+1))):=by
   have h4:kcs (k :: l.drop (j+1))=kc k++kcs (l.drop (j+1)):=rfl;rw[<-h4,<-QgI,<-h2]
  rw[h3,List.getElem?_append_right (by rw[Qfd,hlj];omega),Qfd,hlj,List.getElem?_append_left (by show _<3;omega)];congr 1;omega
 exact⟨by have:=key 0 (by decide);simpa [kc] using this,by have:=key 1 (by decide);simpa [kc] using this,by have:=key 2 (by decide);simpa [kc] using this⟩
theorem Kr.drop {k:Kp} (h:Kr B w (.slice (some ⟨g,o,none⟩) (k :: l).length cap) (k :: l)):Kr B w (.slice (some ⟨g,o+3,none⟩) l.length (cap - 1)) l:=by
 rcases h with ⟨x,y⟩|⟨g',o',cap',cur,e1,e2,e3,e4,e5,e6,e7⟩
 ·cases x
 injection e1 with e1 _ e8
 injection e1 with e1
 injection e1 with a b _
 subst a b e8;rw[List.length_cons] at e5 e7;refine .inr ⟨g,o+3,cap - 1,cur,rfl,e2,e3,by omega,by omega,by omega,?_⟩;have h1:kcs (k :: l)=kc k++kcs l:=rfl;have h2:(kc k).length=3:=rfl;have h3:=congrArg (List.drop 3) e7;rw[h1,<-h2,List.drop_left,h2,List.drop_take,List.drop_drop] at h3;rw[<-h3];congr 1;omega
theorem Kr.init {k:Kp} (h:Kr B w (.slice (some ⟨g,o,none⟩) (l++[k]).length cap) (l++[k])):Kr B w (.slice (some ⟨g,o,none⟩) l.length cap) l:=by
 rcases h with ⟨x,y⟩|⟨g',o',cap',cur,e1,e2,e3,e4,e5,e6,e7⟩
 ·cases x
 injection e1 with e1 _ e8
 injection e1 with e1
 injection e1 with a b _
 subst a b e8;rw[List.length_append,List.length_singleton] at e5 e7;refine .inr ⟨g,o,cap,cur,rfl,e2,e3,e4,by omega,e6,?_⟩;rw[Qjj] at e7;have h3:=congrArg (List.take (l.length * 3)) e7;rw[<-Qfd l,List.take_left,List.take_take,Qfd] at h3;rw[<-h3];congr 1;omega
theorem Qoe :∃i,prog.info? 99=some i/\i.zero=some (.agg #[.int .i64 0,.bool false,.string ⟨#[]⟩])/\i.size=3/\i.bytes=32:=by
 have h:(prog.info? 99).map (fun i=>(i.zero,i.size,i.bytes))=some (some (.agg #[.int .i64 0,.bool false,.string ⟨#[]⟩]),3,32):=by kernel_rfl
 cases hi:prog.info? 99 with
 |none=>rw[hi] at h;cases h
 |some i =>
  rw[hi] at h;have:=Option.some.inj h;injection this with h1 h2
  injection h2 with h2 h3
  exact⟨i,rfl,h1,h2,h3⟩
theorem QdU (ty:TypeId) (B:Nat) (v:Value) (l:List Kp) (k:Kp) (w:World) (a:Addr) (c:Nat) (h:Kr B w v l) (hnews:∀j u,(kc k)[j]?=some u->w.cell? (a.add j)=some u) (hl:l.length<=1000) (hB:B<=w.heap.size) :
  ∃v' w',(Builtin.append_ #[101,101] ty #[v,.slice (some a) 1 c]).run prog w=.ok v' w'/\Kr B w' v' (l++[k])/\WtStep v w w'/\(wblk v'=wblk v\/wblk v'=some w.heap.size):=by
 obtain⟨i,hi,hz,hs3,hb⟩:=Qoe
 have ht:=underlying101
 have hk3:(kc k).length=1 * i.size:=by rw[hs3];rfl
 have hk3':(kc k).length=3:=rfl
 have hnl:(l++[k]).length=l.length+1:=by rw[List.length_append,List.length_singleton]
 have hkl:=Qfd l
 have grown:∀old:Nat,old<l.length+1 ->
   Kr B (w.drew.alloc (.cells ((kcs l).toArray++(kc k).toArray++Builtin.zeroCells (Value.agg #[.int .i64 0,.bool false,.string ⟨#[]⟩]).cells (grownCap w (l.length+1) old 99 - (l.length+1))) 99)) (.slice (some ⟨w.heap.size,0,none⟩) (l.length+1) (grownCap w (l.length+1) old 99)) (l++[k]) /\
   ∀v,WtStep v w (w.drew.alloc (.cells ((kcs l).toArray++(kc k).toArray++Builtin.zeroCells (Value.agg #[.int .i64 0,.bool false,.string ⟨#[]⟩]).cells (grownCap w (l.length+1) old 99 - (l.length+1))) 99)):=by
  intro old ho
  have hge:=grownCap_ge w (l.length+1) old 99
  have hcm:grownCap w (l.length+1) old 99<=maxLen:=grownCap_le_maxLen w (l.length+1) old 99 (by unfold maxLen;omega)
  refine⟨.inr ⟨w.heap.size,0,_,_,by rw[hnl],hB,heap_alloc_new w.drew _,?_,by rw[hnl];exact hge,hcm,?_⟩,fun v=>⟨rfl,rfl,rfl,by simp,fun k hk _=>Below.heap_alloc w.drew _ k hk⟩⟩
  ·have hz1:(Value.agg #[.int .i64 0,.bool false,.string ⟨#[]⟩]).cells.size=3:=rfl;simp only[Array.size_append,List.size_toArray,size_zeroCells,hz1,hkl,hk3'];omega
  rw[hnl,Qjj]
  simp only[Array.toList_append,List.drop_zero]
  have e:(l.length+1) * 3=(kcs l++kc k).length:=by rw[List.length_append,hkl,hk3'];omega
  rw[e]
  exact List.take_left
 rcases h with ⟨rfl,rfl⟩|⟨g,o,cap,cur,rfl,hg,hh,hoc,hle,hcm,htk⟩
 ·have hr:=run_append_nil (P:=prog) w 101 ty 99 i _ ht hi hz a 1 c (kc k) hk3 hnews (by omega) (by omega) (by rw[hb];omega);have hgr:=grown 0 (by simp);have e2:(kcs []).toArray++(kc k).toArray=(kc k).toArray:=by simp [kcs]
  rw[e2] at hgr;exact⟨_,_,hr,hgr.1,hgr.2 _,.inr rfl⟩
 by_cases hroom:l.length+1<=cap
 ·have hst:=run_storeCells_cells (P:=prog) g (o+l.length * 3) (kc k) 0 w (fun j hj=>by
   have hj:j<3:=hj
   rw[Lib.cell_of_heap hh,Array.getElem?_eq_getElem (by omega)];rfl) (fun j _=>Lib.frozen_of_heap hh _) (QoU k)
  have hf:=run_firstCells_some (P:=prog) w i.size 1 a 1 c (kc k) hk3 hnews;simp only[Nat.add_zero] at hst;have hblk:=Qcb (kc k) (o+l.length * 3) w cur hh (by rw[hk3'];omega);have htn:=QcF g (kc k) (o+l.length * 3) w;rw[hs3] at hf;refine⟨.slice (some ⟨g,o,none⟩) (l.length+1) cap,w.setCells g (o+l.length * 3) (kc k),?_,.inr ⟨g,o,cap,_,by rw[hnl],hg,hblk,?_,by rw[hnl];exact hroom,hcm,?_⟩,⟨htn.os,htn.tape,htn.output,htn.size,fun j hj hk=>htn.keep j hj (fun e=>hk (by rw[e];rfl))⟩,.inl rfl⟩
  ·simp [Builtin.append_,run_underlying ht,sizeOf,typeInfo,hi,hs3,Builtin.lenOf,hroom,hf,Addr.add_lit,hst]
  ·simp only[List.size_toArray,List.length_append,List.length_take,List.length_drop,Array.length_toList,hk3'];omega
  rw[hnl,Qjj];have hcz:cur.toList.length=cur.size:=Array.length_toList
  have e1:(cur.toList.take (o+l.length * 3)++kc k++cur.toList.drop (o+l.length * 3+(kc k).length)).drop o=kcs l++kc k++cur.toList.drop (o+l.length * 3+(kc k).length):=by
   rw[List.append_assoc,List.drop_append_of_le_length (by rw[List.length_take];omega),List.drop_take,Nat.add_sub_cancel_left,htk,List.append_assoc]
  show ((cur.toList.take (o+l.length * 3)++kc k++cur.toList.drop (o+l.length * 3+(kc k).length)).drop o).take _=_;rw[e1];have e:(l.length+1) * 3=(kcs l++kc k).length:=by rw[List.length_append,hkl,hk3'];omega
  rw[e];exact List.take_left
 have holds:∀j u,(kcs l)[j]?=some u->w.cell? ((⟨g,o,none⟩:Addr).add j)=some u:=by
  intro j u hj;rw[Addr.add_lit,Lib.cell_of_heap hh];rw[<-htk,List.getElem?_take] at hj;split at hj
  ·rw[List.getElem?_drop] at hj;rw[<-hj,Array.getElem?_toList]
  cases hj
 have hr:=run_append_grow (P:=prog) w 101 ty 99 i _ ht hi hz ⟨g,o,none⟩ l.length cap (kcs l) (by rw[hs3,hkl]) holds a 1 c (kc k) hk3 hnews (by omega) (by omega) (growslice_fits (by omega) (by rw[hb];omega))
 have hgr:=grown cap (by omega)
 exact⟨_,_,hr,hgr.1,hgr.2 _,.inr rfl⟩
structure St where
 k:Kp
 O:List Kp
 U:List Kp
def pushK (O:List Kp) (x:Kp):List Kp:=(if O.length=30 then O.drop 1 else O)++[x]
structure Turn (F F':Nat->Prop) (w w':World):Prop where
 os:w'.os=w.os
 tape:w'.tape=w.tape
 output:w'.output=w.output
 size:w.heap.size<=w'.heap.size
 keep:∀i,i<w.heap.size->¬F i->w'.heap[i]?=w.heap[i]?
 new:∀i,F' i->F i\/w.heap.size<=i
theorem Turn.refl (F:Nat->Prop) (w:World):Turn F F w w:=⟨rfl,rfl,rfl,Z6 _,fun _ _ _=>rfl,fun _ h=>.inl h⟩
theorem Turn.trans {F1 F2 F3:Nat->Prop} {w1 w3:World} (h:Turn F1 F2 w1 w2) (k:Turn F2 F3 w2 w3):Turn F1 F3 w1 w3 :=
 ⟨k.os.trans h.os,k.tape.trans h.tape,k.output.trans h.output,Nat.le_trans h.size k.size,
  fun i h1 h2=>(k.keep i (Nat.lt_of_lt_of_le h1 h.size) (fun e=>by
   rcases h.new i e with x|x
   ·exact h2 x
   omega)).trans (h.keep i h1 h2),
  fun g hg=>by
   have:=h.size
   rcases k.new g hg with x|x
   ·exact h.new g x
   exact .inr (by omega)⟩
theorem Turn.of_below (h:Below w.heap.size w w'):Turn F F w w':=⟨h.os,h.tape,h.output,h.size,fun k h1 _=>h.block k h1,fun _ h=>.inl h⟩
theorem Turn.below {w0:World} (h:Turn F F' w w') (hb:Below w0.heap.size w0 w) (hF:∀i,F i->w0.heap.size<=i):Below w0.heap.size w0 w' :=
 ⟨h.os.trans hb.os,h.tape.trans hb.tape,h.output.trans hb.output,Nat.le_trans hb.size h.size,fun k hk=>(h.keep k (Nat.lt_of_lt_of_le hk hb.size) (fun e=>by have:=hF k e;omega)).trans (hb.block k hk)⟩
structure RHs (B:Nat) (w:World) (r:Nat) (s:St) (vo vb:Value):Prop where
 blk:w.heap[r]?=some (.cells #[.int .i64 s.k.enc,.bool s.k.mark,.string s.k.body,vo,vb] 103)
 ho:Kr B w vo s.O
 hb:Kr B w vb s.U
 ne:∀g,wblk vo=some g->wblk vb≠some g
 rB:B<=r
def fp (r:Nat) (vo vb:Value) (i:Nat):Prop:=i=r\/wblk vo=some i\/wblk vb=some i
def RH (B:Nat) (w:World) (r:Nat) (s:St) (G:Nat->Prop):Prop:=∃vo vb,RHs B w r s vo vb/\G=fp r vo vb
section
variable {B:Nat} {w w':World} {r:Nat} {s:St} {vo vb:Value} {G:Nat->Prop}
theorem RHs.low (h:RHs B w r s vo vb) (hb:Below w.heap.size w w'):RHs B w' r s vo vb :=
 ⟨(hb.block r (Z4 h.blk)).trans h.blk,h.ho.low (fun g hg=>hb.block g (h.ho.lt hg).2.1),h.hb.low (fun g hg=>hb.block g (h.hb.lt hg).2.1),h.ne,h.rB⟩
theorem RH.low (h:RH B w r s G) (hb:Below w.heap.size w w'):RH B w' r s G:=by
 obtain⟨vo,vb,h1,h2⟩:=h;exact⟨vo,vb,h1.low hb,h2⟩
theorem RH.self (h:RH B w r s G):G r:=by
 obtain⟨vo,vb,_,rfl⟩:=h;exact .inl rfl
theorem RHs.ty (h:RHs B w r s vo vb) (hi:fp r vo vb i):B<=i/\i<w.heap.size/\(tyAt w i=some 103\/tyAt w i=some 99):=by
 rcases hi with rfl|q|q
 ·exact⟨h.rB,Z4 h.blk,.inl (by unfold tyAt;rw[h.blk])⟩
 ·have:=h.ho.lt q;exact⟨this.1,this.2.1,.inr this.2.2⟩
 have:=h.hb.lt q;exact⟨this.1,this.2.1,.inr this.2.2⟩
theorem RH.ty (h:RH B w r s G) (hi:G i):B<=i/\i<w.heap.size/\(tyAt w i=some 103\/tyAt w i=some 99):=by
 obtain⟨vo,vb,h1,rfl⟩:=h;exact h1.ty hi
theorem RH.nd (h:RH B w r s G) (hi:G i):NoNd w i:=by
 rcases (h.ty hi).2.2 with q|q<;>(unfold NoNd;rw[q];exact⟨fun e=>absurd (Option.some.inj e) (by decide),fun e=>absurd (Option.some.inj e) (by decide)⟩)
theorem RH.doc (h:RH B w r s G):RDoc w r s.k.enc s.k.mark s.k.body:=by
 obtain⟨vo,vb,h1,_⟩:=h;exact RDoc.of_heap h1.blk
theorem RH.turn (h:RH B w r s G) (ht:Turn F F' w w') (hd:∀i,F i->¬G i):RH B w' r s G:=by
 have hty:=fun i (hi:G i)=>(h.ty hi).2.1;obtain⟨vo,vb,h1,rfl⟩:=h;have hk:∀i,fp r vo vb i->w'.heap[i]?=w.heap[i]?:=fun i hi=>ht.keep i (hty i hi) (fun g=>hd i g hi);exact⟨vo,vb,⟨(hk r (.inl rfl)).trans h1.blk,h1.ho.low (fun g hg=>hk g (.inr (.inl hg))),h1.hb.low (fun g hg=>hk g (.inr (.inr hg))),h1.ne,h1.rB⟩,rfl⟩
theorem RH.new {enc:Int} {mark:Bool} {body:ByteArray} (h:w.heap[r]?=some (.cells #[.int .i64 enc,.bool mark,.string body,.slice none 0 0,.slice none 0 0] 103)) (hB:B<=r):RH B w r ⟨⟨enc,mark,body⟩,[],[]⟩ (fun i=>i=r):=by
 refine⟨.slice none 0 0,.slice none 0 0,⟨h,.inl ⟨rfl,rfl⟩,.inl ⟨rfl,rfl⟩,fun g e=>(by cases e),hB⟩,?_⟩;funext i;apply propext
 exact⟨.inl,fun q=>by
  rcases q with q|q|q
  ·exact q
  ·cases q
  cases q⟩
theorem RHs.nr (h:RHs B w r s vo vb):wblk vo≠some r/\wblk vb≠some r:=by
 have ht:tyAt w r=some 103:=by unfold tyAt;rw[h.blk]
 constructor
 ·intro e;have:=(h.ho.lt e).2.2;rw[ht] at this;exact absurd (Option.some.inj this) (by decide)
 intro e;have:=(h.hb.lt e).2.2;rw[ht] at this;exact absurd (Option.some.inj this) (by decide)
theorem Qld {k:Kp} {F:World} (h:RHs B w r s vo vb) (hW:Below w.heap.size w W) (hst:WtStep vo W w2) (hv:wblk v=wblk vo\/wblk v=some W.heap.size) (hv':wblk v'=wblk v) (hk:Kr B w2 v' L) (htn:Tn r w2 F) (hF:F.heap[r]?=some (.cells #[.int .i64 k.enc,.bool k.mark,.string k.body,v',.slice none 0 0] 103)) :
  RHs B F r ⟨k,L,[]⟩ v' (.slice none 0 0)/\Turn (fp r vo vb) (fp r v' (.slice none 0 0)) w F:=by
 have hr:=Z4 h.blk
 have hnr:=h.nr
 have hsz:=hW.size
 have hs2:=hst.size
 have hs3:=htn.size
 have hvr:wblk v'≠some r:=by
  rw[hv'];rcases hv with e|e
  ·rw[e];exact hnr.1
  rw[e];intro q;have:=Option.some.inj q;omega
 refine⟨⟨hF,hk.low (fun g hg=>htn.keep g (hk.lt hg).2.1 (fun e=>hvr (by rw[hg,e]))),.inl ⟨rfl,rfl⟩,fun g _ e=>(by cases e),h.rB⟩,⟨htn.os.trans (hst.os.trans hW.os),htn.tape.trans (hst.tape.trans hW.tape),htn.output.trans (hst.output.trans hW.output),by omega,fun i h1 h2=>?_,fun i hi=>?_⟩⟩
 ·rw[htn.keep i (by omega) (fun e=>h2 (.inl e)),hst.keep i (by omega) (fun e=>h2 (.inr (.inl e))),hW.block i h1]
 rcases hi with rfl|q|q
 ·exact .inl (.inl rfl)
 ·rw[hv'] at q;rcases hv with e|e
  ·exact .inl (.inr (.inl (by rw[<-e];exact q)))
  rw[e] at q;have:=Option.some.inj q;exact .inr (by omega)
 cases q
theorem Qog {F:World} (h:RHs B w r s vo vb) (hW:Below w.heap.size w W) (hst:WtStep vb W w2) (hv:wblk v=wblk vb\/wblk v=some W.heap.size) (hv':wblk v'=wblk vo) (hk:Kr B w2 v (s.U++[s.k])) (hk':Kr B w v' L) (htn:Tn r w2 F) (hF:F.heap[r]?=some (.cells #[.int .i64 z.enc,.bool z.mark,.string z.body,v',v] 103)) :
  RHs B F r ⟨z,L,s.U++[s.k]⟩ v' v/\Turn (fp r vo vb) (fp r v' v) w F:=by
 have hr:=Z4 h.blk
 have hnr:=h.nr
 have hsz:=hW.size
 have hs2:=hst.size
 have hs3:=htn.size
 have hvr:wblk v≠some r:=by
  rcases hv with e|e
  ·rw[e];exact hnr.2
  rw[e];intro q;have:=Option.some.inj q;omega
 refine⟨⟨hF,hk'.low (fun g hg=>?_),hk.low (fun g hg=>htn.keep g (hk.lt hg).2.1 (fun e=>hvr (by rw[hg,e]))),fun g hg e=>?_,h.rB⟩,⟨htn.os.trans (hst.os.trans hW.os),htn.tape.trans (hst.tape.trans hW.tape),htn.output.trans (hst.output.trans hW.output),by omega,fun i h1 h2=>?_,fun i hi=>?_⟩⟩
 ·have hl:=(hk'.lt hg).2.1;have hg':wblk vo=some g:=by rw[<-hv'];exact hg
  rw[htn.keep g (by omega) (fun e=>hnr.1 (by rw[<-e];exact hg')),hst.keep g (by omega) (h.ne g hg'),hW.block g hl]
 ·have hl:=(hk'.lt hg).2.1;have hg':wblk vo=some g:=by rw[<-hv'];exact hg
  rcases hv with q|q
  ·exact h.ne g hg' (by rw[<-q];exact e)
  rw[q] at e;have:=Option.some.inj e;omega
 ·rw[htn.keep i (by omega) (fun e=>h2 (.inl e)),hst.keep i (by omega) (fun e=>h2 (.inr (.inr e))),hW.block i h1]
 rcases hi with rfl|q|q
 ·exact .inl (.inl rfl)
 ·exact .inl (.inr (.inl (by rw[<-hv'];exact q)))
 rcases hv with e|e
 ·exact .inl (.inr (.inr (by rw[<-e];exact q)))
 rw[e] at q;have:=Option.some.inj q;exact .inr (by omega)
theorem QoG {F:World} (h:RHs B w r s vo vb) (hW:Below w.heap.size w W) (hst:WtStep vo W w2) (hv:wblk v=wblk vo\/wblk v=some W.heap.size) (hv':wblk v'=wblk vb) (hk:Kr B w2 v (s.O++[s.k])) (hk':Kr B w v' L) (htn:Tn r w2 F) (hF:F.heap[r]?=some (.cells #[.int .i64 z.enc,.bool z.mark,.string z.body,v,v'] 103)) :
  RHs B F r ⟨z,s.O++[s.k],L⟩ v v'/\Turn (fp r vo vb) (fp r v v') w F:=by
 have hr:=Z4 h.blk
 have hnr:=h.nr
 have hsz:=hW.size
 have hs2:=hst.size
 have hs3:=htn.size
 have hvr:wblk v≠some r:=by
  rcases hv with e|e
  ·rw[e];exact hnr.1
  rw[e];intro q;have:=Option.some.inj q;omega
 refine⟨⟨hF,hk.low (fun g hg=>htn.keep g (hk.lt hg).2.1 (fun e=>hvr (by rw[hg,e]))),hk'.low (fun g hg=>?_),fun g e hg=>?_,h.rB⟩,⟨htn.os.trans (hst.os.trans hW.os),htn.tape.trans (hst.tape.trans hW.tape),htn.output.trans (hst.output.trans hW.output),by omega,fun i h1 h2=>?_,fun i hi=>?_⟩⟩
 ·have hl:=(hk'.lt hg).2.1;have hg':wblk vb=some g:=by rw[<-hv'];exact hg
  rw[htn.keep g (by omega) (fun e=>hnr.2 (by rw[<-e];exact hg')),hst.keep g (by omega) (fun e=>h.ne g e hg'),hW.block g hl]
 ·have hl:=(hk'.lt hg).2.1;have hg':wblk vb=some g:=by rw[<-hv'];exact hg
  rcases hv with q|q
  ·exact h.ne g (by rw[<-q];exact e) hg'
  rw[q] at e;have:=Option.some.inj e;omega
 ·rw[htn.keep i (by omega) (fun e=>h2 (.inl e)),hst.keep i (by omega) (fun e=>h2 (.inr (.inl e))),hW.block i h1]
 rcases hi with rfl|q|q
 ·exact .inl (.inl rfl)
 ·rcases hv with e|e
  ·exact .inl (.inr (.inl (by rw[<-e];exact q)))
  rw[e] at q;have:=Option.some.inj q;exact .inr (by omega)
 exact .inl (.inr (.inr (by rw[<-hv'];exact q)))
end
theorem QkU (B r:Nat) (s:St) (vo vb:Value) (k:Kp) (w:World) (h:RHs B w r s vo vb) (hO:s.O.length<30) :
  Calls prog 150 #[.pointer (some ⟨r,0,none⟩),.agg #[.int .i64 k.enc,.bool k.mark,.string k.body]] w fun e w'=>e=.returned (.tuple #[])/\∃vo',RHs B w' r ⟨k,s.O++[s.k],[]⟩ vo' (.slice none 0 0)/\Turn (fp r vo vb) (fp r vo' (.slice none 0 0)) w w':=by
 obtain⟨q,cap,rfl,hcap,hcm⟩:=h.ho.val
 have hz:=Z4 h.blk
 have HH:=Z1 h
 have hO1:¬(30:Int)<((s.O.length:Int)+1):=by omega
 have hwr:IntKind.i64.wrap ((s.O.length:Int)+1)=(s.O.length:Int)+1:=by rw[IntKind.wrap_i64];omega
 clear h
 go_enter func150,ntmps150
 go_wp2_with fail
 have h:=HH.o
 have hw1:Below w.heap.size w (w.alloc (.cells #[.int .i64 k.enc,.bool k.mark,.string k.body] 99)):=Z7 _ _
 have h':=h.low hw1
 have hC:=Go.Deep.blk_alloc_new w (.cells #[.int .i64 k.enc,.bool k.mark,.string k.body] 99)
 have hCo:wblk (Value.slice q s.O.length cap)≠some w.heap.size:=fun e=>by have:=(h.ho.lt e).2.1;omega
 have hCr:w.heap.size≠r:=by omega
 have hCz:w.heap.size<(w.alloc (.cells #[.int .i64 k.enc,.bool k.mark,.string k.body] 99)).heap.size:=by rw[World.size_alloc];omega
 have HW1:=Z1 (Turn.of_below (F:=fp r (.slice q s.O.length cap) vb) hw1)
 clear h hw1 HH hz
 generalize w.alloc (.cells #[.int .i64 k.enc,.bool k.mark,.string k.body] 99)=w1 at *
 generalize hCe:w.heap.size=C at *
 clear hCe
 have hz1:r<w1.heap.size:=Z4 h'.blk
 have hrB:=h'.rB
 have c0:=C0 h'.blk
 have c1:=C1 h'.blk
 have c2:=C2 h'.blk
 have c3:=C3 h'.blk
 have c4:=C4 h'.blk
 have fc:=fun j=>Lib.frozen_of_heap h'.blk j
 have hWW:Below w1.heap.size w1 (w1.alloc (.cells (kc s.k).toArray 99)).drew:=(Z7 _ _).drew
 obtain⟨v',w2,hrun,hk,hst,hat⟩:=QdU 101 B (.slice q s.O.length cap) s.O s.k (w1.alloc (.cells (kc s.k).toArray 99)).drew ⟨w1.heap.size,0,none⟩ 1 (h'.ho.low (fun g hg=>hWW.block g (h'.ho.lt hg).2.1)) (QaI w1 (kc s.k) 99) (by omega) (by have:=hWW.size;omega)
 obtain⟨q',cap',rfl,hcap',hcm'⟩:∃q' cap',v'=.slice q' (s.O.length+1) cap'/\s.O.length+1<=cap'/\cap'<=maxLen:=by
  obtain⟨q',cap',e1,e2,e3⟩:=hk.val;rw[List.length_append,List.length_singleton] at e1 e2;exact⟨q',cap',e1,e2,e3⟩
 have hnr:=h'.nr
 have hb2:w2.heap[r]?=some (.cells #[.int .i64 s.k.enc,.bool s.k.mark,.string s.k.body,.slice q s.O.length cap,vb] 103):=by
  rw[hst.keep r (by have:=hWW.size;omega) hnr.1,hWW.block r hz1];exact h'.blk
 have d0:=C0 hb2
 have d1:=C1 hb2
 have d2:=C2 hb2
 have d3:=C3 hb2
 have d4:=C4 hb2
 have hby:w2.heap[C]?=some (.cells #[.int .i64 k.enc,.bool k.mark,.string k.body] 99):=by
  rw[hst.keep C (by have:=hWW.size;omega) hCo,hWW.block C hCz];exact hC
 have y0:=C0 hby
 have y1:=C1 hby
 have y2:=C2 hby
 have hyz:=Z3 y0
 have fd:=fun j=>Lib.frozen_of_heap hb2 j
 have hz2:=Z3 d0
 obtain⟨vbq,vbn,vbc,hvb⟩:∃a b c,vb=.slice a b c:=by
  obtain⟨a,b,e,_⟩:=h'.hb.val;exact⟨a,_,b,e⟩
 have HFIN:=Z1 (fun F (hF:F=(((((w2.setCell ⟨r,3,none⟩ (.slice q' (s.O.length+1) cap')).setCell ⟨r,4,none⟩ (.slice none 0 0)).setCell ⟨r,0,none⟩ (.int .i64 k.enc)).setCell ⟨r,1,none⟩ (.bool k.mark)).setCell ⟨r,2,none⟩ (.string k.body)))=>Qld (k:=k) (F:=F) h' hWW hst hat rfl hk (by rw[hF];exact (((((Tn.refl r w2).setCell _).setCell _).setCell _).setCell _).setCell _) (by rw[hF];exact Qan (Qan (Qan (Qan (Qan hb2 _) _) _) _) _))
 have hmo:prog.follows Departure.mixedOrders=true:=by kernel_rfl
 unfold kc at hrun
 clear h' hk hst hat hb2 hby hC hCo hWW hnr
 subst hvb
 go_region_law (refine Qat rfl _ _ _ _ rfl _ _ rfl rfl _ _ hrun ?_)
 all_goals
  clear hrun c0 c1 c2 c3 c4 fc;go_wp2_with fail;go_returns;have hf:=HFIN.o _ rfl;exact⟨rfl,_,hf.1,HW1.o.trans hf.2⟩
theorem Qkj (B r:Nat) (s:St) (vo vb:Value) (k:Kp) (w:World) (h:RHs B w r s vo vb) (hO:s.O.length=30) :
  Calls prog 150 #[.pointer (some ⟨r,0,none⟩),.agg #[.int .i64 k.enc,.bool k.mark,.string k.body]] w fun e w'=>e=.returned (.tuple #[])/\∃vo',RHs B w' r ⟨k,s.O.drop 1++[s.k],[]⟩ vo' (.slice none 0 0)/\Turn (fp r vo vb) (fp r vo' (.slice none 0 0)) w w':=by
 obtain⟨q,cap,hv,hcap,hcm⟩:=h.ho.val
 rw[hO] at hv hcap
 subst hv
 have hz:=Z4 h.blk
 have HH:=Z1 h
 clear h
 go_enter func150,ntmps150
 go_wp2_with fail
 have h:=HH.o
 have hw1:Below w.heap.size w (w.alloc (.cells #[.int .i64 k.enc,.bool k.mark,.string k.body] 99)):=Z7 _ _
 have h':=h.low hw1
 have hC:=Go.Deep.blk_alloc_new w (.cells #[.int .i64 k.enc,.bool k.mark,.string k.body] 99)
 have hCo:wblk (Value.slice q 30 cap)≠some w.heap.size:=fun e=>by have:=(h.ho.lt e).2.1;omega
 have hCr:w.heap.size≠r:=by omega
 have hCz:w.heap.size<(w.alloc (.cells #[.int .i64 k.enc,.bool k.mark,.string k.body] 99)).heap.size:=by rw[World.size_alloc];omega
 have HW1:=Z1 (Turn.of_below (F:=fp r (.slice q 30 cap) vb) hw1)
 clear h hw1 HH hz
 generalize w.alloc (.cells #[.int .i64 k.enc,.bool k.mark,.string k.body] 99)=w1 at *
 generalize hCe:w.heap.size=C at *
 clear hCe
 have hz1:r<w1.heap.size:=Z4 h'.blk
 have hrB:=h'.rB
 have c0:=C0 h'.blk
 have c1:=C1 h'.blk
 have c2:=C2 h'.blk
 have c3:=C3 h'.blk
 have c4:=C4 h'.blk
 have fc:=fun j=>Lib.frozen_of_heap h'.blk j
 have hWW:Below w1.heap.size w1 (w1.alloc (.cells (kc s.k).toArray 99)).drew:=(Z7 _ _).drew
 obtain⟨v',w2,hrun,hk,hst,hat⟩:=QdU 101 B (.slice q 30 cap) s.O s.k (w1.alloc (.cells (kc s.k).toArray 99)).drew ⟨w1.heap.size,0,none⟩ 1 (h'.ho.low (fun g hg=>hWW.block g (h'.ho.lt hg).2.1)) (QaI w1 (kc s.k) 99) (by omega) (by have:=hWW.size;omega)
 obtain⟨z,O,hzO⟩:∃z O,s.O=z :: O:=by
  cases hq:s.O with
  |nil=>rw[hq] at hO;cases hO
  |cons z O=>exact⟨z,O,rfl⟩
 obtain⟨g,o,cap',rfl,hcap',hcm'⟩:∃g o cap',v'=.slice (some ⟨g,o,none⟩) 31 cap'/\31<=cap'/\cap'<=9223372036854775807:=by
  rcases hk with ⟨_,q⟩|⟨g,o,cap',cur,e1,_,_,_,e5,e6,_⟩
  ·simp at q
  rw[List.length_append,List.length_singleton,hO] at e1 e5;exact⟨g,o,cap',e1,e5,e6⟩
 have hk':Kr B w2 (.slice (some ⟨g,o+3,none⟩) 30 (cap' - 1)) (s.O.drop 1++[s.k]):=by
  rw[hzO] at hk ⊢
  have hl1:(z :: (O++[s.k])).length=31:=by
   rw[hzO,List.length_cons] at hO;rw[List.length_cons,List.length_append,List.length_singleton];omega
  have hl2:(O++[s.k]).length=30:=by rw[List.length_cons] at hl1;omega
  have h0:Kr B w2 (.slice (some ⟨g,o,none⟩) (z :: (O++[s.k])).length cap') (z :: (O++[s.k])):=by rw[hl1];exact hk
  have:=h0.drop;rw[hl2] at this;exact this
 have hnr:=h'.nr
 have hb2:w2.heap[r]?=some (.cells #[.int .i64 s.k.enc,.bool s.k.mark,.string s.k.body,.slice q 30 cap,vb] 103):=by
  rw[hst.keep r (by have:=hWW.size;omega) hnr.1,hWW.block r hz1];exact h'.blk
 have d0:=C0 hb2
 have d1:=C1 hb2
 have d2:=C2 hb2
 have d3:=C3 hb2
 have d4:=C4 hb2
 have hby:w2.heap[C]?=some (.cells #[.int .i64 k.enc,.bool k.mark,.string k.body] 99):=by
  rw[hst.keep C (by have:=hWW.size;omega) hCo,hWW.block C hCz];exact hC
 have y0:=C0 hby
 have y1:=C1 hby
 have y2:=C2 hby
 have hyz:=Z3 y0
 have fd:=fun j=>Lib.frozen_of_heap hb2 j
 have hz2:=Z3 d0
 obtain⟨vbq,vbn,vbc,hvb⟩:∃a b c,vb=.slice a b c:=by
  obtain⟨a,b,e,_⟩:=h'.hb.val;exact⟨a,_,b,e⟩
 have HFIN:=Z1 (fun F (hF:F=((((((w2.setCell ⟨r,3,none⟩ (.slice (some ⟨g,o,none⟩) 31 cap')).setCell ⟨r,3,none⟩ (.slice (some ⟨g,o+3,none⟩) 30 (cap' - 1))).setCell ⟨r,4,none⟩ (.slice none 0 0)).setCell ⟨r,0,none⟩ (.int .i64 k.enc)).setCell ⟨r,1,none⟩ (.bool k.mark)).setCell ⟨r,2,none⟩ (.string k.body)))=>Qld (k:=k) (F:=F) (v':=.slice (some ⟨g,o+3,none⟩) 30 (cap' - 1)) h' hWW hst hat rfl hk' (by rw[hF];exact ((((((Tn.refl r w2).setCell _).setCell _).setCell _).setCell _).setCell _).setCell _) (by rw[hF];exact Qan (Qan (Qan (Qan (Qan (Qan hb2 _) _) _) _) _) _))
 have hmo:prog.follows Departure.mixedOrders=true:=by kernel_rfl
 unfold kc at hrun
 clear hO
 clear h' hk hk' hst hat hzO hb2 hby hC hCo hWW hnr
 subst hvb
 go_region_law (refine Qat rfl _ _ _ _ rfl _ _ rfl rfl _ _ hrun ?_)
 all_goals
  clear hrun c0 c1 c2 c3 c4 fc;go_wp2_with fail;go_returns;have hf:=HFIN.o _ rfl;exact⟨rfl,_,hf.1,HW1.o.trans hf.2⟩
theorem QcD (B r:Nat) (s:St) (G:Nat->Prop) (k:Kp) (w:World) (h:RH B w r s G) (hO:s.O.length<=30) :
  Calls prog 150 #[.pointer (some ⟨r,0,none⟩),.agg #[.int .i64 k.enc,.bool k.mark,.string k.body]] w fun e w'=>e=.returned (.tuple #[])/\∃G',RH B w' r ⟨k,pushK s.O s.k,[]⟩ G'/\Turn G G' w w':=by
 obtain⟨vo,vb,h1,rfl⟩:=h
 unfold pushK
 by_cases hl:s.O.length=30
 ·rw[if_pos hl];exact (Qkj B r s vo vb k w h1 hl).mono fun e w' ⟨he,vo',h2,h3⟩=>⟨he,_,⟨vo',_,h2,rfl⟩,h3⟩
 rw[if_neg hl]
 exact (QkU B r s vo vb k w h1 (by omega)).mono fun e w' ⟨he,vo',h2,h3⟩=>⟨he,_,⟨vo',_,h2,rfl⟩,h3⟩
end Go.Proofs.YtoejbngihecafaaGreatDoor
