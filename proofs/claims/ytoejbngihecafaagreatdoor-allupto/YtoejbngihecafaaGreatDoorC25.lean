import Derived.Lib.AppendStr
import Derived.Laws.CopyRow
import Derived.Lib.SlBytesRow
import Derived.Test.YtoejbngihecafaaGreatDoorC20
import Derived.Test.YtoejbngihecafaaGreatDoorC0
set_option maxRecDepth 100000
set_option maxHeartbeats 8000000
open Go.Proofs.Tryz
namespace Go.Proofs.YtoejbngihecafaaGreatDoor
open Go.RowKit
variable {w w' w0:World} {B n cap q:Nat} {v tv:Value} {bs:List UInt8} {p:Option Addr} {mode enc:Int} {begun mark:Bool} {tail:ByteArray}
def Wt (w:World) (B:Nat) (v:Value) (bs:List UInt8):Prop :=
 (v=.slice none 0 0/\bs=[])\/∃g o cap cur,v=.slice (some ⟨g,o,none⟩) bs.length cap/\B<=g/\w.heap[g]?=some (.cells cur 5 (0,0))/\o+cap<=cur.size/\bs.length<=cap/\cap<=maxLen/\(cur.toList.drop o).take bs.length=Lib.byteCells bs
def wblk:Value->Option Nat
 |.slice (some a) _ _=>some a.block
 |_=>none
structure WtStep (v:Value) (w w':World):Prop where
 os:w'.os=w.os
 tape:w'.tape=w.tape
 output:w'.output=w.output
 size:w.heap.size<=w'.heap.size
 keep:∀k,k<w.heap.size->wblk v≠some k->w'.heap[k]?=w.heap[k]?
theorem QmB (ty:TypeId) (B:Nat) (v:Value) (bs:List UInt8) (s:ByteArray) (w:World) (h:Wt w B v bs) (hlen:bs.length+s.size<=70368744177664) (hB:B<=w.heap.size) :
  ∃v' w',(Builtin.append_ #[92,9] ty #[v,.string s]).run prog w=.ok v' w'/\Wt w' B v' (bs++s.data.toList)/\WtStep v w w'/\(wblk v'=wblk v\/wblk v'=some w.heap.size\/wblk v'=none):=by
 obtain⟨i,hi⟩:=Option.isSome_iff_exists.1 (show (prog.info? 5).isSome=true by kernel_rfl)
 have hz:i.zero=some (.int .u8 0):=by
  have h1:(prog.info? 5).bind (fun x=>x.zero)=some (.int .u8 0):=by kernel_rfl
  rwa [hi] at h1
 have hs1:i.size=1:=by
  have h1:(prog.info? 5).map (fun x=>x.size)=some 1:=by kernel_rfl
  rw[hi] at h1;simpa using h1
 have hb1:i.bytes=1:=by
  have h1:(prog.info? 5).map (fun x=>x.bytes)=some 1:=by kernel_rfl
  rw[hi] at h1;simpa using h1
 have ht:=underlying92
 have hu:=underlying9
 have hmx:(70368744177664:Nat)<=maxLen:=by decide
 have hsl:s.data.toList.length=s.size:=rfl
 have hsc:Lib.strCells s=Lib.byteCells s.data.toList:=rfl
 have hcl:=Lib.strCells_length s
 have hal:Lib.byteCells (bs++s.data.toList)=Lib.byteCells bs++Lib.strCells s:=by rw[hsc];simp [Lib.byteCells]
 have hnl:(bs++s.data.toList).length=bs.length+s.size:=by rw[List.length_append,hsl]
 have hbl:=Lib.byteCells_length bs
 have grown:∀old:Nat,old<bs.length+s.size ->
   Wt (w.drew.alloc (.cells ((Lib.byteCells bs).toArray++(Lib.strCells s).toArray++Builtin.zeroCells (Value.int .u8 0).cells (grownCap w (bs.length+s.size) old 5 - (bs.length+s.size))) 5)) B (.slice (some ⟨w.heap.size,0,none⟩) (bs.length+s.size) (grownCap w (bs.length+s.size) old 5)) (bs++s.data.toList) /\
   ∀v,WtStep v w (w.drew.alloc (.cells ((Lib.byteCells bs).toArray++(Lib.strCells s).toArray++Builtin.zeroCells (Value.int .u8 0).cells (grownCap w (bs.length+s.size) old 5 - (bs.length+s.size))) 5)):=by
  intro old ho
  have hge:=grownCap_ge w (bs.length+s.size) old 5
  have hcm:grownCap w (bs.length+s.size) old 5<=maxLen:=grownCap_le_maxLen w (bs.length+s.size) old 5 (by omega)
  refine⟨.inr ⟨w.heap.size,0,_,_,by rw[hnl],hB,heap_alloc_new w.drew _,?_,by rw[hnl];exact hge,hcm,?_⟩,fun v=>⟨rfl,rfl,rfl,by simp,fun k hk _=>Below.heap_alloc w.drew _ k hk⟩⟩
  ·have hz1:(Value.int IntKind.u8 0).cells.size=1:=rfl;simp only[Array.size_append,List.size_toArray,size_zeroCells,hz1,hbl,hcl];omega
  rw[hal,hnl]
  simp only[Array.toList_append,List.drop_zero]
  have e:bs.length+s.size=(Lib.byteCells bs++Lib.strCells s).length:=by rw[List.length_append,hbl,hcl]
  rw[e]
  exact List.take_left
 rcases h with ⟨rfl,rfl⟩|⟨g,o,cap,cur,rfl,hg,hh,hoc,hle,hcm,htk⟩
 ·by_cases hm:s.size=0
  ·have hsn:s.data.toList=[]:=List.eq_nil_of_length_eq_zero (by omega);have hf:=Lib.run_firstCells_string (P:=prog) w 1 s;rw[hm] at hf;refine⟨.slice none 0 0,w,?_,.inl ⟨rfl,by rw[hsn];rfl⟩,⟨rfl,rfl,rfl,Z6 _,fun _ _ _=>rfl⟩,.inl rfl⟩;simp [Builtin.append_,run_underlying ht,run_underlying hu,sizeOf,typeInfo,hi,hs1,Builtin.lenOf,hm,hf]
  have hr:=run_append_nil_string (P:=prog) w 92 9 ty 5 i (.int .u8 0) ht hu hi hz s (by omega) (by omega) (by rw[hb1];omega);have hgr:=grown 0 (by simp;omega);simp only[List.length_nil,Nat.zero_add,List.nil_append] at hgr
  have e1:(s.data.map fun b=>Value.int .u8 b.toNat)=(Lib.strCells s).toArray:=by
   apply Array.ext';simp [Lib.strCells]
  rw[e1] at hr;have e2:(Lib.byteCells []).toArray++(Lib.strCells s).toArray=(Lib.strCells s).toArray:=by simp [Lib.byteCells]
  rw[e2] at hgr;exact⟨_,_,hr,hgr.1,hgr.2 _,.inr (.inl rfl)⟩
 by_cases hroom:bs.length+s.size<=cap
 ·have hf:=Lib.run_firstCells_string (P:=prog) w 1 s;have hst:=run_storeCells_at prog g (o+bs.length) 5 (Lib.strCells s) 0 cur w hh (by rw[hcl];omega) (Lib.strCells_oneCell s);simp only[Nat.add_zero,hcl] at hst;refine⟨.slice (some ⟨g,o,none⟩) (bs.length+s.size) cap,w.setRow g (cur.toList.take (o+bs.length)++Lib.strCells s++cur.toList.drop (o+bs.length+s.size)).toArray,?_,.inr ⟨g,o,cap,_,by rw[hnl],hg,setRow_heap w g cur _ 5 _ hh,?_,by rw[hnl];exact hroom,hcm,?_⟩,⟨rfl,rfl,rfl,by simp,fun k _ hk=>setRow_other w g k _ (fun e=>hk (by simp [wblk,e]))⟩,.inl rfl⟩
  ·simp [Builtin.append_,run_underlying ht,run_underlying hu,sizeOf,typeInfo,hi,hs1,Builtin.lenOf,hroom,hf,Addr.add_lit,hst]
  ·simp only[List.size_toArray,List.length_append,List.length_take,List.length_drop,Array.length_toList,hcl];omega
  rw[hal,hnl];have hcz:cur.toList.length=cur.size:=Array.length_toList
  have e1:(cur.toList.take (o+bs.length)++Lib.strCells s++cur.toList.drop (o+bs.length+s.size)).drop o=Lib.byteCells bs++Lib.strCells s++cur.toList.drop (o+bs.length+s.size):=by
   rw[List.append_assoc,List.drop_append_of_le_length (by rw[List.length_take];omega),List.drop_take,Nat.add_sub_cancel_left,htk,List.append_assoc]
  show ((cur.toList.take (o+bs.length)++Lib.strCells s++cur.toList.drop (o+bs.length+s.size)).drop o).take _=_;rw[e1];have e:bs.length+s.size=(Lib.byteCells bs++Lib.strCells s).length:=by rw[List.length_append,hbl,hcl]
  rw[e];exact List.take_left
 have holds:∀j u,(Lib.byteCells bs)[j]?=some u->w.cell? ((⟨g,o,none⟩:Addr).add j)=some u:=by
  intro j u hj;rw[Addr.add_lit,Lib.cell_of_heap hh];rw[<-htk] at hj;rw[List.getElem?_take] at hj;split at hj
  ·rw[List.getElem?_drop] at hj;rw[<-hj,Array.getElem?_toList]
  cases hj
 have hr:=Lib.run_append_grow_string (P:=prog) w 92 9 ty 5 i (.int .u8 0) ht hu hi hz ⟨g,o,none⟩ bs.length cap (Lib.byteCells bs) (by rw[hs1,hbl];omega) holds s (by omega) (by omega) (by rw[hb1];exact growslice_fits (by omega) (by omega))
 have hgr:=grown cap (by omega)
 exact⟨_,_,hr,hgr.1,hgr.2 _,.inr (.inl rfl)⟩
theorem Wt.val (h:Wt w B v bs):∃p cap,v=.slice p bs.length cap/\bs.length<=cap:=by
 rcases h with ⟨rfl,rfl⟩|⟨g,o,cap,cur,rfl,_,_,_,h,_⟩
 ·exact⟨none,0,rfl,Z6 _⟩
 exact⟨_,cap,rfl,h⟩
theorem Qlb (h:Wt w B (.slice p n cap) bs) (k:Nat) (hk:k<=bs.length) (W:World) :
  (Instr.slice 92 (.slice p n cap) none (some (.int .i64 k)) none).run prog W=.ok (.slice p k cap) W:=by
 rcases h with ⟨hv,rfl⟩|⟨g,o,cap',cur,hv,_,_,_,hle,_⟩
 ·injection hv with h1 h2 h3
  subst h1 h2 h3;have:k=0:=by simpa using hk
  subst this;simp [Instr.slice,go_sem]
 injection hv with h1 h2 h3
 subst h1 h2 h3
 have hk':k<=cap:=by omega
 simp [Instr.slice,go_sem,hk']
theorem QeC (h:Wt w B (.slice p n cap) bs) (k:Nat) (hk:k<=bs.length) :
  (convert 92 9 (.slice p k cap)).run prog w=.ok (.string ⟨(bs.take k).toArray⟩) w:=by
 rcases h with ⟨hv,rfl⟩|⟨g,o,cap',cur,hv,_,hh,hoc,hle,_,htk⟩
 ·injection hv with h1 h2 h3
  subst h1 h2 h3;have:k=0:=by simpa using hk
  subst this;exact run_convert_bytes_nil w 92 5 underlying92 underlying5 _ _ 9 underlying9
 injection hv with h1 h2 h3
 subst h1 h2 h3
 have hs:(⟨(bs.take k).toArray⟩:ByteArray).size=k:=by show (bs.take k).toArray.size=k;simp;omega
 have hb:Lib.Bytes w g o ⟨(bs.take k).toArray⟩:=by
  intro i hi;rw[hs] at hi;rw[Lib.cell_of_heap hh];have e1:(Lib.byteCells bs)[i]?=some (.int .u8 ((bs[i]'(by omega)).toNat:Int)):=by simp [Lib.byteCells,List.getElem?_map,List.getElem?_eq_getElem (show i<bs.length by omega)]
  rw[<-htk,List.getElem?_take,if_pos (by omega),List.getElem?_drop,Array.getElem?_toList] at e1;rw[e1];congr 3;show _=((bs.take k).toArray[i]'_).toNat;simp
 have:=Lib.run_convert_whole (P:=prog) w 92 5 9 underlying92 underlying5 underlying9 g o ⟨(bs.take k).toArray⟩ hb cap
 rw[hs] at this
 exact this
theorem Qh4 (h:Wt w B (.slice p n cap) bs) (k:Nat) (hk:k<=bs.length) :
  ∃p',(∀W,(Instr.slice 92 (.slice p n cap) (some (.int .i64 k)) none none).run prog W=.ok (.slice p' (n - k) (cap - k)) W)/\Wt w B (.slice p' (n - k) (cap - k)) (bs.drop k)/\wblk (.slice p' (n - k) (cap - k))=wblk (.slice p n cap):=by
 rcases h with ⟨hv,rfl⟩|⟨g,o,cap',cur,hv,hg,hh,hoc,hle,hcm,htk⟩
 ·injection hv with h1 h2 h3
  subst h1 h2 h3;have:k=0:=by simpa using hk
  subst this;exact⟨none,fun W=>by simp [Instr.slice,go_sem],.inl ⟨rfl,rfl⟩,rfl⟩
 injection hv with h1 h2 h3
 subst h1 h2 h3
 by_cases hc:cap=k
 ·refine⟨some ⟨g,o,none⟩,fun W=>?_,.inr ⟨g,o,cap - k,cur,by rw[List.length_drop],hg,hh,by omega,by rw[List.length_drop];omega,by omega,?_⟩,rfl⟩
  ·simp [Instr.slice,go_sem,hk,hc]
  have:bs.drop k=[]:=List.drop_eq_nil_of_le (by omega);rw[this];rfl
 refine⟨some ⟨g,o+k,none⟩,fun W=>?_,.inr ⟨g,o+k,cap - k,cur,by rw[List.length_drop],hg,hh,by omega,by rw[List.length_drop];omega,by omega,?_⟩,rfl⟩
 ·simp [Instr.slice,go_sem,hk,hc,Addr.add_lit]
 rw[List.length_drop,<-List.drop_drop,<-List.drop_take,htk]
 simp [Lib.byteCells]
def NoNd (w:World) (q:Nat):Prop:=tyAt w q≠some 188/\tyAt w q≠some 217
theorem NoNd.set (h:NoNd w q) (a:Addr) (v:Value):NoNd (w.setCell a v) q:=by unfold NoNd;rw[Qb9];exact h
theorem NoNd.low (h:NoNd w q) (hq:q<w.heap.size) (hb:Below w.heap.size w w'):NoNd w' q:=by unfold NoNd;rw[QdD hq hb];exact h
structure LdC (w:World) (q:Nat) (mode:Int) (begun:Bool) (enc:Int) (mark:Bool) (tv:Value) (tail:ByteArray) (v:Value):Prop where
 c0:w.cell? ⟨q,0,none⟩=some (.int .i64 mode)
 c1:w.cell? ⟨q,1,none⟩=some (.bool begun)
 c2:w.cell? ⟨q,2,none⟩=some (.int .i64 enc)
 c3:w.cell? ⟨q,3,none⟩=some (.bool mark)
 c4:w.cell? ⟨q,4,none⟩=some tv
 c5:w.cell? ⟨q,5,none⟩=some (.string tail)
 c6:w.cell? ⟨q,6,none⟩=some v
 fr:∀j,w.frozen? ⟨q,j,none⟩=false
 nb:NoNd w q
theorem LdC.below (h:LdC w q mode begun enc mark tv tail v) (hb:Below w.heap.size w w'):LdC w' q mode begun enc mark tv tail v:=by
 have hB:=Z3 h.c0;have g:∀o,w'.cell? ⟨q,o,none⟩=w.cell? ⟨q,o,none⟩:=fun o=>hb.cell (p:=⟨q,o,none⟩) hB;exact⟨(g _).trans h.c0,(g _).trans h.c1,(g _).trans h.c2,(g _).trans h.c3,(g _).trans h.c4,(g _).trans h.c5,(g _).trans h.c6,fun j=>(hb.frozen (p:=⟨q,j,none⟩) hB).trans (h.fr j),h.nb.low hB hb⟩
section
variable {w:World} {q:Nat} {mode:Int} {begun:Bool} {enc:Int} {mark:Bool} {tv:Value} {tail:ByteArray} {v:Value}
theorem LdC.set1 (h:LdC w q mode begun enc mark tv tail v) (x:Bool):LdC (w.setCell ⟨q,1,none⟩ (.bool x)) q mode x enc mark tv tail v :=
 ⟨by rw[Qab _ _ 1 0 _ (by decide)];exact h.c0,Qbb _ _ 1 _ _ h.c1,by rw[Qab _ _ 1 2 _ (by decide)];exact h.c2,by rw[Qab _ _ 1 3 _ (by decide)];exact h.c3,by rw[Qab _ _ 1 4 _ (by decide)];exact h.c4,by rw[Qab _ _ 1 5 _ (by decide)];exact h.c5,by rw[Qab _ _ 1 6 _ (by decide)];exact h.c6,fun j=>by rw[World.frozen?_setCell];exact h.fr j,h.nb.set _ _⟩
theorem LdC.set2 (h:LdC w q mode begun enc mark tv tail v) (x:Int):LdC (w.setCell ⟨q,2,none⟩ (.int .i64 x)) q mode begun x mark tv tail v :=
 ⟨by rw[Qab _ _ 2 0 _ (by decide)];exact h.c0,by rw[Qab _ _ 2 1 _ (by decide)];exact h.c1,Qbb _ _ 2 _ _ h.c2,by rw[Qab _ _ 2 3 _ (by decide)];exact h.c3,by rw[Qab _ _ 2 4 _ (by decide)];exact h.c4,by rw[Qab _ _ 2 5 _ (by decide)];exact h.c5,by rw[Qab _ _ 2 6 _ (by decide)];exact h.c6,fun j=>by rw[World.frozen?_setCell];exact h.fr j,h.nb.set _ _⟩
theorem LdC.set3 (h:LdC w q mode begun enc mark tv tail v) (x:Bool):LdC (w.setCell ⟨q,3,none⟩ (.bool x)) q mode begun enc x tv tail v :=
 ⟨by rw[Qab _ _ 3 0 _ (by decide)];exact h.c0,by rw[Qab _ _ 3 1 _ (by decide)];exact h.c1,by rw[Qab _ _ 3 2 _ (by decide)];exact h.c2,Qbb _ _ 3 _ _ h.c3,by rw[Qab _ _ 3 4 _ (by decide)];exact h.c4,by rw[Qab _ _ 3 5 _ (by decide)];exact h.c5,by rw[Qab _ _ 3 6 _ (by decide)];exact h.c6,fun j=>by rw[World.frozen?_setCell];exact h.fr j,h.nb.set _ _⟩
theorem LdC.set4 (h:LdC w q mode begun enc mark tv tail v) (x:Value):LdC (w.setCell ⟨q,4,none⟩ (x)) q mode begun enc mark x tail v :=
 ⟨by rw[Qab _ _ 4 0 _ (by decide)];exact h.c0,by rw[Qab _ _ 4 1 _ (by decide)];exact h.c1,by rw[Qab _ _ 4 2 _ (by decide)];exact h.c2,by rw[Qab _ _ 4 3 _ (by decide)];exact h.c3,Qbb _ _ 4 _ _ h.c4,by rw[Qab _ _ 4 5 _ (by decide)];exact h.c5,by rw[Qab _ _ 4 6 _ (by decide)];exact h.c6,fun j=>by rw[World.frozen?_setCell];exact h.fr j,h.nb.set _ _⟩
theorem LdC.set5 (h:LdC w q mode begun enc mark tv tail v) (x:ByteArray):LdC (w.setCell ⟨q,5,none⟩ (.string x)) q mode begun enc mark tv x v :=
 ⟨by rw[Qab _ _ 5 0 _ (by decide)];exact h.c0,by rw[Qab _ _ 5 1 _ (by decide)];exact h.c1,by rw[Qab _ _ 5 2 _ (by decide)];exact h.c2,by rw[Qab _ _ 5 3 _ (by decide)];exact h.c3,by rw[Qab _ _ 5 4 _ (by decide)];exact h.c4,Qbb _ _ 5 _ _ h.c5,by rw[Qab _ _ 5 6 _ (by decide)];exact h.c6,fun j=>by rw[World.frozen?_setCell];exact h.fr j,h.nb.set _ _⟩
theorem LdC.set6 (h:LdC w q mode begun enc mark tv tail v) (x:Value):LdC (w.setCell ⟨q,6,none⟩ (x)) q mode begun enc mark tv tail x :=
 ⟨by rw[Qab _ _ 6 0 _ (by decide)];exact h.c0,by rw[Qab _ _ 6 1 _ (by decide)];exact h.c1,by rw[Qab _ _ 6 2 _ (by decide)];exact h.c2,by rw[Qab _ _ 6 3 _ (by decide)];exact h.c3,by rw[Qab _ _ 6 4 _ (by decide)];exact h.c4,by rw[Qab _ _ 6 5 _ (by decide)];exact h.c5,Qbb _ _ 6 _ _ h.c6,fun j=>by rw[World.frozen?_setCell];exact h.fr j,h.nb.set _ _⟩
end
theorem Wt.kept (h:Wt w B v bs) (hk:∀k,wblk v=some k->w'.heap[k]?=w.heap[k]?):Wt w' B v bs:=by
 rcases h with ⟨rfl,rfl⟩|⟨g,o,cap,cur,rfl,hg,hh,r⟩
 ·exact .inl ⟨rfl,rfl⟩
 exact .inr ⟨g,o,cap,cur,rfl,hg,(hk g rfl).trans hh,r⟩
theorem Wt.blk_lt (h:Wt w B v bs) {k:Nat} (hk:wblk v=some k):k<w.heap.size/\B<=k:=by
 rcases h with ⟨rfl,rfl⟩|⟨g,o,cap,cur,rfl,hg,hh,r⟩
 ·cases hk
 cases hk;exact⟨Z4 hh,hg⟩
theorem Wt.tn (h:Wt w B v bs) (ht:Tn q w w') (hq:wblk v≠some q):Wt w' B v bs :=
 h.kept (fun k hk=>ht.keep k (h.blk_lt hk).1 (fun e=>hq (by rw[hk,e])))
theorem Wt.low (h:Wt w B v bs) (hb:Below w.heap.size w w'):Wt w' B v bs :=
 h.kept (fun k hk=>hb.block k (h.blk_lt hk).1)
theorem Tn.low {w1 w2:World} (h:Tn q w w1) (hb:Below w1.heap.size w1 w2):Tn q w w2 :=
 h.trans ⟨hb.os,hb.tape,hb.output,hb.size,fun k hk _=>hb.block k hk⟩
structure BgI (B q:Nat) (w0:World) (mode:Int) (begun:Bool) (enc:Int) (mark:Bool) (tv:Value) (tail:ByteArray) (v:Value) (bs:List UInt8) (w:World):Prop where
 ld:LdC w q mode begun enc mark tv tail v
 wt:Wt w B v bs
 tn:Tn q w0 w
 nq:wblk v≠some q
theorem BgI.low (h:BgI B q w0 mode begun enc mark tv tail v bs w) (hb:Below w.heap.size w w'):BgI B q w0 mode begun enc mark tv tail v bs w' :=
 ⟨h.ld.below hb,h.wt.low hb,h.tn.low hb,h.nq⟩
theorem BgI.drew (h:BgI B q w0 mode begun enc mark tv tail v bs w):BgI B q w0 mode begun enc mark tv tail v bs w.drew:=h.low ((Below.refl _ _).drew)
theorem Qgo (q:Nat) (mode:Int) (enc:Int) (mark:Bool) (tv:Value) (tail:ByteArray) (v:Value) (w:World) (h:LdC w q mode true enc mark tv tail v) :
  Calls prog 80 #[.pointer (some ⟨q,0,none⟩)] w fun e w'=>e=.returned (.tuple #[])/\w'=w:=by
 have c1:=h.c1
 have hz:=Z3 c1
 clear h
 go_enter func80,ntmps80
 go_wp2_with fail
 go_returns
 exact⟨rfl,rfl⟩
theorem Qoy {w00:World} (ht:Tabs w00) (hq0:w00.heap.size<=q) (hb0:Below w00.heap.size w00 w) (h:Tn q w w'):Tabs w' :=
 ht.below (hb0.trans ⟨h.os,h.tape,h.output,h.size,fun k hk=>h.keep k (Nat.lt_of_lt_of_le hk hb0.size) (by omega)⟩)
theorem Qb7 (enc:Int) (mark:Bool) (tv:Value) (tail:ByteArray) (w:World) (ht:Tabs w) (h0:0<=enc) (h3:enc<=3) :
  Calls prog 85 #[.agg #[.int .i64 enc,.bool mark,tv,.string tail]] w fun e w'=>e=.returned (.string (mkB enc mark))/\Below w.heap.size w w':=by
 have hb0:=Z7 w (.cells #[.int .i64 enc,.bool mark,tv,.string tail] 91)
 cases mark with
 |false =>
  have HB:=Z1 hb0;clear hb0;go_enter func85,ntmps85;go_wp2;go_ret;exact⟨rfl,HB.o⟩
 |true =>
  have HM:=Z1 (QbL enc _ (ht.below hb0).enc h0 h3);have HB:=Z1 hb0;clear hb0;go_enter func85,ntmps85;go_wp2_with fail;refine HM.o.mono ?_;rintro e w1 ⟨rfl,hb1⟩;have HB1:=Z1 (HB.o.trans (hb1.mono HB.o.size));clear hb1 HM HB;go_wp2;go_ret;exact⟨rfl,HB1.o⟩
theorem QdH (b:ByteArray) (enc:Int) (h:(markB enc).toList.isEmpty=false):ofMark b enc=Lib.hasPrefix b.data.toList (markB enc).data.toList:=by
 unfold ofMark Lib.hasPrefix
 have:decide ((markB enc).size≠0)=true:=by
  rw[ByteArray.toList_eq] at h;simp only[decide_eq_true_eq];intro e;have:(markB enc).data.toList=[]:=List.eq_nil_of_length_eq_zero e;rw[this] at h;simp at h
 rw[this,Bool.true_and]
theorem QfT (b:ByteArray) (enc:Int) (h:(markB enc).toList.isEmpty=true):ofMark b enc=false:=by
 unfold ofMark
 have:(markB enc).size=0:=by
  rw[ByteArray.toList_eq] at h;have h2:(markB enc).data.toList=[]:=by simpa using h
  have h3:(markB enc).data.toList.length=(markB enc).size:=rfl;rw[<-h3,h2];rfl
 simp [this]
theorem Qfx (h:LdC w q mode begun enc mark tv tail v):w.cell? ⟨q,2,none⟩=some (.int .i64 enc)/\w.cell? ⟨q,3,none⟩=some (.bool mark)/\w.cell? ⟨q,4,none⟩=some tv/\w.cell? ⟨q,5,none⟩=some (.string tail):=⟨h.c2,h.c3,h.c4,h.c5⟩
def hdB (bs:List UInt8):ByteArray:=⟨(bs.take (min 3 bs.length)).toArray⟩
def hdEnc (bs:List UInt8) (mode:Int):Int:=if 4<=mode then sniffTo (hdB bs) (mode%4) 3 else mode%4
def hdMark (bs:List UInt8) (mode:Int):Bool:=ofMark (hdB bs) (hdEnc bs mode)
theorem hd_le (bs:List UInt8) (mode:Int):(mkB (hdEnc bs mode) (hdMark bs mode)).size<=bs.length:=by
 cases h:hdMark bs mode
 ·exact Nat.zero_le _
 have h1:ofMark (hdB bs) (hdEnc bs mode)=true:=h;have h2:=QfZ h1;have h3:(hdB bs).size<=bs.length:=by show (bs.take (min 3 bs.length)).toArray.size<=_;simp;omega
 show (markB (hdEnc bs mode)).size<=_;omega
theorem QhW (B q:Nat) (mode:Int) (enc0:Int) (mark0:Bool) (n:Option Nd) (tail:ByteArray) (v:Value) (bs:List UInt8) (w00 w:World) (ht:Tabs w00) (hq0:w00.heap.size<=q) (hb0:Below w00.heap.size w00 w) (h:LdC w q mode false enc0 mark0 (trv n) tail v) (hw:Wt w B v bs) (hq:wblk v≠some q) (hbs:bs.length<=1099511627776) (h0:0<=mode) (h7:mode<=7) :
  Calls prog 80 #[.pointer (some ⟨q,0,none⟩)] w fun e w'=>∃v',e=.returned (.tuple #[])/\LdC w' q mode true (hdEnc bs mode) (hdMark bs mode) (trv n) tail v'/\Wt w' B v' (bs.drop (mkB (hdEnc bs mode) (hdMark bs mode)).size)/\wblk v'=wblk v/\Tn q w w':=by
 obtain⟨p,cap,rfl,hcap⟩:=hw.val
 have hpre:=fun W=>Qlb hw (min 3 bs.length) (by omega) W
 have hcv:=fun W (h:Wt W B (.slice p bs.length cap) bs)=>QeC h (min 3 bs.length) (by omega)
 have c0:=h.c0
 have c1:=h.c1
 have c6:=h.c6
 have f1:=h.fr 1
 have hz:=Z3 c0
 have t1:Tn q w (w.setCell ⟨q,1,none⟩ (.bool true)):=(Tn.refl _ _).setCell _
 have H1:=Z1 (⟨h.set1 true,hw.tn t1 hq,t1,hq⟩:BgI B q w mode true enc0 mark0 (trv n) tail (.slice p bs.length cap) bs (w.setCell ⟨q,1,none⟩ (.bool true)))
 have HT:=Z1 (fun W (h:Tn q w W)=>Qoy ht hq0 hb0 h)
 clear h hw ht t1 hq hb0
 have hmn:((min 3 bs.length:Nat):Int)=min (3:Int) (bs.length:Int):=by omega
 simp only[hmn] at hpre
 have HCV:=Z1 hcv
 clear hcv
 go_enter func80,ntmps80
 go_wp2_with fail
 generalize w.setCell ⟨q,1,none⟩ (.bool true)=w1 at *
 clear c0 c1 c6 f1 hz
 have c6:=H1.o.ld.c6
 have hz:=Z3 c6
 have hcv:=HCV.o _ H1.o.wt
 have hcd:=HCV.o _ H1.o.drew.wt
 go_cut [2] from 11 to 22 (fun s2 wx=>s2=.string (hdB bs)/\BgI B q w mode true enc0 mark0 (trv n) tail (.slice p bs.length cap) bs wx)
 case first =>
  go_region
  all_goals
   go_wp2_with fail;go_meet;exact⟨rfl,H1.o.drew⟩
 case rest =>
  obtain⟨rfl,hg⟩:=hcut;rename World=>w2
  have H2:=Z1 hg;clear hg H1 c6 hz hcv hcd HCV hpre;have c0:=H2.o.ld.c0;have c2:=H2.o.ld.c2;have f2:=H2.o.ld.fr 2;have hz:=Z3 c0;have htm:IntKind.i64.wrap (mode.tmod 4)=mode%4:=by rw[Int.tmod_eq_emod_of_nonneg h0,IntKind.wrap_i64];omega
  have hE:hdEnc bs mode=if 4<=mode then sniffTo (hdB bs) (mode%4) 3 else mode%4:=rfl
  have hEb:0<=hdEnc bs mode/\hdEnc bs mode<=3:=by
   rw[hE];split
   ·exact Qco _ _ (by omega) (by omega) 3 (Z6 _)
   omega
  have hM:hdMark bs mode=ofMark (hdB bs) (hdEnc bs mode):=rfl;have hle:=hd_le bs mode;have HE:=Z1 hE;have HEB:=Z1 hEb;have HM:=Z1 hM;clear hE hEb hM;generalize hE1:hdEnc bs mode=E at *;generalize hM1:hdMark bs mode=mk at *;have HE1:=Z1 hE1;have HM1:=Z1 hM1;clear hE1 hM1;generalize hdB bs=hd at *;go_wp2_with fail
  ·have ts:Tn q w2 (w2.setCell ⟨q,2,none⟩ (.int .i64 (mode%4))):=(Tn.refl _ _).setCell _;have hEe:sniffTo hd (mode%4) 3=E:=by rw[HE.o,if_pos (by assumption)]
   have H3:=Z1 (⟨H2.o.ld.set2 (mode%4),H2.o.wt.tn ts H2.o.nq,H2.o.tn.trans ts,H2.o.nq⟩:BgI B q w mode true (mode%4) mark0 (trv n) tail (.slice p bs.length cap) bs (w2.setCell ⟨q,2,none⟩ (.int .i64 (mode%4))));clear H2 c0 c2 f2 hz ts htm;generalize w2.setCell ⟨q,2,none⟩ (.int .i64 (mode%4))=w3 at *;have HS:=Z1 (QfQ hd (mode%4) w3 (HT.o _ H3.o.tn).enc);rw[hEe] at HS;refine HS.o.mono ?_;rintro e w4 ⟨rfl,hb4⟩;have H4:=Z1 (H3.o.low hb4);clear hb4 H3 HS hEe;have c2:=H4.o.ld.c2;have f2:=H4.o.ld.fr 2;have hz:=Z3 c2;go_wp2_with fail;have ts:Tn q w4 (w4.setCell ⟨q,2,none⟩ (.int .i64 E)):=(Tn.refl _ _).setCell _;have H5:=Z1 (⟨H4.o.ld.set2 E,H4.o.wt.tn ts H4.o.nq,H4.o.tn.trans ts,H4.o.nq⟩:BgI B q w mode true E mark0 (trv n) tail (.slice p bs.length cap) bs (w4.setCell ⟨q,2,none⟩ (.int .i64 E)));clear H4 c2 f2 hz ts;generalize w4.setCell ⟨q,2,none⟩ (.int .i64 E)=w5 at *;refine (QbL E w5 (HT.o _ H5.o.tn).enc HEB.o.1 HEB.o.2).mono ?_;rintro e w6 ⟨rfl,hb6⟩;have H6:=Z1 (H5.o.low hb6);clear hb6 H5;have c3:=H6.o.ld.c3;have f3:=H6.o.ld.fr 3;have hz:=Z3 c3;have hm1:=HM.o;cases hme:(markB E).toList.isEmpty
   ·have hm2:=hm1.trans (QdH hd E hme);have hmn:¬(markB E).toList=[]:=by intro h;rw[h] at hme;simp at hme
    have HPX:=Z1 (fun W=>Qaz hd (markB E) W);rw[<-hm2] at HPX;clear hm1 hm2 HM;generalize markB E=mb at *;go_wp2_with (go_at_call 114;refine (HPX.o _).mono ?_;rintro e w' ⟨rfl,rfl⟩);rename World=>w6
    have ts:Tn q w6 (w6.setCell ⟨q,3,none⟩ (.bool mk)):=(Tn.refl _ _).setCell _;have H7:=Z1 (⟨H6.o.ld.set3 mk,H6.o.wt.tn ts H6.o.nq,H6.o.tn.trans ts,H6.o.nq⟩:BgI B q w mode true E mk (trv n) tail (.slice p bs.length cap) bs (w6.setCell ⟨q,3,none⟩ (.bool mk)));clear H6 c3 f3 hz ts;generalize w6.setCell ⟨q,3,none⟩ (.bool mk)=w7 at *;obtain⟨p',hsl,hwt',hwb⟩:=Qh4 H7.o.wt (mkB E mk).size hle;have HWB:=Z1 hwb;have c6:=H7.o.ld.c6;have f6:=H7.o.ld.fr 6;have hz:=Z3 c6;obtain⟨c2,c3,c4,c5⟩:=Qfx H7.o.ld;have HMB:=Z1 (fun W (h:Tabs W)=>Qb7 E mk (trv n) tail W h HEB.o.1 HEB.o.2);have HWT:=Z1 hwt';clear hwt' hwb;generalize hkb:mkB E mk=mkb at *;have HKB:=Z1 hkb;clear hkb;go_region_with (go_at_call 85;refine (HMB.o _ (HT.o _ H7.o.drew.tn)).mono ?_;rintro e w8 ⟨rfl,hb8⟩;have H8:=Z1 (H7.o.drew.low hb8);have HB8:=Z1 hb8;have c6b:=H8.o.ld.c6;have f6b:=H8.o.ld.fr 6;have hz8:=Z3 c6b;clear hb8)
    all_goals
     go_wp2_with fail;go_returns;have ts:Tn q w8 (w8.setCell ⟨q,6,none⟩ (.slice p' (bs.length - mkb.size) (cap - mkb.size))):=(Tn.refl _ _).setCell _;have hnq:wblk (.slice p' (bs.length - mkb.size) (cap - mkb.size))≠some q:=by rw[HWB.o];exact H8.o.nq
     rw[HE1.o,HM1.o,HKB.o];exact⟨_,rfl,H8.o.ld.set6 _,((HWT.o.low (((Below.refl _ _).drew).trans HB8.o)).tn ts hnq),HWB.o,H8.o.tn.trans ts⟩
   have hm2:=hm1.trans (QfT hd E hme);subst hm2;clear hm1 HM;generalize markB E=mb at *;go_wp2_with fail;have ts:Tn q w6 (w6.setCell ⟨q,3,none⟩ (.bool false)):=(Tn.refl _ _).setCell _;have H7:=Z1 (⟨H6.o.ld.set3 false,H6.o.wt.tn ts H6.o.nq,H6.o.tn.trans ts,H6.o.nq⟩:BgI B q w mode true E false (trv n) tail (.slice p bs.length cap) bs (w6.setCell ⟨q,3,none⟩ (.bool false)));clear H6 c3 f3 hz ts;generalize w6.setCell ⟨q,3,none⟩ (.bool false)=w7 at *;obtain⟨p',hsl,hwt',hwb⟩:=Qh4 H7.o.wt (mkB E false).size hle;have HWB:=Z1 hwb;have c6:=H7.o.ld.c6;have f6:=H7.o.ld.fr 6;have hz:=Z3 c6;obtain⟨c2,c3,c4,c5⟩:=Qfx H7.o.ld;have HMB:=Z1 (fun W (h:Tabs W)=>Qb7 E false (trv n) tail W h HEB.o.1 HEB.o.2);have HWT:=Z1 hwt';clear hwt' hwb;generalize hkb:mkB E false=mkb at *;have HKB:=Z1 hkb;clear hkb;go_region_with (go_at_call 85;refine (HMB.o _ (HT.o _ H7.o.drew.tn)).mono ?_;rintro e w8 ⟨rfl,hb8⟩;have H8:=Z1 (H7.o.drew.low hb8);have HB8:=Z1 hb8;have c6b:=H8.o.ld.c6;have f6b:=H8.o.ld.fr 6;have hz8:=Z3 c6b;clear hb8)
   all_goals
    go_wp2_with fail;go_returns;have ts:Tn q w8 (w8.setCell ⟨q,6,none⟩ (.slice p' (bs.length - mkb.size) (cap - mkb.size))):=(Tn.refl _ _).setCell _;have hnq:wblk (.slice p' (bs.length - mkb.size) (cap - mkb.size))≠some q:=by rw[HWB.o];exact H8.o.nq
    rw[HE1.o,HM1.o,HKB.o];exact⟨_,rfl,H8.o.ld.set6 _,((HWT.o.low (((Below.refl _ _).drew).trans HB8.o)).tn ts hnq),HWB.o,H8.o.tn.trans ts⟩
  have ts:Tn q w2 (w2.setCell ⟨q,2,none⟩ (.int .i64 (mode%4))):=(Tn.refl _ _).setCell _;have hEe:mode%4=E:=by rw[HE.o,if_neg (by omega)]
  have H5:=Z1 (⟨H2.o.ld.set2 (mode%4),H2.o.wt.tn ts H2.o.nq,H2.o.tn.trans ts,H2.o.nq⟩:BgI B q w mode true (mode%4) mark0 (trv n) tail (.slice p bs.length cap) bs (w2.setCell ⟨q,2,none⟩ (.int .i64 (mode%4))));clear H2 c0 c2 f2 hz ts htm;generalize w2.setCell ⟨q,2,none⟩ (.int .i64 (mode%4))=w5 at *;rw[hEe] at H5 ⊢;refine (QbL E w5 (HT.o _ H5.o.tn).enc HEB.o.1 HEB.o.2).mono ?_;rintro e w6 ⟨rfl,hb6⟩;have H6:=Z1 (H5.o.low hb6);clear hb6 H5;have c3:=H6.o.ld.c3;have f3:=H6.o.ld.fr 3;have hz:=Z3 c3;have hm1:=HM.o;cases hme:(markB E).toList.isEmpty
  ·have hm2:=hm1.trans (QdH hd E hme);have hmn:¬(markB E).toList=[]:=by intro h;rw[h] at hme;simp at hme
   have HPX:=Z1 (fun W=>Qaz hd (markB E) W);rw[<-hm2] at HPX;clear hm1 hm2 HM;generalize markB E=mb at *;go_wp2_with (go_at_call 114;refine (HPX.o _).mono ?_;rintro e w' ⟨rfl,rfl⟩);rename World=>w6
   have ts:Tn q w6 (w6.setCell ⟨q,3,none⟩ (.bool mk)):=(Tn.refl _ _).setCell _;have H7:=Z1 (⟨H6.o.ld.set3 mk,H6.o.wt.tn ts H6.o.nq,H6.o.tn.trans ts,H6.o.nq⟩:BgI B q w mode true E mk (trv n) tail (.slice p bs.length cap) bs (w6.setCell ⟨q,3,none⟩ (.bool mk)));clear H6 c3 f3 hz ts;generalize w6.setCell ⟨q,3,none⟩ (.bool mk)=w7 at *;obtain⟨p',hsl,hwt',hwb⟩:=Qh4 H7.o.wt (mkB E mk).size hle;have HWB:=Z1 hwb;have c6:=H7.o.ld.c6;have f6:=H7.o.ld.fr 6;have hz:=Z3 c6;obtain⟨c2,c3,c4,c5⟩:=Qfx H7.o.ld;have HMB:=Z1 (fun W (h:Tabs W)=>Qb7 E mk (trv n) tail W h HEB.o.1 HEB.o.2);have HWT:=Z1 hwt';clear hwt' hwb;generalize hkb:mkB E mk=mkb at *;have HKB:=Z1 hkb;clear hkb;go_region_with (go_at_call 85;refine (HMB.o _ (HT.o _ H7.o.drew.tn)).mono ?_;rintro e w8 ⟨rfl,hb8⟩;have H8:=Z1 (H7.o.drew.low hb8);have HB8:=Z1 hb8;have c6b:=H8.o.ld.c6;have f6b:=H8.o.ld.fr 6;have hz8:=Z3 c6b;clear hb8)
   all_goals
    go_wp2_with fail;go_returns;have ts:Tn q w8 (w8.setCell ⟨q,6,none⟩ (.slice p' (bs.length - mkb.size) (cap - mkb.size))):=(Tn.refl _ _).setCell _;have hnq:wblk (.slice p' (bs.length - mkb.size) (cap - mkb.size))≠some q:=by rw[HWB.o];exact H8.o.nq
    rw[HE1.o,HM1.o,HKB.o];exact⟨_,rfl,H8.o.ld.set6 _,((HWT.o.low (((Below.refl _ _).drew).trans HB8.o)).tn ts hnq),HWB.o,H8.o.tn.trans ts⟩
  have hm2:=hm1.trans (QfT hd E hme);subst hm2;clear hm1 HM;generalize markB E=mb at *;go_wp2_with fail;have ts:Tn q w6 (w6.setCell ⟨q,3,none⟩ (.bool false)):=(Tn.refl _ _).setCell _;have H7:=Z1 (⟨H6.o.ld.set3 false,H6.o.wt.tn ts H6.o.nq,H6.o.tn.trans ts,H6.o.nq⟩:BgI B q w mode true E false (trv n) tail (.slice p bs.length cap) bs (w6.setCell ⟨q,3,none⟩ (.bool false)));clear H6 c3 f3 hz ts;generalize w6.setCell ⟨q,3,none⟩ (.bool false)=w7 at *;obtain⟨p',hsl,hwt',hwb⟩:=Qh4 H7.o.wt (mkB E false).size hle;have HWB:=Z1 hwb;have c6:=H7.o.ld.c6;have f6:=H7.o.ld.fr 6;have hz:=Z3 c6;obtain⟨c2,c3,c4,c5⟩:=Qfx H7.o.ld;have HMB:=Z1 (fun W (h:Tabs W)=>Qb7 E false (trv n) tail W h HEB.o.1 HEB.o.2);have HWT:=Z1 hwt';clear hwt' hwb;generalize hkb:mkB E false=mkb at *;have HKB:=Z1 hkb;clear hkb;go_region_with (go_at_call 85;refine (HMB.o _ (HT.o _ H7.o.drew.tn)).mono ?_;rintro e w8 ⟨rfl,hb8⟩;have H8:=Z1 (H7.o.drew.low hb8);have HB8:=Z1 hb8;have c6b:=H8.o.ld.c6;have f6b:=H8.o.ld.fr 6;have hz8:=Z3 c6b;clear hb8)
  all_goals
   go_wp2_with fail;go_returns;have ts:Tn q w8 (w8.setCell ⟨q,6,none⟩ (.slice p' (bs.length - mkb.size) (cap - mkb.size))):=(Tn.refl _ _).setCell _;have hnq:wblk (.slice p' (bs.length - mkb.size) (cap - mkb.size))≠some q:=by rw[HWB.o];exact H8.o.nq
   rw[HE1.o,HM1.o,HKB.o];exact⟨_,rfl,H8.o.ld.set6 _,((HWT.o.low (((Below.refl _ _).drew).trans HB8.o)).tn ts hnq),HWB.o,H8.o.tn.trans ts⟩
end Go.Proofs.YtoejbngihecafaaGreatDoor
