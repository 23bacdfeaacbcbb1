import Derived.RangeFuncBound
import Derived.RangeFuncCalls
import Derived.Shelf.Abstract
import Derived.Shelf.RegionOpen
import Derived.OwnWalkIn
import Derived.TacticsInMore
import Derived.LoopNIn
import Derived.LoopIn
import Derived.Deep.QuietTactic
import Derived.BigQuiet
import Derived.Deep.RegionWith
import Derived.Deep.RegionHeld3
import Derived.Shelf.RegionOpenPlain
import Derived.Test.YtoejbngihecafaaGreatDoorC2
import Derived.Test.YtoejbngihecafaaGreatDoorC5
import Derived.Test.YtoejbngihecafaaGreatDoorC1
import Derived.Test.YtoejbngihecafaaGreatDoorC0
open Go.Proofs.Tryz
namespace Go.Proofs.YtoejbngihecafaaGreatDoor
open Go.RowKit Go.Shelf Go.Vit
variable {w w':World} {lo:Nat}
attribute [local go_sem] Oper.semAt_some
theorem Qin (c:UInt8):wrap32 (c.toNat:Int)=(c.toNat:Int):=by
 have:=c.toNat_lt;unfold wrap32;omega
structure Cells5 (w:World) (B:Nat) (v0 v1 v2 v3 v4:Value):Prop where
 c0:w.cell? ⟨B,0,none⟩=some v0
 c1:w.cell? ⟨B,1,none⟩=some v1
 c2:w.cell? ⟨B,2,none⟩=some v2
 c3:w.cell? ⟨B,3,none⟩=some v3
 c4:w.cell? ⟨B,4,none⟩=some v4
theorem QbX (h:Below w.heap.size w.drew w'):Below w.heap.size w w':=⟨h.os,h.tape,h.output,h.size,h.block⟩
theorem Qf0 {B:Nat} {v0 v1 v2 v3 v4:Value} (h:w.cell? ⟨B,0,none⟩=some v0/\w.cell? ⟨B,1,none⟩=some v1/\w.cell? ⟨B,2,none⟩=some v2/\w.cell? ⟨B,3,none⟩=some v3/\w.cell? ⟨B,4,none⟩=some v4)
  (hb:Below w.heap.size w w'):w'.cell? ⟨B,0,none⟩=some v0/\w'.cell? ⟨B,1,none⟩=some v1/\w'.cell? ⟨B,2,none⟩=some v2/\w'.cell? ⟨B,3,none⟩=some v3/\w'.cell? ⟨B,4,none⟩=some v4:=by
 have hB:=Z3 h.1
 exact⟨(hb.cell (p:=⟨B,0,none⟩) hB).trans h.1,(hb.cell (p:=⟨B,1,none⟩) hB).trans h.2.1,(hb.cell (p:=⟨B,2,none⟩) hB).trans h.2.2.1,(hb.cell (p:=⟨B,3,none⟩) hB).trans h.2.2.2.1,(hb.cell (p:=⟨B,4,none⟩) hB).trans h.2.2.2.2⟩
theorem Qkh (r:Nat) (c:Int) (h0:0<=c) (h1:c<=255):wrap32 (bits BinOp.and IntKind.u8 c (Vm.sqBits r))=c%(Vm.sqBits r+1):=by
 have e:bits BinOp.and IntKind.u8 c (Vm.sqBits r)=c%(Vm.sqBits r+1):=by
  rcases Vm.QhK r with h|h|h|h|h<;>rw[h]
  ·exact bits_mask .u8 8 (by decide) wraps_u8 7 (by decide) c h0 (by omega)
  ·exact u8_and31 c h0 (by omega)
  ·exact u8_and15 c h0 (by omega)
  ·exact u8_and7 c h0 (by omega)
  rw[u8_and c 0 h0 (by omega) (by omega) (by omega)];simp
 rw[e];have h2:=Vm.QhP r;have e1:=Int.emod_nonneg c (b:=Vm.sqBits r+1) (by omega);have e2:=Int.emod_lt_of_pos c (b:=Vm.sqBits r+1) (by omega);unfold wrap32;omega
theorem hide {p:Prop} (h:p):Hid p:=h
def encSg (x:Vm.Sg):Array Value:=#[.int .i32 x.1,.int .i64 x.2]
set_option maxHeartbeats 400000 in
theorem Qf9 (b:ByteArray) (hb:b.size<=maxLen) :
  ItersA prog 161 (fun y=>#[.string b,y]) encSg (Vm.signs 3 b.data.toList) (fun _=>True):=by
 intro M l J Jx W hM hJ hJx hN hY h0
 unfold maxLen at hb
 refine (callsIn_wide (n:=3)).1 ?_
 refine callsIn_of_wp func161 rfl trivial ?_ rfl
 simp only[ntmps161,List.size_toArray,List.length_cons,List.length_nil,Nat.reduceAdd,Nat.reduceSub,Array.replicate_succ,Array.replicate_zero,List.push_toArray,List.append_toArray,List.nil_append,List.cons_append]
 gi_wp2
 gi_loopw [7] (fun i wr=>∃(k:Nat) (pre:List Vm.Sg),k<=b.size/\i=.int .i64 k/\Vm.signs 3 b.data.toList=pre++Vm.signs 3 (b.data.toList.drop k)/\J pre wr/\W.heap.size<=wr.heap.size) (fun i _=>b.size - (intOf i).toNat)
 case atStart=>exact⟨0,[],Nat.zero_le _,rfl,rfl,h0,Z6 _⟩
 case round =>
  obtain⟨k,pre,hk,rfl,hs,hj,hwz⟩:=hrel;by_cases hlt:k<b.size
  ·obtain⟨h1,h2⟩:=Vm.Qb1 hs (Vm.QkV b k hlt);obtain⟨fn,tmps,assign,body,hy,hR⟩:=hY pre ((b[k].toNat:Int),1) wr hj hwz h1;have hw:wrap32 ((b[k].toNat:Int))=(b[k].toNat:Int):=Qin _;have hy2:(Instr.yield l #[.int .i32 (wrap32 (b[k].toNat:Int)),.int .i64 1]).run prog wr=.ok (.round l fn tmps assign body) wr:=by rw[hw];exact hy
   have Hs:=hide h2;clear h1 h2 hs hw hy;gi_wp2;refine (Qam none hR).mono ?_;rintro e W3 (⟨rfl,hJ3,hk3⟩|⟨rfl,hJx3,hkx⟩)
   ·gi_wp2;go_roundw
    case rel=>exact⟨k+1,pre++[((b[k].toNat:Int),1)],by omega,by go_num,Hs.o,hJ3,Nat.le_trans hwz hk3.size⟩
    case measure=>simp [intOf];omega
   gi_wp2;refine bodyPost_ret (results_none rfl _ _ _) rfl ?_;exact⟨⟨_,rfl⟩,.inr ⟨_,⟨_,Hs.o.symm⟩,hJx3⟩⟩
  have he:=Vm.QjC hs (Vm.Qhi 3 b k (by omega));have Hs:=hide he;clear he hs;gi_wp2;go_end0;exact⟨⟨_,rfl⟩,.inl (by rw[Hs.o];exact hj)⟩
set_option maxHeartbeats 800000 in
theorem QeU (b:ByteArray) (hb:b.size<=maxLen) :
  ItersA prog 160 (fun y=>#[.string b,y]) encSg (Vm.signs 0 b.data.toList) TabSeq:=by
 intro M l J Jx W hM hJ hJx hN hY h0
 unfold maxLen at hb
 refine (callsIn_wide (n:=3)).1 ?_
 refine callsIn_of_wp func160 rfl trivial ?_ rfl
 simp only[ntmps160,List.size_toArray,List.length_cons,List.length_nil,Nat.reduceAdd,Nat.reduceSub,Array.replicate_succ,Array.replicate_zero,List.push_toArray,List.append_toArray,List.nil_append,List.cons_append]
 gi_wp2
 refine QcW ?_
 gi_wp2
 refine wpIn_label ?_
 gi_wp2
 gi_loopw [4] (fun i wr=>∃(k:Nat) (pre:List Vm.Sg),k<=b.size/\i=.int .i64 k/\Vm.signs 0 b.data.toList=pre++Vm.signs 0 (b.data.toList.drop k)/\J pre wr/\W.heap.size<=wr.heap.size) (fun i _=>b.size - (intOf i).toNat)
 case atStart=>exact⟨0,[],Nat.zero_le _,rfl,rfl,h0,Z6 _⟩
 case round =>
  obtain⟨k,pre,hk,rfl,hs,hj,hwz⟩:=hrel;by_cases hlt:k<b.size
  ·have hb0:Vm.b0 (b.data.toList.drop k) 0=(b[k].toNat:Int):=by rw[Vm.Qa1,Nat.add_zero,Vm.QaJ b k hlt]
   have hc:=b[k].toNat_lt;obtain⟨h1,h2⟩:=Vm.Qb1 hs (Vm.QnR b k hlt);have ht:=(hN pre wr hj).1;have hMj:=(hN pre wr hj).2;have Hs:=hide h2;have Hp:=hide h1;have H0:=hide hb0;clear h1 h2 hs hb0;gi_wp2_with (refine⟨trivial,?_⟩;gi_at_call 172;refine (callsIn_wide.2 (Qi4 _ _ (by omega) (by omega) ht)).mono ?_;rintro e w1 ⟨rfl,hb1⟩);have hr10:=Vm.QjM (b[k].toNat:Int);generalize hr:Vm.sqRow (b[k].toNat:Int)=r at *;have Hr:=hide hr;clear hr;refine wpIn_wide.2 ?_;go_quiet (fail);gi_wp2
   have hpart:wrap32 (bits BinOp.and IntKind.u8 (b[k].toNat:Int) (Vm.sqBits r))=Vm.partV (b.data.toList.drop k) r 1:=by
    simp only[Vm.partV];rw[H0.o];exact Qkh _ _ (by omega) (by omega)
   obtain⟨B,hB⟩:∃B,B=w1.heap.size:=⟨_,rfl⟩;rw[hpart,<-hB];have hbe:Below wr.heap.size wr ((w1.alloc (Obj.cells #[.int .u8 (Vm.sqUp r),.int .i64 (Vm.sqSize r),.int .u8 (Vm.sqBits r),.int .u8 (Vm.sqLeast r),.int .u8 (Vm.sqMost r)] 242)).drewN nq):=below_drewN (hb1.alloc hb1.size _) nq
   have hbox:Cells5 ((w1.alloc (Obj.cells #[.int .u8 (Vm.sqUp r),.int .i64 (Vm.sqSize r),.int .u8 (Vm.sqBits r),.int .u8 (Vm.sqLeast r),.int .u8 (Vm.sqMost r)] 242)).drewN nq) B (.int .u8 (Vm.sqUp r)) (.int .i64 (Vm.sqSize r)) (.int .u8 (Vm.sqBits r)) (.int .u8 (Vm.sqLeast r)) (.int .u8 (Vm.sqMost r)):=by
    subst hB;exact⟨by simp [World.cell?_drewN],by simp [World.cell?_drewN],by simp [World.cell?_drewN],by simp [World.cell?_drewN],by simp [World.cell?_drewN]⟩
   have hBw:wr.heap.size<=B:=by have:=hb1.size;omega
   clear hB;generalize ((w1.alloc (Obj.cells #[.int .u8 (Vm.sqUp r),.int .i64 (Vm.sqSize r),.int .u8 (Vm.sqBits r),.int .u8 (Vm.sqLeast r),.int .u8 (Vm.sqMost r)] 242)).drewN nq)=w2 at *;clear hpart;obtain⟨wo,rfl⟩:∃wo:World,wo=wr:=⟨_,rfl⟩;clear hb1 ht
   gi_loopw [6,7] (fun c i wx=>∃j:Nat,1<=j/\j<=Vm.sqN r/\k+j<=b.size/\i=.int .i64 j/\c=.int .i32 (Vm.partV (b.data.toList.drop k) r j)/\Vm.allOk (b.data.toList.drop k) r (j - 1)=true/\Below wo.heap.size wo wx /\
     Cells5 wx B (.int .u8 (Vm.sqUp r)) (.int .i64 (Vm.sqSize r)) (.int .u8 (Vm.sqBits r)) (.int .u8 (Vm.sqLeast r)) (.int .u8 (Vm.sqMost r))) (fun _ i _=>4 - (intOf i).toNat)
   case atStart=>exact⟨1,Z6 _,Vm.Qfz r,by omega,rfl,rfl,rfl,hbe,hbox⟩
   case round =>
    obtain⟨j,hj1,hj2,hjs,rfl,rfl,hok,hbx,hcx⟩:=hrel;have Hok:=hide hok;clear hok hbe hbox;have hn4:=Vm.Qih r;have hsz:=Vm.QnC r;have c0:=hcx.c0;have c1:=hcx.c1;have c2:=hcx.c2;have c3:=hcx.c3;have c4:=hcx.c4;rw[hsz] at c1;have Hsz:=hide hsz;clear hsz;have hpv:=Vm.QgP (b.data.toList.drop k) r j (by omega);by_cases hjn:j<Vm.sqN r
    ·by_cases hend:k+j=b.size
     ·have hend':((k:Int)+j==(b.size:Int))=true:=by rw[beq_iff_eq];omega
      gi_wp2;refine wpIn_wide.2 ?_;go_quiet (fail);have hhead:Vm.utfHead (b.data.toList.drop k)=(-1,1):=Vm.QfM (by rw[H0.o];exact Hr.o) hj1 hjn (Vm.Qm8 (by omega));have hs2:=Hs.o;have hp2:=Hp.o;rw[hhead] at hs2 hp2;have hj3:=hJ pre _ (wr.drewN nq) hj (ItStep.of_below (below_drewN hbx nq) hwz hMj);obtain⟨fn,tmps,assign,body,hy,hR⟩:=hY pre (-1,1) _ hj3 (Nat.le_trans hwz (by first|exact hbz.size|exact (below_drewN hbx nq).size)) hp2;have hy2:(Instr.yield l #[.int .i32 (-1),.int .i64 1]).run prog (wr.drewN nq)=.ok (.round l fn tmps assign body) (wr.drewN nq):=hy;have Hs2:=hide hs2;clear hs2 hp2 hy hhead;gi_wp2;refine (Qam none hR).mono ?_;rintro e W3 (⟨rfl,hJ3,hk3⟩|⟨rfl,hJx3,hkx⟩)
      ·gi_wp2;have hz3:=hk3.size;refine⟨⟨k+1,_,by omega,by go_num,Hs2.o,hJ3,?_⟩,by simp [intOf];omega⟩;have:=hbx.size;simp at hz3;omega
      gi_wp2;dsimp only [Exit.noGoto];refine bodyPost_ret (results_none rfl _ _ _) rfl ?_;exact⟨⟨_,rfl⟩,.inr ⟨_,⟨_,Hs2.o.symm⟩,hJx3⟩⟩
     have hend':((k:Int)+j==(b.size:Int))=false:=by rw[beq_eq_false_iff_ne];omega
     have hin:k+j<b.size:=by omega
     have hinI:(k:Int)+(j:Int)<(b.size:Int):=by omega
     cases hg:Vm.goesOnB (Vm.sqLeast r) (Vm.sqMost r) (j:Int) (b[k+j].toNat:Int)
     ·gi_wp2;have hwr:IntKind.i64.wrap ((k:Int)+(j:Int))=(k:Int)+(j:Int):=by rw[IntKind.wrap_i64];omega
      have htn:((k:Int)+(j:Int)).toNat=k+j:=by omega
      refine wpIn_wide.2 ?_
      go_region_held3 (fun w'=>w'.cell? ⟨B,0,none⟩=some (.int .u8 (Vm.sqUp r))/\w'.cell? ⟨B,1,none⟩=some (.int .i64 (Vm.sqN r))/\w'.cell? ⟨B,2,none⟩=some (.int .u8 (Vm.sqBits r))/\w'.cell? ⟨B,3,none⟩=some (.int .u8 (Vm.sqLeast r))/\w'.cell? ⟨B,4,none⟩=some (.int .u8 (Vm.sqMost r)))
       (first|go_keep|exact Qf0 (by assumption) (by assumption)) (first|(go_at_call 173;refine (QgH _ _ _ _ _ _ _ _).mono ?_;rintro e w3 ⟨rfl,hb3⟩))
      have Hg:=hide hg;clear hg;have hhead:Vm.utfHead (b.data.toList.drop k)=(-1,1):=Vm.QfM (by rw[H0.o];exact Hr.o) hj1 hjn (by rw[Vm.QmF hin];exact Hg.o);have hs2:=Hs.o;have hp2:=Hp.o;rw[hhead] at hs2 hp2;have hbz:Below wo.heap.size wo w3:=hbx.trans ((QbX hb3).mono hbx.size);have hj3:=hJ pre _ w3 hj (ItStep.of_below hbz hwz hMj);obtain⟨fn,tmps,assign,body,hy,hR⟩:=hY pre (-1,1) _ hj3 (Nat.le_trans hwz (by first|exact hbz.size|exact (below_drewN hbx nq).size)) hp2;have hy2:(Instr.yield l #[.int .i32 (-1),.int .i64 1]).run prog w3=.ok (.round l fn tmps assign body) w3:=hy;have Hs2:=hide hs2;clear hs2 hp2 hy hhead;gi_wp2;refine (Qam none hR).mono ?_;rintro e W3 (⟨rfl,hJ3,hk3⟩|⟨rfl,hJx3,hkx⟩)
      ·gi_wp2;have hz3:=hk3.size;refine⟨⟨k+1,_,by omega,by go_num,Hs2.o,hJ3,?_⟩,by simp [intOf];omega⟩;have:=hbz.size;omega
      gi_wp2;dsimp only [Exit.noGoto];refine bodyPost_ret (results_none rfl _ _ _) rfl ?_;exact⟨⟨_,rfl⟩,.inr ⟨_,⟨_,Hs2.o.symm⟩,hJx3⟩⟩
     have hx2:=b[k+j].toNat_lt;gi_wp2;have hwr:IntKind.i64.wrap ((k:Int)+(j:Int))=(k:Int)+(j:Int):=by rw[IntKind.wrap_i64];omega
     have htn:((k:Int)+(j:Int)).toNat=k+j:=by omega
     refine wpIn_wide.2 ?_
     go_region_held3 (fun w'=>w'.cell? ⟨B,0,none⟩=some (.int .u8 (Vm.sqUp r))/\w'.cell? ⟨B,1,none⟩=some (.int .i64 (Vm.sqN r))/\w'.cell? ⟨B,2,none⟩=some (.int .u8 (Vm.sqBits r))/\w'.cell? ⟨B,3,none⟩=some (.int .u8 (Vm.sqLeast r))/\w'.cell? ⟨B,4,none⟩=some (.int .u8 (Vm.sqMost r)))
      (first|go_keep|exact Qf0 (by assumption) (by assumption)) (first|(go_at_call 173;refine (QgH _ _ _ _ _ _ _ _).mono ?_;rintro e w3 ⟨rfl,hb3⟩))
     have Hg:=hide hg;clear hg;have hbz:Below wo.heap.size wo w3:=hbx.trans ((QbX hb3).mono hbx.size);have hS:=Qf0 (w':=w3) ⟨c0,c1,c2,c3,c4⟩ (QbX hb3);gi_wp2;refine⟨⟨j+1,by omega,by omega,by omega,by go_num,?_,?_,hbz,⟨hS.1,by rw[Hsz.o];exact hS.2.1,hS.2.2.1,hS.2.2.2.1,hS.2.2.2.2⟩⟩,by simp [intOf];omega⟩
     ·rw[Vm.Qku _ _ _ hj1,Vm.Qa1,Vm.QaJ b (k+j) hin,Int.mul_comm]
     simp only[Nat.add_sub_cancel];exact Vm.Qkp hj1 Hok.o (by rw[Vm.QmF hin];exact Hg.o)
    obtain rfl:j=Vm.sqN r:=by omega
    have hhead:Vm.utfHead (b.data.toList.drop k)=(Vm.partV (b.data.toList.drop k) r (Vm.sqN r),Vm.sqN r):=Vm.QcX (by rw[H0.o];exact Hr.o) Hok.o;have hs2:=Hs.o;have hp2:=Hp.o;rw[hhead] at hs2 hp2;have hj3:=hJ pre _ wr hj (ItStep.of_below hbx hwz hMj);obtain⟨fn,tmps,assign,body,hy,hR⟩:=hY pre _ _ hj3 (Nat.le_trans hwz hbx.size) hp2;have hy2:(Instr.yield l #[.int .i32 (Vm.partV (b.data.toList.drop k) r (Vm.sqN r)),.int .i64 (Vm.sqN r)]).run prog wr=.ok (.round l fn tmps assign body) wr:=hy;have Hs2:=hide hs2;clear hs2 hp2 hy hhead;gi_wp2;refine (Qam none hR).mono ?_;rintro e W3 (⟨rfl,hJ3,hk3⟩|⟨rfl,hJx3,hkx⟩)
    ·have hnb:¬M wr B:=fun h=>by
      have:=hMj B (hM wo wr (fun j hj=>hbx.block j (by omega)) B h);omega
     have d1:W3.cell? ⟨B,1,none⟩=some (.int .i64 (Vm.sqN r)):=(World.cell?_of_block (w:=wr) (hk3.keep B (by omega) (Z3 c0) hnb)).trans c1;have hz3:=hk3.size;have hsN:=Vm.Qfz r;gi_wp2;have:=hbx.size;refine⟨⟨k+Vm.sqN r,_,by omega,by go_num,Hs2.o,hJ3,by omega⟩,by simp [intOf];omega⟩
    gi_wp2;dsimp only [Exit.noGoto];refine bodyPost_ret (results_none rfl _ _ _) rfl ?_;exact⟨⟨_,rfl⟩,.inr ⟨_,⟨_,Hs2.o.symm⟩,hJx3⟩⟩
  have he:=Vm.QjC hs (Vm.Qhi 0 b k (by omega));have Hs:=hide he;clear he hs;gi_wp2;dsimp only [Exit.noGoto];go_end0;exact⟨⟨_,rfl⟩,.inl (by rw[Hs.o];exact hj)⟩
attribute [local go_sem] Oper.semAt_some
theorem Qlz (x y:Int) (h0:0<=x) (h1:x<=1023) (h2:0<=y) (h3:y<=1023):bits BinOp.or IntKind.i32 (x * 1024) y=1024 * x+y:=by
 rw[bits_join .i32 31 (by decide) wraps_i32 10 (x * 1024) y (by omega) (by omega) (by omega) h2 (by omega) (by omega)];omega
set_option maxHeartbeats 1600000 in
theorem Qig (b:ByteArray) (enc:Int) (hb:b.size<=1099511627776) (he:enc=1\/enc=2) :
  ItersA prog 162 (fun y=>#[.string b,.int .i64 enc,y]) encSg (Vm.signs enc b.data.toList) (fun w=>TabHalf w/\TabEnc w):=by
 intro M l J Jx W hM hJ hJx hN hY h0
 have i0:∀w,(Instr.index 240 (.agg #[.int .i32 55296,.int .i32 56319,.int .i32 56320,.int .i32 57343]) (.int .i64 0)).run prog w=.ok (.agg #[.int .i32 55296,.int .i32 56319]) w:=fun _=>by kernel_rfl
 have i1:∀w,(Instr.index 240 (.agg #[.int .i32 55296,.int .i32 56319,.int .i32 56320,.int .i32 57343]) (.int .i64 1)).run prog w=.ok (.agg #[.int .i32 56320,.int .i32 57343]) w:=fun _=>by kernel_rfl
 refine (callsIn_wide (n:=3)).1 ?_
 refine callsIn_of_wp func162 rfl trivial ?_ rfl
 simp only[ntmps162,List.size_toArray,List.length_cons,List.length_nil,Nat.reduceAdd,Nat.reduceSub,Array.replicate_succ,Array.replicate_zero,List.push_toArray,List.append_toArray,List.nil_append,List.cons_append]
 gi_wp2
 refine QcW ?_
 gi_wp2
 refine wpIn_label ?_
 gi_wp2
 gi_loopw [6] (fun i wr=>∃(k:Nat) (pre:List Vm.Sg),k<=b.size/\i=.int .i64 k/\Vm.signs enc b.data.toList=pre++Vm.signs enc (b.data.toList.drop k)/\J pre wr/\W.heap.size<=wr.heap.size) (fun i _=>b.size - (intOf i).toNat)
 case atStart=>exact⟨0,[],Nat.zero_le _,rfl,rfl,h0,Z6 _⟩
 case round =>
  obtain⟨k,pre,hk,rfl,hs,hj,hwz⟩:=hrel;by_cases hlt:k+1<b.size
  ·obtain⟨hth,hte⟩:=(hN pre wr hj).1;have hMj:=(hN pre wr hj).2;have c0:=hth.c0;have c1:=hth.c1;have c2:=hth.c2;have c3:=hth.c3;have hz:=Z3 c0;have hU:=Vm.Qjs enc b k;have hV:=Vm.Qjs enc b (k+2);have hltI:(k:Int)+1<(b.size:Int):=by omega
   have Hs:=hide hs;clear hs;gi_wp2;refine wpIn_loop_rounds 3 ?_;rw[roundsIn_succ];gi_wp2_with fail;have be0:Below wr.heap.size wr (wr.alloc (Obj.cells #[Value.int IntKind.i32 55296,Value.int IntKind.i32 56319] 239)):=Z7 _ _;refine⟨trivial,(callsIn_wide.2 (Qdf b _ _ _ hb (by omega) (by omega) he (hte.below be0))).mono ?_⟩;rintro e w1 ⟨rfl,hb1⟩;rw[Int.toNat_natCast];have be1:Below wr.heap.size wr w1:=be0.trans (hb1.mono be0.size);have d0:w1.cell? ⟨wr.heap.size,0,none⟩=some (.int .i32 55296):=(hb1.cell (p:=⟨wr.heap.size,0,none⟩) (by simp)).trans (by simp);have d1:w1.cell? ⟨wr.heap.size,1,none⟩=some (.int .i32 56319):=(hb1.cell (p:=⟨wr.heap.size,1,none⟩) (by simp)).trans (by simp);by_cases hA1:Vm.unitO enc b k<55296
   ·have hhead:=Vm.Qd4 he hlt (by unfold Vm.isPair;omega);obtain⟨hp2,hs2⟩:=Vm.Qb1 Hs.o hhead;have Hs2:=hide hs2;have Hp2:=hide hp2;clear hs2 hp2 hhead;gi_wp2_with fail;refine⟨trivial,(callsIn_wide.2 (Qdf b _ _ _ hb (by omega) (by omega) he (hte.below be1))).mono ?_⟩;rintro e w2 ⟨rfl,hb2⟩;rw[Int.toNat_natCast];have be2:Below wr.heap.size wr w2:=be1.trans (hb2.mono be1.size);gi_wp2_with fail;refine⟨trivial,(callsIn_wide.2 (QdS _ _ (hth.below be2))).mono ?_⟩;rintro e w5 ⟨rfl,hb5⟩;have be5:Below wr.heap.size wr w5:=be2.trans (hb5.mono be2.size);have hj5:=hJ pre _ w5 hj (ItStep.of_below be5 hwz hMj);obtain⟨fn,tmps,assign,body,hy,hR⟩:=hY pre _ _ hj5 (Nat.le_trans hwz be5.size) Hp2.o;have hy2:(Instr.yield l #[.int .i32 (Vm.aloneI (Vm.unitO enc b k)),.int .i64 2]).run prog w5=.ok (.round l fn tmps assign body) w5:=hy;clear hy;gi_wp2;refine (Qam none hR).mono ?_;rintro e W3 (⟨rfl,hJ3,hk3⟩|⟨rfl,hJx3,hkx⟩)
    ·gi_wp2;have hz3:=hk3.size;have:=be5.size;refine⟨⟨k+2,_,by omega,by go_num,Hs2.o,hJ3,by omega⟩,by simp [intOf];omega⟩
    gi_wp2;dsimp only [Exit.noGoto];refine bodyPost_ret (results_none rfl _ _ _) rfl ?_;exact⟨⟨_,rfl⟩,.inr ⟨_,⟨_,Hs2.o.symm⟩,hJx3⟩⟩
   by_cases hA2:56319<Vm.unitO enc b k
   ·have hhead:=Vm.Qd4 he hlt (by unfold Vm.isPair;omega);obtain⟨hp2,hs2⟩:=Vm.Qb1 Hs.o hhead;have Hs2:=hide hs2;have Hp2:=hide hp2;clear hs2 hp2 hhead;gi_wp2_with fail;refine⟨trivial,(callsIn_wide.2 (Qdf b _ _ _ hb (by omega) (by omega) he (hte.below be1))).mono ?_⟩;rintro e w2 ⟨rfl,hb2⟩;rw[Int.toNat_natCast];have be2:Below wr.heap.size wr w2:=be1.trans (hb2.mono be1.size);gi_wp2_with fail;refine⟨trivial,(callsIn_wide.2 (QdS _ _ (hth.below be2))).mono ?_⟩;rintro e w5 ⟨rfl,hb5⟩;have be5:Below wr.heap.size wr w5:=be2.trans (hb5.mono be2.size);have hj5:=hJ pre _ w5 hj (ItStep.of_below be5 hwz hMj);obtain⟨fn,tmps,assign,body,hy,hR⟩:=hY pre _ _ hj5 (Nat.le_trans hwz be5.size) Hp2.o;have hy2:(Instr.yield l #[.int .i32 (Vm.aloneI (Vm.unitO enc b k)),.int .i64 2]).run prog w5=.ok (.round l fn tmps assign body) w5:=hy;clear hy;gi_wp2;refine (Qam none hR).mono ?_;rintro e W3 (⟨rfl,hJ3,hk3⟩|⟨rfl,hJx3,hkx⟩)
    ·gi_wp2;have hz3:=hk3.size;have:=be5.size;refine⟨⟨k+2,_,by omega,by go_num,Hs2.o,hJ3,by omega⟩,by simp [intOf];omega⟩
    gi_wp2;dsimp only [Exit.noGoto];refine bodyPost_ret (results_none rfl _ _ _) rfl ?_;exact⟨⟨_,rfl⟩,.inr ⟨_,⟨_,Hs2.o.symm⟩,hJx3⟩⟩
   have hA3:¬Vm.unitO enc b k<55296:=hA1;gi_wp2;rw[roundsIn_succ];gi_wp2_with fail;have be2:Below wr.heap.size wr (w1.alloc (Obj.cells #[Value.int IntKind.i32 56320,Value.int IntKind.i32 57343] 239)):=be1.alloc be1.size _;refine⟨trivial,(callsIn_wide.2 (Qdf b _ _ _ hb (by omega) (by omega) he (hte.below be2))).mono ?_⟩;rintro e w3 ⟨rfl,hb3⟩;rw[show ((k:Int)+2).toNat=k+2 from by omega];have be3:Below wr.heap.size wr w3:=be2.trans (hb3.mono be2.size);have d2:w3.cell? ⟨w1.heap.size,0,none⟩=some (.int .i32 56320):=(hb3.cell (p:=⟨w1.heap.size,0,none⟩) (by simp)).trans (by simp);have d3:w3.cell? ⟨w1.heap.size,1,none⟩=some (.int .i32 57343):=(hb3.cell (p:=⟨w1.heap.size,1,none⟩) (by simp)).trans (by simp);by_cases hB1:Vm.unitO enc b (k+2)<56320
   ·have hhead:=Vm.Qd4 he hlt (by unfold Vm.isPair;omega);obtain⟨hp2,hs2⟩:=Vm.Qb1 Hs.o hhead;have Hs2:=hide hs2;have Hp2:=hide hp2;clear hs2 hp2 hhead;gi_wp2_with fail;refine⟨trivial,(callsIn_wide.2 (Qdf b _ _ _ hb (by omega) (by omega) he (hte.below be3))).mono ?_⟩;rintro e w4 ⟨rfl,hb4⟩;rw[Int.toNat_natCast];have be4:Below wr.heap.size wr w4:=be3.trans (hb4.mono be3.size);gi_wp2_with fail;refine⟨trivial,(callsIn_wide.2 (QdS _ _ (hth.below be4))).mono ?_⟩;rintro e w5 ⟨rfl,hb5⟩;have be5:Below wr.heap.size wr w5:=be4.trans (hb5.mono be4.size);have hj5:=hJ pre _ w5 hj (ItStep.of_below be5 hwz hMj);obtain⟨fn,tmps,assign,body,hy,hR⟩:=hY pre _ _ hj5 (Nat.le_trans hwz be5.size) Hp2.o;have hy2:(Instr.yield l #[.int .i32 (Vm.aloneI (Vm.unitO enc b k)),.int .i64 2]).run prog w5=.ok (.round l fn tmps assign body) w5:=hy;clear hy;gi_wp2;refine (Qam none hR).mono ?_;rintro e W3 (⟨rfl,hJ3,hk3⟩|⟨rfl,hJx3,hkx⟩)
    ·gi_wp2;have hz3:=hk3.size;have:=be5.size;refine⟨⟨k+2,_,by omega,by go_num,Hs2.o,hJ3,by omega⟩,by simp [intOf];omega⟩
    gi_wp2;dsimp only [Exit.noGoto];refine bodyPost_ret (results_none rfl _ _ _) rfl ?_;exact⟨⟨_,rfl⟩,.inr ⟨_,⟨_,Hs2.o.symm⟩,hJx3⟩⟩
   by_cases hB2:57343<Vm.unitO enc b (k+2)
   ·have hhead:=Vm.Qd4 he hlt (by unfold Vm.isPair;omega);obtain⟨hp2,hs2⟩:=Vm.Qb1 Hs.o hhead;have Hs2:=hide hs2;have Hp2:=hide hp2;clear hs2 hp2 hhead;gi_wp2_with fail;refine⟨trivial,(callsIn_wide.2 (Qdf b _ _ _ hb (by omega) (by omega) he (hte.below be3))).mono ?_⟩;rintro e w4 ⟨rfl,hb4⟩;rw[Int.toNat_natCast];have be4:Below wr.heap.size wr w4:=be3.trans (hb4.mono be3.size);gi_wp2_with fail;refine⟨trivial,(callsIn_wide.2 (QdS _ _ (hth.below be4))).mono ?_⟩;rintro e w5 ⟨rfl,hb5⟩;have be5:Below wr.heap.size wr w5:=be4.trans (hb5.mono be4.size);have hj5:=hJ pre _ w5 hj (ItStep.of_below be5 hwz hMj);obtain⟨fn,tmps,assign,body,hy,hR⟩:=hY pre _ _ hj5 (Nat.le_trans hwz be5.size) Hp2.o;have hy2:(Instr.yield l #[.int .i32 (Vm.aloneI (Vm.unitO enc b k)),.int .i64 2]).run prog w5=.ok (.round l fn tmps assign body) w5:=hy;clear hy;gi_wp2;refine (Qam none hR).mono ?_;rintro e W3 (⟨rfl,hJ3,hk3⟩|⟨rfl,hJx3,hkx⟩)
    ·gi_wp2;have hz3:=hk3.size;have:=be5.size;refine⟨⟨k+2,_,by omega,by go_num,Hs2.o,hJ3,by omega⟩,by simp [intOf];omega⟩
    gi_wp2;dsimp only [Exit.noGoto];refine bodyPost_ret (results_none rfl _ _ _) rfl ?_;exact⟨⟨_,rfl⟩,.inr ⟨_,⟨_,Hs2.o.symm⟩,hJx3⟩⟩
   obtain⟨hhead,hlt3⟩:=Vm.Qk7 he hlt (by unfold Vm.isPair;omega);obtain⟨hp2,hs2⟩:=Vm.Qb1 Hs.o hhead;have Hs2:=hide hs2;have Hp2:=hide hp2;clear hs2 hp2 hhead;have hbits:bits BinOp.or IntKind.i32 ((Vm.unitO enc b k - 55296) * 1024) (Vm.unitO enc b (k+2) - 56320)=1024 * (Vm.unitO enc b k - 55296)+(Vm.unitO enc b (k+2) - 56320):=Qlz _ _ (by omega) (by omega) (by omega) (by omega);gi_wp2;rw[roundsIn_succ];have hj5:=hJ pre _ w3 hj (ItStep.of_below be3 hwz hMj);obtain⟨fn,tmps,assign,body,hy,hR⟩:=hY pre _ _ hj5 (Nat.le_trans hwz be3.size) Hp2.o
   have hy2:(Instr.yield l #[.int .i32 (65536+(1024 * (Vm.unitO enc b k - 55296)+(Vm.unitO enc b (k+2) - 56320))),.int .i64 4]).run prog w3=.ok (.round l fn tmps assign body) w3:=by
    rw[<-Int.add_assoc];exact hy
   clear hy;gi_wp2;refine (Qam none hR).mono ?_;rintro e W3 (⟨rfl,hJ3,hk3⟩|⟨rfl,hJx3,hkx⟩)
   ·gi_wp2;have hz3:=hk3.size;have:=be3.size;refine⟨⟨k+4,_,by omega,by go_num,Hs2.o,hJ3,by omega⟩,by simp [intOf];omega⟩
   gi_wp2;dsimp only [Exit.noGoto];refine bodyPost_ret (results_none rfl _ _ _) rfl ?_;exact⟨⟨_,rfl⟩,.inr ⟨_,⟨_,Hs2.o.symm⟩,hJx3⟩⟩
  have hx:=Vm.QjC hs (Vm.QlZ he (by omega));have Hs:=hide hx;clear hx hs;gi_wp2;dsimp only [Exit.noGoto];go_end0;exact⟨⟨_,rfl⟩,.inl (by rw[Hs.o];exact hj)⟩
attribute [local go_sem] Oper.semAt_some
structure Tabs (w:World):Prop where
 seq:TabSeq w
 half:TabHalf w
 enc:TabEnc w
theorem Tabs.below (h:Tabs w) (hb:Below w.heap.size w w'):Tabs w':=⟨h.seq.below hb,h.half.below hb,h.enc.below hb⟩
set_option maxHeartbeats 400000 in
theorem QlS (b:ByteArray) (enc:Int) (Be Bb:Nat) (hb:b.size<=1099511627776) (h0:0<=enc) (h3:enc<=3) :
  Iters prog 159 #[.pointer (some ⟨Be,0,none⟩),.pointer (some ⟨Bb,0,none⟩)] encSg (Vm.signs enc b.data.toList)
   (fun w=>Tabs w/\w.cell? ⟨Be,0,none⟩=some (.int .i64 enc)/\w.cell? ⟨Bb,0,none⟩=some (.string b)):=by
 intro M l J Jx W hM hJ hJx hN hY hj
 obtain⟨ht,ce,cb⟩:=(hN _ _ hj).1
 have hbm:b.size<=maxLen:=by unfold maxLen;omega
 refine (callsIn_wide (n:=3)).1 ?_
 refine callsIn_of_wp func159 rfl trivial ?_ rfl
 simp only[ntmps159,List.size_toArray,List.length_cons,List.length_nil,Nat.reduceAdd,Nat.reduceSub,Array.replicate_succ,Array.replicate_zero,List.push_toArray,List.append_toArray,List.nil_append,List.cons_append]
 by_cases e0:enc=0
 ·subst e0;gi_wp2_with fail;refine⟨trivial,(callsIn_wide.2 (QeU b hbm M l J Jx W hM hJ hJx (fun s A h=>⟨(hN s A h).1.1.seq,(hN s A h).2⟩) hY hj)).mono ?_⟩;rintro e W2 ⟨⟨v,rfl⟩,hd⟩;gi_wp2;go_end0;exact⟨⟨_,rfl⟩,hd⟩
 by_cases e3:enc=3
 ·subst e3;gi_wp2_with fail;refine⟨trivial,(callsIn_wide.2 (Qf9 b hbm M l J Jx W hM hJ hJx (fun s A h=>⟨trivial,(hN s A h).2⟩) hY hj)).mono ?_⟩;rintro e W2 ⟨⟨v,rfl⟩,hd⟩;gi_wp2;go_end0;exact⟨⟨_,rfl⟩,hd⟩
 have e0':(enc==0)=false:=by simpa using e0
 have e3':(enc==3)=false:=by simpa using e3
 clear e0 e3
 gi_wp2_with fail
 refine⟨trivial,(callsIn_wide.2 (Qig b enc hb (by simp at e0' e3';omega) M l J Jx W hM hJ hJx (fun s A h=>⟨⟨(hN s A h).1.1.half,(hN s A h).1.1.enc⟩,(hN s A h).2⟩) hY hj)).mono ?_⟩
 rintro e W2 ⟨⟨v,rfl⟩,hd⟩
 gi_wp2
 go_end0
 exact⟨⟨_,rfl⟩,hd⟩
def encAt (x:Vm.At):Array Value:=#[.agg #[.int .i64 x.1,.int .i32 x.2.1,.int .i64 x.2.2]]
set_option maxHeartbeats 400000 in
theorem Qj9 (c:Int) (s:Int) (w:World) :
  Calls prog 137 #[.int .i32 c,.int .i64 s] w fun e w'=>e=.returned (if c = -1 then .agg #[.int .i64 4,.int .i32 65533,.int .i64 s] else if c=10 then .agg #[.int .i64 0,.int .i32 10,.int .i64 s] else .agg #[.int .i64 3,.int .i32 c,.int .i64 s])/\Below w.heap.size w w':=by
 by_cases h1:c = -1
 ·subst h1;go_enter func137,ntmps137;go_wp2;exact bodyPost_ret (v:=.agg #[.int .i64 4,.int .i32 65533,.int .i64 s]) (by simp [results,Tryz.results137,go_sem]) rfl ⟨rfl,Z7 _ _⟩
 rw[if_neg h1]
 have h1':(c == -1)=false:=by simpa using h1
 clear h1
 by_cases h2:c=10
 ·subst h2;go_enter func137,ntmps137;go_wp2;exact bodyPost_ret (v:=.agg #[.int .i64 0,.int .i32 10,.int .i64 s]) (by simp [results,Tryz.results137,go_sem]) rfl ⟨rfl,Z7 _ _⟩
 rw[if_neg h2]
 have h2':(c==10)=false:=by simpa using h2
 clear h2
 go_enter func137,ntmps137
 go_wp2
 exact bodyPost_ret (v:=.agg #[.int .i64 3,.int .i32 c,.int .i64 s]) (by simp [results,Tryz.results137,go_sem]) rfl ⟨rfl,Z7 _ _⟩
theorem QhR (x:Vm.Sg) (w:World) :
  Calls prog 137 #[.int .i32 x.1,.int .i64 x.2] w fun e w'=>e=.returned (.agg #[.int .i64 (Vm.singleA x).1,.int .i32 (Vm.singleA x).2.1,.int .i64 (Vm.singleA x).2.2])/\Below w.heap.size w w':=by
 refine (Qj9 x.1 x.2 w).mono ?_
 rintro e w' ⟨rfl,hb⟩
 refine⟨?_,hb⟩
 unfold Vm.singleA
 split
 ·rfl
 split<;>rfl
theorem Qli (enc:Int) (b:ByteArray) (w:World) :
  Calls prog 136 #[.int .i64 enc,.string b] w fun e w'=>e=.returned (.func (.func 159) #[] #[.pointer (some ⟨w.heap.size,0,none⟩),.pointer (some ⟨w.heap.size+1,0,none⟩)]) /\
   w'=(w.alloc (.cells #[.int .i64 enc] 3)).alloc (.cells #[.string b] 9):=by
 go_enter func136,ntmps136
 go_wp2
 go_ret
 exact⟨rfl,rfl⟩
theorem Qcm (enc:Int) (b:ByteArray) (w:World) :
  Calls prog 101 #[.int .i64 enc,.string b] w fun e w'=>e=.returned (.func (.func 135) #[] #[.pointer (some ⟨w.heap.size,0,none⟩),.pointer (some ⟨w.heap.size+1,0,none⟩)]) /\
   w'=(w.alloc (.cells #[.int .i64 enc] 3)).alloc (.cells #[.string b] 9):=by
 go_enter func101,ntmps101
 go_wp2
 go_ret
 exact⟨rfl,rfl⟩
attribute [local go_sem] Oper.semAt_some
structure Bx (M:World->Nat->Prop) (Z l:Nat) (enc:Int) (b:ByteArray) (h:Nat) (w:World):Prop where
 sz:Z+4<=w.heap.size
 held:w.cell? ⟨Z+1,0,none⟩=some (.int .i64 h)
 fz:w.frozen? ⟨Z+1,0,none⟩=false
 y:w.cell? ⟨Z,0,none⟩=some (.func (.yield l) #[] #[])
 e:w.cell? ⟨Z+2,0,none⟩=some (.int .i64 enc)
 b:w.cell? ⟨Z+3,0,none⟩=some (.string b)
 nm:∀k,Z<=k->k<Z+4->¬M w k
variable {M:World->Nat->Prop} {Z l:Nat} {enc:Int} {b:ByteArray} {h:Nat} {w w':World}
theorem Bx.kept (B:Bx M Z l enc b h w) (hs:w.heap.size<=w'.heap.size) (hk:∀k,Z<=k->k<Z+4->w'.heap[k]?=w.heap[k]?) (hm:∀k,Z<=k->k<Z+4->¬M w' k):Bx M Z l enc b h w' :=
 ⟨Nat.le_trans B.sz hs,(World.cell?_of_block (w:=w) (hk (Z+1) (by omega) (by omega))).trans B.held,(World.frozen?_of_block (w:=w) (hk (Z+1) (by omega) (by omega))).trans B.fz,(World.cell?_of_block (w:=w) (hk Z (by omega) (by omega))).trans B.y,
  (World.cell?_of_block (w:=w) (hk (Z+2) (by omega) (by omega))).trans B.e,(World.cell?_of_block (w:=w) (hk (Z+3) (by omega) (by omega))).trans B.b,hm⟩
theorem Bx.it (B:Bx M Z l enc b h w) (hM:MLow M Z) (hlo:Z+4<=lo) (st:ItStep M lo w w'):Bx M Z l enc b h w' :=
 B.kept st.size (fun k _ h2=>st.low k (by omega)) (fun k h1 h2 hm=>B.nm k h1 h2 (st.same (hM.of (by omega)) k hm))
theorem Bx.body (B:Bx M Z l enc b h w) (st:BodyStep M Z w w'):Bx M Z l enc b h w' :=
 B.kept st.size (fun k h1 h2=>st.keep k h1 (by have:=B.sz;omega) (B.nm k h1 h2)) (fun k h1 h2 hm=>by
  have:=B.sz
  rcases st.new k hm with x|x|x
  ·omega
  ·exact B.nm k h1 h2 x
  omega)
theorem Bx.set (B:Bx M Z l enc b h w) (hM:MLow M Z) (h':Nat):Bx M Z l enc b h' (w.setCell ⟨Z+1,0,none⟩ (.int .i64 h')):=by
 have hc:∀o,o≠Z+1->(w.setCell ⟨Z+1,0,none⟩ (.int .i64 h')).cell? ⟨o,0,none⟩=w.cell? ⟨o,0,none⟩:=fun o ho=>World.cell?_of_block (w:=w) (Below.heap_setCell _ _ _ _ ho);refine⟨by simpa [World.setCell] using B.sz,World.cell?_setCell_same' _ _ _ (by rw[B.held];rfl),by rw[World.frozen?_setCell];exact B.fz,(hc _ (by omega)).trans B.y,(hc _ (by omega)).trans B.e,(hc _ (by omega)).trans B.b,?_⟩;intro k h1 h2 hm;exact B.nm k h1 h2 (hM _ _ (fun j hj=>Below.heap_setCell _ _ _ _ (show j≠Z+1 by omega)) k hm)
theorem Bx.step (B:Bx M Z l enc b h w) (v:Value):ItStep M Z w (w.setCell ⟨Z+1,0,none⟩ v):=ItStep.setCell w (show Z<=Z+1 by omega) (B.nm (Z+1) (by omega) (by omega)) v
theorem Qmd {k:Nat} (st:BodyStep M lo w w') (h1:lo<=k) (h2:k<w.heap.size) (h3:¬M w k):w'.heap[k]?=w.heap[k]?/\¬M w' k :=
 ⟨st.keep k h1 h2 h3,fun hm=>by
  rcases st.new k hm with x|x|x
  ·omega
  ·exact h3 x
  omega⟩
def AtI (M:World->Nat->Prop) (Z l:Nat) (enc:Int) (b:ByteArray) (J:List Vm.At->World->Prop) (pre:List Vm.Sg) (w:World):Prop :=
 ∃out h,Vm.Told pre out h/\h<=4/\J out w/\Bx M Z l enc b h w
set_option maxHeartbeats 4000000 in
theorem Qci (b:ByteArray) (enc:Int) (Be Bb:Nat) (hb:b.size<=1099511627776) (h0:0<=enc) (h3:enc<=3) :
  Iters prog 135 #[.pointer (some ⟨Be,0,none⟩),.pointer (some ⟨Bb,0,none⟩)] encAt (Vm.atoms enc b.data.toList)
   (fun w=>Tabs w/\w.cell? ⟨Be,0,none⟩=some (.int .i64 enc)/\w.cell? ⟨Bb,0,none⟩=some (.string b)):=by
 intro M l J Jx W hM hJ hJx hN hY hj
 have hfo:prog.follows Departure.mixedOrders=true:=by kernel_rfl
 obtain⟨ht,ce,cb⟩:=(hN _ _ hj).1
 have hM0:=(hN _ _ hj).2
 have hze:=Z3 ce
 have hzb:=Z3 cb
 refine (callsIn_wide (n:=9)).1 ?_
 refine callsIn_of_wp_marks func135 rfl trivial ?_ rfl
 simp only[ntmps135,List.size_toArray,List.length_cons,List.length_nil,Nat.reduceAdd,Nat.reduceSub,Array.replicate_succ,Array.replicate_zero,List.push_toArray,List.append_toArray,List.nil_append,List.cons_append]
 gi_wp2_with fail
 refine⟨trivial,(callsIn_wide.2 (Qli _ _ _)).mono ?_⟩
 rintro e w1 ⟨rfl,hw1⟩
 simp only[World.size_alloc] at hw1 ⊢
 have hs1:w1.heap.size=W.heap.size+4:=by rw[hw1];simp
 have hb1:Below W.heap.size W w1:=by
  rw[hw1];exact ((((Below.refl _ W).alloc (Z6 _) _).alloc (by simp) _).alloc (by simp;omega) _).alloc (by simp;omega) _
 have cy:w1.cell? ⟨W.heap.size,0,none⟩=some (.func (.yield l) #[] #[]):=by rw[hw1];simp [go_sem]
 have ch:w1.cell? ⟨W.heap.size+1,0,none⟩=some (.int .i64 ((0:Nat):Int)):=by rw[hw1];simp [go_sem]
 have cf:w1.frozen? ⟨W.heap.size+1,0,none⟩=false:=by rw[hw1];simp [go_sem]
 have c2:w1.cell? ⟨W.heap.size+2,0,none⟩=some (.int .i64 enc):=by rw[hw1];simp [go_sem]
 have c3:w1.cell? ⟨W.heap.size+3,0,none⟩=some (.string b):=by rw[hw1];simp [go_sem]
 clear hw1
 have st1:ItStep M W.heap.size W w1:=ItStep.of_below hb1 (Z6 _) hM0
 have nm1:∀k,W.heap.size<=k->k<W.heap.size+4->¬M w1 k:=fun k h _ hm=>by have:=hM0 k (st1.same hM k hm);omega
 have hI0:AtI M W.heap.size l enc b J [] w1:=⟨[],0,Vm.Told.nil,by omega,hJ _ _ _ hj st1,by omega,ch,cf,cy,c2,c3,nm1⟩
 have hsl:W.heap.size+4<=w1.heap.size:=by omega
 have hsu:w1.heap.size<=W.heap.size+4:=by omega
 clear hs1
 gi_wp2
 refine QfW (gf:=159) rfl (enters_of func159 (by kernel_rfl) rfl) (QlS b enc _ _ hb h0 h3) (fun _=>rfl) M (hM.of (by omega))
  (AtI M W.heap.size l enc b J) (fun c _ w=>c=.ret/\∃out,out <+: Vm.atoms enc b.data.toList/\Jx out w) ?hI ?hIx ?hN hI0 ?a1 ?assign ?body ?done ?stop
 case hI =>
  rintro s A B ⟨out,h,t,h4,hjo,bx⟩ st;exact⟨out,h,t,h4,hJ _ _ _ hjo (st.mono (by omega)),bx.it hM (by omega) st⟩
 case hIx =>
  rintro c s A B ⟨hc,out,hp,hx⟩ st;exact⟨hc,out,hp,hJx _ _ _ hx (st.mono (by omega))⟩
 case hN =>
  rintro s A ⟨out,h,t,h4,hjo,bx⟩;exact⟨⟨(hN _ _ hjo).1.1,bx.e,bx.b⟩,(hN _ _ hjo).2⟩
 case assign =>
  intro l x W K hK;dsimp only [encSg];gi_wp2;exact hK
 case body =>
  rintro l2 pre x W2 hsz ⟨r,hr⟩ hl2 ⟨out,h,t,h4,hjo,bx⟩ hpre;obtain⟨hx1,hx4⟩:=Vm.QmG hpre;have ch:=bx.held;have cf:=bx.fz;have cy:=bx.y;obtain⟨xc,xs⟩:=x;simp only at hx1 hx4;by_cases hh:0<h
  ·by_cases h10:xc=10
   ·subst h10;have t2:=t.crlf hh (x:=(10,xs)) rfl;have hp2:out++[(1,10,xs+h)] <+: Vm.atoms enc b.data.toList:=t2.pre hpre;have bx2:Bx M W.heap.size l enc b 0 (W2.setCell ⟨W.heap.size+1,0,none⟩ (.int .i64 0)):=bx.set hM 0;have hj2:=hJ _ _ _ hjo (bx.step (.int .i64 0));have bs2:BodyStep M w1.heap.size W2 (W2.setCell ⟨W.heap.size+1,0,none⟩ (.int .i64 0)):=BodyStep.setCell W2 (show W.heap.size+1<w1.heap.size by omega) _ (fun k hm=>(bx.step _).same hM k hm);have cy2:=bx2.y;obtain⟨fn,tmps,assign,body,hy,hR⟩:=hY out _ _ hj2 (by have:=bx2.sz;omega) hp2;have hy2:(Instr.yield l #[.agg #[.int .i64 1,.int .i32 10,.int .i64 ((xs:Int)+(h:Int))]]).run prog (W2.setCell ⟨W.heap.size+1,0,none⟩ (.int .i64 0))=.ok (.round l fn tmps assign body) (W2.setCell ⟨W.heap.size+1,0,none⟩ (.int .i64 0)):=by rw[<-Int.natCast_add];exact hy
    have T2:=hide t2;have P2:=hide hp2;clear hy t2 hp2;gi_wp2;refine (Qam (some l2) hR).mono ?_;rintro e W3 (⟨rfl,hJ3,hk3⟩|⟨rfl,hJx3,hkx⟩)
    ·gi_wp2;exact⟨bs2.trans (hk3.mono (by omega)),_,_,T2.o,by omega,hJ3,bx2.body hk3⟩
    gi_wp2;exact⟨bs2.trans (hkx.mono (by omega)),rfl,_,P2.o,hJx3⟩
   have h10':(xc==10)=false:=by simpa using h10
   have hp1:out++[(2,10,h)] <+: Vm.atoms enc b.data.toList:=t.pre_cr hh (x:=(xc,xs)) h10 hpre;obtain⟨fn,tmps,assign,body,hy,hR⟩:=hY out _ _ hjo (by have:=bx.sz;omega) hp1;simp only[encAt] at hy;have P1:=hide hp1;have H10:=hide h10;clear hp1 h10;by_cases h13:xc=13
   ·subst h13;have t2:=t.cr2 hh (x:=(13,xs)) rfl;have T2:=hide t2;clear t2;gi_wp2;refine (Qam (some l2) hR).mono ?_;rintro e W3 (⟨rfl,hJ3,hk3⟩|⟨rfl,hJx3,hkx⟩)
    ·have bx1:=bx.body hk3;have ch1:=bx1.held;have cf1:=bx1.fz;have bx2:Bx M W.heap.size l enc b 0 (W3.setCell ⟨W.heap.size+1,0,none⟩ (.int .i64 0)):=bx1.set hM 0;have bx3:=bx2.set hM xs;have hj2:=hJ _ _ _ hJ3 (bx1.step (.int .i64 0));have hj3:=hJ _ _ _ hj2 (bx2.step (.int .i64 xs));have bs2:BodyStep M w1.heap.size W2 (W3.setCell ⟨W.heap.size+1,0,none⟩ (.int .i64 0)):=(hk3.mono (by omega)).trans (BodyStep.setCell W3 (show W.heap.size+1<w1.heap.size by omega) _ (fun k hm=>(bx1.step _).same hM k hm));have bs3:=bs2.trans (BodyStep.setCell _ (show (⟨W.heap.size+1,0,none⟩:Addr).block<w1.heap.size by show W.heap.size+1<_;omega) (.int .i64 xs) (fun k hm=>(bx2.step _).same hM k hm));gi_wp2;exact⟨bs3,_,_,T2.o,by omega,hj3,bx3⟩
    gi_wp2;exact⟨hkx.mono (by omega),rfl,_,P1.o,hJx3⟩
   have h13':(xc==13)=false:=by simpa using h13
   have t2:=t.one2 hh (x:=(xc,xs)) h13 H10.o;have hp2:out++[(2,10,h)]++[Vm.singleA (xc,xs)] <+: Vm.atoms enc b.data.toList:=t2.pre hpre;have T2:=hide t2;have P2:=hide hp2;have H13:=hide h13;clear t2 hp2 h13;gi_wp2;refine (Qam (some l2) hR).mono ?_;rintro e W3 (⟨rfl,hJ3,hk3⟩|⟨rfl,hJx3,hkx⟩)
   ·have bx1:=bx.body hk3;have ch1:=bx1.held;have cf1:=bx1.fz;have bx2:Bx M W.heap.size l enc b 0 (W3.setCell ⟨W.heap.size+1,0,none⟩ (.int .i64 0)):=bx1.set hM 0;have hj2:=hJ _ _ _ hJ3 (bx1.step (.int .i64 0));have bs2:BodyStep M w1.heap.size W2 (W3.setCell ⟨W.heap.size+1,0,none⟩ (.int .i64 0)):=(hk3.mono (by omega)).trans (BodyStep.setCell W3 (show W.heap.size+1<w1.heap.size by omega) _ (fun k hm=>(bx1.step _).same hM k hm));have cy2:=bx2.y;clear hR hy;gi_wp2;generalize hw3:W3.setCell ⟨W.heap.size+1,0,none⟩ (.int .i64 0)=w3 at *;have HW:=hide hw3;clear hw3;have hM3:=(hN _ _ hj2).2
    have hs8:∀w,CallsIn (Fence.wide.inRound l2) 6 prog 137 #[.int .i32 xc,.int .i64 (xs:Int)] w fun e w'=>e=.returned (.agg #[.int .i64 (Vm.singleA (xc,xs)).1,.int .i32 (Vm.singleA (xc,xs)).2.1,.int .i64 ((Vm.singleA (xc,xs)).2.2:Nat)])/\Below w.heap.size w w' :=
     fun w=>CallsIn.inRound l2 (callsIn_wide.2 (QhR (xc,xs) w))
    have hnx:∀w4,Below w3.heap.size w3.drew w4->Bx M W.heap.size l enc b 0 w4/\BodyStep M w1.heap.size w3 w4/\∃fn tmps assign body,(Instr.yield l #[.agg #[.int .i64 (Vm.singleA (xc,xs)).1,.int .i32 (Vm.singleA (xc,xs)).2.1,.int .i64 ((Vm.singleA (xc,xs)).2.2:Nat)]]).run prog w4=.ok (.round l fn tmps assign body) w4 /\
      RoundIn (Fence.wide.inRound l2) 6 prog l fn tmps assign body w4 fun e W'=>∃q:Bool,e=.returned (.bool q)/\Hid ((q=true/\(J (out++[(2,10,h)]++[Vm.singleA (xc,xs)]) W'/\BodyStep M W.heap.size w4 W'))\/(q=false/\(Jx (out++[(2,10,h)]++[Vm.singleA (xc,xs)]) W'/\BodyStep M W.heap.size w4 W'))):=fun w4 hb4=>by
     have be4:=QbX hb4
     have bx4:=bx2.it hM (Z6 _) (ItStep.of_below be4 bx2.sz hM3)
     have hj4:=hJ _ _ _ hj2 (ItStep.of_below be4 (by have:=bx2.sz;omega) hM3)
     obtain⟨fn,tmps,assign,body,hy4,hR⟩:=hY (out++[(2,10,h)]) _ _ hj4 (by have:=bx4.sz;omega) P2.o
     exact⟨bx4,BodyStep.of_below (hM.of (by omega)) be4 (by have:=bx2.sz;omega),fn,tmps,assign,body,hy4,Qgf (some l2) _ hR⟩
    have HN:=hide hnx;clear hnx
    gi_region_with_o (first
     |(refine⟨trivial,?_⟩;gi_at_call 137;refine (hs8 _).mono ?_;rintro e w4 ⟨rfl,hb4⟩;obtain⟨bx4,bs4,fn,tmps,assign,body,hy4,hR⟩:=HN.o w4 hb4;have cy4:=bx4.y)
     |(refine hR.mono ?_;rintro e W5 ⟨q,rfl,Hq⟩))
    all_goals
     rcases Hq.o with ⟨rfl,hJ5,hk5⟩|⟨rfl,hJx5,hkx5⟩
     ·gi_wp2;exact⟨bs2.trans (bs4.trans (hk5.mono (by omega))),_,_,T2.o,by omega,hJ5,bx4.body hk5⟩
     gi_wp2;exact⟨bs2.trans (bs4.trans (hkx5.mono (by omega))),rfl,_,P2.o,hJx5⟩
   gi_wp2;exact⟨hkx.mono (by omega),rfl,_,P1.o,hJx3⟩
  have hh0:h=0:=by omega
  subst hh0;by_cases h13:xc=13
  ·subst h13;have t2:=t.cr rfl (x:=(13,xs)) rfl;have bx2:Bx M W.heap.size l enc b 0 (W2.setCell ⟨W.heap.size+1,0,none⟩ (.int .i64 0)):=bx.set hM 0;have bx3:=bx2.set hM xs;have hj2:=hJ _ _ _ hjo (bx.step (.int .i64 0));have hj3:=hJ _ _ _ hj2 (bx2.step (.int .i64 xs));have bs2:BodyStep M w1.heap.size W2 (W2.setCell ⟨W.heap.size+1,0,none⟩ (.int .i64 0)):=BodyStep.setCell W2 (show W.heap.size+1<w1.heap.size by omega) _ (fun k hm=>(bx.step _).same hM k hm);have bs3:=bs2.trans (BodyStep.setCell _ (show (⟨W.heap.size+1,0,none⟩:Addr).block<w1.heap.size by show W.heap.size+1<_;omega) (.int .i64 xs) (fun k hm=>(bx2.step _).same hM k hm));have T2:=hide t2;clear t2;gi_wp2;refine⟨fun _ h=>(by cases h),?_⟩;gi_wp2;exact⟨bs3,_,_,T2.o,by omega,hj3,bx3⟩
  have h13':(xc==13)=false:=by simpa using h13
  have t2:=t.one rfl (x:=(xc,xs)) h13;have hp2:out++[Vm.singleA (xc,xs)] <+: Vm.atoms enc b.data.toList:=t2.pre hpre;have bx2:Bx M W.heap.size l enc b 0 (W2.setCell ⟨W.heap.size+1,0,none⟩ (.int .i64 0)):=bx.set hM 0;have hj2:=hJ _ _ _ hjo (bx.step (.int .i64 0));have bs2:BodyStep M w1.heap.size W2 (W2.setCell ⟨W.heap.size+1,0,none⟩ (.int .i64 0)):=BodyStep.setCell W2 (show W.heap.size+1<w1.heap.size by omega) _ (fun k hm=>(bx.step _).same hM k hm);have cy2:=bx2.y;have T2:=hide t2;have P2:=hide hp2;have H13:=hide h13;clear t2 hp2 h13;gi_wp2;refine⟨fun _ h=>(by cases h),?_⟩;gi_wp2;generalize hw3:W2.setCell ⟨W.heap.size+1,0,none⟩ (.int .i64 0)=w3 at *;have HW:=hide hw3;clear hw3;have hM3:=(hN _ _ hj2).2
  have hs8:∀w,CallsIn (Fence.wide.inRound l2) 6 prog 137 #[.int .i32 xc,.int .i64 (xs:Int)] w fun e w'=>e=.returned (.agg #[.int .i64 (Vm.singleA (xc,xs)).1,.int .i32 (Vm.singleA (xc,xs)).2.1,.int .i64 ((Vm.singleA (xc,xs)).2.2:Nat)])/\Below w.heap.size w w' :=
   fun w=>CallsIn.inRound l2 (callsIn_wide.2 (QhR (xc,xs) w))
  have hnx:∀w4,Below w3.heap.size w3.drew w4->Bx M W.heap.size l enc b 0 w4/\BodyStep M w1.heap.size w3 w4/\∃fn tmps assign body,(Instr.yield l #[.agg #[.int .i64 (Vm.singleA (xc,xs)).1,.int .i32 (Vm.singleA (xc,xs)).2.1,.int .i64 ((Vm.singleA (xc,xs)).2.2:Nat)]]).run prog w4=.ok (.round l fn tmps assign body) w4 /\
    RoundIn (Fence.wide.inRound l2) 6 prog l fn tmps assign body w4 fun e W'=>∃q:Bool,e=.returned (.bool q)/\Hid ((q=true/\(J (out++[Vm.singleA (xc,xs)]) W'/\BodyStep M W.heap.size w4 W'))\/(q=false/\(Jx (out++[Vm.singleA (xc,xs)]) W'/\BodyStep M W.heap.size w4 W'))):=fun w4 hb4=>by
   have be4:=QbX hb4
   have bx4:=bx2.it hM (Z6 _) (ItStep.of_below be4 bx2.sz hM3)
   have hj4:=hJ _ _ _ hj2 (ItStep.of_below be4 (by have:=bx2.sz;omega) hM3)
   obtain⟨fn,tmps,assign,body,hy4,hR⟩:=hY (out) _ _ hj4 (by have:=bx4.sz;omega) P2.o
   exact⟨bx4,BodyStep.of_below (hM.of (by omega)) be4 (by have:=bx2.sz;omega),fn,tmps,assign,body,hy4,Qgf (some l2) _ hR⟩
  have HN:=hide hnx;clear hnx
  gi_region_with_o (first
   |(refine⟨trivial,?_⟩;gi_at_call 137;refine (hs8 _).mono ?_;rintro e w4 ⟨rfl,hb4⟩;obtain⟨bx4,bs4,fn,tmps,assign,body,hy4,hR⟩:=HN.o w4 hb4;have cy4:=bx4.y)
   |(refine hR.mono ?_;rintro e W5 ⟨q,rfl,Hq⟩))
  all_goals
   rcases Hq.o with ⟨rfl,hJ5,hk5⟩|⟨rfl,hJx5,hkx5⟩
   ·gi_wp2;exact⟨bs2.trans (bs4.trans (hk5.mono (by omega))),_,_,T2.o,by omega,hJ5,bx4.body hk5⟩
   gi_wp2;exact⟨bs2.trans (bs4.trans (hkx5.mono (by omega))),rfl,_,P2.o,hJx5⟩
 case done =>
  rintro W2 hsz ⟨out,h,t,h4,hjo,bx⟩ hK hmK;have ch:=bx.held;have cy:=bx.y;by_cases hh:0<h
  ·have hall:Vm.atoms enc b.data.toList=out++[(2,10,h)]:=by have:=t.all;rw[if_pos hh] at this;exact this
   obtain⟨fn,tmps,assign,body,hy,hR⟩:=hY out (2,10,h) _ hjo (by have:=bx.sz;omega) (by rw[hall];exact⟨[],by simp⟩);simp only[encAt] at hy;have HA:=hide hall;clear hall;gi_wp2;refine (Qam none hR).mono ?_;rintro e W3 (⟨rfl,hJ3,hk3⟩|⟨rfl,hJx3,hkx⟩)
   ·obtain⟨hK3,hm3⟩:=Qmd hk3 (show W.heap.size<=w1.heap.size by omega) hsz hmK;rw[hK] at hK3;gi_wp2;refine⟨by simp,.inl ⟨_,_,rfl,run_takeDeferred hK3,?_⟩⟩;exact⟨_,results_none rfl _ _ _,⟨_,rfl⟩,.inl (by rw[HA.o];exact hJ _ _ _ hJ3 (ItStep.putObj _ (by omega) hm3))⟩
   obtain⟨hK3,hm3⟩:=Qmd hkx (show W.heap.size<=w1.heap.size by omega) hsz hmK;rw[hK] at hK3;gi_wp2;refine⟨by simp,.inl ⟨_,_,rfl,run_takeDeferred hK3,?_⟩⟩;exact⟨_,results_none rfl _ _ _,⟨_,rfl⟩,.inr ⟨_,⟨[],by rw[HA.o];simp⟩,hJx _ _ _ hJx3 (ItStep.putObj _ (by omega) hm3)⟩⟩
  obtain rfl:h=0:=by omega
  have hall:Vm.atoms enc b.data.toList=out:=by have:=t.all;rw[if_neg (by omega),List.append_nil] at this;exact this
  have HA:=hide hall;clear hall;gi_wp2;refine⟨by simp,.inl ⟨_,_,rfl,run_takeDeferred hK,?_⟩⟩;exact⟨_,results_none rfl _ _ _,⟨_,rfl⟩,.inl (by rw[HA.o];exact hJ _ _ _ hjo (ItStep.putObj _ (by omega) hmK))⟩
 case stop =>
  rintro c pre W2 hsz hpre ⟨rfl,out,hp,hjx⟩ hK hmK;gi_wp2;refine⟨by simp,.inl ⟨_,_,rfl,run_takeDeferred hK,?_⟩⟩;exact⟨_,results_none rfl _ _ _,⟨_,rfl⟩,.inr ⟨_,hp,hJx _ _ _ hjx (ItStep.putObj _ (by omega) hmK)⟩⟩
end Go.Proofs.YtoejbngihecafaaGreatDoor
