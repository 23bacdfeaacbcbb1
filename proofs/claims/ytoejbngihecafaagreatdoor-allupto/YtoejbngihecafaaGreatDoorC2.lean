import Derived.Test.YtoejbngihecafaaGreatDoorProg
import Derived.WalkKit
import Derived.WalkSpells
import Derived.WalkLawsBesides
import Derived.Deep.QuietTactic
import Derived.BigQuiet
import Derived.Deep.RegionHeld3
import Derived.Test.YtoejbngihecafaaGreatDoorC1
import Derived.Test.YtoejbngihecafaaGreatDoorC0
open Go.Proofs.Tryz
namespace Go.Proofs.YtoejbngihecafaaGreatDoor
open Go.RowKit
variable {w w':World}
structure TabSeq (w:World):Prop where
 up:∀k:Nat,k<11->w.cell? ⟨6,k * 5,none⟩=some (.int .u8 (Vm.sqUp k))
 size:∀k:Nat,k<11->w.cell? ⟨6,k * 5+1,none⟩=some (.int .i64 (Vm.sqSize k))
 bits:∀k:Nat,k<11->w.cell? ⟨6,k * 5+2,none⟩=some (.int .u8 (Vm.sqBits k))
 least:∀k:Nat,k<11->w.cell? ⟨6,k * 5+3,none⟩=some (.int .u8 (Vm.sqLeast k))
 most:∀k:Nat,k<11->w.cell? ⟨6,k * 5+4,none⟩=some (.int .u8 (Vm.sqMost k))
theorem Z3 {b o:Nat} {v:Value} (h:w.cell? ⟨b,o,none⟩=some v):b<w.heap.size:=by
 unfold World.cell? at h;by_cases hb:b<w.heap.size
 ·exact hb
 rw[Array.getElem?_eq_none (show w.heap.size<=b by omega)] at h;simp at h
set_option maxHeartbeats 400000 in
theorem Qi4 (c:Int) (w:World) (_h0:0<=c) (h1:c<=255) (ht:TabSeq w) :
  Calls prog 172 #[.int .u8 c] w fun e w'=>e=.returned (.agg #[.int .u8 (Vm.sqUp (Vm.sqRow c)),.int .i64 (Vm.sqSize (Vm.sqRow c)),.int .u8 (Vm.sqBits (Vm.sqRow c)),.int .u8 (Vm.sqLeast (Vm.sqRow c)),.int .u8 (Vm.sqMost (Vm.sqRow c))])/\Below w.heap.size w w':=by
 have hz:6<w.heap.size:=Z3 (ht.up 0 (by omega))
 have hr:=Vm.QjM c
 go_enter func172,ntmps172
 go_wp2
 go_loop [3] (fun i=>∃k:Nat,k<=Vm.sqRow c/\i=.int .i64 k) (fun i=>11 - (intOf i).toNat)
 case atStart=>exact⟨0,Nat.zero_le _,rfl⟩
 case round =>
  obtain⟨k,hk,rfl⟩:=hrel;have c0:=ht.up k (by omega);have c1:=ht.size k (by omega);have c2:=ht.bits k (by omega);have c3:=ht.least k (by omega);have c4:=ht.most k (by omega);have hu:=Vm.Qon k;by_cases hlt:Vm.sqUp k<c
  ·have hk2:k<Vm.sqRow c:=by
    have:=@Vm.QjI c k hk;have:=Vm.QnG h1;by_cases e:k=Vm.sqRow c
    ·rw[<-e] at this;omega
    omega
   go_wp2;go_round
   case rel=>exact⟨k+1,by omega,by go_num⟩
   case measure=>simp [intOf];omega
  have hk2:k=Vm.sqRow c:=Vm.QjI hk (by omega);subst hk2;go_wp2;exact bodyPost_ret (v:=.agg #[.int .u8 (Vm.sqUp (Vm.sqRow c)),.int .i64 (Vm.sqSize (Vm.sqRow c)),.int .u8 (Vm.sqBits (Vm.sqRow c)),.int .u8 (Vm.sqLeast (Vm.sqRow c)),.int .u8 (Vm.sqMost (Vm.sqRow c))]) (by simp [results,Tryz.results172,go_sem]) rfl ⟨rfl,Z7 _ _⟩
theorem Qbv {a b:Bool} (h:a=b):Ending.returned (.bool a)=.returned (.bool b):=by rw[h]
theorem Qc5 {k:IntKind} {a b:Int} (h:a=b):Ending.returned (.int k a)=.returned (.int k b):=by rw[h]
set_option maxHeartbeats 400000 in
theorem QgH (u n b l m k c:Int) (w:World) :
  Calls prog 173 #[.agg #[.int .u8 u,.int .i64 n,.int .u8 b,.int .u8 l,.int .u8 m],.int .i64 k,.int .u8 c] w fun e w' =>
   e=.returned (.bool (Vm.goesOnB l m k c))/\Below w.heap.size w w':=by
 by_cases hk:k=1
 ·subst hk;by_cases h1:l<=c
  ·by_cases h2:c<=m
   ·go_enter func173,ntmps173;go_wp2;go_ret;exact⟨Qbv (by simp [Vm.goesOnB,h1,h2]),Z7 _ _⟩
   go_enter func173,ntmps173;go_wp2;go_ret;exact⟨Qbv (by simp [Vm.goesOnB,h2]),Z7 _ _⟩
  go_enter func173,ntmps173;go_wp2;go_ret;exact⟨Qbv (by simp [Vm.goesOnB];omega),Z7 _ _⟩
 have hk':(k==1)=false:=by simpa using hk
 by_cases h1:128<=c
 ·by_cases h2:c<=191
  ·go_enter func173,ntmps173;go_wp2;go_ret;exact⟨Qbv (by simp [Vm.goesOnB,hk,h1,h2]),Z7 _ _⟩
  go_enter func173,ntmps173;go_wp2;go_ret;exact⟨Qbv (by simp [Vm.goesOnB,hk,h2]),Z7 _ _⟩
 go_enter func173,ntmps173
 go_wp2
 go_ret
 exact⟨Qbv (by simp [Vm.goesOnB,hk];omega),Z7 _ _⟩
structure TabHalf (w:World):Prop where
 c0:w.cell? ⟨5,0,none⟩=some (.int .i32 55296)
 c1:w.cell? ⟨5,1,none⟩=some (.int .i32 56319)
 c2:w.cell? ⟨5,2,none⟩=some (.int .i32 56320)
 c3:w.cell? ⟨5,3,none⟩=some (.int .i32 57343)
theorem TabHalf.below (h:TabHalf w) (hb:Below w.heap.size w w'):TabHalf w' :=
 ⟨(hb.cell (p:=⟨5,0,none⟩) (Z3 h.c0)).trans h.c0,(hb.cell (p:=⟨5,1,none⟩) (Z3 h.c0)).trans h.c1,(hb.cell (p:=⟨5,2,none⟩) (Z3 h.c0)).trans h.c2,(hb.cell (p:=⟨5,3,none⟩) (Z3 h.c0)).trans h.c3⟩
theorem TabSeq.below (h:TabSeq w) (hb:Below w.heap.size w w'):TabSeq w':=by
 have hz:=Z3 (h.up 0 (by omega))
 exact⟨fun k hk=>(hb.cell (p:=⟨_,_,none⟩) hz).trans (h.up k hk),fun k hk=>(hb.cell (p:=⟨_,_,none⟩) hz).trans (h.size k hk),fun k hk=>(hb.cell (p:=⟨_,_,none⟩) hz).trans (h.bits k hk),
  fun k hk=>(hb.cell (p:=⟨_,_,none⟩) hz).trans (h.least k hk),fun k hk=>(hb.cell (p:=⟨_,_,none⟩) hz).trans (h.most k hk)⟩
set_option maxHeartbeats 400000 in
theorem QdS (u:Int) (w:World) (ht:TabHalf w) :
  Calls prog 175 #[.int .i32 u] w fun e w'=>e=.returned (.int .i32 (Vm.aloneI u))/\Below w.heap.size w w':=by
 have hz:5<w.heap.size:=Z3 ht.c0
 obtain⟨c0,c1,c2,c3⟩:=ht
 have i0:∀w,(Instr.index 240 (.agg #[.int .i32 55296,.int .i32 56319,.int .i32 56320,.int .i32 57343]) (.int .i64 0)).run prog w=.ok (.agg #[.int .i32 55296,.int .i32 56319]) w:=fun _=>by kernel_rfl
 have i1:∀w,(Instr.index 240 (.agg #[.int .i32 55296,.int .i32 56319,.int .i32 56320,.int .i32 57343]) (.int .i64 1)).run prog w=.ok (.agg #[.int .i32 56320,.int .i32 57343]) w:=fun _=>by kernel_rfl
 have hcase:u<55296\/(55296<=u/\u<=56319)\/(56320<=u/\u<=57343)\/57343<u:=by omega
 rcases hcase with h|⟨h,h'⟩|⟨h,h'⟩|h
 ·have ea:Vm.aloneI u=u:=by unfold Vm.aloneI;rw[if_neg (by omega)]
  rw[ea];clear ea;have g1:¬55296<=u:=by omega
  have g2:¬56320<=u:=by omega
  go_enter func175,ntmps175;go_wp2;refine wp_loop_rounds 3 ?_;rw[rounds_succ];go_wp2;rw[rounds_succ];go_wp2;rw[rounds_succ];go_wp2;go_ret;exact⟨rfl,by repeat (first|exact Below.refl _ _|refine Below.alloc ?_ (by simp) _)⟩
 ·have ea:Vm.aloneI u = -1:=by unfold Vm.aloneI;rw[if_pos (by omega)]
  rw[ea];clear ea;go_enter func175,ntmps175;go_wp2;refine wp_loop_rounds 1 ?_;rw[rounds_succ];go_wp2;go_ret;exact⟨rfl,by repeat (first|exact Below.refl _ _|refine Below.alloc ?_ (by simp) _)⟩
 ·have ea:Vm.aloneI u = -1:=by unfold Vm.aloneI;rw[if_pos (by omega)]
  rw[ea];clear ea;have g1:55296<=u:=by omega
  have g2:¬u<=56319:=by omega
  go_enter func175,ntmps175;go_wp2;refine wp_loop_rounds 2 ?_;rw[rounds_succ];go_wp2;rw[rounds_succ];go_wp2;go_ret;exact⟨rfl,by repeat (first|exact Below.refl _ _|refine Below.alloc ?_ (by simp) _)⟩
 have ea:Vm.aloneI u=u:=by unfold Vm.aloneI;rw[if_neg (by omega)]
 rw[ea];clear ea
 have g1:55296<=u:=by omega
 have g2:¬u<=56319:=by omega
 have g3:56320<=u:=by omega
 have g4:¬u<=57343:=by omega
 go_enter func175,ntmps175
 go_wp2
 refine wp_loop_rounds 3 ?_
 rw[rounds_succ]
 go_wp2
 rw[rounds_succ]
 go_wp2
 rw[rounds_succ]
 go_wp2
 go_ret
 exact⟨rfl,by repeat (first|exact Below.refl _ _|refine Below.alloc ?_ (by simp) _)⟩
def markB (enc:Int):ByteArray:=if enc=0 then ⟨#[239,187,191]⟩ else if enc=1 then ⟨#[255,254]⟩ else if enc=2 then ⟨#[254,255]⟩ else ⟨#[]⟩
structure TabEnc (w:World):Prop where
 m0:w.cell? ⟨2,0,none⟩=some (.string (markB 0))
 g0:w.cell? ⟨2,1,none⟩=some (.int .i32 1114111)
 l0:w.cell? ⟨2,2,none⟩=some (.int .i64 0)
 h0:w.cell? ⟨2,3,none⟩=some (.int .i64 0)
 m1:w.cell? ⟨2,4,none⟩=some (.string (markB 1))
 g1:w.cell? ⟨2,5,none⟩=some (.int .i32 1114111)
 l1:w.cell? ⟨2,6,none⟩=some (.int .i64 0)
 h1:w.cell? ⟨2,7,none⟩=some (.int .i64 1)
 m2:w.cell? ⟨2,8,none⟩=some (.string (markB 2))
 g2:w.cell? ⟨2,9,none⟩=some (.int .i32 1114111)
 l2:w.cell? ⟨2,10,none⟩=some (.int .i64 1)
 h2:w.cell? ⟨2,11,none⟩=some (.int .i64 0)
 m3:w.cell? ⟨2,12,none⟩=some (.string (markB 3))
 g3:w.cell? ⟨2,13,none⟩=some (.int .i32 255)
 l3:w.cell? ⟨2,14,none⟩=some (.int .i64 0)
 h3:w.cell? ⟨2,15,none⟩=some (.int .i64 0)
theorem TabEnc.below (h:TabEnc w) (hb:Below w.heap.size w w'):TabEnc w':=by
 have hz:=Z3 h.m0;have g:∀o,w'.cell? ⟨2,o,none⟩=w.cell? ⟨2,o,none⟩:=fun o=>hb.cell (p:=⟨_,o,none⟩) hz;exact⟨(g _).trans h.m0,(g _).trans h.g0,(g _).trans h.l0,(g _).trans h.h0,(g _).trans h.m1,(g _).trans h.g1,(g _).trans h.l1,(g _).trans h.h1,(g _).trans h.m2,(g _).trans h.g2,(g _).trans h.l2,(g _).trans h.h2,(g _).trans h.m3,(g _).trans h.g3,(g _).trans h.l3,(g _).trans h.h3⟩
theorem Qmh (h l:Int) (h0:0<=h) (h1:h<=255) (l0:0<=l) (l1:l<=255):bits BinOp.or IntKind.i32 (h * 256) l=256 * h+l:=by
 rw[bits_join .i32 31 (by decide) wraps_i32 8 (h * 256) l (by omega) (by omega) (by omega) l0 (by omega) (by omega)];omega
theorem Qgr (x y:UInt8):bits BinOp.or IntKind.i32 (IntKind.i32.wrap (IntKind.i32.wrap (x.toNat:Int) * 256)) (IntKind.i32.wrap (y.toNat:Int))=256 * (x.toNat:Int)+(y.toNat:Int):=by
 have h1:=x.toNat_lt;have h2:=y.toNat_lt;have e1:IntKind.i32.wrap (x.toNat:Int)=x.toNat:=by rw[IntKind.wrap_i32];omega
 have e2:IntKind.i32.wrap (y.toNat:Int)=y.toNat:=by rw[IntKind.wrap_i32];omega
 have e3:IntKind.i32.wrap ((x.toNat:Int) * 256)=x.toNat * 256:=by rw[IntKind.wrap_i32];omega
 rw[e1,e2,e3];exact Qmh _ _ (by omega) (by omega) (by omega) (by omega)
set_option maxHeartbeats 400000 in
theorem QmS (b:ByteArray) (a enc:Int) (w:World) (h0:0<=a) (h1:(b.size:Int)<=a+1) (ha:a<4611686018427387904) :
  Calls prog 174 #[.string b,.int .i64 a,.int .i64 enc] w fun e w'=>e=.returned (.int .i32 (-1))/\Below w.heap.size w w':=by
 go_enter func174,ntmps174
 go_wp2
 go_ret
 exact⟨rfl,Below.refl _ _⟩
set_option maxHeartbeats 400000 in
theorem Qjk (b:ByteArray) (i:Nat) (w:World) (hb:b.size<=1099511627776) (h1:i+1<b.size) (ht:TabEnc w) :
  Calls prog 174 #[.string b,.int .i64 i,.int .i64 1] w fun e w'=>e=.returned (.int .i32 (Vm.unitAt 1 b.data.toList i))/\Below w.heap.size w w':=by
 have c0:=ht.m1
 have cg:=ht.g1
 have c1:=ht.l1
 have c2:=ht.h1
 have hz:=Z3 c0
 have hI:(i:Int)+1<(b.size:Int):=by omega
 have e1:=b[i].toNat_lt
 have e2:=b[i+1].toNat_lt
 go_enter func174,ntmps174
 go_wp2
 have hwr:IntKind.i64.wrap ((i:Int)+1)=(i:Int)+1:=by rw[IntKind.wrap_i64];omega
 have htn:((i:Int)+1).toNat=i+1:=by omega
 have hwr0:IntKind.i64.wrap (i:Int)=(i:Int):=by rw[IntKind.wrap_i64];omega
 go_region_held3 (fun w'=>w'.cell? ⟨w.heap.size,2,none⟩=some (.int .i64 0)/\w'.cell? ⟨w.heap.size,3,none⟩=some (.int .i64 1)) (go_keep) (fail)
 all_goals (go_wp2;go_ret)
 all_goals exact⟨Qc5 (by rw[Qgr];rw[Vm.Qfa,Vm.QaJ b i (by omega),Vm.QaJ b (i+1) h1];omega),(Z7 _ _).drew⟩
set_option maxHeartbeats 400000 in
theorem Qnt (b:ByteArray) (i:Nat) (w:World) (hb:b.size<=1099511627776) (h1:i+1<b.size) (ht:TabEnc w) :
  Calls prog 174 #[.string b,.int .i64 i,.int .i64 2] w fun e w'=>e=.returned (.int .i32 (Vm.unitAt 2 b.data.toList i))/\Below w.heap.size w w':=by
 have c0:=ht.m2
 have cg:=ht.g2
 have c1:=ht.l2
 have c2:=ht.h2
 have hz:=Z3 c0
 have hI:(i:Int)+1<(b.size:Int):=by omega
 have e1:=b[i].toNat_lt
 have e2:=b[i+1].toNat_lt
 go_enter func174,ntmps174
 go_wp2
 have hwr:IntKind.i64.wrap ((i:Int)+1)=(i:Int)+1:=by rw[IntKind.wrap_i64];omega
 have htn:((i:Int)+1).toNat=i+1:=by omega
 have hwr0:IntKind.i64.wrap (i:Int)=(i:Int):=by rw[IntKind.wrap_i64];omega
 go_region_held3 (fun w'=>w'.cell? ⟨w.heap.size,2,none⟩=some (.int .i64 1)/\w'.cell? ⟨w.heap.size,3,none⟩=some (.int .i64 0)) (go_keep) (fail)
 all_goals (go_wp2;go_ret)
 all_goals exact⟨Qc5 (by rw[Qgr];rw[Vm.Qhc,Vm.QaJ b i (by omega),Vm.QaJ b (i+1) h1]),(Z7 _ _).drew⟩
theorem QmU (b:ByteArray) (i:Nat) (enc:Int) (w:World) (hb:b.size<=1099511627776) (hi:i<=b.size+4) (he:enc=1\/enc=2) (ht:TabEnc w) :
  Calls prog 174 #[.string b,.int .i64 i,.int .i64 enc] w fun e w'=>e=.returned (.int .i32 (Vm.unitO enc b i))/\Below w.heap.size w w':=by
 by_cases h:i+1<b.size
 ·have e:Vm.unitO enc b i=Vm.unitAt enc b.data.toList i:=by unfold Vm.unitO;rw[if_pos h]
  rw[e];rcases he with rfl|rfl
  ·exact Qjk b i w hb h ht
  exact Qnt b i w hb h ht
 have e:Vm.unitO enc b i = -1:=by unfold Vm.unitO;rw[if_neg h]
 rw[e]
 exact QmS b i enc w (by omega) (by omega) (by omega)
theorem Qdf (b:ByteArray) (a enc:Int) (w:World) (hb:b.size<=1099511627776) (h0:0<=a) (hi:a<=b.size+4) (he:enc=1\/enc=2) (ht:TabEnc w) :
  Calls prog 174 #[.string b,.int .i64 a,.int .i64 enc] w fun e w'=>e=.returned (.int .i32 (Vm.unitO enc b a.toNat))/\Below w.heap.size w w':=by
 obtain⟨i,rfl⟩:=Int.eq_ofNat_of_zero_le h0
 exact QmU b i enc w hb (by omega) he ht
end Go.Proofs.YtoejbngihecafaaGreatDoor
