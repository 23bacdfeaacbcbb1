import Derived.Test.YtoejbngihecafaaGreatDoorC3
import Derived.Test.YtoejbngihecafaaGreatDoorC8
import Derived.Test.YtoejbngihecafaaGreatDoorC0
set_option maxRecDepth 100000
set_option maxHeartbeats 1000000
open Go.Proofs.Tryz
namespace Go.Proofs.YtoejbngihecafaaGreatDoor
open Go.RowKit
theorem Qaz (s p:ByteArray) (w:World):Calls prog 114 #[.string s,.string p] w fun e w'=>e=.returned (.bool (Lib.hasPrefix s.data.toList p.data.toList))/\w'=w :=
 Any.strings_HasPrefix lays99 s p w
theorem QbL (enc:Int) (w:World) (ht:TabEnc w) (h0:0<=enc) (h3:enc<=3) :
  Calls prog 103 #[.int .i64 enc] w fun e w'=>e=.returned (.string (markB enc))/\Below w.heap.size w w':=by
 have c0:=ht.m0
 have c1:=ht.m1
 have c2:=ht.m2
 have c3:=ht.m3
 generalize e0:markB 0=m0 at *
 generalize e1:markB 1=m1 at *
 generalize e2:markB 2=m2 at *
 generalize e3:markB 3=m3 at *
 have E0:=Z2 e0
 have E1:=Z2 e1
 have E2:=Z2 e2
 have E3:=Z2 e3
 clear e0 e1 e2 e3 ht
 have hcase:enc=0\/enc=1\/enc=2\/enc=3:=by omega
 rcases hcase with rfl|rfl|rfl|rfl
 ·go_enter func103,ntmps103;go_wp2;go_ret;exact⟨Qee E0.o.symm,Below.refl _ _⟩
 ·go_enter func103,ntmps103;go_wp2;go_ret;exact⟨Qee E1.o.symm,Below.refl _ _⟩
 ·go_enter func103,ntmps103;go_wp2;go_ret;exact⟨Qee E2.o.symm,Below.refl _ _⟩
 go_enter func103,ntmps103
 go_wp2
 go_ret
 exact⟨Qee E3.o.symm,Below.refl _ _⟩
theorem QfY {l:List UInt8} {x:UInt8} {p:List UInt8} (h:(x :: p).isPrefixOf l=true):l.head?=some x:=by
 cases l with
 |nil=>simp at h
 |cons y l=>simp at h;simp [h.1]
theorem Qim (b:ByteArray) (enc:Int):sniffTo b enc 3=if Lib.hasPrefix b.data.toList (markB 0).data.toList=true then 0 else if Lib.hasPrefix b.data.toList (markB 1).data.toList=true then 1 else if Lib.hasPrefix b.data.toList (markB 2).data.toList=true then 2 else enc:=by
 have d:∀k:Nat,k<=2->ofMark b k=Lib.hasPrefix b.data.toList (markB k).data.toList:=by
  intro k hk;unfold ofMark Lib.hasPrefix
  have:decide ((markB (k:Int)).size≠0)=true:=by
   have:k=0\/k=1\/k=2:=by omega
   rcases this with rfl|rfl|rfl<;>decide
  rw[this,Bool.true_and]
 have x0:=@QfY b.data.toList 239 [187,191];have x1:=@QfY b.data.toList 255 [254];have x2:=@QfY b.data.toList 254 [255];show (if ofMark b ((2:Nat):Int) then ((2:Nat):Int) else if ofMark b ((1:Nat):Int) then ((1:Nat):Int) else if ofMark b ((0:Nat):Int) then ((0:Nat):Int) else enc)=_;rw[d 2 (by decide),d 1 (by decide),d 0 (by decide)];have y0:Lib.hasPrefix b.data.toList (markB 0).data.toList=true->b.data.toList.head?=some 239:=x0;have y1:Lib.hasPrefix b.data.toList (markB 1).data.toList=true->b.data.toList.head?=some 255:=x1;have y2:Lib.hasPrefix b.data.toList (markB 2).data.toList=true->b.data.toList.head?=some 254:=x2;show (if Lib.hasPrefix b.data.toList (markB 2).data.toList=true then (2:Int) else if Lib.hasPrefix b.data.toList (markB 1).data.toList=true then (1:Int) else if Lib.hasPrefix b.data.toList (markB 0).data.toList=true then (0:Int) else enc)=_;cases h0:Lib.hasPrefix b.data.toList (markB 0).data.toList<;>cases h1:Lib.hasPrefix b.data.toList (markB 1).data.toList<;>cases h2:Lib.hasPrefix b.data.toList (markB 2).data.toList
 all_goals first
  |rfl
  |(exfalso;have a:=y0 h0;have c:=y1 h1;rw[a] at c;exact absurd c (by decide))
  |(exfalso;have a:=y0 h0;have c:=y2 h2;rw[a] at c;exact absurd c (by decide))
  |(exfalso;have a:=y1 h1;have c:=y2 h2;rw[a] at c;exact absurd c (by decide))
theorem QfQ (b:ByteArray) (enc:Int) (w:World) (ht:TabEnc w) :
  Calls prog 111 #[.string b,.int .i64 enc] w fun e w'=>e=.returned (.int .i64 (sniffTo b enc 3))/\Below w.heap.size w w':=by
 obtain⟨m0,r0,l0,g0,m1,r1,l1,g1,m2,r2,l2,g2,m3,r3,l3,g3⟩:=ht
 generalize e0:markB 0=M0 at *
 generalize e1:markB 1=M1 at *
 generalize e2:markB 2=M2 at *
 have e3:markB 3=⟨#[]⟩:=rfl
 rw[e3] at m3
 have n0:M0.toList.isEmpty=false:=by rw[<-e0];kernel_rfl
 have o0:¬M0.toList=[]:=by intro h;rw[h] at n0;simp at n0
 have n1:M1.toList.isEmpty=false:=by rw[<-e1];kernel_rfl
 have o1:¬M1.toList=[]:=by intro h;rw[h] at n1;simp at n1
 have n2:M2.toList.isEmpty=false:=by rw[<-e2];kernel_rfl
 have o2:¬M2.toList=[]:=by intro h;rw[h] at n2;simp at n2
 have hs:sniffTo b enc 3=if Lib.hasPrefix b.data.toList M0.data.toList=true then 0 else if Lib.hasPrefix b.data.toList M1.data.toList=true then 1 else if Lib.hasPrefix b.data.toList M2.data.toList=true then 2 else enc:=by
  rw[<-e0,<-e1,<-e2];exact Qim b enc
 have HS:=Z2 hs
 clear e0 e1 e2 e3 hs
 have i0:∀w,(Instr.index 198 (.agg #[.string M0,.int .i32 1114111,.int .i64 0,.int .i64 0,.string M1,.int .i32 1114111,.int .i64 0,.int .i64 1,.string M2,.int .i32 1114111,.int .i64 1,.int .i64 0,.string ⟨#[]⟩,.int .i32 255,.int .i64 0,.int .i64 0]) (.int .i64 0)).run prog w=.ok (.agg #[.string M0,.int .i32 1114111,.int .i64 0,.int .i64 0]) w:=fun _=>by kernel_rfl
 have i1:∀w,(Instr.index 198 (.agg #[.string M0,.int .i32 1114111,.int .i64 0,.int .i64 0,.string M1,.int .i32 1114111,.int .i64 0,.int .i64 1,.string M2,.int .i32 1114111,.int .i64 1,.int .i64 0,.string ⟨#[]⟩,.int .i32 255,.int .i64 0,.int .i64 0]) (.int .i64 1)).run prog w=.ok (.agg #[.string M1,.int .i32 1114111,.int .i64 0,.int .i64 1]) w:=fun _=>by kernel_rfl
 have i2:∀w,(Instr.index 198 (.agg #[.string M0,.int .i32 1114111,.int .i64 0,.int .i64 0,.string M1,.int .i32 1114111,.int .i64 0,.int .i64 1,.string M2,.int .i32 1114111,.int .i64 1,.int .i64 0,.string ⟨#[]⟩,.int .i32 255,.int .i64 0,.int .i64 0]) (.int .i64 2)).run prog w=.ok (.agg #[.string M2,.int .i32 1114111,.int .i64 1,.int .i64 0]) w:=fun _=>by kernel_rfl
 have i3:∀w,(Instr.index 198 (.agg #[.string M0,.int .i32 1114111,.int .i64 0,.int .i64 0,.string M1,.int .i32 1114111,.int .i64 0,.int .i64 1,.string M2,.int .i32 1114111,.int .i64 1,.int .i64 0,.string ⟨#[]⟩,.int .i32 255,.int .i64 0,.int .i64 0]) (.int .i64 3)).run prog w=.ok (.agg #[.string ⟨#[]⟩,.int .i32 255,.int .i64 0,.int .i64 0]) w:=fun _=>by kernel_rfl
 cases p0:Lib.hasPrefix b.data.toList M0.data.toList
 ·cases p1:Lib.hasPrefix b.data.toList M1.data.toList
  ·cases p2:Lib.hasPrefix b.data.toList M2.data.toList
   ·skip;have hv:sniffTo b enc 3=enc:=by rw[HS.o];simp [p0,p1,p2]
    rw[hv];clear hv HS;go_enter func111,ntmps111;go_wp2_with fail;refine wp_loop_rounds 5 ?_;rw[rounds_succ];go_wp2_with (go_at_call 114;refine (Qaz _ _ _).mono ?_;rintro e w' ⟨rfl,rfl⟩);rw[rounds_succ];go_wp2_with (go_at_call 114;refine (Qaz _ _ _).mono ?_;rintro e w' ⟨rfl,rfl⟩);rw[rounds_succ];go_wp2_with (go_at_call 114;refine (Qaz _ _ _).mono ?_;rintro e w' ⟨rfl,rfl⟩);rw[rounds_succ];go_wp2_with (go_at_call 114;refine (Qaz _ _ _).mono ?_;rintro e w' ⟨rfl,rfl⟩);rw[rounds_succ];go_wp2_with (go_at_call 114;refine (Qaz _ _ _).mono ?_;rintro e w' ⟨rfl,rfl⟩);go_ret;exact⟨rfl,by repeat (first|exact Below.refl _ _|refine Below.alloc ?_ (by simp<;>omega) _)⟩
   skip;have hv:sniffTo b enc 3=2:=by rw[HS.o];simp [p0,p1,p2]
   rw[hv];clear hv HS;go_enter func111,ntmps111;go_wp2_with fail;refine wp_loop_rounds 3 ?_;rw[rounds_succ];go_wp2_with (go_at_call 114;refine (Qaz _ _ _).mono ?_;rintro e w' ⟨rfl,rfl⟩);rw[rounds_succ];go_wp2_with (go_at_call 114;refine (Qaz _ _ _).mono ?_;rintro e w' ⟨rfl,rfl⟩);rw[rounds_succ];go_wp2_with (go_at_call 114;refine (Qaz _ _ _).mono ?_;rintro e w' ⟨rfl,rfl⟩);go_ret;exact⟨rfl,by repeat (first|exact Below.refl _ _|refine Below.alloc ?_ (by simp<;>omega) _)⟩
  skip;have hv:sniffTo b enc 3=1:=by rw[HS.o];simp [p0,p1]
  rw[hv];clear hv HS;go_enter func111,ntmps111;go_wp2_with fail;refine wp_loop_rounds 2 ?_;rw[rounds_succ];go_wp2_with (go_at_call 114;refine (Qaz _ _ _).mono ?_;rintro e w' ⟨rfl,rfl⟩);rw[rounds_succ];go_wp2_with (go_at_call 114;refine (Qaz _ _ _).mono ?_;rintro e w' ⟨rfl,rfl⟩);go_ret;exact⟨rfl,by repeat (first|exact Below.refl _ _|refine Below.alloc ?_ (by simp<;>omega) _)⟩
 skip
 have hv:sniffTo b enc 3=0:=by rw[HS.o];simp [p0]
 rw[hv];clear hv HS
 go_enter func111,ntmps111
 go_wp2_with fail
 refine wp_loop_rounds 1 ?_
 rw[rounds_succ]
 go_wp2_with (go_at_call 114;refine (Qaz _ _ _).mono ?_;rintro e w' ⟨rfl,rfl⟩)
 go_ret
 exact⟨rfl,by repeat (first|exact Below.refl _ _|refine Below.alloc ?_ (by simp<;>omega) _)⟩
end Go.Proofs.YtoejbngihecafaaGreatDoor
