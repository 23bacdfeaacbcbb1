import Derived.Test.YtoejbngihecafaaGreatDoorProg
import Derived.WalkKit
import Derived.WalkSpells
import Derived.WalkLawsBesides
import Derived.Handy
import Derived.Deep.RegionWith
import Derived.BigRegion
import Derived.Deep.CutRange
import Derived.Deep.MidRow
import Derived.Test.YtoejbngihecafaaGreatDoorC0
set_option maxRecDepth 100000
set_option maxHeartbeats 2000000
open Go.Proofs.Tryz
namespace Go.Proofs.YtoejbngihecafaaGreatDoor
open Go.RowKit
variable {b N:Nat} {w w':World}
structure Cn where
 body:Nat
 bytes:Nat
 chars:Nat
 units:Nat
 esc:Nat
 lf:Nat
 crlf:Nat
 cr:Nat
variable {c:Cn}
def Cn.val (c:Cn):Value:=.agg #[.int .i64 c.body,.int .i64 c.bytes,.int .i64 c.chars,.int .i64 c.units,.int .i64 c.esc,.int .i64 c.lf,.int .i64 c.crlf,.int .i64 c.cr]
def Cn.plus (c d:Cn):Cn:=⟨c.body+d.body,c.bytes+d.bytes,c.chars+d.chars,c.units+d.units,c.esc+d.esc,c.lf+d.lf,c.crlf+d.crlf,c.cr+d.cr⟩
structure Cn.Small (c:Cn):Prop where
 h0:c.body<=1152921504606846976
 h1:c.bytes<=1152921504606846976
 h2:c.chars<=1152921504606846976
 h3:c.units<=1152921504606846976
 h4:c.esc<=1152921504606846976
 h5:c.lf<=1152921504606846976
 h6:c.crlf<=1152921504606846976
 h7:c.cr<=1152921504606846976
theorem QjU (c d:Cn) (w:World) (hc:c.Small) (hd:d.Small) :
  Calls prog 167 #[c.val,d.val] w fun e w'=>e=.returned (c.plus d).val/\Below w.heap.size w w':=by
 obtain⟨c0,c1,c2,c3,c4,c5,c6,c7⟩:=c
 obtain⟨d0,d1,d2,d3,d4,d5,d6,d7⟩:=d
 obtain⟨x0,x1,x2,x3,x4,x5,x6,x7⟩:=hc
 obtain⟨y0,y1,y2,y3,y4,y5,y6,y7⟩:=hd
 simp only at x0 x1 x2 x3 x4 x5 x6 x7 y0 y1 y2 y3 y4 y5 y6 y7
 simp only[Cn.val,Cn.plus]
 have i0:∀w,(Instr.index 117 (.agg #[.int .i64 d5,.int .i64 d6,.int .i64 d7]) (.int .i64 0)).run prog w=.ok (.int .i64 d5) w:=fun _=>by kernel_rfl
 have i1:∀w,(Instr.index 117 (.agg #[.int .i64 d5,.int .i64 d6,.int .i64 d7]) (.int .i64 1)).run prog w=.ok (.int .i64 d6) w:=fun _=>by kernel_rfl
 have i2:∀w,(Instr.index 117 (.agg #[.int .i64 d5,.int .i64 d6,.int .i64 d7]) (.int .i64 2)).run prog w=.ok (.int .i64 d7) w:=fun _=>by kernel_rfl
 go_enter func167,ntmps167
 go_wp2_with fail
 refine wp_loop_rounds 4 ?_
 rw[rounds_succ]
 go_wp2_with fail
 rw[rounds_succ]
 go_wp2_with fail
 rw[rounds_succ]
 go_wp2_with fail
 rw[rounds_succ]
 go_wp2_with fail
 refine bodyPost_ret (v:=.agg #[.int .i64 (c0+d0:Nat),.int .i64 (c1+d1:Nat),.int .i64 (c2+d2:Nat),.int .i64 (c3+d3:Nat),.int .i64 (c4+d4:Nat),.int .i64 (c5+d5:Nat),.int .i64 (c6+d6:Nat),.int .i64 (c7+d7:Nat)]) (by simp [results,Tryz.results167,go_sem]) rfl ⟨rfl,?_⟩
 exact ((Z7 _ _).alloc (by simp) _).alloc (by simp;omega) _
theorem Qa3 (c:Cn) (w:World) (hc:c.Small) :
  Calls prog 56 #[c.val] w fun e w'=>e=.returned (.int .i64 ((c.lf+c.crlf+c.cr:Nat):Int))/\Below w.heap.size w w':=by
 obtain⟨c0,c1,c2,c3,c4,c5,c6,c7⟩:=c
 obtain⟨x0,x1,x2,x3,x4,x5,x6,x7⟩:=hc
 simp only at x0 x1 x2 x3 x4 x5 x6 x7
 simp only[Cn.val]
 go_enter func56,ntmps56
 go_wp2
 go_ret
 exact⟨by simp,Z7 _ _⟩
def Cn.ending (c:Cn):Int:=if (if c.lf<c.crlf then c.crlf else c.lf)<c.cr then 2 else if c.lf<c.crlf then 1 else 0
theorem Qgu (c:Cn) (w:World) (hc:c.Small) :
  Calls prog 57 #[c.val] w fun e w'=>e=.returned (.int .i64 c.ending)/\Below w.heap.size w w':=by
 obtain⟨c0,c1,c2,c3,c4,c5,c6,c7⟩:=c
 obtain⟨x0,x1,x2,x3,x4,x5,x6,x7⟩:=hc
 simp only at x0 x1 x2 x3 x4 x5 x6 x7
 simp only[Cn.val,Cn.ending]
 have i0:∀w,(Instr.index 117 (.agg #[.int .i64 c5,.int .i64 c6,.int .i64 c7]) (.int .i64 0)).run prog w=.ok (.int .i64 c5) w:=fun _=>by kernel_rfl
 have i1:∀w,(Instr.index 117 (.agg #[.int .i64 c5,.int .i64 c6,.int .i64 c7]) (.int .i64 1)).run prog w=.ok (.int .i64 c6) w:=fun _=>by kernel_rfl
 have i2:∀w,(Instr.index 117 (.agg #[.int .i64 c5,.int .i64 c6,.int .i64 c7]) (.int .i64 2)).run prog w=.ok (.int .i64 c7) w:=fun _=>by kernel_rfl
 by_cases hh:c5<c6
 ·by_cases hk:c6<c7
  ·have hv:(if (if c5<c6 then c6 else c5)<c7 then (2:Int) else if c5<c6 then 1 else 0)=2:=by rw[if_pos hh,if_pos hk]
   rw[hv];go_enter func57,ntmps57;go_wp2_with fail;refine wp_loop_rounds 4 ?_
   repeat (rw[rounds_succ];go_wp2_with fail)
   go_ret;exact⟨rfl,Z7 _ _⟩
  have hv:(if (if c5<c6 then c6 else c5)<c7 then (2:Int) else if c5<c6 then 1 else 0)=1:=by rw[if_pos hh,if_neg hk,if_pos hh]
  rw[hv];go_enter func57,ntmps57;go_wp2_with fail;refine wp_loop_rounds 4 ?_
  repeat (rw[rounds_succ];go_wp2_with fail)
  go_ret;exact⟨rfl,Z7 _ _⟩
 by_cases hk:c5<c7
 ·have hv:(if (if c5<c6 then c6 else c5)<c7 then (2:Int) else if c5<c6 then 1 else 0)=2:=by rw[if_neg hh,if_pos hk]
  rw[hv];go_enter func57,ntmps57;go_wp2_with fail;refine wp_loop_rounds 4 ?_
  repeat (rw[rounds_succ];go_wp2_with fail)
  go_ret;exact⟨rfl,Z7 _ _⟩
 have hv:(if (if c5<c6 then c6 else c5)<c7 then (2:Int) else if c5<c6 then 1 else 0)=0:=by rw[if_neg hh,if_neg hk,if_neg hh]
 rw[hv]
 go_enter func57,ntmps57
 go_wp2_with fail
 refine wp_loop_rounds 4 ?_
 repeat (rw[rounds_succ];go_wp2_with fail)
 go_ret
 exact⟨rfl,Z7 _ _⟩
theorem Qbn (c:Cn) (w:World) :
  Calls prog 194 #[c.val] w fun e w'=>e=.returned c.val/\Below w.heap.size w w':=by
 simp only[Cn.val]
 go_enter func194,ntmps194
 go_wp2
 refine bodyPost_ret (v:=c.val) (by simp [results,Tryz.results194,go_sem,Cn.val]) rfl ⟨rfl,?_⟩
 exact ((Z7 _ _).alloc (by simp) _)
def Cn.head (c:Cn) (h:Nat):Value:=.agg #[.int .i64 c.body,.int .i64 c.bytes,.int .i64 c.chars,.int .i64 c.units,.int .i64 c.esc,.int .i64 c.lf,.int .i64 c.crlf,.int .i64 c.cr,.int .i64 h]
theorem Qad (c:Cn) (h:Nat) (w:World) :
  Calls prog 199 #[c.head h] w fun e w'=>e=.returned (.int .i64 h)/\Below w.heap.size w w':=by
 simp only[Cn.head]
 go_enter func199,ntmps199
 go_wp2
 go_ret
 exact⟨rfl,Z7 _ _⟩
structure Tn (b:Nat) (w w':World):Prop where
 os:w'.os=w.os
 tape:w'.tape=w.tape
 output:w'.output=w.output
 size:w.heap.size<=w'.heap.size
 keep:∀k,k<w.heap.size->k≠b->w'.heap[k]?=w.heap[k]?
theorem Tn.refl (b:Nat) (w:World):Tn b w w:=⟨rfl,rfl,rfl,Z6 _,fun _ _ _=>rfl⟩
theorem Tn.trans {w1 w2 w3:World} (h:Tn b w1 w2) (k:Tn b w2 w3):Tn b w1 w3 :=
 ⟨k.os.trans h.os,k.tape.trans h.tape,k.output.trans h.output,Nat.le_trans h.size k.size,fun i h1 h2=>(k.keep i (Nat.lt_of_lt_of_le h1 h.size) h2).trans (h.keep i h1 h2)⟩
theorem Tn.alloc (h:Tn b w w') (o:Obj):Tn b w (w'.alloc o):=by
 refine h.trans ⟨rfl,rfl,rfl,by simp,fun k hk _=>?_⟩;have hb:=Z7 w' o;exact hb.block k hk
theorem Tn.setCell {j:Nat} (h:Tn b w w') (v:Value):Tn b w (w'.setCell ⟨b,j,none⟩ v):=by
 exact h.trans ⟨rfl,rfl,rfl,by simp [World.setCell],fun k hk hne=>Below.heap_setCell _ _ _ _ hne⟩
structure CnAt (w:World) (b:Nat) (c:Cn):Prop where
 c0:w.cell? ⟨b,0,none⟩=some (.int .i64 c.body)
 c1:w.cell? ⟨b,1,none⟩=some (.int .i64 c.bytes)
 c2:w.cell? ⟨b,2,none⟩=some (.int .i64 c.chars)
 c3:w.cell? ⟨b,3,none⟩=some (.int .i64 c.units)
 c4:w.cell? ⟨b,4,none⟩=some (.int .i64 c.esc)
 c5:w.cell? ⟨b,5,none⟩=some (.int .i64 c.lf)
 c6:w.cell? ⟨b,6,none⟩=some (.int .i64 c.crlf)
 c7:w.cell? ⟨b,7,none⟩=some (.int .i64 c.cr)
 fr:∀j,w.frozen? ⟨b,j,none⟩=false
theorem Z1 {p:Prop} (h:p):Hid p:=h
theorem blk_lt {o:Nat} {v:Value} (h:w.cell? ⟨b,o,none⟩=some v):b<w.heap.size:=by
 unfold World.cell? at h;by_cases hb:b<w.heap.size
 ·exact hb
 rw[Array.getElem?_eq_none (show w.heap.size<=b by omega)] at h;simp at h
theorem Tn.drew (h:Tn b w w'):Tn b w w'.drew:=h.trans ⟨rfl,rfl,rfl,Z6 _,fun _ _ _=>rfl⟩
theorem Qab (W:World) (B i j:Nat) (v:Value) (h:i≠j):(W.setCell ⟨B,i,none⟩ v).cell? ⟨B,j,none⟩=W.cell? ⟨B,j,none⟩ :=
 World.cell?_setCell_other _ _ _ _ (by intro e;injection e with e1 e2;exact h e2)
theorem Qbb (W:World) (B i:Nat) (v u:Value) (h:W.cell? ⟨B,i,none⟩=some u):(W.setCell ⟨B,i,none⟩ v).cell? ⟨B,i,none⟩=some v:=World.cell?_setCell_same' W _ v (by rw[h];rfl)
theorem new8 (W:World) (B:Nat) (l:Array Value) (t:TypeId) (j:Nat) (v:Value) (hB:B=W.heap.size) (h:l[j]?=some v):(W.alloc (.cells l t)).drew.cell? ⟨B,j,none⟩=some v:=by
 show (W.alloc (.cells l t)).cell? ⟨B,j,none⟩=some v;subst hB;simp [h]
theorem CnAt.drew (h:CnAt w b c):CnAt w.drew b c:=⟨h.c0,h.c1,h.c2,h.c3,h.c4,h.c5,h.c6,h.c7,h.fr⟩
theorem CnAt.below (h:CnAt w b c) (hb:Below w.heap.size w w'):CnAt w' b c:=by
 have hB:=blk_lt h.c0;have g:∀o,w'.cell? ⟨b,o,none⟩=w.cell? ⟨b,o,none⟩:=fun o=>hb.cell (p:=⟨b,o,none⟩) hB;exact⟨(g _).trans h.c0,(g _).trans h.c1,(g _).trans h.c2,(g _).trans h.c3,(g _).trans h.c4,(g _).trans h.c5,(g _).trans h.c6,(g _).trans h.c7,fun j=>(hb.frozen (p:=⟨b,j,none⟩) hB).trans (h.fr j)⟩
theorem CnAt.alloc (h:CnAt w b c) (o:Obj):CnAt (w.alloc o) b c:=h.below ((Below.refl _ _).alloc (Z6 _) o)
variable {w:World} {b:Nat} {c:Cn}
theorem CnAt.set0 (h:CnAt w b c) (n:Nat):CnAt (w.setCell ⟨b,0,none⟩ (.int .i64 n)) b { c with body:=n } :=
 ⟨Qbb _ _ 0 _ _ h.c0,by rw[Qab _ _ 0 1 _ (by decide)];exact h.c1,by rw[Qab _ _ 0 2 _ (by decide)];exact h.c2,by rw[Qab _ _ 0 3 _ (by decide)];exact h.c3,by rw[Qab _ _ 0 4 _ (by decide)];exact h.c4,by rw[Qab _ _ 0 5 _ (by decide)];exact h.c5,by rw[Qab _ _ 0 6 _ (by decide)];exact h.c6,by rw[Qab _ _ 0 7 _ (by decide)];exact h.c7,fun j=>by rw[World.frozen?_setCell];exact h.fr j⟩
theorem CnAt.set1 (h:CnAt w b c) (n:Nat):CnAt (w.setCell ⟨b,1,none⟩ (.int .i64 n)) b { c with bytes:=n } :=
 ⟨by rw[Qab _ _ 1 0 _ (by decide)];exact h.c0,Qbb _ _ 1 _ _ h.c1,by rw[Qab _ _ 1 2 _ (by decide)];exact h.c2,by rw[Qab _ _ 1 3 _ (by decide)];exact h.c3,by rw[Qab _ _ 1 4 _ (by decide)];exact h.c4,by rw[Qab _ _ 1 5 _ (by decide)];exact h.c5,by rw[Qab _ _ 1 6 _ (by decide)];exact h.c6,by rw[Qab _ _ 1 7 _ (by decide)];exact h.c7,fun j=>by rw[World.frozen?_setCell];exact h.fr j⟩
theorem CnAt.set2 (h:CnAt w b c) (n:Nat):CnAt (w.setCell ⟨b,2,none⟩ (.int .i64 n)) b { c with chars:=n } :=
 ⟨by rw[Qab _ _ 2 0 _ (by decide)];exact h.c0,by rw[Qab _ _ 2 1 _ (by decide)];exact h.c1,Qbb _ _ 2 _ _ h.c2,by rw[Qab _ _ 2 3 _ (by decide)];exact h.c3,by rw[Qab _ _ 2 4 _ (by decide)];exact h.c4,by rw[Qab _ _ 2 5 _ (by decide)];exact h.c5,by rw[Qab _ _ 2 6 _ (by decide)];exact h.c6,by rw[Qab _ _ 2 7 _ (by decide)];exact h.c7,fun j=>by rw[World.frozen?_setCell];exact h.fr j⟩
theorem CnAt.set3 (h:CnAt w b c) (n:Nat):CnAt (w.setCell ⟨b,3,none⟩ (.int .i64 n)) b { c with units:=n } :=
 ⟨by rw[Qab _ _ 3 0 _ (by decide)];exact h.c0,by rw[Qab _ _ 3 1 _ (by decide)];exact h.c1,by rw[Qab _ _ 3 2 _ (by decide)];exact h.c2,Qbb _ _ 3 _ _ h.c3,by rw[Qab _ _ 3 4 _ (by decide)];exact h.c4,by rw[Qab _ _ 3 5 _ (by decide)];exact h.c5,by rw[Qab _ _ 3 6 _ (by decide)];exact h.c6,by rw[Qab _ _ 3 7 _ (by decide)];exact h.c7,fun j=>by rw[World.frozen?_setCell];exact h.fr j⟩
theorem CnAt.set4 (h:CnAt w b c) (n:Nat):CnAt (w.setCell ⟨b,4,none⟩ (.int .i64 n)) b { c with esc:=n } :=
 ⟨by rw[Qab _ _ 4 0 _ (by decide)];exact h.c0,by rw[Qab _ _ 4 1 _ (by decide)];exact h.c1,by rw[Qab _ _ 4 2 _ (by decide)];exact h.c2,by rw[Qab _ _ 4 3 _ (by decide)];exact h.c3,Qbb _ _ 4 _ _ h.c4,by rw[Qab _ _ 4 5 _ (by decide)];exact h.c5,by rw[Qab _ _ 4 6 _ (by decide)];exact h.c6,by rw[Qab _ _ 4 7 _ (by decide)];exact h.c7,fun j=>by rw[World.frozen?_setCell];exact h.fr j⟩
theorem CnAt.set5 (h:CnAt w b c) (n:Nat):CnAt (w.setCell ⟨b,5,none⟩ (.int .i64 n)) b { c with lf:=n } :=
 ⟨by rw[Qab _ _ 5 0 _ (by decide)];exact h.c0,by rw[Qab _ _ 5 1 _ (by decide)];exact h.c1,by rw[Qab _ _ 5 2 _ (by decide)];exact h.c2,by rw[Qab _ _ 5 3 _ (by decide)];exact h.c3,by rw[Qab _ _ 5 4 _ (by decide)];exact h.c4,Qbb _ _ 5 _ _ h.c5,by rw[Qab _ _ 5 6 _ (by decide)];exact h.c6,by rw[Qab _ _ 5 7 _ (by decide)];exact h.c7,fun j=>by rw[World.frozen?_setCell];exact h.fr j⟩
theorem CnAt.set6 (h:CnAt w b c) (n:Nat):CnAt (w.setCell ⟨b,6,none⟩ (.int .i64 n)) b { c with crlf:=n } :=
 ⟨by rw[Qab _ _ 6 0 _ (by decide)];exact h.c0,by rw[Qab _ _ 6 1 _ (by decide)];exact h.c1,by rw[Qab _ _ 6 2 _ (by decide)];exact h.c2,by rw[Qab _ _ 6 3 _ (by decide)];exact h.c3,by rw[Qab _ _ 6 4 _ (by decide)];exact h.c4,by rw[Qab _ _ 6 5 _ (by decide)];exact h.c5,Qbb _ _ 6 _ _ h.c6,by rw[Qab _ _ 6 7 _ (by decide)];exact h.c7,fun j=>by rw[World.frozen?_setCell];exact h.fr j⟩
theorem CnAt.set7 (h:CnAt w b c) (n:Nat):CnAt (w.setCell ⟨b,7,none⟩ (.int .i64 n)) b { c with cr:=n } :=
 ⟨by rw[Qab _ _ 7 0 _ (by decide)];exact h.c0,by rw[Qab _ _ 7 1 _ (by decide)];exact h.c1,by rw[Qab _ _ 7 2 _ (by decide)];exact h.c2,by rw[Qab _ _ 7 3 _ (by decide)];exact h.c3,by rw[Qab _ _ 7 4 _ (by decide)];exact h.c4,by rw[Qab _ _ 7 5 _ (by decide)];exact h.c5,by rw[Qab _ _ 7 6 _ (by decide)];exact h.c6,Qbb _ _ 7 _ _ h.c7,fun j=>by rw[World.frozen?_setCell];exact h.fr j⟩
def Cn.add (c:Cn) (k r:Int) (s n:Nat):Cn :=
 ⟨c.body+s,c.bytes+n,c.chars+1,c.units+(if 65535<r then 2 else 1),c.esc+(if k=4 then 1 else 0),c.lf+(if k=0 then 1 else 0),c.crlf+(if k=1 then 1 else 0),c.cr+(if k=2 then 1 else 0)⟩
theorem QmC (b:Nat) (c:Cn) (k r:Int) (s n:Nat) (w:World) (hc:CnAt w b c) (hs:c.Small) (hk0:0<=k) (hk4:k<=4) (hs2:s<=8) (hn:n<=4)
  (HR:∀w,Calls prog 143 #[.int .i32 r] w fun e w'=>e=.returned (.int .i64 n)/\w'=w) :
  Calls prog 115 #[.pointer (some ⟨b,0,none⟩),.agg #[.int .i64 k,.int .i32 r,.int .i64 s]] w fun e w'=>e=.returned (.tuple #[]) /\
   CnAt w' b (c.add k r s n)/\Tn b w w':=by
 have HC:=Z1 hc
 obtain⟨c0,c1,_,_,_,_,_,_,fr⟩:=hc
 have x0:=hs.h0
 have x1:=hs.h1
 have HS:=Z1 hs
 clear hs
 have hb:=blk_lt c0
 have f0:=fr 0
 have f1:=fr 1
 have H:=Z1 HR
 clear HR fr
 go_enter func115,ntmps115
 go_wp2_with fail
 go_cut [4] from 4 to 12 (fun _ wx=>CnAt wx b { c with body:=c.body+s }/\wx.cell? ⟨w.heap.size,0,none⟩=some (.int .i64 k)/\wx.cell? ⟨w.heap.size,1,none⟩=some (.int .i32 r)/\Tn b w wx)
 case first =>
  go_region
  all_goals
   go_wp2_with fail;go_meet;exact⟨((HC.o.set0 (c.body+s)).alloc _).drew,new8 _ _ _ _ 0 _ (by simp [World.setCell]) rfl,new8 _ _ _ _ 1 _ (by simp [World.setCell]) rfl,(((Tn.refl b w).setCell _).alloc _).drew⟩
 case rest =>
  obtain⟨hc1,p0,p1,t1⟩:=hcut;rename World=>w1
  have hsz:=t1.size;have hne:b≠w.heap.size:=by omega
  clear c0 c1 f0 f1 HC;have c1:=hc1.c1;have f1:=hc1.fr 1;have HC:=Z1 hc1;clear hc1;go_wp2_with fail;go_cut [4] from 4 to 22 (fun _ wx=>CnAt wx b { c with body:=c.body+s,bytes:=c.bytes+n }/\wx.cell? ⟨w.heap.size,0,none⟩=some (.int .i64 k)/\wx.cell? ⟨w.heap.size,1,none⟩=some (.int .i32 r)/\Tn b w wx)
  case first =>
   have hbz:=blk_lt p0;go_region_with (go_at_call 143;refine (H.o _).mono ?_;rintro e w' ⟨rfl,rfl⟩)
   all_goals
    go_wp2_with fail;go_meet
    have hw:IntKind.i64.wrap ((c.bytes:Int)+(n:Int))=((c.bytes+n:Nat):Int):=by
     rw[IntKind.wrap_i64];omega
    rw[hw];refine⟨(HC.o.set1 (c.bytes+n)).drew,?_,?_,(t1.setCell _).drew⟩
    ·show (w1.setCell _ _).cell? _=_;rw[World.cell?_setCell_other _ _ _ _ (by intro e;injection e with e1 e2;exact hne e1)];exact p0
    show (w1.setCell _ _).cell? _=_;rw[World.cell?_setCell_other _ _ _ _ (by intro e;injection e with e1 e2;exact hne e1)];exact p1
  case rest =>
   obtain⟨hc2,q0,q1,t2⟩:=hcut;rename World=>w2
   clear HC c1 f1 p0 p1;have hs:=HS.o;obtain⟨x0,x1,x2,x3,x4,x5,x6,x7⟩:=hs;have HC:=Z1 hc2;obtain⟨c0,c1,c2,c3,c4,c5,c6,c7,fr⟩:=hc2;have f2:=fr 2;have f3:=fr 3;have f4:=fr 4;have f5:=fr 5;have f6:=fr 6;have f7:=fr 7;clear fr t1 HS;simp only at c0 c1 c2 c3 c4 c5 c6 c7;have hb2:=blk_lt c0;have hb3:=blk_lt q0;have hk:k=0\/k=1\/k=2\/k=3\/k=4:=by omega
   by_cases hr:65535<r
   ·rcases hk with rfl|rfl|rfl|rfl|rfl
    ·have ha:c.add 0 r s n=⟨c.body+s,c.bytes+n,c.chars+1,c.units+2,c.esc,c.lf+1,c.crlf,c.cr⟩:=by simp [Cn.add,hr]
     have HA:=Z1 ha;clear ha;go_wp2_with fail;go_region
     all_goals
      go_wp2_with fail;go_returns;rw[HA.o];exact⟨rfl,((((HC.o.set2 (c.chars+1)).set3 (c.units+1)).set3 (c.units+2)).set5 (c.lf+1)).drew,((((t2.setCell _).setCell _).setCell _).setCell _).drew⟩
    ·have ha:c.add 1 r s n=⟨c.body+s,c.bytes+n,c.chars+1,c.units+2,c.esc,c.lf,c.crlf+1,c.cr⟩:=by simp [Cn.add,hr]
     have HA:=Z1 ha;clear ha;go_wp2_with fail;go_region
     all_goals
      go_wp2_with fail;go_returns;rw[HA.o];exact⟨rfl,((((HC.o.set2 (c.chars+1)).set3 (c.units+1)).set3 (c.units+2)).set6 (c.crlf+1)).drew,((((t2.setCell _).setCell _).setCell _).setCell _).drew⟩
    ·have ha:c.add 2 r s n=⟨c.body+s,c.bytes+n,c.chars+1,c.units+2,c.esc,c.lf,c.crlf,c.cr+1⟩:=by simp [Cn.add,hr]
     have HA:=Z1 ha;clear ha;go_wp2_with fail;go_region
     all_goals
      go_wp2_with fail;go_returns;rw[HA.o];exact⟨rfl,((((HC.o.set2 (c.chars+1)).set3 (c.units+1)).set3 (c.units+2)).set7 (c.cr+1)).drew,((((t2.setCell _).setCell _).setCell _).setCell _).drew⟩
    ·have ha:c.add 3 r s n=⟨c.body+s,c.bytes+n,c.chars+1,c.units+2,c.esc,c.lf,c.crlf,c.cr⟩:=by simp [Cn.add,hr]
     have HA:=Z1 ha;clear ha;go_wp2_with fail;go_returns;rw[HA.o];exact⟨rfl,(((HC.o.set2 (c.chars+1)).set3 (c.units+1)).set3 (c.units+2)),((t2.setCell _).setCell _).setCell _⟩
    have ha:c.add 4 r s n=⟨c.body+s,c.bytes+n,c.chars+1,c.units+2,c.esc+1,c.lf,c.crlf,c.cr⟩:=by simp [Cn.add,hr]
    have HA:=Z1 ha;clear ha;go_wp2_with fail;go_returns;rw[HA.o];exact⟨rfl,(((HC.o.set2 (c.chars+1)).set3 (c.units+1)).set3 (c.units+2)).set4 (c.esc+1),((((t2.setCell _).setCell _).setCell _).setCell _)⟩
   rcases hk with rfl|rfl|rfl|rfl|rfl
   ·have ha:c.add 0 r s n=⟨c.body+s,c.bytes+n,c.chars+1,c.units+1,c.esc,c.lf+1,c.crlf,c.cr⟩:=by simp [Cn.add,hr]
    have HA:=Z1 ha;clear ha;go_wp2_with fail;go_region
    all_goals
     go_wp2_with fail;go_returns;rw[HA.o];exact⟨rfl,(((HC.o.set2 (c.chars+1)).set3 (c.units+1)).set5 (c.lf+1)).drew,(((t2.setCell _).setCell _).setCell _).drew⟩
   ·have ha:c.add 1 r s n=⟨c.body+s,c.bytes+n,c.chars+1,c.units+1,c.esc,c.lf,c.crlf+1,c.cr⟩:=by simp [Cn.add,hr]
    have HA:=Z1 ha;clear ha;go_wp2_with fail;go_region
    all_goals
     go_wp2_with fail;go_returns;rw[HA.o];exact⟨rfl,(((HC.o.set2 (c.chars+1)).set3 (c.units+1)).set6 (c.crlf+1)).drew,(((t2.setCell _).setCell _).setCell _).drew⟩
   ·have ha:c.add 2 r s n=⟨c.body+s,c.bytes+n,c.chars+1,c.units+1,c.esc,c.lf,c.crlf,c.cr+1⟩:=by simp [Cn.add,hr]
    have HA:=Z1 ha;clear ha;go_wp2_with fail;go_region
    all_goals
     go_wp2_with fail;go_returns;rw[HA.o];exact⟨rfl,(((HC.o.set2 (c.chars+1)).set3 (c.units+1)).set7 (c.cr+1)).drew,(((t2.setCell _).setCell _).setCell _).drew⟩
   ·have ha:c.add 3 r s n=⟨c.body+s,c.bytes+n,c.chars+1,c.units+1,c.esc,c.lf,c.crlf,c.cr⟩:=by simp [Cn.add,hr]
    have HA:=Z1 ha;clear ha;go_wp2_with fail;go_returns;rw[HA.o];exact⟨rfl,((HC.o.set2 (c.chars+1)).set3 (c.units+1)),(t2.setCell _).setCell _⟩
   have ha:c.add 4 r s n=⟨c.body+s,c.bytes+n,c.chars+1,c.units+1,c.esc+1,c.lf,c.crlf,c.cr⟩:=by simp [Cn.add,hr]
   have HA:=Z1 ha;clear ha;go_wp2_with fail;go_returns;rw[HA.o];exact⟨rfl,((HC.o.set2 (c.chars+1)).set3 (c.units+1)).set4 (c.esc+1),(((t2.setCell _).setCell _).setCell _)⟩
inductive Nd where
 |leaf (B:Nat) (c:Cn) (body:ByteArray)
 |inner (B:Nat) (c:Cn) (h:Nat) (l r:Nd)
variable {n:Nd}
def Nd.val:Nd->Value
 |.leaf B _ _=>.iface 184 (.pointer (some ⟨B,0,none⟩))
 |.inner B _ _ _ _=>.iface 215 (.pointer (some ⟨B,0,none⟩))
def Nd.cn:Nd->Cn
 |.leaf _ c _=>c
 |.inner _ c _ _ _=>c
def Nd.lev:Nd->Nat
 |.leaf _ _ _=>0
 |.inner _ _ h _ _=>h
def Nd.row:Nd->List (Cn × ByteArray)
 |.leaf _ c s=>[(c,s)]
 |.inner _ _ _ l r=>l.row++r.row
def Nd.In (w:World):Nd->Prop
 |.leaf B c s=>w.heap[B]?=some (.cells #[.int .i64 c.body,.int .i64 c.bytes,.int .i64 c.chars,.int .i64 c.units,.int .i64 c.esc,.int .i64 c.lf,.int .i64 c.crlf,.int .i64 c.cr,.int .i64 0,.string s] 188)
 |.inner B c h l r=>w.heap[B]?=some (.cells #[.int .i64 c.body,.int .i64 c.bytes,.int .i64 c.chars,.int .i64 c.units,.int .i64 c.esc,.int .i64 c.lf,.int .i64 c.crlf,.int .i64 c.cr,.int .i64 h,l.val,r.val] 217)/\l.In w/\r.In w
def Nd.Ok:Nd->Prop
 |.leaf _ c s=>c.body=s.size
 |.inner _ c h l r=>c=l.cn.plus r.cn/\h=1+max l.lev r.lev/\l.Ok/\r.Ok
theorem Z4 {o:Obj} (h:w.heap[b]?=some o):b<w.heap.size:=by
 by_cases hb:b<w.heap.size
 ·exact hb
 rw[Array.getElem?_eq_none (show w.heap.size<=b by omega)] at h;cases h
theorem Nd.low (hb:Below w.heap.size w w'):∀{n:Nd},n.In w->n.In w'
 |.leaf B _ _,h=>(hb.block B (Z4 h)).trans h
 |.inner B _ _ _ _,h=>⟨(hb.block B (Z4 h.1)).trans h.1,Nd.low hb h.2.1,Nd.low hb h.2.2⟩
def Nd.Und (N:Nat):Nd->Prop
 |.leaf B _ _=>B<N
 |.inner B _ _ l r=>B<N/\l.Und N/\r.Und N
theorem Nd.und :∀{n:Nd},n.In w->n.Und w.heap.size
 |.leaf _ _ _,h=>Z4 h
 |.inner _ _ _ _ _,h=>⟨Z4 h.1,Nd.und h.2.1,Nd.und h.2.2⟩
theorem Nd.Und.mono {M:Nat} (h:N<=M):∀{n:Nd},n.Und N->n.Und M
 |.leaf _ _ _,k=>Nat.lt_of_lt_of_le k h
 |.inner _ _ _ _ _,k=>⟨Nat.lt_of_lt_of_le k.1 h,Nd.Und.mono h k.2.1,Nd.Und.mono h k.2.2⟩
theorem Nd.kept (hb:∀k,k<N->w'.heap[k]?=w.heap[k]?):∀{n:Nd},n.Und N->n.In w->n.In w'
 |.leaf B _ _,u,h=>(hb B u).trans h
 |.inner B _ _ _ _,u,h=>⟨(hb B u.1).trans h.1,Nd.kept hb u.2.1 h.2.1,Nd.kept hb u.2.2 h.2.2⟩
theorem at_of {B:Nat} {l:Array Value} {t:TypeId} (h:w.heap[B]?=some (.cells l t)) (o:Nat) (cs:List Value) (hl:∀j v,cs[j]?=some v->l[o+j]?=some v):w.rangeAt B o cs:=by
 intro j v hv;rw[Lib.cell_of_heap h];exact hl j v hv
theorem QjD {α:Type} (a b:List α) (o j:Nat) (v:α) (ho:o=0) (h:a[j]?=some v):(a++b).toArray[o+j]?=some v:=by
 subst ho;rw[Nat.zero_add,List.getElem?_toArray,List.getElem?_append_left (by by_cases hj:j<a.length;exact hj;rw[List.getElem?_eq_none (by omega)] at h;cases h)];exact h
theorem QeT (f B : Nat) (w : World) : (method (f + 1) 184 (.pointer (some ⟨B, 0, none⟩)) "vellum/atoms.counts").run prog w = (loadVar 119 ⟨B, 0, none⟩ >>= fun v => pure (194, v)).run prog w := by
 kernel_rfl
theorem QeA (f B : Nat) (w : World) : (method (f + 1) 215 (.pointer (some ⟨B, 0, none⟩)) "vellum/atoms.counts").run prog w = (loadVar 119 ⟨B, 0, none⟩ >>= fun v => pure (194, v)).run prog w := by
 kernel_rfl
theorem QfG (f B : Nat) (w : World) : (method (f + 1) 184 (.pointer (some ⟨B, 0, none⟩)) "vellum/atoms.level").run prog w = (loadVar 186 ⟨B, 0, none⟩ >>= fun v => pure (199, v)).run prog w := by
 kernel_rfl
theorem QeP (f B : Nat) (w : World) : (method (f + 1) 215 (.pointer (some ⟨B, 0, none⟩)) "vellum/atoms.level").run prog w = (loadVar 186 ⟨B, 0, none⟩ >>= fun v => pure (199, v)).run prog w := by
 kernel_rfl
def Nd.ty:Nd->TypeId
 |.leaf _ _ _=>184
 |.inner _ _ _ _ _=>215
def Nd.blk:Nd->Nat
 |.leaf B _ _=>B
 |.inner B _ _ _ _=>B
theorem Nd.val_eq (n:Nd):n.val=.iface n.ty (.pointer (some ⟨n.blk,0,none⟩)):=by cases n<;>rfl
theorem Nd.blk_lt (h:n.In w):n.blk<w.heap.size:=by
 cases n
 ·exact Z4 h
 exact Z4 h.1
def Cn.list (c:Cn):List Value:=[.int .i64 c.body,.int .i64 c.bytes,.int .i64 c.chars,.int .i64 c.units,.int .i64 c.esc,.int .i64 c.lf,.int .i64 c.crlf,.int .i64 c.cr]
theorem Nd.load_cn (h:n.In w):(loadVar 119 ⟨n.blk,0,none⟩).run prog w=.ok n.cn.val w:=by
 refine run_loadVar_mid w n.blk 0 119 n.cn.list _ ?_ underlying119 rfl (by kernel_rfl);cases n with
 |leaf B c s=>exact at_of h 0 _ (fun j v hv=>QjD c.list [.int .i64 0,.string s] 0 j v rfl hv)
 |inner B c k l r=>exact at_of h.1 0 _ (fun j v hv=>QjD c.list [.int .i64 k,l.val,r.val] 0 j v rfl hv)
theorem Nd.load_head (h:n.In w):(loadVar 186 ⟨n.blk,0,none⟩).run prog w=.ok (n.cn.head n.lev) w:=by
 refine run_loadVar_mid w n.blk 0 186 (n.cn.list++[.int .i64 n.lev]) _ ?_ underlying186 rfl (by kernel_rfl);cases n with
 |leaf B c s=>exact at_of h 0 _ (fun j v hv=>QjD (c.list++[.int .i64 0]) [.string s] 0 j v rfl hv)
 |inner B c k l r=>exact at_of h.1 0 _ (fun j v hv=>QjD (c.list++[.int .i64 k]) [l.val,r.val] 0 j v rfl hv)
theorem Qa0 (n : Nd) (f : Nat) (w : World) (h : n.In w) : (method (f + 1) n.ty (.pointer (some ⟨n.blk, 0, none⟩)) "vellum/atoms.counts").run prog w = .ok (194, n.cn.val) w := by
 have hl:=Nd.load_cn h
 cases n
 ·refine (QeT f _ w).trans ?_
  rw[Sem.run_bind]
  rw[hl];rfl
 refine (QeA f _ w).trans ?_
 rw[Sem.run_bind]
 rw[hl];rfl
theorem Qac (n : Nd) (f : Nat) (w : World) (h : n.In w) : (method (f + 1) n.ty (.pointer (some ⟨n.blk, 0, none⟩)) "vellum/atoms.level").run prog w = .ok (199, n.cn.head n.lev) w := by
 have hl:=Nd.load_head h
 cases n
 ·refine (QfG f _ w).trans ?_
  rw[Sem.run_bind]
  rw[hl];rfl
 refine (QeP f _ w).trans ?_
 rw[Sem.run_bind]
 rw[hl];rfl
theorem CnAt.new (w:World) (t:TypeId):CnAt (w.alloc (.cells #[.int .i64 0,.int .i64 0,.int .i64 0,.int .i64 0,.int .i64 0,.int .i64 0,.int .i64 0,.int .i64 0] t)) w.heap.size ⟨0,0,0,0,0,0,0,0⟩ :=
 ⟨by simp,by simp,by simp,by simp,by simp,by simp,by simp,by simp,fun j=>by simp [go_sem]⟩
theorem Qis (h:Below N w w') (hl:N<=b) (v0 v1 v2 v3 v4 v5 v6 v7:Value):Below N w ((((((((w'.setCell ⟨b,0,none⟩ v0).setCell ⟨b,1,none⟩ v1).setCell ⟨b,2,none⟩ v2).setCell ⟨b,3,none⟩ v3).setCell ⟨b,4,none⟩ v4).setCell ⟨b,5,none⟩ v5).setCell ⟨b,6,none⟩ v6).setCell ⟨b,7,none⟩ v7) :=
 ((((((((h.setCell (p:=⟨b,0,none⟩) hl _).setCell (p:=⟨b,1,none⟩) hl _).setCell (p:=⟨b,2,none⟩) hl _).setCell (p:=⟨b,3,none⟩) hl _).setCell (p:=⟨b,4,none⟩) hl _).setCell (p:=⟨b,5,none⟩) hl _).setCell (p:=⟨b,6,none⟩) hl _).setCell (p:=⟨b,7,none⟩) hl _)
theorem QiA (n:Nd) (w:World) (h:n.In w) :
  Calls prog 55 #[.agg #[n.val]] w fun e w'=>e=.returned n.cn.val/\Below w.heap.size w w':=by
 rw[n.val_eq]
 have hz:=Nd.blk_lt h
 have HN:=Z1 h
 clear h
 go_enter func55,ntmps55
 go_wp2_with fail
 rw[Qa0 n 362 _ (Nd.low ((Z7 _ _).alloc (by simp) _) HN.o)]
 have hn:=CnAt.new (w.alloc (.cells #[.iface n.ty (.pointer (some ⟨n.blk,0,none⟩))] 89)) 119
 have HC:=Z1 hn
 clear hn
 generalize hcn:n.cn=c
 obtain⟨d0,d1,d2,d3,d4,d5,d6,d7⟩:=c
 have HV:=Z1 hcn
 clear hcn
 have hbb:Below w.heap.size w ((w.alloc (.cells #[.iface n.ty (.pointer (some ⟨n.blk,0,none⟩))] 89)).alloc (.cells #[.int .i64 0,.int .i64 0,.int .i64 0,.int .i64 0,.int .i64 0,.int .i64 0,.int .i64 0,.int .i64 0] 119)):=(Z7 _ _).alloc (by simp) _
 have HB:=Z1 hbb
 clear hbb
 simp only[Cn.val]
 go_wp2_with fail
 refine (Qbn ⟨d0,d1,d2,d3,d4,d5,d6,d7⟩ _).mono ?_
 rintro e w' ⟨rfl,hb⟩
 have hk:=HC.o.below hb
 have hs1:(w.alloc (.cells #[.iface n.ty (.pointer (some ⟨n.blk,0,none⟩))] 89)).heap.size=w.heap.size+1:=by simp
 rw[hs1] at hk
 obtain⟨c0,c1,c2,c3,c4,c5,c6,c7,fr⟩:=hk
 have f0:=fr 0
 have f1:=fr 1
 have f2:=fr 2
 have f3:=fr 3
 have f4:=fr 4
 have f5:=fr 5
 have f6:=fr 6
 have f7:=fr 7
 have hb':=HB.o.trans (hb.mono HB.o.size)
 clear fr HC HN HB hb hs1
 simp only[Cn.val] at *
 go_wp2_with fail
 refine bodyPost_ret (v:=.agg #[.int .i64 d0,.int .i64 d1,.int .i64 d2,.int .i64 d3,.int .i64 d4,.int .i64 d5,.int .i64 d6,.int .i64 d7]) (by simp [results,Tryz.results55,go_sem,c0,c1,c2,c3,c4,c5,c6,c7]) rfl ⟨?_,?_⟩
 ·rw[HV.o];rfl
 exact Qis hb' (Nat.le_succ _) _ _ _ _ _ _ _ _
theorem QiF (w:World) :
  Calls prog 55 #[.agg #[.nilIface]] w fun e w'=>e=.returned (Cn.mk 0 0 0 0 0 0 0 0).val/\Below w.heap.size w w':=by
 simp only[Cn.val]
 go_enter func55,ntmps55
 go_wp2
 refine bodyPost_ret (v:=.agg #[.int .i64 0,.int .i64 0,.int .i64 0,.int .i64 0,.int .i64 0,.int .i64 0,.int .i64 0,.int .i64 0]) (by simp [results,Tryz.results55,go_sem]) rfl ⟨rfl,?_⟩
 go_grown
end Go.Proofs.YtoejbngihecafaaGreatDoor
