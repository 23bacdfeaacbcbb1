import Derived.OwnWalk
import Derived.Maps.AppendAt
import Derived.RangeFuncBox
import Derived.Lib.Strings
import Derived.Lib.IndexBytes
import Derived.Test.YtoejbngihecafaaGreatDoorA2
import Derived.Test.YtoejbngihecafaaGreatDoorA1
import Derived.Test.YtoejbngihecafaaGreatDoorA3
set_option maxRecDepth 100000
set_option maxHeartbeats 2000000
namespace Go.Proofs.YtoejbngihecafaaGreatDoor
open Go.RowKit
theorem rread_tail (s:ByteArray) (i:Nat) (enc:Int) (w:World) (hs:s.size<=1099511627776) (he:enc=1\/enc=2) (hi:i<s.size) (h:s.size<=i+1) :
  Calls Tryz.prog 141 #[.string s,.int .i64 i,.int .i64 enc] w fun e w'=>e=.returned (rdVal enc s i)/\Below w.heap.size w w':=by
 rw[rdVal_tail he hi h]
 have hI:(i:Int)<(s.size:Int):=by omega
 have hI1:(s.size:Int)<=(i:Int)+1:=by omega
 have e3:(enc==3)=false:=by rw[beq_eq_false_iff_ne];omega
 have e0:(enc==0)=false:=by rw[beq_eq_false_iff_ne];omega
 clear he
 go_enter Tryz.func141,Tryz.ntmps141
 go_wp2
 exact bodyPost_ret (v:=.tuple #[.agg #[.int .i64 0,.bool false,.int .i64 0,.int .i64 i,.int .i64 ((i:Int)+1)],.bool false]) (by simp [results,Tryz.results141,go_sem]) rfl ⟨rfl,((Below.refl _ _).alloc (Nat.le_refl _) _).alloc (by simp) _⟩
structure Bx5 (w:World) (B:Nat) (v0 v1 v2 v3 v4:Value):Prop where
 c:w.cell? ⟨B,0,none⟩=some v0/\w.cell? ⟨B,1,none⟩=some v1/\w.cell? ⟨B,2,none⟩=some v2/\w.cell? ⟨B,3,none⟩=some v3/\w.cell? ⟨B,4,none⟩=some v4
 f:w.frozen? ⟨B,0,none⟩=false/\w.frozen? ⟨B,1,none⟩=false/\w.frozen? ⟨B,2,none⟩=false/\w.frozen? ⟨B,3,none⟩=false/\w.frozen? ⟨B,4,none⟩=false
theorem Bx5.below {w w':World} {B:Nat} {v0 v1 v2 v3 v4:Value} (h:Bx5 w B v0 v1 v2 v3 v4) (hb:Below w.heap.size w w'):Bx5 w' B v0 v1 v2 v3 v4:=by
 have hB:=Z3 h.c.1
 have g:∀o,w'.cell? ⟨B,o,none⟩=w.cell? ⟨B,o,none⟩:=fun o=>hb.cell (p:=⟨B,o,none⟩) hB
 have k:∀o,w'.frozen? ⟨B,o,none⟩=w.frozen? ⟨B,o,none⟩:=fun o=>hb.frozen (p:=⟨B,o,none⟩) hB
 exact⟨⟨(g _).trans h.c.1,(g _).trans h.c.2.1,(g _).trans h.c.2.2.1,(g _).trans h.c.2.2.2.1,(g _).trans h.c.2.2.2.2⟩,⟨(k _).trans h.f.1,(k _).trans h.f.2.1,(k _).trans h.f.2.2.1,(k _).trans h.f.2.2.2.1,(k _).trans h.f.2.2.2.2⟩⟩
theorem Bx5.new (w:World) (t:TypeId) (v0 v1 v2 v3 v4:Value):Bx5 (w.alloc (.cells #[v0,v1,v2,v3,v4] t)) w.heap.size v0 v1 v2 v3 v4 :=
 ⟨⟨by simp,by simp,by simp,by simp,by simp⟩,⟨by simp [go_sem],by simp [go_sem],by simp [go_sem],by simp [go_sem],by simp [go_sem]⟩⟩
theorem cast_call2 {s:ByteArray} {i:Nat} {enc:Int} {w:World} {R:Ending->World->Prop} (h:Calls Tryz.prog 166 #[.string s,.int .i64 ((i+2:Nat):Int),.int .i64 enc] w R):Calls Tryz.prog 166 #[.string s,.int .i64 ((i:Int)+2),.int .i64 enc] w R:=h
theorem rread_units (s:ByteArray) (i:Nat) (enc:Int) (w:World) (hs:s.size<=1099511627776) (he:enc=1\/enc=2) (h:i+1<s.size) :
  Calls Tryz.prog 141 #[.string s,.int .i64 i,.int .i64 enc] w fun e w'=>e=.returned (rdVal enc s i)/\Below w.heap.size w w':=by
 have hI:(i:Int)<(s.size:Int):=by omega
 have hI1:(i:Int)+1<(s.size:Int):=by omega
 have e3:(enc==3)=false:=by rw[beq_eq_false_iff_ne];omega
 have e0:(enc==0)=false:=by rw[beq_eq_false_iff_ne];omega
 have hub:=Vm.unitAt_bd enc s.data.toList i
 have hvb:=Vm.unitAt_bd enc s.data.toList (i+2)
 have hca:=runit_any s i enc
 have hcb:=runit_any s (i+2) enc
 have hpair:=@rdVal_pair enc s i he
 have hlone:=@rdVal_lone enc s i he h
 generalize Vm.unitAt enc s.data.toList i=U at *
 generalize Vm.unitAt enc s.data.toList (i+2)=V at *
 have Hca:=Z2 hca
 have Hcb:=Z2 hcb
 have Hpair:=Z2 hpair
 have Hlone:=Z2 hlone
 clear hca hcb hpair hlone he
 go_enter Tryz.func141,Tryz.ntmps141
 go_wp2_with fail
 refine (Hca.out _ hs h).mono ?_
 rintro e w2 ⟨rfl,hb2⟩
 have bR:=((Bx5.new w 136 (.int .i64 0) (.bool false) (.int .i64 0) (.int .i64 0) (.int .i64 0)).below ((Below.refl _ _).alloc (Nat.le_refl _) (.cells #[.int .i64 0,.bool false,.int .i64 0,.int .i64 i,.int .i64 ((i:Int)+2)] 136))).below hb2
 have bA:=(Bx5.new (w.alloc (.cells #[.int .i64 0,.bool false,.int .i64 0,.int .i64 0,.int .i64 0] 136)) 136 (.int .i64 0) (.bool false) (.int .i64 0) (.int .i64 i) (.int .i64 ((i:Int)+2))).below hb2
 simp only[World.size_alloc] at bA
 have hbw:Below w.heap.size w w2:=(((Below.refl _ _).alloc (Nat.le_refl _) _).alloc (by simp) _).trans (hb2.mono (by simp;omega))
 clear hb2
 obtain⟨a0,a1,a2,a3,a4⟩:=bA.c
 obtain⟨fa0,fa1,fa2,fa3,fa4⟩:=bA.f
 obtain⟨r0,r1,r2,r3,r4⟩:=bR.c
 obtain⟨fr0,fr1,fr2,fr3,fr4⟩:=bR.f
 have Z:=Z2 bR.c
 by_cases hU:55296<=U/\U<=56319
 ·obtain⟨hU1,hU2⟩:=hU
  by_cases h3:i+3<s.size
  ·have h3I:(i:Int)+3<(s.size:Int):=by omega
   go_wp2_with fail
   refine (cast_call2 (Hcb.out _ hs (by omega))).mono ?_
   rintro e w3 ⟨rfl,hb3⟩
   have hbw3:Below w.heap.size w w3:=hbw.trans (hb3.mono hbw.size)
   have bR3:=bR.below hb3
   have bA3:=bA.below hb3
   clear hb3 Z
   obtain⟨a0',a1',a2',a3',a4'⟩:=bA3.c
   obtain⟨fa0',fa1',fa2',fa3',fa4'⟩:=bA3.f
   obtain⟨r0',r1',r2',r3',r4'⟩:=bR3.c
   obtain⟨fr0',fr1',fr2',fr3',fr4'⟩:=bR3.f
   have Z:=Z2 bR3.c
   by_cases hV:56320<=V/\V<=57343
   ·obtain⟨hV1,hV2⟩:=hV
    have Hv:=Z2 (Hpair.out h3 ⟨hU1,hU2⟩ ⟨hV1,hV2⟩)
    go_wp2
    have z:=Z.out
    exact bodyPost_ret (v:=.tuple #[.agg #[.int .i64 (65536+1024 * (U - 55296)+V - 56320),.bool false,.int .i64 0,.int .i64 i,.int .i64 ((i:Int)+4)],.bool true]) (by
     have z5:=five_far (C:=w.heap.size+1) (o:=4) (v:=.int .i64 ((i:Int)+4)) (by omega) (five_far (C:=w.heap.size+1) (o:=0) (v:=.int .i64 (65536+1024 * (U - 55296)+V - 56320)) (by omega) z)
     obtain⟨q0,q1,q2,q3,q4⟩:=five_set (.int .i64 (65536+1024 * (U - 55296)+V - 56320)) (.bool false) (.int .i64 0) (.int .i64 i) (.int .i64 ((i:Int)+4)) z5
     simp [results,Tryz.results141,go_sem,q0,q1,q2,q3,q4]) rfl ⟨by rw[Hv.out],five_below _ _ _ _ _ ((hbw3.setCell (p:=⟨w.heap.size+1,0,none⟩) (Nat.le_succ _) _).setCell (p:=⟨w.heap.size+1,4,none⟩) (Nat.le_succ _) _) (Nat.le_refl _)⟩
   ·have Hv:=Z2 (Hlone.out (by omega))
    have HE:Hid ((decide (55296<=U)&&decide (U<=57343))=true):=by show _=_;simp;omega
    have hE2:U<=57343:=by omega
    by_cases hV1:56320<=V
    ·have hV2:¬V<=57343:=by omega
     go_wp2
     have z:=Z.out
     exact bodyPost_ret (v:=.tuple #[.agg #[.int .i64 U,.bool true,.int .i64 0,.int .i64 i,.int .i64 ((i:Int)+2)],.bool true]) (by
      have z5:=five_far (C:=w.heap.size+1) (o:=1) (v:=.bool true) (by omega) (five_far (C:=w.heap.size+1) (o:=0) (v:=.int .i64 U) (by omega) z)
      obtain⟨q0,q1,q2,q3,q4⟩:=five_set (.int .i64 U) (.bool true) (.int .i64 0) (.int .i64 i) (.int .i64 ((i:Int)+2)) z5
      simp [results,Tryz.results141,go_sem,q0,q1,q2,q3,q4]) rfl ⟨by rw[Hv.out];rw[HE.out],five_below _ _ _ _ _ ((hbw3.setCell (p:=⟨w.heap.size+1,0,none⟩) (Nat.le_succ _) _).setCell (p:=⟨w.heap.size+1,1,none⟩) (Nat.le_succ _) _) (Nat.le_refl _)⟩
    ·skip
     go_wp2
     have z:=Z.out
     exact bodyPost_ret (v:=.tuple #[.agg #[.int .i64 U,.bool true,.int .i64 0,.int .i64 i,.int .i64 ((i:Int)+2)],.bool true]) (by
      have z5:=five_far (C:=w.heap.size+1) (o:=1) (v:=.bool true) (by omega) (five_far (C:=w.heap.size+1) (o:=0) (v:=.int .i64 U) (by omega) z)
      obtain⟨q0,q1,q2,q3,q4⟩:=five_set (.int .i64 U) (.bool true) (.int .i64 0) (.int .i64 i) (.int .i64 ((i:Int)+2)) z5
      simp [results,Tryz.results141,go_sem,q0,q1,q2,q3,q4]) rfl ⟨by rw[Hv.out];rw[HE.out],five_below _ _ _ _ _ ((hbw3.setCell (p:=⟨w.heap.size+1,0,none⟩) (Nat.le_succ _) _).setCell (p:=⟨w.heap.size+1,1,none⟩) (Nat.le_succ _) _) (Nat.le_refl _)⟩
  ·have h3I:¬(i:Int)+3<(s.size:Int):=by omega
   have Hv:=Z2 (Hlone.out (by omega))
   have HE:Hid ((decide (55296<=U)&&decide (U<=57343))=true):=by show _=_;simp;omega
   have hE2:U<=57343:=by omega
   go_wp2
   have z:=Z.out
   exact bodyPost_ret (v:=.tuple #[.agg #[.int .i64 U,.bool true,.int .i64 0,.int .i64 i,.int .i64 ((i:Int)+2)],.bool true]) (by
    have z5:=five_far (C:=w.heap.size+1) (o:=1) (v:=.bool true) (by omega) (five_far (C:=w.heap.size+1) (o:=0) (v:=.int .i64 U) (by omega) z)
    obtain⟨q0,q1,q2,q3,q4⟩:=five_set (.int .i64 U) (.bool true) (.int .i64 0) (.int .i64 i) (.int .i64 ((i:Int)+2)) z5
    simp [results,Tryz.results141,go_sem,q0,q1,q2,q3,q4]) rfl ⟨by rw[Hv.out];rw[HE.out],five_below _ _ _ _ _ ((hbw.setCell (p:=⟨w.heap.size+1,0,none⟩) (Nat.le_succ _) _).setCell (p:=⟨w.heap.size+1,1,none⟩) (Nat.le_succ _) _) (Nat.le_refl _)⟩
 ·by_cases hU1:55296<=U
  ·have hU2:¬U<=56319:=by omega
   have Hv:=Z2 (Hlone.out (by omega))
   by_cases hE2:U<=57343
   ·have HE:Hid ((decide (55296<=U)&&decide (U<=57343))=true):=by show _=_;simp;omega
    go_wp2
    have z:=Z.out
    exact bodyPost_ret (v:=.tuple #[.agg #[.int .i64 U,.bool true,.int .i64 0,.int .i64 i,.int .i64 ((i:Int)+2)],.bool true]) (by
     have z5:=five_far (C:=w.heap.size+1) (o:=1) (v:=.bool true) (by omega) (five_far (C:=w.heap.size+1) (o:=0) (v:=.int .i64 U) (by omega) z)
     obtain⟨q0,q1,q2,q3,q4⟩:=five_set (.int .i64 U) (.bool true) (.int .i64 0) (.int .i64 i) (.int .i64 ((i:Int)+2)) z5
     simp [results,Tryz.results141,go_sem,q0,q1,q2,q3,q4]) rfl ⟨by rw[Hv.out];rw[HE.out],five_below _ _ _ _ _ ((hbw.setCell (p:=⟨w.heap.size+1,0,none⟩) (Nat.le_succ _) _).setCell (p:=⟨w.heap.size+1,1,none⟩) (Nat.le_succ _) _) (Nat.le_refl _)⟩
   ·have HE:Hid ((decide (55296<=U)&&decide (U<=57343))=false):=by show _=_;simp;omega
    have hE3:decide (U<=57343)=false:=by simp;omega
    go_wp2
    have z:=Z.out
    exact bodyPost_ret (v:=.tuple #[.agg #[.int .i64 U,.bool false,.int .i64 0,.int .i64 i,.int .i64 ((i:Int)+2)],.bool true]) (by
     have z5:=five_far (C:=w.heap.size+1) (o:=1) (v:=.bool false) (by omega) (five_far (C:=w.heap.size+1) (o:=0) (v:=.int .i64 U) (by omega) z)
     obtain⟨q0,q1,q2,q3,q4⟩:=five_set (.int .i64 U) (.bool false) (.int .i64 0) (.int .i64 i) (.int .i64 ((i:Int)+2)) z5
     simp [results,Tryz.results141,go_sem,q0,q1,q2,q3,q4]) rfl ⟨by rw[Hv.out];rw[HE.out],five_below _ _ _ _ _ ((hbw.setCell (p:=⟨w.heap.size+1,0,none⟩) (Nat.le_succ _) _).setCell (p:=⟨w.heap.size+1,1,none⟩) (Nat.le_succ _) _) (Nat.le_refl _)⟩
  ·have Hv:=Z2 (Hlone.out (by omega))
   have HE:Hid ((decide (55296<=U)&&decide (U<=57343))=false):=by show _=_;simp;omega
   go_wp2
   have z:=Z.out
   exact bodyPost_ret (v:=.tuple #[.agg #[.int .i64 U,.bool false,.int .i64 0,.int .i64 i,.int .i64 ((i:Int)+2)],.bool true]) (by
    have z5:=five_far (C:=w.heap.size+1) (o:=1) (v:=.bool false) (by omega) (five_far (C:=w.heap.size+1) (o:=0) (v:=.int .i64 U) (by omega) z)
    obtain⟨q0,q1,q2,q3,q4⟩:=five_set (.int .i64 U) (.bool false) (.int .i64 0) (.int .i64 i) (.int .i64 ((i:Int)+2)) z5
    simp [results,Tryz.results141,go_sem,q0,q1,q2,q3,q4]) rfl ⟨by rw[Hv.out];rw[HE.out],five_below _ _ _ _ _ ((hbw.setCell (p:=⟨w.heap.size+1,0,none⟩) (Nat.le_succ _) _).setCell (p:=⟨w.heap.size+1,1,none⟩) (Nat.le_succ _) _) (Nat.le_refl _)⟩
theorem rread_any (s:ByteArray) (i:Nat) (enc:Int) (w:World) (hs:s.size<=1099511627776) (h0:0<=enc) (h3:enc<=3) (hi:i<s.size) :
  Calls Tryz.prog 141 #[.string s,.int .i64 i,.int .i64 enc] w fun e w'=>e=.returned (rdVal enc s i)/\Below w.heap.size w w':=by
 have:enc=0\/enc=3\/(enc=1\/enc=2):=by omega
 rcases this with rfl|rfl|he
 ·exact rread_utf s i w hs hi
 ·exact rread_latin s i w hs hi
 ·by_cases h:i+1<s.size
  ·exact rread_units s i enc w hs he h
  ·exact rread_tail s i enc w hs he hi (by omega)
end Go.Proofs.YtoejbngihecafaaGreatDoor
namespace Go.Proofs.YtoejbngihecafaaGreatDoor
open Go.RowKit
def cellsRA (a:Vm.RA):List Value:=[.int .i64 a.1,.bool a.2.1,.int .i64 a.2.2.1,.int .i64 a.2.2.2.1,.int .i64 a.2.2.2.2]
def flatRA (L:List Vm.RA):List Value:=L.flatMap cellsRA
theorem flatRA_length (L:List Vm.RA):(flatRA L).length=L.length * 5:=by
 induction L with
 |nil=>rfl
 |cons a L ih=>simp [flatRA,cellsRA] at ih ⊢;omega
theorem flatRA_snoc (L:List Vm.RA) (a:Vm.RA):flatRA (L++[a])=flatRA L++cellsRA a:=by simp [flatRA]
theorem flatRA_last (L:List Vm.RA) (a:Vm.RA) (j:Nat) (hj:j<5):(flatRA (L++[a]))[L.length * 5+j]?=(cellsRA a)[j]?:=by
 rw[flatRA_snoc,List.getElem?_append_right (by rw[flatRA_length];omega),flatRA_length];congr 1;omega
theorem Tryz.infoAtom:(Tryz.prog.info? 136).map (fun i=>(i.zero,i.size,i.bytes))=some (some (.agg #[.int .i64 0,.bool false,.int .i64 0,.int .i64 0,.int .i64 0]),5,40):=by kernel_rfl
def Holds (w:World) (base:Nat) (v:Value) (L:List Vm.RA):Prop:=w.ownsRow base 136 5 v L.length (flatRA L)
theorem Holds.below {w w':World} {base:Nat} {v:Value} {L:List Vm.RA} (h:Holds w base v L) (hb:Below w.heap.size w w'):Holds w' base v L:=by
 refine⟨h.1,?_⟩
 rcases h.2 with x|⟨g,cap,cur,e1,e2,e3,r⟩
 ·exact .inl x
 ·exact .inr ⟨g,cap,cur,e1,e2,(hb.block g (Array.getElem?_eq_some_iff.1 e3).1).trans e3,r⟩
theorem five_new (w:World) (o:Obj) (t:TypeId) (v0 v1 v2 v3 v4:Value):∀(j:Nat) (u:Value),[v0,v1,v2,v3,v4][j]?=some u->((w.alloc o).alloc (.cells #[v0,v1,v2,v3,v4] t)).cell? ((⟨w.heap.size+1,0,none⟩:Addr).add j)=some u:=by
 intro j u h
 have hp:(⟨w.heap.size+1,0,none⟩:Addr).add j=⟨w.heap.size+1,j,none⟩:=by unfold Addr.add;split<;>simp_all
 rw[hp]
 have:j=0\/j=1\/j=2\/j=3\/j=4:=by
  have:=(List.getElem?_eq_some_iff.1 h).1
  simp at this;omega
 rcases this with rfl|rfl|rfl|rfl|rfl<;>simp at h<;>subst h<;>simp
theorem Holds.lt {w:World} {base:Nat} {v:Value} {L:List Vm.RA} (h:Holds w base v L):∀k,v.ownBlock=some k->base<=k/\k<w.heap.size:=World.ownsRow.lt h
theorem Holds.cellAt {w:World} {base g n cap:Nat} {L:List Vm.RA} (h:Holds w base (.slice (some ⟨g,0,none⟩) n cap) L) (j:Nat) (hj:j<L.length * 5):w.cell? ⟨g,j,none⟩=(flatRA L)[j]?:=by
 obtain rfl:n=L.length:=by
  rcases h.2 with ⟨x,_⟩|⟨_,_,_,x,_⟩
  ·cases x
  ·cases x;rfl
 exact World.ownsRow.cellAt h j hj
theorem Holds.frozenAt {w:World} {base g n cap:Nat} {L:List Vm.RA} (h:Holds w base (.slice (some ⟨g,0,none⟩) n cap) L) (j:Nat):w.frozen? ⟨g,j,none⟩=false:=by
 obtain rfl:n=L.length:=by
  rcases h.2 with ⟨x,_⟩|⟨_,_,_,x,_⟩
  ·cases x
  ·cases x;rfl
 exact World.ownsRow.frozenAt h j
theorem set_tail {α:Type} (F C:List α) (j:Nat) (x:α):(F++C).set (F.length+j) x=F++C.set j x:=by
 rw[List.set_append_right _ _ (by omega)];simp
theorem Holds.last2 {w:World} {base g n cap:Nat} {M:List Vm.RA} {a:Vm.RA} (h:Holds w base (.slice (some ⟨g,0,none⟩) n cap) (M++[a])) (x y:Int) :
  Holds ((w.setCell ⟨g,M.length * 5+2,none⟩ (.int .i64 x)).setCell ⟨g,M.length * 5+4,none⟩ (.int .i64 y)) base (.slice (some ⟨g,0,none⟩) n cap) (M++[(a.1,a.2.1,x,a.2.2.2.1,y)]):=by
 obtain rfl:n=(M++[a]).length:=by
  rcases h.2 with ⟨x,_⟩|⟨_,_,_,x,_⟩
  ·cases x
  ·cases x;rfl
 have h1:=(World.ownsRow.stored h (M.length * 5+2) (.int .i64 x)).1
 have h2:=(World.ownsRow.stored h1 (M.length * 5+4) (.int .i64 y)).1
 unfold Holds
 have e:((flatRA (M++[a])).set (M.length * 5+2) (.int .i64 x)).set (M.length * 5+4) (.int .i64 y)=flatRA (M++[(a.1,a.2.1,x,a.2.2.2.1,y)]):=by
  rw[flatRA_snoc,flatRA_snoc,<-flatRA_length,set_tail,set_tail];rfl
 rw[e] at h2
 have l:(M++[(a.1,a.2.1,x,a.2.2.2.1,y)]).length=(M++[a]).length:=by simp
 rw[l];exact h2
theorem Holds.alloc {w:World} {base:Nat} {v:Value} {L:List Vm.RA} (h:Holds w base v L) (o:Obj):Holds (w.alloc o) base v L:=World.ownsRow.alloc h o
theorem ratoms_any (s:ByteArray) (enc:Int) (w:World) (hs:s.size<=1099511627776) (h0:0<=enc) (h3:enc<=3) :
  Calls Tryz.prog 112 #[.string s,.int .i64 enc] w fun e w'=>∃v L,e=.returned v/\Vm.Reads L (Vm.atoms enc s.data.toList) 0/\L.length<=s.size/\Holds w' w.heap.size v L/\Below w.heap.size w w':=by
 obtain⟨i0,hi,hz0,hz1,hz2⟩:=info_parts Tryz.infoAtom
 go_enter Tryz.func112,Tryz.ntmps112
 go_wp2
 go_loopw [5,6] (fun out i wx=>∃(k:Nat) (L:List Vm.RA) (p:Option Addr) (cap:Nat),k<=s.size/\i=.int .i64 k/\Vm.RS enc s.data.toList k L/\out=.slice p L.length cap/\Holds wx w.heap.size (.slice p L.length cap) L/\Below w.heap.size w wx) (fun _ i _=>s.size - (intOf i).toNat)
 case atStart=>exact⟨0,[],none,0,Nat.zero_le _,rfl,Vm.RS.nil _ _,rfl,World.ownsRow_nil _ _ _ _,Below.refl _ _⟩
 case round =>
  obtain⟨k,L,p,cap,hk,rfl,hrs,rfl,hown,hbx⟩:=hrel
  have HR:=Z2 hrs
  have HO:=Z2 hown
  clear hrs hown
  by_cases hlt:k<s.size
  ·have hltI:(k:Int)<(s.size:Int):=by omega
   cases hrd:Vm.rd enc (s.data.toList.drop k) with
   |none =>
    have hval:rdVal enc s k=.tuple #[.agg #[.int .i64 0,.bool false,.int .i64 0,.int .i64 k,.int .i64 ((k:Int)+1)],.bool false]:=by unfold rdVal;rw[hrd]
    have HV:=Z2 hval
    have HD:=Z2 hrd
    clear hval hrd
    go_wp2_with fail
    refine (rread_any s k enc _ hs h0 h3 hlt).mono ?_
    rintro e w1 ⟨rfl,hb1⟩
    rw[HV.out]
    go_wp2
    go_ret
    exact⟨_,L,rfl,HR.out.done (Vm.rd_no HD.out),by have:=HR.out.len;omega,(HO.out.below hb1).alloc _,(hbx.trans (hb1.mono hbx.size)).alloc (by have:=hbx.size;have:=hb1.size;omega) _⟩
   |some x =>
    obtain⟨c,e,n⟩:=x
    obtain⟨hn1,hn4,hnl⟩:=Vm.rd_bd hrd
    simp only at hn1 hn4 hnl
    rw[Vm.len_drop] at hnl
    have hval:rdVal enc s k=.tuple #[.agg #[.int .i64 c,.bool e,.int .i64 0,.int .i64 k,.int .i64 ((k:Int)+n)],.bool true]:=by unfold rdVal;rw[hrd]
    have HV:=Z2 hval
    have HD:=Z2 hrd
    have hwh:=Vm.rd_what hrd
    simp only at hwh
    clear hval hrd
    have hLk:=HR.out.len
    by_cases h10:c=10
    ·subst h10
     obtain rfl:e=false:=by cases e<;>simp_all
     rcases List.eq_nil_or_concat L with hL|⟨M,a,hL⟩
     ·subst hL
      have RS2:=Z2 (HR.out.lf HD.out (fun M a h=>by simp at h))
      clear hwh
      have hl0:((0:Nat):Int) - 1 = -1:=rfl
      go_wp2_with fail
      refine (rread_any s k enc _ hs h0 h3 hlt).mono ?_
      rintro e w1 ⟨rfl,hb1⟩
      rw[HV.out]
      have HO1:=Z2 (HO.out.below hb1)
      have hbw:=hbx.trans (hb1.mono hbx.size)
      have hsz:=hbw.size
      clear hb1
      go_wp2_with (at_builtin;refine wpList_append_own _ rfl _ _ 132 rfl w.heap.size 136 i0 _ 5 40 Tryz.underlying132 hi hz0 hz1 hz2 rfl (by decide) _ 0 [] rfl ?hown ⟨w1.heap.size+1,0,none⟩ 1 1 [.int .i64 10,.bool false,.int .i64 1,.int .i64 k,.int .i64 ((k:Int)+n)] rfl rfl ?hnews ?h1 ?h63 ?hby ?hbase ?hrest)
      case hown=>exact (HO1.out.alloc _).alloc _
      case hnews=>exact five_new _ _ _ _ _ _ _ _
      case h1=>simp [Value.oneCell']
      case h63=>unfold maxLen;omega
      case hby=>omega
      case hbase=>simp;omega
      case hrest =>
       intro v' w2 hown2 hgrow2 _
       obtain⟨g',cap',rfl⟩:=ownsRow_succ hown2
       have hb2:Below w.heap.size w w2:=((hbw.alloc hsz _).alloc (by simp;omega) _).grown hgrow2 (by simp;omega) (fun k' hk'=>(HO1.out.lt k' hk').1)
       have HO2:Hid (Holds w2 w.heap.size (.slice (some ⟨g',0,none⟩) (0+1) cap') ([]++[(10,false,1,(k:Int),(k:Int)+n)])):=by
        show Holds _ _ _ _
        unfold Holds
        rw[flatRA_snoc,List.length_append]
        exact hown2
       clear hown2 hgrow2
       go_wp2
       refine⟨⟨k+n,_,some ⟨g',0,none⟩,cap',by omega,by go_num,RS2.out,?_,?_,hb2⟩,by simp [intOf];omega⟩
       ·rw[List.length_append];rfl
       ·rw[List.length_append];exact HO2.out
     ·rw[List.concat_eq_append] at hL
      subst hL
      have hML:(M++[a]).length=M.length+1:=by simp
      obtain⟨g,capg,hg⟩:=ownsRow_succ (by have:=HO.out;unfold Holds at this;rw[hML] at this;exact this)
      rw[<-hML] at hg
      injection hg with hg1 hg2 hg3
      subst hg1
      have cellL:=fun j (hj:j<5)=>(HO.out.cellAt (M.length * 5+j) (by rw[hML];omega)).trans (flatRA_last M a j hj)
      have cE:=cellL 2 (by decide)
      have cT:=cellL 4 (by decide)
      have fE:=HO.out.frozenAt (M.length * 5+2)
      have fT:=HO.out.frozenAt (M.length * 5+4)
      have hglt:=(HO.out.lt g rfl)
      clear cellL hg2 hg3
      simp only[cellsRA,List.getElem?_cons_succ,List.getElem?_cons_zero] at cE cT
      by_cases hE:a.2.2.1=3
      ·have RS2:=Z2 (HR.out.crlf HD.out hE)
       rw[hE] at cE
       clear hwh
       go_wp2_with fail
       refine (rread_any s k enc _ hs h0 h3 hlt).mono ?_
       rintro e w1 ⟨rfl,hb1⟩
       rw[HV.out]
       have HO1:=Z2 (HO.out.below hb1)
       have hbw:=hbx.trans (hb1.mono hbx.size)
       have hsz:=hbw.size
       have cE1:=(hb1.cell (p:=⟨g,M.length * 5+2,none⟩) hglt.2).trans cE
       have cT1:=(hb1.cell (p:=⟨g,M.length * 5+4,none⟩) hglt.2).trans cT
       have fE1:=(hb1.frozen (p:=⟨g,M.length * 5+2,none⟩) hglt.2).trans fE
       have fT1:=(hb1.frozen (p:=⟨g,M.length * 5+4,none⟩) hglt.2).trans fT
       have hg1:g<w1.heap.size:=by have:=hb1.size;omega
       clear hb1
       simp only[List.length_append,List.length_cons,List.length_nil]
       go_wp2
       have hst:=HO1.out.last2 2 ((k:Int)+n)
       refine⟨⟨k+n,_,some ⟨g,0,none⟩,cap,by omega,by go_num,RS2.out,by simp,?_,?_⟩,by simp [intOf];omega⟩
       ·have h2:=hst.alloc (.cells #[.int .i64 10,.bool false,.int .i64 0,.int .i64 k,.int .i64 ((k:Int)+n)] 136)
        simpa using h2
       ·exact ((hbw.setCell (p:=⟨g,M.length * 5+2,none⟩) hglt.1 _).setCell (p:=⟨g,M.length * 5+4,none⟩) hglt.1 _).alloc (by simp [World.setCell];omega) _
      ·have RS2:=Z2 (HR.out.lf HD.out (fun M2 a2 h=>by
        have h1:=List.append_inj_right' h (by simp)
        simp at h1;rw[<-h1];exact hE))
       have hE':(a.2.2.1==3)=false:=by simpa using hE
       clear hwh hE
       go_wp2_with fail
       refine (rread_any s k enc _ hs h0 h3 hlt).mono ?_
       rintro e w1 ⟨rfl,hb1⟩
       rw[HV.out]
       have HO1:=Z2 (HO.out.below hb1)
       have hbw:=hbx.trans (hb1.mono hbx.size)
       have hsz:=hbw.size
       have cE1:=(hb1.cell (p:=⟨g,M.length * 5+2,none⟩) hglt.2).trans cE
       have hg1:g<w1.heap.size:=by have:=hb1.size;omega
       clear hb1
       simp only[List.length_append,List.length_cons,List.length_nil]
       go_wp2_with (at_builtin;refine wpList_append_own _ rfl _ _ 132 rfl w.heap.size 136 i0 _ 5 40 Tryz.underlying132 hi hz0 hz1 hz2 rfl (by decide) _ (M.length+1) (flatRA (M++[a])) rfl ?hown ⟨w1.heap.size+1,0,none⟩ 1 1 [.int .i64 10,.bool false,.int .i64 1,.int .i64 k,.int .i64 ((k:Int)+n)] rfl rfl ?hnews ?h1 ?h63 ?hby ?hbase ?hrest)
       case hown =>
        have:=(HO1.out.alloc (.cells #[.int .i64 10,.bool false,.int .i64 1,.int .i64 k,.int .i64 ((k:Int)+n)] 136)).alloc (.cells #[.int .i64 10,.bool false,.int .i64 1,.int .i64 k,.int .i64 ((k:Int)+n)] 136)
        unfold Holds at this;rw[hML] at this;exact this
       case hnews=>exact five_new _ _ _ _ _ _ _ _
       case h1=>simp [Value.oneCell']
       case h63=>unfold maxLen;omega
       case hby=>omega
       case hbase=>simp;omega
       case hrest =>
        intro v' w2 hown2 hgrow2 _
        obtain⟨g',cap',rfl⟩:=ownsRow_succ hown2
        have hb2:Below w.heap.size w w2:=((hbw.alloc hsz _).alloc (by simp;omega) _).grown hgrow2 (by simp;omega) (fun k' hk'=>(HO1.out.lt k' hk').1)
        have HO2:Hid (Holds w2 w.heap.size (.slice (some ⟨g',0,none⟩) (M.length+1+1) cap') ((M++[a])++[(10,false,1,(k:Int),(k:Int)+n)])):=by
         show Holds _ _ _ _
         unfold Holds
         rw[flatRA_snoc,List.length_append,hML]
         exact hown2
        clear hown2 hgrow2
        go_wp2
        refine⟨⟨k+n,_,some ⟨g',0,none⟩,cap',by omega,by go_num,RS2.out,?_,?_,hb2⟩,by simp [intOf];omega⟩
        ·rw[List.length_append,hML];rfl
        ·rw[List.length_append,hML];exact HO2.out
    ·have h10':(c==10)=false:=by simpa using h10
     by_cases h13:c=13
     ·subst h13
      obtain rfl:e=false:=by cases e<;>simp_all
      have RS2:=Z2 (HR.out.cr HD.out)
      clear h10 hwh
      go_wp2_with fail
      refine (rread_any s k enc _ hs h0 h3 hlt).mono ?_
      rintro e w1 ⟨rfl,hb1⟩
      rw[HV.out]
      have HO1:=Z2 (HO.out.below hb1)
      have hbw:=hbx.trans (hb1.mono hbx.size)
      have hsz:=hbw.size
      clear hb1
      go_wp2_with (at_builtin;refine wpList_append_own _ rfl _ _ 132 rfl w.heap.size 136 i0 _ 5 40 Tryz.underlying132 hi hz0 hz1 hz2 rfl (by decide) _ L.length (flatRA L) rfl ?hown ⟨w1.heap.size+1,0,none⟩ 1 1 [.int .i64 10,.bool false,.int .i64 3,.int .i64 k,.int .i64 ((k:Int)+n)] rfl rfl ?hnews ?h1 ?h63 ?hby ?hbase ?hrest)
      case hown=>exact (HO1.out.alloc _).alloc _
      case hnews=>exact five_new _ _ _ _ _ _ _ _
      case h1=>simp [Value.oneCell']
      case h63=>unfold maxLen;omega
      case hby=>omega
      case hbase=>simp;omega
      case hrest =>
       intro v' w2 hown2 hgrow2 _
       obtain⟨g',cap',rfl⟩:=ownsRow_succ hown2
       have hb2:Below w.heap.size w w2:=((hbw.alloc hsz _).alloc (by simp;omega) _).grown hgrow2 (by simp;omega) (fun k' hk'=>(HO1.out.lt k' hk').1)
       have HO2:Hid (Holds w2 w.heap.size (.slice (some ⟨g',0,none⟩) (L.length+1) cap') (L++[(10,false,3,(k:Int),(k:Int)+n)])):=by
        show Holds _ _ _ _
        unfold Holds
        rw[flatRA_snoc,List.length_append]
        exact hown2
       clear hown2 hgrow2
       go_wp2
       refine⟨⟨k+n,_,some ⟨g',0,none⟩,cap',by omega,by go_num,RS2.out,?_,?_,hb2⟩,by simp [intOf];omega⟩
       ·rw[List.length_append];rfl
       ·rw[List.length_append];exact HO2.out
     ·have h13':(c==13)=false:=by simpa using h13
      have RS2:=Z2 (HR.out.other HD.out h10 h13)
      clear h10 h13 hwh
      go_wp2_with fail
      refine (rread_any s k enc _ hs h0 h3 hlt).mono ?_
      rintro e w1 ⟨rfl,hb1⟩
      rw[HV.out]
      have HO1:=Z2 (HO.out.below hb1)
      have hbw:=hbx.trans (hb1.mono hbx.size)
      have hsz:=hbw.size
      clear hb1
      go_wp2_with (at_builtin;refine wpList_append_own _ rfl _ _ 132 rfl w.heap.size 136 i0 _ 5 40 Tryz.underlying132 hi hz0 hz1 hz2 rfl (by decide) _ L.length (flatRA L) rfl ?hown ⟨w1.heap.size+1,0,none⟩ 1 1 [.int .i64 c,.bool e,.int .i64 0,.int .i64 k,.int .i64 ((k:Int)+n)] rfl rfl ?hnews ?h1 ?h63 ?hby ?hbase ?hrest)
      case hown=>exact (HO1.out.alloc _).alloc _
      case hnews=>exact five_new _ _ _ _ _ _ _ _
      case h1=>simp [Value.oneCell']
      case h63=>unfold maxLen;omega
      case hby=>omega
      case hbase=>simp;omega
      case hrest =>
       intro v' w2 hown2 hgrow2 _
       obtain⟨g',cap',rfl⟩:=ownsRow_succ hown2
       have hb2:Below w.heap.size w w2:=((hbw.alloc hsz _).alloc (by simp;omega) _).grown hgrow2 (by simp;omega) (fun k' hk'=>(HO1.out.lt k' hk').1)
       have HO2:Hid (Holds w2 w.heap.size (.slice (some ⟨g',0,none⟩) (L.length+1) cap') (L++[(c,e,0,(k:Int),(k:Int)+n)])):=by
        show Holds _ _ _ _
        unfold Holds
        rw[flatRA_snoc,List.length_append]
        exact hown2
       clear hown2 hgrow2
       go_wp2
       refine⟨⟨k+n,_,some ⟨g',0,none⟩,cap',by omega,by go_num,RS2.out,?_,?_,hb2⟩,by simp [intOf];omega⟩
       ·rw[List.length_append];rfl
       ·rw[List.length_append];exact HO2.out
  ·have hx:=HR.out.done (Vm.any_none enc s k (by omega))
   have HX:=Z2 hx
   clear hx
   go_wp2
   go_ret
   exact⟨_,L,rfl,HX.out,by have:=HR.out.len;omega,HO.out,hbx⟩
end Go.Proofs.YtoejbngihecafaaGreatDoor
namespace Go.Proofs.YtoejbngihecafaaGreatDoor
open Go.RowKit
theorem markB_3:markB 3=⟨#[]⟩:=rfl
theorem rmark_any (enc:Int) (w:World) (h0:0<=enc) (h3:enc<=3) :
  Calls Tryz.prog 41 #[.int .i64 enc] w fun e w'=>e=.returned (.string (markB enc))/\Below w.heap.size w w':=by
 have:enc=0\/enc=1\/enc=2\/enc=3:=by omega
 rcases this with rfl|rfl|rfl|rfl
 ·go_enter Tryz.func41,Tryz.ntmps41
  go_wp2
  go_ret
  exact⟨rfl,(Below.refl _ _).alloc (Nat.le_refl _) _⟩
 ·go_enter Tryz.func41,Tryz.ntmps41
  go_wp2
  go_ret
  exact⟨rfl,(Below.refl _ _).alloc (Nat.le_refl _) _⟩
 ·go_enter Tryz.func41,Tryz.ntmps41
  go_wp2
  go_ret
  exact⟨rfl,(Below.refl _ _).alloc (Nat.le_refl _) _⟩
 ·go_enter Tryz.func41,Tryz.ntmps41
  go_wp2
  go_ret
  exact⟨rfl,(Below.refl _ _).alloc (Nat.le_refl _) _⟩
theorem pre_eq (s t:ByteArray):((s.extract 0 t.size).toList==t.toList)=t.data.toList.isPrefixOf s.data.toList:=by
 rw[ByteArray.toList_eq,ByteArray.toList_eq,Lib.extract_data]
 have hl:t.size=t.data.toList.length:=rfl
 rw[hl,Nat.sub_zero,List.drop_zero]
 generalize t.data.toList=a
 generalize s.data.toList=b
 rw[Bool.eq_iff_iff,beq_iff_eq,List.isPrefixOf_iff_prefix]
 exact⟨fun h=>⟨b.drop a.length,by have:=List.take_append_drop a.length b;rw[h] at this;exact this⟩,fun ⟨c,h⟩=>by rw[<-h];simp⟩
theorem pre_short (s t:ByteArray) (h:s.size<t.size):t.data.toList.isPrefixOf s.data.toList=false:=by
 cases e:t.data.toList.isPrefixOf s.data.toList
 ·rfl
 ·have:=(List.isPrefixOf_iff_prefix.1 e).length_le
  have h1:t.size=t.data.toList.length:=rfl
  have h2:s.size=s.data.toList.length:=rfl
  omega
theorem not_empty (t:ByteArray) (h:t.size≠0):t.toList.isEmpty=false:=by
 rw[ByteArray.toList_eq]
 have h1:t.size=t.data.toList.length:=rfl
 cases e:t.data.toList with
 |nil=>rw[e] at h1;exact absurd h1 h
 |cons a l=>rfl
theorem rbegins_any (s t:ByteArray) (w:World) (_hs:s.size<=1099511627776) (_ht:t.size<=1099511627776) :
  Calls Tryz.prog 40 #[.string s,.string t] w fun e w'=>e=.returned (.bool (decide (t.size≠0)&&t.data.toList.isPrefixOf s.data.toList))/\w'=w:=by
 by_cases h0:t.size=0
 ·have e0:t=⟨#[]⟩:=by
   cases t with|mk d=>simp [ByteArray.size] at h0;rw[h0]
  subst e0
  go_enter Tryz.func40,Tryz.ntmps40
  go_wp2
  go_ret
  exact⟨rfl,rfl⟩
 ·by_cases h1:t.size<=s.size
  ·have h1I:(t.size:Int)<=(s.size:Int):=by omega
   have hne:=not_empty t h0
   have hd:decide (t.size≠0)=true:=by simp [h0]
   rw[hd,Bool.true_and,<-pre_eq]
   clear hd
   go_enter Tryz.func40,Tryz.ntmps40
   go_wp2
   go_ret
   exact⟨ret_bool (by simp),rfl⟩
  ·have h1I:¬(t.size:Int)<=(s.size:Int):=by omega
   have hne:=not_empty t h0
   rw[pre_short s t (by omega),Bool.and_false]
   go_enter Tryz.func40,Tryz.ntmps40
   go_wp2
   go_ret
   exact⟨rfl,rfl⟩
theorem rshown_any (a:Vm.RA) (w:World) (h:a.2.1=false->0<=a.1/\a.1<=1114111) :
  Calls Tryz.prog 77 #[.agg #[.int .i64 a.1,.bool a.2.1,.int .i64 a.2.2.1,.int .i64 a.2.2.2.1,.int .i64 a.2.2.2.2]] w fun e w'=>e=.returned (.string (strOfNums (Vm.utfL (if a.2.1 then 65533 else a.1))))/\Below w.heap.size w w':=by
 obtain⟨c,e,x,y,z⟩:=a
 cases e
 ·obtain⟨g1,g2⟩:=h rfl
  go_enter Tryz.func77,Tryz.ntmps77
  go_wp2_with fail
  refine (rutf_any _ _ g1 (by omega)).mono ?_
  rintro e w1 ⟨rfl,hb⟩
  go_wp2
  go_ret
  exact⟨rfl,((Below.refl _ _).alloc (Nat.le_refl _) _).trans (hb.mono (by simp))⟩
 ·clear h
  go_enter Tryz.func77,Tryz.ntmps77
  go_wp2_with fail
  refine (rutf_any _ _ (by omega) (by omega)).mono ?_
  rintro e w1 ⟨rfl,hb⟩
  go_wp2
  go_ret
  exact⟨rfl,((Below.refl _ _).alloc (Nat.le_refl _) _).trans (hb.mono (by simp))⟩
theorem runits_any (a:Vm.RA) (w:World) :
  Calls Tryz.prog 79 #[.agg #[.int .i64 a.1,.bool a.2.1,.int .i64 a.2.2.1,.int .i64 a.2.2.2.1,.int .i64 a.2.2.2.2]] w fun e w'=>e=.returned (.int .i64 (if a.2.1=false/\65535<a.1 then 2 else 1))/\Below w.heap.size w w':=by
 obtain⟨c,e,x,y,z⟩:=a
 cases e
 ·by_cases g:65535<c
  ·rw[if_pos ⟨rfl,g⟩]
   go_enter Tryz.func79,Tryz.ntmps79
   go_wp2
   go_ret
   exact⟨rfl,(Below.refl _ _).alloc (Nat.le_refl _) _⟩
  ·rw[if_neg (fun h=>g h.2)]
   go_enter Tryz.func79,Tryz.ntmps79
   go_wp2
   go_ret
   exact⟨rfl,(Below.refl _ _).alloc (Nat.le_refl _) _⟩
 ·rw[if_neg (fun h=>by simp at h)]
  go_enter Tryz.func79,Tryz.ntmps79
  go_wp2
  go_ret
  exact⟨rfl,(Below.refl _ _).alloc (Nat.le_refl _) _⟩
end Go.Proofs.YtoejbngihecafaaGreatDoor
namespace Go.Proofs.YtoejbngihecafaaGreatDoor
open Go.RowKit
def ofMark (s:ByteArray) (enc:Int):Bool:=decide ((markB enc).size≠0)&&(markB enc).data.toList.isPrefixOf s.data.toList
def ofBody (s:ByteArray) (enc:Int):ByteArray:=if ofMark s enc then s.extract (markB enc).size s.size else s
def bytesOf (enc:Int) (mark:Bool) (body:ByteArray):ByteArray:=if mark then markB enc++body else body
theorem markB_size (enc:Int):(markB enc).size<=3:=by
 unfold markB;(repeat' split)<;>decide
theorem ofMark_size {s:ByteArray} {enc:Int} (h:ofMark s enc=true):(markB enc).size<=s.size:=by
 unfold ofMark at h
 simp only[Bool.and_eq_true] at h
 exact (List.isPrefixOf_iff_prefix.1 h.2).length_le
theorem ofBody_size (s:ByteArray) (enc:Int):(ofBody s enc).size<=s.size:=by
 unfold ofBody
 split
 ·rw[ByteArray.size_extract];omega
 ·exact Nat.le_refl _
theorem bytes_ext {a b:ByteArray} (h:a.data.toList=b.data.toList):a=b:=by
 cases a;cases b;simp at h;simp [h]
theorem append_data (a b:ByteArray):(a++b).data.toList=a.data.toList++b.data.toList:=by simp
structure Bx3 (w:World) (B:Nat) (v0 v1 v2:Value):Prop where
 c:w.cell? ⟨B,0,none⟩=some v0/\w.cell? ⟨B,1,none⟩=some v1/\w.cell? ⟨B,2,none⟩=some v2
 f:w.frozen? ⟨B,0,none⟩=false/\w.frozen? ⟨B,1,none⟩=false/\w.frozen? ⟨B,2,none⟩=false
theorem Bx3.below {w w':World} {B:Nat} {v0 v1 v2:Value} (h:Bx3 w B v0 v1 v2) (hb:Below w.heap.size w w'):Bx3 w' B v0 v1 v2:=by
 have hB:=Z3 h.c.1
 have g:∀o,w'.cell? ⟨B,o,none⟩=w.cell? ⟨B,o,none⟩:=fun o=>hb.cell (p:=⟨B,o,none⟩) hB
 have k:∀o,w'.frozen? ⟨B,o,none⟩=w.frozen? ⟨B,o,none⟩:=fun o=>hb.frozen (p:=⟨B,o,none⟩) hB
 exact⟨⟨(g _).trans h.c.1,(g _).trans h.c.2.1,(g _).trans h.c.2.2⟩,⟨(k _).trans h.f.1,(k _).trans h.f.2.1,(k _).trans h.f.2.2⟩⟩
theorem Bx3.new (w:World) (t:TypeId) (v0 v1 v2:Value):Bx3 (w.alloc (.cells #[v0,v1,v2] t)) w.heap.size v0 v1 v2 :=
 ⟨⟨by simp,by simp,by simp⟩,⟨by simp [go_sem],by simp [go_sem],by simp [go_sem]⟩⟩
theorem three_set {W:World} {B:Nat} {u0 u1 u2:Value} (v0 v1 v2:Value) (h:W.cell? ⟨B,0,none⟩=some u0/\W.cell? ⟨B,1,none⟩=some u1/\W.cell? ⟨B,2,none⟩=some u2) :
  (((W.setCell ⟨B,0,none⟩ v0).setCell ⟨B,1,none⟩ v1).setCell ⟨B,2,none⟩ v2).cell? ⟨B,0,none⟩=some v0 /\
  (((W.setCell ⟨B,0,none⟩ v0).setCell ⟨B,1,none⟩ v1).setCell ⟨B,2,none⟩ v2).cell? ⟨B,1,none⟩=some v1 /\
  (((W.setCell ⟨B,0,none⟩ v0).setCell ⟨B,1,none⟩ v1).setCell ⟨B,2,none⟩ v2).cell? ⟨B,2,none⟩=some v2:=by
 obtain⟨h0,h1,h2⟩:=h
 refine⟨?_,?_,?_⟩
 ·rw[sc_ne _ _ 2 0 _ (by decide),sc_ne _ _ 1 0 _ (by decide),sc_eq _ _ 0 _ u0 h0]
 ·rw[sc_ne _ _ 2 1 _ (by decide),sc_eq _ _ 1 _ u1 (by rw[sc_ne _ _ 0 1 _ (by decide)];exact h1)]
 ·rw[sc_eq _ _ 2 _ u2 (by rw[sc_ne _ _ 1 2 _ (by decide),sc_ne _ _ 0 2 _ (by decide)];exact h2)]
theorem three_below {w W:World} {B:Nat} (v0 v1 v2:Value) (h:Below w.heap.size w W) (hB:w.heap.size<=B) :
  Below w.heap.size w (((W.setCell ⟨B,0,none⟩ v0).setCell ⟨B,1,none⟩ v1).setCell ⟨B,2,none⟩ v2) :=
 ((h.setCell (p:=⟨B,0,none⟩) hB _).setCell (p:=⟨B,1,none⟩) hB _).setCell (p:=⟨B,2,none⟩) hB _
theorem rof_any (s:ByteArray) (enc:Int) (w:World) (hs:s.size<=1099511627776) (h0:0<=enc) (h3:enc<=3) :
  Calls Tryz.prog 42 #[.string s,.int .i64 enc] w fun e w'=>e=.returned (.agg #[.int .i64 enc,.bool (ofMark s enc),.string (ofBody s enc)])/\Below w.heap.size w w':=by
 have hms:=markB_size enc
 have hmd:(decide ((markB enc).size≠0)&&(markB enc).data.toList.isPrefixOf s.data.toList)=ofMark s enc:=rfl
 have hbd:ofBody s enc=if ofMark s enc then s.extract (markB enc).size s.size else s:=rfl
 have hle:=@ofMark_size s enc
 have HM:=Z2 hmd
 clear hmd
 generalize hm:ofMark s enc=m at *
 generalize ofBody s enc=bd at *
 have hcm:=rmark_any enc
 generalize hmk:markB enc=mk at *
 have HMK:=Z2 hmk
 have HM1:=Z2 hm
 clear hm hmk
 have HC:=Z2 hcm
 clear hcm
 have hsI:(mk.size:Int)<=3:=by omega
 cases m
 ·simp only[Bool.false_eq_true,if_false] at hbd
  rw[hbd]
  clear hbd hle
  go_enter Tryz.func42,Tryz.ntmps42
  go_wp2_with fail
  refine (HC.out _ h0 h3).mono ?_
  rintro e w1 ⟨rfl,hb1⟩
  obtain⟨⟨q0,q1,q2⟩,f0,f1,f2⟩:=Bx3.below (Bx3.new w 99 (.int .i64 0) (.bool false) (.string ⟨#[]⟩)) hb1
  have hbw:Below w.heap.size w w1:=((Below.refl _ _).alloc (Nat.le_refl _) _).trans (hb1.mono (by simp))
  clear hb1
  go_wp2_with fail
  refine (rbegins_any s mk _ hs (by omega)).mono ?_
  rintro e w2 ⟨rfl,rfl⟩
  rw[HM.out]
  go_wp2
  exact bodyPost_ret (v:=.agg #[.int .i64 enc,.bool false,.string (s)]) (by
   obtain⟨g0,g1,g2⟩:=three_set (.int .i64 enc) (.bool false) (.string (s)) ⟨q0,q1,q2⟩
   simp [results,Tryz.results42,go_sem,g0,g1,g2]) rfl ⟨rfl,three_below _ _ _ hbw (Nat.le_refl _)⟩
 ·simp only[if_true] at hbd
  have hle2:=hle rfl
  have hleI:(mk.size:Int)<=(s.size:Int):=by omega
  rw[hbd]
  clear hbd hle
  go_enter Tryz.func42,Tryz.ntmps42
  go_wp2_with fail
  refine (HC.out _ h0 h3).mono ?_
  rintro e w1 ⟨rfl,hb1⟩
  obtain⟨⟨q0,q1,q2⟩,f0,f1,f2⟩:=Bx3.below (Bx3.new w 99 (.int .i64 0) (.bool false) (.string ⟨#[]⟩)) hb1
  have hbw:Below w.heap.size w w1:=((Below.refl _ _).alloc (Nat.le_refl _) _).trans (hb1.mono (by simp))
  clear hb1
  go_wp2_with fail
  refine (rbegins_any s mk _ hs (by omega)).mono ?_
  rintro e w2 ⟨rfl,rfl⟩
  rw[HM.out]
  go_wp2
  exact bodyPost_ret (v:=.agg #[.int .i64 enc,.bool true,.string (s.extract mk.size s.size)]) (by
   obtain⟨g0,g1,g2⟩:=three_set (.int .i64 enc) (.bool true) (.string (s.extract mk.size s.size)) ⟨q0,q1,q2⟩
   simp [results,Tryz.results42,go_sem,g0,g1,g2]) rfl ⟨rfl,three_below _ _ _ hbw (Nat.le_refl _)⟩
theorem rbytes_any (enc:Int) (mark:Bool) (b:ByteArray) (w:World) (hs:b.size<=1099511627776) (h0:0<=enc) (h3:enc<=3) :
  Calls Tryz.prog 75 #[.agg #[.int .i64 enc,.bool mark,.string b]] w fun e w'=>e=.returned (.string (bytesOf enc mark b))/\Below w.heap.size w w':=by
 have hms:=markB_size enc
 cases mark
 ·go_enter Tryz.func75,Tryz.ntmps75
  go_wp2
  go_ret
  exact⟨rfl,(Below.refl _ _).alloc (Nat.le_refl _) _⟩
 ·go_enter Tryz.func75,Tryz.ntmps75
  go_wp2_with fail
  refine (rmark_any _ _ h0 h3).mono ?_
  rintro e w1 ⟨rfl,hb1⟩
  obtain⟨⟨q0,q1,q2⟩,f0,f1,f2⟩:=Bx3.below (Bx3.new w 99 (.int .i64 enc) (.bool true) (.string b)) hb1
  have hbw:Below w.heap.size w w1:=((Below.refl _ _).alloc (Nat.le_refl _) _).trans (hb1.mono (by simp))
  clear hb1
  go_wp2
  go_ret
  exact⟨rfl,hbw⟩
end Go.Proofs.YtoejbngihecafaaGreatDoor
