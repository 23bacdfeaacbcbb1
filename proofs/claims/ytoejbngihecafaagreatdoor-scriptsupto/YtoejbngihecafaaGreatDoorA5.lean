import Derived.Deep.Heap
import Derived.Lib.AppendStr
import Derived.Lib.SlBytesRow
import Derived.Test.YtoejbngihecafaaGreatDoorA1
import Derived.Test.YtoejbngihecafaaGreatDoorA4
set_option maxRecDepth 100000
set_option maxHeartbeats 1000000
namespace Go.Proofs.YtoejbngihecafaaGreatDoor
open Go.RowKit
def sniffTo (s:ByteArray) (e0:Int):Nat->Int
 |0=>e0
 |k+1=>if ofMark s k then k else sniffTo s e0 k
def encOf (s:ByteArray) (mode:Int):Int:=if 4<=mode then sniffTo s (mode%4) 3 else mode%4
theorem sniffTo_bd (s:ByteArray) (e0:Int) (h0:0<=e0) (h3:e0<=3):∀k,k<=3->0<=sniffTo s e0 k/\sniffTo s e0 k<=3
 |0,_=>⟨h0,h3⟩
 |k+1,hk=>by
  unfold sniffTo
  split
  ·omega
  ·exact sniffTo_bd s e0 h0 h3 k (by omega)
theorem encOf_bd (s:ByteArray) (mode:Int):0<=encOf s mode/\encOf s mode<=3:=by
 unfold encOf
 split
 ·exact sniffTo_bd s _ (by omega) (by omega) 3 (Nat.le_refl _)
 ·omega
def tyAt (w:World) (q:Nat):Option TypeId:=match w.heap[q]? with
 |some (.cells _ t _)=>some t
 |_=>none
theorem tyAt_set (w:World) (a:Addr) (v:Value) (q:Nat):tyAt (w.setCell a v) q=tyAt w q:=by
 unfold tyAt
 by_cases h:q=a.block
 ·subst h
  simp only[World.setCell,Array.getElem?_modify,if_true]
  cases hh:w.heap[a.block]? with
  |none=>rfl
  |some o=>cases o<;>rfl
 ·rw[Deep.blk_setCell_other w a v q h]
theorem tyAt_low {w w':World} {q:Nat} (hq:q<w.heap.size) (hb:Below w.heap.size w w'):tyAt w' q=tyAt w q:=by
 unfold tyAt;rw[hb.block q hq]
structure RDoc (w:World) (B:Nat) (enc:Int) (mark:Bool) (body:ByteArray):Prop where
 c0:w.cell? ⟨B,0,none⟩=some (.int .i64 enc)
 c1:w.cell? ⟨B,1,none⟩=some (.bool mark)
 c2:w.cell? ⟨B,2,none⟩=some (.string body)
 ty:tyAt w B≠some 5
theorem RDoc.below {w w':World} {B:Nat} {enc:Int} {mark:Bool} {body:ByteArray} (h:RDoc w B enc mark body) (hb:Below w.heap.size w w'):RDoc w' B enc mark body :=
 ⟨(hb.cell (p:=⟨B,0,none⟩) (Z3 h.c0)).trans h.c0,(hb.cell (p:=⟨B,1,none⟩) (Z3 h.c0)).trans h.c1,(hb.cell (p:=⟨B,2,none⟩) (Z3 h.c0)).trans h.c2,by rw[tyAt_low (Z3 h.c0) hb];exact h.ty⟩
theorem rload_no (s:ByteArray) (mode:Int) (w:World) (h:mode<0\/7<mode) :
  Calls Tryz.prog 11 #[.string s,.int .i64 mode] w fun e w'=>e=.returned (.tuple #[.pointer none,.int .i64 1])/\w'=w:=by
 rcases h with h|h
 ·go_enter Tryz.func11,Tryz.ntmps11
  go_wp2
  go_ret2
  exact⟨rfl,rfl⟩
 ·have h':¬mode<0:=by omega
  go_enter Tryz.func11,Tryz.ntmps11
  go_wp2
  go_ret2
  exact⟨rfl,rfl⟩
theorem rload_new (s:ByteArray) (mode:Int) (w:World) (hs:s.size<=1099511627776) (h0:0<=mode) (h7:mode<=7) :
  Calls Tryz.prog 11 #[.string s,.int .i64 mode] w fun e w'=>∃B,e=.returned (.tuple #[.pointer (some ⟨B,0,none⟩),.int .i64 0])/\w.heap.size<=B/\w'.heap[B]?=some (.cells #[.int .i64 (encOf s mode),.bool (ofMark s (encOf s mode)),.string (ofBody s (encOf s mode)),.slice none 0 0,.slice none 0 0] 103)/\Below w.heap.size w w':=by
 have n0:¬mode<0:=by omega
 have n7:¬7<mode:=by omega
 by_cases h4:4<=mode
 ·have he:encOf s mode=sniffTo s (mode%4) 3:=by unfold encOf;rw[if_pos h4]
  rw[he]
  clear he
  go_enter Tryz.func11,Tryz.ntmps11
  go_wp2
  go_loopw [6,7] (fun e k wx=>∃q:Nat,q<=3/\k=.int .i64 q/\e=.int .i64 (sniffTo s (mode%4) q)/\Below w.heap.size w wx) (fun _ k _=>3 - (intOf k).toNat)
  case atStart=>exact⟨0,Nat.zero_le _,rfl,rfl,Below.refl _ _⟩
  case round =>
   obtain⟨q,hq,rfl,rfl,hbx⟩:=hrel
   by_cases hlt:q<3
   ·have hltI:(q:Int)<=2:=by omega
    have hms:=markB_size (q:Int)
    have hmd:(decide ((markB q).size≠0)&&(markB q).data.toList.isPrefixOf s.data.toList)=ofMark s q:=rfl
    have hst:sniffTo s (mode%4) (q+1)=if ofMark s q then (q:Int) else sniffTo s (mode%4) q:=rfl
    have HM:=Z2 hmd
    have HS:=Z2 hst
    clear hmd hst
    cases hm:ofMark s q
    ·go_wp2_with fail
     refine (rmark_any _ _ (by omega) (by omega)).mono ?_
     rintro e w1 ⟨rfl,hb1⟩
     go_wp2_with fail
     refine (rbegins_any s _ _ hs (by omega)).mono ?_
     rintro e w2 ⟨rfl,rfl⟩
     rw[HM.out,hm]
     go_wp2
     refine⟨⟨q+1,by omega,by go_num,?_,hbx.trans (hb1.mono hbx.size)⟩,by simp [intOf];omega⟩
     rw[HS.out,hm];rfl
    ·go_wp2_with fail
     refine (rmark_any _ _ (by omega) (by omega)).mono ?_
     rintro e w1 ⟨rfl,hb1⟩
     go_wp2_with fail
     refine (rbegins_any s _ _ hs (by omega)).mono ?_
     rintro e w2 ⟨rfl,rfl⟩
     rw[HM.out,hm]
     go_wp2
     refine⟨⟨q+1,by omega,by go_num,?_,hbx.trans (hb1.mono hbx.size)⟩,by simp [intOf];omega⟩
     rw[HS.out,hm];rfl
   ·obtain rfl:q=3:=by omega
    obtain⟨g0,g3⟩:=sniffTo_bd s (mode%4) (by omega) (by omega) 3 (Nat.le_refl _)
    generalize hen:sniffTo s (mode%4) 3=en at *
    have HEN:=Z2 hen
    clear hen
    go_wp2_with fail
    refine (rof_any s en _ hs g0 g3).mono ?_
    rintro e w1 ⟨rfl,hb1⟩
    have hbw:=hbx.trans (hb1.mono hbx.size)
    go_wp2
    go_ret2
    refine⟨w1.heap.size,rfl,hbw.size,?_,hbw.alloc hbw.size _⟩
    rw[HEN.out];exact Deep.blk_alloc_new _ _
 ·have he:encOf s mode=mode%4:=by unfold encOf;rw[if_neg h4]
  rw[he]
  clear he
  go_enter Tryz.func11,Tryz.ntmps11
  go_wp2_with fail
  refine (rof_any s (mode%4) _ hs (by omega) (by omega)).mono ?_
  rintro e w1 ⟨rfl,hbw⟩
  go_wp2
  go_ret2
  refine⟨w1.heap.size,rfl,hbw.size,?_,hbw.alloc hbw.size _⟩
  exact Deep.blk_alloc_new _ _
theorem RDoc.of_heap {w:World} {B:Nat} {enc:Int} {mark:Bool} {body:ByteArray} {vo vb:Value} (h:w.heap[B]?=some (.cells #[.int .i64 enc,.bool mark,.string body,vo,vb] 103)):RDoc w B enc mark body :=
 ⟨by rw[Lib.cell_of_heap h];rfl,by rw[Lib.cell_of_heap h];rfl,by rw[Lib.cell_of_heap h];rfl,by unfold tyAt;rw[h];intro e;injection e with e;exact absurd e (by decide)⟩
theorem rload_ok (s:ByteArray) (mode:Int) (w:World) (hs:s.size<=1099511627776) (h0:0<=mode) (h7:mode<=7) :
  Calls Tryz.prog 11 #[.string s,.int .i64 mode] w fun e w'=>∃B,e=.returned (.tuple #[.pointer (some ⟨B,0,none⟩),.int .i64 0])/\w.heap.size<=B/\RDoc w' B (encOf s mode) (ofMark s (encOf s mode)) (ofBody s (encOf s mode))/\Below w.heap.size w w' :=
 (rload_new s mode w hs h0 h7).mono fun _ _ ⟨B,h1,h2,h3,h4⟩=>⟨B,h1,h2,RDoc.of_heap h3,h4⟩
theorem rsave_any (B:Nat) (enc:Int) (mark:Bool) (body:ByteArray) (w:World) (hd:RDoc w B enc mark body) (hs:body.size<=1099511627776) (h0:0<=enc) (h3:enc<=3) :
  Calls Tryz.prog 44 #[.pointer (some ⟨B,0,none⟩)] w fun e w'=>e=.returned (.string (bytesOf enc mark body))/\Below w.heap.size w w':=by
 obtain⟨c0,c1,c2⟩:=hd
 go_enter Tryz.func44,Tryz.ntmps44
 go_wp2_with fail
 refine (rbytes_any _ _ _ _ hs h0 h3).mono ?_
 rintro e w1 ⟨rfl,hb1⟩
 go_wp2
 go_ret
 exact⟨rfl,hb1⟩
theorem two_kept {w w':World} {B i j:Nat} {u v:Value} (h:w.cell? ⟨B,i,none⟩=some u/\w.cell? ⟨B,j,none⟩=some v) (hb:Below w.heap.size w w'):w'.cell? ⟨B,i,none⟩=some u/\w'.cell? ⟨B,j,none⟩=some v :=
 ⟨(hb.cell (p:=⟨B,i,none⟩) (Z3 h.1)).trans h.1,(hb.cell (p:=⟨B,j,none⟩) (Z3 h.1)).trans h.2⟩
theorem below_drew0 {w w':World} (h:Below w.heap.size w.drew w'):Below w.heap.size w w':=⟨h.os,h.tape,h.output,h.size,h.block⟩
theorem rdatoms_any (B:Nat) (enc:Int) (mark:Bool) (body:ByteArray) (w:World) (hd:RDoc w B enc mark body) (hs:body.size<=1099511627776) (h0:0<=enc) (h3:enc<=3) :
  Calls Tryz.prog 76 #[.pointer (some ⟨B,0,none⟩)] w fun e w'=>∃v L,e=.returned v/\Vm.Reads L (Vm.atoms enc body.data.toList) 0/\L.length<=body.size/\Holds w' w.heap.size v L/\Below w.heap.size w w':=by
 obtain⟨c0,c1,c2⟩:=hd
 go_enter Tryz.func76,Tryz.ntmps76
 go_wp2
 go_region_held3 (fun w'=>w'.cell? ⟨B,0,none⟩=some (.int .i64 enc)/\w'.cell? ⟨B,2,none⟩=some (.string body)) (first|go_keep|exact two_kept (by assumption) (by assumption))
  (first|(go_at_call 112;refine (ratoms_any body enc _ hs h0 h3).mono ?_;rintro e w1 ⟨v,L,rfl,hr,hl,ho,hb1⟩))
 all_goals
  go_wp2
  go_ret
  exact⟨v,L,rfl,hr,hl,ho,below_drew0 hb1⟩
theorem st_kept {w0 w w':World} {B:Nat} {u:Value} (h:w.cell? ⟨B,0,none⟩=some u/\Hid (Below w0.heap.size w0 w)) (hb:Below w.heap.size w w'):w'.cell? ⟨B,0,none⟩=some u/\Hid (Below w0.heap.size w0 w') :=
 ⟨(hb.cell (p:=⟨B,0,none⟩) (Z3 h.1)).trans h.1,h.2.out.trans (hb.mono h.2.out.size)⟩
theorem st_kept0 {w:World} {B:Nat} {u:Value} (h:w.cell? ⟨B,0,none⟩=some u) (hb:Below w.heap.size w w):w.drew.cell? ⟨B,0,none⟩=some u/\Hid (Below w.heap.size w w.drew):=⟨h,hb.drew⟩
theorem st_doc {w0 w:World} {B:Nat} {enc:Int} {mark:Bool} {body:ByteArray} {u:Value} (hd:Hid (RDoc w0 B enc mark body)) (h:w.cell? ⟨B,0,none⟩=some u/\Hid (Below w0.heap.size w0 w)):RDoc w B enc mark body:=hd.out.below h.2.out
def stableB (enc:Int) (mark:Bool) (body:ByteArray):Bool:=encOf (bytesOf enc mark body) (4+enc)==enc
theorem rstable_any (B:Nat) (enc:Int) (mark:Bool) (body:ByteArray) (w:World) (hd:RDoc w B enc mark body) (hs:body.size<=1099511627000) (h0:0<=enc) (h3:enc<=3) :
  Calls Tryz.prog 47 #[.pointer (some ⟨B,0,none⟩)] w fun e w'=>e=.returned (.bool (stableB enc mark body))/\Below w.heap.size w w':=by
 have hbs:(bytesOf enc mark body).size<=1099511627776:=by
  have:=markB_size enc
  unfold bytesOf;split
  ·rw[ByteArray.size_append];omega
  ·omega
 have c0:=hd.c0
 have hwr:IntKind.i64.wrap (4+enc)=4+enc:=by rw[IntKind.wrap_i64];omega
 have HD:=Z2 hd
 clear hd
 go_enter Tryz.func47,Tryz.ntmps47
 go_wp2
 go_region_held3 (fun w'=>w'.cell? ⟨B,0,none⟩=some (.int .i64 enc)/\Hid (Below w.heap.size w w')) (first|exact st_kept0 c0 (Below.refl _ _)|exact st_kept (by assumption) (by assumption)|exact st_kept0 c0 (Below.refl _ _))
  (first|(go_at_call 44;refine (rsave_any B enc mark body _ (st_doc HD (by assumption)) (by omega) h0 h3).mono ?_;rintro e w1 ⟨rfl,hb1⟩)|(go_at_call 11;refine (rload_ok (bytesOf enc mark body) (4+enc) _ hbs (by omega) (by omega)).mono ?_;rintro e w2 ⟨B2,rfl,hB2,hd2,hb2⟩))
 all_goals
  have hS:w2.cell? ⟨B,0,none⟩=some (.int .i64 enc)/\Hid (Below w.heap.size w w2):=by assumption
  obtain⟨q0,q1⟩:=hS
  have q2:=hd2.c0
  go_wp2
  go_quiet (fail)
  go_wp2
  go_ret
  exact⟨rfl,below_drewN q1.out _⟩
end Go.Proofs.YtoejbngihecafaaGreatDoor
namespace Go.Proofs.YtoejbngihecafaaGreatDoor
open Go.RowKit
theorem flatRA_at (L:List Vm.RA):∀(k:Nat) (a:Vm.RA) (j:Nat),L[k]?=some a->j<5->(flatRA L)[k * 5+j]?=(cellsRA a)[j]?:=by
 induction L with
 |nil=>intro k a j h;simp at h
 |cons b L ih =>
  intro k a j h hj
  have e:flatRA (b :: L)=cellsRA b++flatRA L:=rfl
  have l5:(cellsRA b).length=5:=rfl
  cases k with
  |zero =>
   simp only[List.getElem?_cons_zero,Option.some.injEq] at h
   subst h
   rw[e,Nat.zero_mul,Nat.zero_add,List.getElem?_append_left (by omega)]
  |succ k =>
   simp only[List.getElem?_cons_succ] at h
   rw[e,List.getElem?_append_right (by omega),l5,<-ih k a j h hj]
   congr 1;omega
theorem reads_get:∀{L:List Vm.RA} {A:List Vm.At} {p:Nat},Vm.Reads L A p->∀(k:Nat) (a:Vm.RA),L[k]?=some a->∃x q,A[k]?=some x/\Vm.RaOk a x q
 |[],[],_,_,k,a,h=>by simp at h
 |[],_ :: _,_,h,_,_,_=>h.elim
 |_ :: _,[],_,h,_,_,_=>h.elim
 |b :: L,y :: A,p,h,k,a,hk=>by
  cases k with
  |zero =>
   simp only[List.getElem?_cons_zero,Option.some.injEq] at hk
   subst hk
   exact⟨y,p,rfl,h.1⟩
  |succ k =>
   simp only[List.getElem?_cons_succ] at hk
   obtain⟨x,q,h1,h2⟩:=reads_get h.2 k a hk
   exact⟨x,q,h1,h2⟩
theorem raok_char {a:Vm.RA} {x:Vm.At} {p:Nat} (h:Vm.RaOk a x p) (hx:Vm.AtOk x):(if a.2.1 then (65533:Int) else a.1)=Vm.chA x:=by
 obtain⟨_,_,he,_,hc,_,_⟩:=h
 unfold Vm.chA
 by_cases h4:x.1=4
 ·rw[he];simp [h4,hx.2.2.1 h4]
 ·rw[he,hc h4];simp [h4]
theorem strOf_append (a b:List Int):strOfNums (a++b)=strOfNums a++strOfNums b:=by
 apply bytes_ext
 rw[append_data]
 simp [strOfNums]
theorem Tryz.infoByte:(Tryz.prog.info? 5).map (fun i=>(i.zero,i.size,i.bytes))=some (some (.int .u8 0),1,1):=by kernel_rfl
theorem strCells_append (a b:ByteArray):Lib.strCells (a++b)=Lib.strCells a++Lib.strCells b:=by
 unfold Lib.strCells;rw[append_data,List.map_append]
def textTo (A:List Vm.At) (k:Nat):ByteArray:=strOfNums (Vm.textL (A.take k))
theorem textTo_succ {A:List Vm.At} {k:Nat} {x:Vm.At} (h:A[k]?=some x):textTo A (k+1)=textTo A k++strOfNums (Vm.utfL (Vm.chA x)):=by
 unfold textTo
 rw[List.take_add_one,h,<-strOf_append]
 simp [Vm.textL]
theorem textTo_size (A:List Vm.At):∀k,(textTo A k).size<=4 * k:=by
 intro k
 have:∀B:List Vm.At,(strOfNums (Vm.textL B)).size<=4 * B.length:=by
  intro B
  induction B with
  |nil=>simp [Vm.textL,strOfNums,ByteArray.size]
  |cons b B ih =>
   have e:Vm.textL (b :: B)=Vm.utfL (Vm.chA b)++Vm.textL B:=rfl
   rw[e,strOf_append,ByteArray.size_append,str_len]
   have:=Vm.utfLen_cases (Vm.chA b)
   simp only[List.length_cons];omega
 have h:=this (A.take k)
 have:(A.take k).length<=k:=by simp;omega
 unfold textTo;omega
def OwnB (w:World) (base:Nat) (p:Option Addr) (cap:Nat) (t:ByteArray):Prop:=w.ownsRow base 5 1 (.slice p t.size cap) t.size (Lib.strCells t)
theorem OwnB.lt {w:World} {base:Nat} {p:Option Addr} {cap:Nat} {t:ByteArray} (h:OwnB w base p cap t):∀k,(Value.slice p t.size cap).ownBlock=some k->base<=k/\k<w.heap.size:=World.ownsRow.lt h
theorem OwnB.below {w w':World} {base:Nat} {p:Option Addr} {cap:Nat} {t:ByteArray} (h:OwnB w base p cap t) (hb:Below w.heap.size w w'):OwnB w' base p cap t:=by
 refine⟨h.1,?_⟩
 rcases h.2 with x|⟨g,cap,cur,e1,e2,e3,r⟩
 ·exact .inl x
 ·exact .inr ⟨g,cap,cur,e1,e2,(hb.block g (Array.getElem?_eq_some_iff.1 e3).1).trans e3,r⟩
theorem OwnB.conv {w:World} {base:Nat} {p:Option Addr} {cap:Nat} {t:ByteArray} (h:OwnB w base p cap t):(convert 92 9 (.slice p t.size cap)).run Tryz.prog w=.ok (.string t) w:=by
 cases p with
 |none =>
  rcases h.2 with ⟨x,y⟩|⟨g,c,cur,x,_⟩
  ·have e:t=ByteArray.empty:=by
    apply bytes_ext
    have:t.data.toList.length=0:=y
    rw[List.length_eq_zero_iff] at this
    rw[this];rfl
   rw[e]
   exact run_convert_bytes_nil w 92 5 Tryz.underlying92 Tryz.underlying5 _ _ 9 Tryz.underlying9
  ·cases x
 |some a =>
  rcases h.2 with ⟨x,_⟩|⟨g,c,cur,x,hx⟩
  ·cases x
  ·injection x with x1 x2 x3
   injection x1 with x1
   subst x1 x3
   refine Lib.run_convert_whole w 92 5 9 Tryz.underlying92 Tryz.underlying5 Tryz.underlying9 g 0 t ?_ _
   intro i hi
   rw[Nat.zero_add,World.ownsRow.cellAt h i (by omega)]
   unfold Lib.strCells
   rw[List.getElem?_map,List.getElem?_eq_getElem (by simpa using hi)]
   rfl
theorem rtext_any (B:Nat) (enc:Int) (mark:Bool) (body:ByteArray) (w:World) (hd:RDoc w B enc mark body) (hs:body.size<=1099511627776) (h0:0<=enc) (h3:enc<=3) :
  Calls Tryz.prog 45 #[.pointer (some ⟨B,0,none⟩)] w fun e w'=>e=.returned (.string (strOfNums (Vm.textL (Vm.atoms enc body.data.toList))))/\Below w.heap.size w w':=by
 obtain⟨i0,hi,hz0,hz1,hz2⟩:=info_parts Tryz.infoByte
 have hok:=Vm.atoms_ok enc body.data.toList
 have hca:=rdatoms_any B enc mark body w hd hs h0 h3
 generalize Vm.atoms enc body.data.toList=A at *
 have HC:=Z2 hca
 clear hca hd
 go_enter Tryz.func45,Tryz.ntmps45
 go_wp2_with fail
 refine HC.out.mono ?_
 rintro e w1 ⟨v,L,rfl,hr,hl,ho,hb1⟩
 have hlen:=hr.length
 obtain⟨p,cap,rfl⟩:∃p cap,v=.slice p L.length cap:=by
  rcases ho.2 with ⟨x,y⟩|⟨g,c,cur,x,_⟩
  ·exact⟨none,0,by rw[x,y]⟩
  ·exact⟨_,_,x⟩
 have HO:=Z2 ho
 have HR:=Z2 hr
 have HL:=Z2 hlen
 clear ho hr hlen
 go_wp2
 go_loopw [3,5] (fun s i wx=>∃(k:Nat) (q:Option Addr) (c:Nat),k<=L.length/\i=.int .i64 k/\s=.slice q (textTo A k).size c/\OwnB wx w1.heap.size q c (textTo A k)/\Below w1.heap.size w1 wx) (fun _ i _=>L.length - (intOf i).toNat)
 case atStart=>exact⟨0,none,0,Nat.zero_le _,rfl,rfl,World.ownsRow_nil _ _ _ _,Below.refl _ _⟩
 case round =>
  obtain⟨k,q,c,hk,rfl,rfl,hown,hbx⟩:=hrel
  have hts:=textTo_size A k
  by_cases hlt:k<L.length
  ·have hltI:(k:Int)<(L.length:Int):=by omega
   obtain⟨a,ha⟩:∃a,L[k]?=some a:=⟨L[k],List.getElem?_eq_getElem hlt⟩
   obtain⟨x,pz,hx,hra⟩:=reads_get HR.out k a ha
   have hch:=raok_char hra (hok x (List.mem_of_getElem? hx))
   have hxo:=hok x (List.mem_of_getElem? hx)
   have hsucc:=textTo_succ hx
   have hcb:Vm.chA x<=1114111/\0<=Vm.chA x:=⟨hxo.2.2.2.2.2.1,hxo.2.2.2.2.1⟩
   obtain⟨g,rfl⟩:∃g,p=some ⟨g,0,none⟩:=by
    rcases HO.out.2 with ⟨y,z⟩|⟨g,c,cur,y,_⟩
    ·omega
    ·injection y with y1;exact⟨g,y1⟩
   have hox:=HO.out.below hbx
   have cell:=fun j (hj:j<5)=>(hox.cellAt (k * 5+j) (by omega)).trans (flatRA_at L k a j ha hj)
   have q0:=cell 0 (by decide)
   have q1:=cell 1 (by decide)
   have q2:=cell 2 (by decide)
   have q3:=cell 3 (by decide)
   have q4:=cell 4 (by decide)
   simp only[cellsRA,List.getElem?_cons_succ,List.getElem?_cons_zero,Nat.add_zero] at q0 q1 q2 q3 q4
   have hsh:=rshown_any a
   have hrange:a.2.1=false->0<=a.1/\a.1<=1114111:=fun h=>by rw[h] at hch;simp only[Bool.false_eq_true,if_false] at hch;rw[hch];exact⟨hcb.2,hcb.1⟩
   have HRG:=Z2 hrange
   rw[hch] at hsh
   clear hrange
   have HSH:=Z2 hsh
   have HS:=Z2 hsucc
   have HW:=Z2 hown
   have hlen:=str_len (Vm.chA x)
   have hlc:=Vm.utfLen_cases (Vm.chA x)
   have HLN:=Z2 hlen
   clear cell hox hsh hsucc hown hch hra hx ha hlen
   go_wp2_with fail
   refine (HSH.out _ HRG.out).mono ?_
   rintro e w2 ⟨rfl,hb2⟩
   have HW2:=Z2 (HW.out.below hb2)
   have hbx2:=hbx.trans (hb2.mono hbx.size)
   have hsz:=hbx2.size
   clear hb2 q0 q1 q2 q3 q4
   go_wp2_with (at_builtin;refine Lib.wpList_append_own_string _ rfl _ _ 92 9 rfl w1.heap.size 5 i0 Tryz.underlying92 Tryz.underlying9 hi hz0 hz1 hz2 _ (textTo A k).size (Lib.strCells (textTo A k)) rfl HW2.out (strOfNums (Vm.utfL (Vm.chA x))) rfl ?h63 ?hby ?hbase ?hrest)
   case h63=>rw[HLN.out];unfold maxLen;omega
   case hby=>rw[HLN.out];omega
   case hbase=>omega
   case hrest =>
    intro v' w3 hown3 hgrow3 _
    obtain⟨q',c',hv'⟩:∃q' c',v'=.slice q' (textTo A (k+1)).size c':=by
     rcases hown3.2 with ⟨y,z⟩|⟨g',c',cur,y,_⟩
     ·exact⟨none,0,by rw[HS.out,ByteArray.size_append,z];exact y⟩
     ·exact⟨_,c',by rw[HS.out,ByteArray.size_append];exact y⟩
    have hown4:OwnB w3 w1.heap.size q' c' (textTo A (k+1)):=by
     unfold OwnB
     rw[<-hv',HS.out,ByteArray.size_append,strCells_append]
     exact hown3
    have hb3:Below w1.heap.size w1 w3:=hbx2.grown hgrow3 hsz (fun k' hk'=>(HW2.out.lt k' hk').1)
    rw[hv']
    clear hown3 hgrow3 hv'
    go_wp2
    exact⟨⟨k+1,q',c',by omega,by go_num,rfl,hown4,hb3⟩,by simp [intOf];omega⟩
  ·obtain rfl:k=L.length:=by omega
   have hfin:textTo A L.length=strOfNums (Vm.textL A):=by unfold textTo;rw[HL.out,List.take_length]
   have hcv:=hown.conv
   have HF:=Z2 hfin
   clear hfin hown
   go_wp2
   go_ret
   exact⟨ret_str HF.out,hb1.trans (hbx.mono hb1.size)⟩
end Go.Proofs.YtoejbngihecafaaGreatDoor
namespace Vm
def cntK (A:List At) (j:Int):Nat:=(A.filter (fun x=>x.1==j)).length
theorem cntK_snoc (A:List At) (x:At) (j:Int):cntK (A++[x]) j=cntK A j+if x.1=j then 1 else 0:=by
 unfold cntK
 rw[List.filter_append,List.length_append]
 by_cases h:x.1=j<;>simp [h]
theorem cntK_le (A:List At) (j:Int):cntK A j<=A.length:=List.length_filter_le _ _
theorem cntK_take {A:List At} {k:Nat} {x:At} (h:A[k]?=some x) (j:Int):cntK (A.take (k+1)) j=cntK (A.take k) j+if x.1=j then 1 else 0:=by
 rw[List.take_add_one,h];exact cntK_snoc _ _ _
def endingOf (a b c:Nat):Int:=if (if a<b then b else a)<c then 2 else if a<b then 1 else 0
end Vm
namespace Go.Proofs.YtoejbngihecafaaGreatDoor
open Go.RowKit
theorem make3 (w:World):(Instr.makeSlice 22 (.int .i64 3) (.int .i64 3)).run Tryz.prog w=.ok (.slice (some ⟨w.heap.size,0,none⟩) 3 3) (w.alloc (.cells #[.int .i64 0,.int .i64 0,.int .i64 0] 3)):=by kernel_rfl
theorem rending_any (v:Value) (L:List Vm.RA) (A:List Vm.At) (base:Nat) (w:World) (ho:Holds w base v L) (hr:Vm.Reads L A 0) (hl:L.length<=1099511627776) :
  Calls Tryz.prog 78 #[v] w fun e w'=>e=.returned (.int .i64 (Vm.endingOf (Vm.cntK A 0) (Vm.cntK A 1) (Vm.cntK A 2)))/\Below w.heap.size w w':=by
 have hmk:=make3
 obtain⟨p,cap,rfl⟩:∃p cap,v=.slice p L.length cap:=by
  rcases ho.2 with ⟨x,y⟩|⟨g,c,cur,x,_⟩
  ·exact⟨none,0,by rw[x,y]⟩
  ·exact⟨_,_,x⟩
 have hlen:=hr.length
 have HO:=Z2 ho
 have HR:=Z2 hr
 have HL:=Z2 hlen
 clear ho hr hlen
 go_enter Tryz.func78,Tryz.ntmps78
 go_wp2
 have bN:=Bx3.new w 3 (.int .i64 0) (.int .i64 0) (.int .i64 0)
 have hbN:Below w.heap.size w (w.alloc (.cells #[.int .i64 0,.int .i64 0,.int .i64 0] 3)):=(Below.refl _ _).alloc (Nat.le_refl _) _
 have HBN:=Z2 bN
 clear bN
 go_loopw [4] (fun i wx=>∃k:Nat,k<=L.length/\i=.int .i64 k/\Bx3 wx w.heap.size (.int .i64 (Vm.cntK (A.take k) 0)) (.int .i64 (Vm.cntK (A.take k) 1)) (.int .i64 (Vm.cntK (A.take k) 2))/\Below w.heap.size w wx) (fun i _=>L.length - (intOf i).toNat)
 case atStart=>exact⟨0,Nat.zero_le _,rfl,HBN.out,hbN⟩
 case round =>
  obtain⟨k,hk,rfl,hbk,hbx⟩:=hrel
  obtain⟨⟨n0,n1,n2⟩,f0,f1,f2⟩:=hbk
  have m0:=Vm.cntK_le (A.take k) 0
  have m1:=Vm.cntK_le (A.take k) 1
  have m2:=Vm.cntK_le (A.take k) 2
  have mt:(A.take k).length<=k:=by simp;omega
  by_cases hlt:k<L.length
  ·have hltI:(k:Int)<(L.length:Int):=by omega
   obtain⟨a,ha⟩:∃a,L[k]?=some a:=⟨L[k],List.getElem?_eq_getElem hlt⟩
   obtain⟨x,pz,hx,hra⟩:=reads_get HR.out k a ha
   obtain⟨g,rfl⟩:∃g,p=some ⟨g,0,none⟩:=by
    rcases HO.out.2 with ⟨y,z⟩|⟨g,c,cur,y,_⟩
    ·omega
    ·injection y with y1;exact⟨g,y1⟩
   have hgl:=(HO.out.lt g rfl).2
   have q2:=(HO.out.below (hbx.mono (Nat.le_refl _))).cellAt (k * 5+2) (by omega)
   rw[flatRA_at L k a 2 ha (by decide)] at q2
   simp only[cellsRA,List.getElem?_cons_succ,List.getElem?_cons_zero] at q2
   have hend:=hra.2.2.2.1
   have hk0:=hra.2.2.2.2.2
   have t0:=Vm.cntK_take hx 0
   have t1:=Vm.cntK_take hx 1
   have t2:=Vm.cntK_take hx 2
   rw[hend] at q2
   have T0:=Z2 t0
   have T1:=Z2 t1
   have T2:=Z2 t2
   clear hend hra hx ha t0 t1 t2
   have hcase:x.1=0\/x.1=1\/x.1=2\/3<=x.1:=by omega
   rcases hcase with hx1|hx1|hx1|hx1
   ·rw[hx1,if_pos (by decide)] at q2
    go_wp2
    refine⟨⟨k+1,by omega,by go_num,⟨⟨?_,?_,?_⟩,?_,?_,?_⟩,hbx.setCell (p:=⟨w.heap.size,0,none⟩) (Nat.le_refl _) _⟩,by simp [intOf];omega⟩
    ·rw[sc_eq _ _ 0 _ _ n0,T0.out,if_pos hx1];rfl
    ·rw[sc_ne _ _ 0 1 _ (by decide),T1.out,if_neg (by omega)];exact n1
    ·rw[sc_ne _ _ 0 2 _ (by decide),T2.out,if_neg (by omega)];exact n2
    ·rw[World.frozen?_setCell];exact f0
    ·rw[World.frozen?_setCell];exact f1
    ·rw[World.frozen?_setCell];exact f2
   ·rw[hx1,if_pos (by decide)] at q2
    go_wp2
    refine⟨⟨k+1,by omega,by go_num,⟨⟨?_,?_,?_⟩,?_,?_,?_⟩,hbx.setCell (p:=⟨w.heap.size,1,none⟩) (Nat.le_refl _) _⟩,by simp [intOf];omega⟩
    ·rw[sc_ne _ _ 1 0 _ (by decide),T0.out,if_neg (by omega)];exact n0
    ·rw[sc_eq _ _ 1 _ _ n1,T1.out,if_pos hx1];rfl
    ·rw[sc_ne _ _ 1 2 _ (by decide),T2.out,if_neg (by omega)];exact n2
    ·rw[World.frozen?_setCell];exact f0
    ·rw[World.frozen?_setCell];exact f1
    ·rw[World.frozen?_setCell];exact f2
   ·rw[hx1,if_pos (by decide)] at q2
    go_wp2
    refine⟨⟨k+1,by omega,by go_num,⟨⟨?_,?_,?_⟩,?_,?_,?_⟩,hbx.setCell (p:=⟨w.heap.size,2,none⟩) (Nat.le_refl _) _⟩,by simp [intOf];omega⟩
    ·rw[sc_ne _ _ 2 0 _ (by decide),T0.out,if_neg (by omega)];exact n0
    ·rw[sc_ne _ _ 2 1 _ (by decide),T1.out,if_neg (by omega)];exact n1
    ·rw[sc_eq _ _ 2 _ _ n2,T2.out,if_pos hx1];rfl
    ·rw[World.frozen?_setCell];exact f0
    ·rw[World.frozen?_setCell];exact f1
    ·rw[World.frozen?_setCell];exact f2
   ·rw[if_neg (by omega)] at q2
    go_wp2
    refine⟨⟨k+1,by omega,by go_num,⟨⟨?_,?_,?_⟩,f0,f1,f2⟩,hbx⟩,by simp [intOf];omega⟩
    ·rw[T0.out,if_neg (by omega)];exact n0
    ·rw[T1.out,if_neg (by omega)];exact n1
    ·rw[T2.out,if_neg (by omega)];exact n2
  ·obtain rfl:k=L.length:=by omega
   have hall:A.take L.length=A:=by rw[HL.out,List.take_length]
   rw[hall] at n0 n1 n2 m0 m1 m2
   have hAl:=HL.out
   clear hall mt
   generalize e0:Vm.cntK A 0=c0 at *
   generalize e1:Vm.cntK A 1=c1 at *
   generalize e2:Vm.cntK A 2=c2 at *
   have C0:=Z2 e0
   have C1:=Z2 e1
   have C2:=Z2 e2
   clear e0 e1 e2
   by_cases g1:(c0:Int)<(c1:Int)
   ·by_cases g2:(c1:Int)<(c2:Int)
    ·skip
     have he:Vm.endingOf c0 c1 c2=2:=by unfold Vm.endingOf;rw[if_pos (show c0<c1 by omega),if_pos (by omega)]
     have HE:=Z2 he
     clear he
     go_wp2
     refine wp_loop_rounds 3 ?_
     rw[rounds_succ]
     go_wp2
     go_quiet (fail)
     go_wp2
     rw[rounds_succ]
     go_wp2
     go_quiet (fail)
     go_wp2
     rw[rounds_succ]
     go_wp2
     go_ret
     exact⟨ret_int (by rw[C0.out,C1.out,C2.out];exact HE.out.symm),below_drewN hbx _⟩
    ·skip
     have he:Vm.endingOf c0 c1 c2=1:=by unfold Vm.endingOf;rw[if_pos (show c0<c1 by omega),if_neg (by omega),if_pos (by omega)]
     have HE:=Z2 he
     clear he
     go_wp2
     refine wp_loop_rounds 3 ?_
     rw[rounds_succ]
     go_wp2
     go_quiet (fail)
     go_wp2
     rw[rounds_succ]
     go_wp2
     go_quiet (fail)
     go_wp2
     rw[rounds_succ]
     go_wp2
     go_ret
     exact⟨ret_int (by rw[C0.out,C1.out,C2.out];exact HE.out.symm),below_drewN hbx _⟩
   ·by_cases g2:(c0:Int)<(c2:Int)
    ·skip
     have he:Vm.endingOf c0 c1 c2=2:=by unfold Vm.endingOf;rw[if_neg (show ¬c0<c1 by omega),if_pos (by omega)]
     have HE:=Z2 he
     clear he
     go_wp2
     refine wp_loop_rounds 3 ?_
     rw[rounds_succ]
     go_wp2
     go_quiet (fail)
     go_wp2
     rw[rounds_succ]
     go_wp2
     go_quiet (fail)
     go_wp2
     rw[rounds_succ]
     go_wp2
     go_ret
     exact⟨ret_int (by rw[C0.out,C1.out,C2.out];exact HE.out.symm),below_drewN hbx _⟩
    ·skip
     have he:Vm.endingOf c0 c1 c2=0:=by unfold Vm.endingOf;rw[if_neg (show ¬c0<c1 by omega),if_neg (by omega),if_neg (by omega)]
     have HE:=Z2 he
     clear he
     go_wp2
     refine wp_loop_rounds 3 ?_
     rw[rounds_succ]
     go_wp2
     go_quiet (fail)
     go_wp2
     rw[rounds_succ]
     go_wp2
     go_quiet (fail)
     go_wp2
     rw[rounds_succ]
     go_wp2
     go_ret
     exact⟨ret_int (by rw[C0.out,C1.out,C2.out];exact HE.out.symm),below_drewN hbx _⟩
end Go.Proofs.YtoejbngihecafaaGreatDoor
namespace Vm
def bytesA (A:List At):Nat:=(A.map lenA).sum
def unitsA (A:List At):Nat:=(A.map unA).sum
def linesA (A:List At):Nat:=(A.filter (fun x=>decide (x.1<=2))).length
theorem bytesA_take {A:List At} {k:Nat} {x:At} (h:A[k]?=some x):bytesA (A.take (k+1))=bytesA (A.take k)+lenA x:=by
 rw[List.take_add_one,h];simp [bytesA]
theorem unitsA_take {A:List At} {k:Nat} {x:At} (h:A[k]?=some x):unitsA (A.take (k+1))=unitsA (A.take k)+unA x:=by
 rw[List.take_add_one,h];simp [unitsA]
theorem linesA_take {A:List At} {k:Nat} {x:At} (h:A[k]?=some x):linesA (A.take (k+1))=linesA (A.take k)+if x.1<=2 then 1 else 0:=by
 rw[List.take_add_one,h]
 unfold linesA
 rw[List.filter_append,List.length_append]
 by_cases g:x.1<=2<;>simp [g]
theorem sizeA_take {A:List At} {k:Nat} {x:At} (h:A[k]?=some x):sizeA (A.take (k+1))=sizeA (A.take k)+x.2.2:=by
 rw[List.take_add_one,h];exact sizeA_snoc _ _
theorem bytesA_le (A:List At):bytesA A<=4 * A.length:=by
 induction A with
 |nil=>simp [bytesA]
 |cons a A ih =>
  have h1:lenA a<=4:=by have:=utfLen_cases (chA a);unfold lenA;omega
  have h2:bytesA (a :: A)=lenA a+bytesA A:=by simp [bytesA]
  rw[h2,List.length_cons];omega
theorem unitsA_le (A:List At):unitsA A<=2 * A.length:=by
 induction A with
 |nil=>simp [unitsA]
 |cons a A ih =>
  have h1:unA a<=2:=by unfold unA;split<;>omega
  have h2:unitsA (a :: A)=unA a+unitsA A:=by simp [unitsA]
  rw[h2,List.length_cons];omega
theorem linesA_le (A:List At):linesA A<=A.length:=List.length_filter_le _ _
theorem Reads.pos:∀{L:List RA} {A:List At} {p:Nat},Reads L A p->∀(k:Nat) (a:RA) (x:At),L[k]?=some a->A[k]?=some x->RaOk a x (p+sizeA (A.take k))
 |[],_,_,_,k,a,x,h,_=>by simp at h
 |_ :: _,[],_,h,_,_,_,_,_=>h.elim
 |b :: L,y :: A,p,h,k,a,x,hk,hx=>by
  cases k with
  |zero =>
   simp only[List.getElem?_cons_zero,Option.some.injEq] at hk hx
   subst hk hx
   simpa [sizeA] using h.1
  |succ k =>
   simp only[List.getElem?_cons_succ] at hk hx
   have:=h.2.pos k a x hk hx
   have e:p+y.2.2+sizeA (A.take k)=p+sizeA ((y :: A).take (k+1)):=by simp [sizeA];omega
   rwa [e] at this
end Vm
namespace Go.Proofs.YtoejbngihecafaaGreatDoor
open Go.RowKit
structure Bx9 (w:World) (B:Nat) (v0 v1 v2 v3 v4 v5 v6 v7 v8:Value):Prop where
 c0:w.cell? ⟨B,0,none⟩=some v0
 c1:w.cell? ⟨B,1,none⟩=some v1
 c2:w.cell? ⟨B,2,none⟩=some v2
 c3:w.cell? ⟨B,3,none⟩=some v3
 c4:w.cell? ⟨B,4,none⟩=some v4
 c5:w.cell? ⟨B,5,none⟩=some v5
 c6:w.cell? ⟨B,6,none⟩=some v6
 c7:w.cell? ⟨B,7,none⟩=some v7
 c8:w.cell? ⟨B,8,none⟩=some v8
 f:∀j,w.frozen? ⟨B,j,none⟩=false
theorem Bx9.below {w w':World} {B:Nat} {v0 v1 v2 v3 v4 v5 v6 v7 v8:Value} (h:Bx9 w B v0 v1 v2 v3 v4 v5 v6 v7 v8) (hb:Below w.heap.size w w'):Bx9 w' B v0 v1 v2 v3 v4 v5 v6 v7 v8:=by
 have hB:=Z3 h.c0
 have g:∀o,w'.cell? ⟨B,o,none⟩=w.cell? ⟨B,o,none⟩:=fun o=>hb.cell (p:=⟨B,o,none⟩) hB
 exact⟨(g _).trans h.c0,(g _).trans h.c1,(g _).trans h.c2,(g _).trans h.c3,(g _).trans h.c4,(g _).trans h.c5,(g _).trans h.c6,(g _).trans h.c7,(g _).trans h.c8,fun j=>(hb.frozen (p:=⟨B,j,none⟩) hB).trans (h.f j)⟩
theorem Bx9.new (w:World) (t:TypeId) (v0 v1 v2 v3 v4 v5 v6 v7 v8:Value):Bx9 (w.alloc (.cells #[v0,v1,v2,v3,v4,v5,v6,v7,v8] t)) w.heap.size v0 v1 v2 v3 v4 v5 v6 v7 v8 :=
 ⟨by simp,by simp,by simp,by simp,by simp,by simp,by simp,by simp,by simp,fun j=>by simp [go_sem]⟩
variable {w:World} {B:Nat} {v0 v1 v2 v3 v4 v5 v6 v7 v8:Value}
theorem Bx9.set2 (h:Bx9 w B v0 v1 v2 v3 v4 v5 v6 v7 v8) (u:Value):Bx9 (w.setCell ⟨B,2,none⟩ u) B v0 v1 u v3 v4 v5 v6 v7 v8 :=
 ⟨by rw[sc_ne _ _ 2 0 _ (by decide)];exact h.c0,by rw[sc_ne _ _ 2 1 _ (by decide)];exact h.c1,sc_eq _ _ 2 _ _ h.c2,by rw[sc_ne _ _ 2 3 _ (by decide)];exact h.c3,by rw[sc_ne _ _ 2 4 _ (by decide)];exact h.c4,by rw[sc_ne _ _ 2 5 _ (by decide)];exact h.c5,by rw[sc_ne _ _ 2 6 _ (by decide)];exact h.c6,by rw[sc_ne _ _ 2 7 _ (by decide)];exact h.c7,by rw[sc_ne _ _ 2 8 _ (by decide)];exact h.c8,fun j=>by rw[World.frozen?_setCell];exact h.f j⟩
theorem Bx9.set3 (h:Bx9 w B v0 v1 v2 v3 v4 v5 v6 v7 v8) (u:Value):Bx9 (w.setCell ⟨B,3,none⟩ u) B v0 v1 v2 u v4 v5 v6 v7 v8 :=
 ⟨by rw[sc_ne _ _ 3 0 _ (by decide)];exact h.c0,by rw[sc_ne _ _ 3 1 _ (by decide)];exact h.c1,by rw[sc_ne _ _ 3 2 _ (by decide)];exact h.c2,sc_eq _ _ 3 _ _ h.c3,by rw[sc_ne _ _ 3 4 _ (by decide)];exact h.c4,by rw[sc_ne _ _ 3 5 _ (by decide)];exact h.c5,by rw[sc_ne _ _ 3 6 _ (by decide)];exact h.c6,by rw[sc_ne _ _ 3 7 _ (by decide)];exact h.c7,by rw[sc_ne _ _ 3 8 _ (by decide)];exact h.c8,fun j=>by rw[World.frozen?_setCell];exact h.f j⟩
theorem Bx9.set4 (h:Bx9 w B v0 v1 v2 v3 v4 v5 v6 v7 v8) (u:Value):Bx9 (w.setCell ⟨B,4,none⟩ u) B v0 v1 v2 v3 u v5 v6 v7 v8 :=
 ⟨by rw[sc_ne _ _ 4 0 _ (by decide)];exact h.c0,by rw[sc_ne _ _ 4 1 _ (by decide)];exact h.c1,by rw[sc_ne _ _ 4 2 _ (by decide)];exact h.c2,by rw[sc_ne _ _ 4 3 _ (by decide)];exact h.c3,sc_eq _ _ 4 _ _ h.c4,by rw[sc_ne _ _ 4 5 _ (by decide)];exact h.c5,by rw[sc_ne _ _ 4 6 _ (by decide)];exact h.c6,by rw[sc_ne _ _ 4 7 _ (by decide)];exact h.c7,by rw[sc_ne _ _ 4 8 _ (by decide)];exact h.c8,fun j=>by rw[World.frozen?_setCell];exact h.f j⟩
theorem Bx9.set5 (h:Bx9 w B v0 v1 v2 v3 v4 v5 v6 v7 v8) (u:Value):Bx9 (w.setCell ⟨B,5,none⟩ u) B v0 v1 v2 v3 v4 u v6 v7 v8 :=
 ⟨by rw[sc_ne _ _ 5 0 _ (by decide)];exact h.c0,by rw[sc_ne _ _ 5 1 _ (by decide)];exact h.c1,by rw[sc_ne _ _ 5 2 _ (by decide)];exact h.c2,by rw[sc_ne _ _ 5 3 _ (by decide)];exact h.c3,by rw[sc_ne _ _ 5 4 _ (by decide)];exact h.c4,sc_eq _ _ 5 _ _ h.c5,by rw[sc_ne _ _ 5 6 _ (by decide)];exact h.c6,by rw[sc_ne _ _ 5 7 _ (by decide)];exact h.c7,by rw[sc_ne _ _ 5 8 _ (by decide)];exact h.c8,fun j=>by rw[World.frozen?_setCell];exact h.f j⟩
theorem Bx9.set6 (h:Bx9 w B v0 v1 v2 v3 v4 v5 v6 v7 v8) (u:Value):Bx9 (w.setCell ⟨B,6,none⟩ u) B v0 v1 v2 v3 v4 v5 u v7 v8 :=
 ⟨by rw[sc_ne _ _ 6 0 _ (by decide)];exact h.c0,by rw[sc_ne _ _ 6 1 _ (by decide)];exact h.c1,by rw[sc_ne _ _ 6 2 _ (by decide)];exact h.c2,by rw[sc_ne _ _ 6 3 _ (by decide)];exact h.c3,by rw[sc_ne _ _ 6 4 _ (by decide)];exact h.c4,by rw[sc_ne _ _ 6 5 _ (by decide)];exact h.c5,sc_eq _ _ 6 _ _ h.c6,by rw[sc_ne _ _ 6 7 _ (by decide)];exact h.c7,by rw[sc_ne _ _ 6 8 _ (by decide)];exact h.c8,fun j=>by rw[World.frozen?_setCell];exact h.f j⟩
theorem Bx9.set7 (h:Bx9 w B v0 v1 v2 v3 v4 v5 v6 v7 v8) (u:Value):Bx9 (w.setCell ⟨B,7,none⟩ u) B v0 v1 v2 v3 v4 v5 v6 u v8 :=
 ⟨by rw[sc_ne _ _ 7 0 _ (by decide)];exact h.c0,by rw[sc_ne _ _ 7 1 _ (by decide)];exact h.c1,by rw[sc_ne _ _ 7 2 _ (by decide)];exact h.c2,by rw[sc_ne _ _ 7 3 _ (by decide)];exact h.c3,by rw[sc_ne _ _ 7 4 _ (by decide)];exact h.c4,by rw[sc_ne _ _ 7 5 _ (by decide)];exact h.c5,by rw[sc_ne _ _ 7 6 _ (by decide)];exact h.c6,sc_eq _ _ 7 _ _ h.c7,by rw[sc_ne _ _ 7 8 _ (by decide)];exact h.c8,fun j=>by rw[World.frozen?_setCell];exact h.f j⟩
theorem Bx9.set0 (h:Bx9 w B v0 v1 v2 v3 v4 v5 v6 v7 v8) (u:Value):Bx9 (w.setCell ⟨B,0,none⟩ u) B u v1 v2 v3 v4 v5 v6 v7 v8 :=
 ⟨sc_eq _ _ 0 _ _ h.c0,by rw[sc_ne _ _ 0 1 _ (by decide)];exact h.c1,by rw[sc_ne _ _ 0 2 _ (by decide)];exact h.c2,by rw[sc_ne _ _ 0 3 _ (by decide)];exact h.c3,by rw[sc_ne _ _ 0 4 _ (by decide)];exact h.c4,by rw[sc_ne _ _ 0 5 _ (by decide)];exact h.c5,by rw[sc_ne _ _ 0 6 _ (by decide)];exact h.c6,by rw[sc_ne _ _ 0 7 _ (by decide)];exact h.c7,by rw[sc_ne _ _ 0 8 _ (by decide)];exact h.c8,fun j=>by rw[World.frozen?_setCell];exact h.f j⟩
theorem Bx9.set1 (h:Bx9 w B v0 v1 v2 v3 v4 v5 v6 v7 v8) (u:Value):Bx9 (w.setCell ⟨B,1,none⟩ u) B v0 u v2 v3 v4 v5 v6 v7 v8 :=
 ⟨by rw[sc_ne _ _ 1 0 _ (by decide)];exact h.c0,sc_eq _ _ 1 _ _ h.c1,by rw[sc_ne _ _ 1 2 _ (by decide)];exact h.c2,by rw[sc_ne _ _ 1 3 _ (by decide)];exact h.c3,by rw[sc_ne _ _ 1 4 _ (by decide)];exact h.c4,by rw[sc_ne _ _ 1 5 _ (by decide)];exact h.c5,by rw[sc_ne _ _ 1 6 _ (by decide)];exact h.c6,by rw[sc_ne _ _ 1 7 _ (by decide)];exact h.c7,by rw[sc_ne _ _ 1 8 _ (by decide)];exact h.c8,fun j=>by rw[World.frozen?_setCell];exact h.f j⟩
theorem Bx9.set8 (h:Bx9 w B v0 v1 v2 v3 v4 v5 v6 v7 v8) (u:Value):Bx9 (w.setCell ⟨B,8,none⟩ u) B v0 v1 v2 v3 v4 v5 v6 v7 u :=
 ⟨by rw[sc_ne _ _ 8 0 _ (by decide)];exact h.c0,by rw[sc_ne _ _ 8 1 _ (by decide)];exact h.c1,by rw[sc_ne _ _ 8 2 _ (by decide)];exact h.c2,by rw[sc_ne _ _ 8 3 _ (by decide)];exact h.c3,by rw[sc_ne _ _ 8 4 _ (by decide)];exact h.c4,by rw[sc_ne _ _ 8 5 _ (by decide)];exact h.c5,by rw[sc_ne _ _ 8 6 _ (by decide)];exact h.c6,by rw[sc_ne _ _ 8 7 _ (by decide)];exact h.c7,sc_eq _ _ 8 _ _ h.c8,fun j=>by rw[World.frozen?_setCell];exact h.f j⟩
end Go.Proofs.YtoejbngihecafaaGreatDoor
