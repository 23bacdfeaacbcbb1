import Derived.Test.YtoejbngihecafaaGreatDoorC25
import Derived.Test.YtoejbngihecafaaGreatDoorC0
set_option maxRecDepth 100000
set_option maxHeartbeats 2000000
open Go.Proofs.Tryz
namespace Go.Proofs.YtoejbngihecafaaGreatDoor
open Go.RowKit
variable {w w' w0:World} {enc mode E:Int} {t:Option Nd} {R R':List (Cn × ByteArray)} {B q Z:Nat} {v v':Value} {bs all ws:List UInt8} {mark mk:Bool} {A0:List Vm.At}
theorem Qgp (mode:Int) (w:World) :
  Calls prog 39 #[.int .i64 mode] w fun e w'=>e=.returned (.bool (decide (0<=mode/\mode<=7)))/\w'=w:=by
 by_cases h:0<=mode
 ·by_cases h7:mode<8
  ·have hd:decide (0<=mode/\mode<=7)=true:=by simp;omega
   rw[hd];go_enter func39,ntmps39;go_wp2;go_ret;exact⟨rfl,rfl⟩
  have hd:decide (0<=mode/\mode<=7)=false:=by simp;omega
  rw[hd];go_enter func39,ntmps39;go_wp2;go_ret;exact⟨rfl,rfl⟩
 have hd:decide (0<=mode/\mode<=7)=false:=by simp;omega
 rw[hd]
 go_enter func39,ntmps39
 go_wp2
 go_ret
 exact⟨rfl,rfl⟩
theorem Qhd (mode:Int) (w:World) (h:mode<0\/7<mode) :
  Calls prog 10 #[.int .i64 mode] w fun e w'=>e=.returned (.tuple #[.pointer none,.int .i64 1])/\w'=w:=by
 have HI:=Z1 (fun W=>Qgp mode W)
 rw[show decide (0<=mode/\mode<=7)=false by simp;omega] at HI
 clear h
 go_enter func10,ntmps10
 go_wp2_with (go_at_call 39;refine (HI.o _).mono ?_;rintro e w' ⟨rfl,rfl⟩)
 go_ret2
 exact⟨rfl,rfl⟩
theorem QjW (mode:Int) (w:World) (h1:0<=mode) (h2:mode<=7) :
  Calls prog 10 #[.int .i64 mode] w fun e w'=>e=.returned (.tuple #[.pointer (some ⟨w.heap.size,0,none⟩),.int .i64 0])/\w'=w.alloc (.cells #[.int .i64 mode,.bool false,.int .i64 0,.bool false,.nilIface,.string ⟨#[]⟩,.slice none 0 0] 96):=by
 have HI:=Z1 (fun W=>Qgp mode W)
 rw[show decide (0<=mode/\mode<=7)=true by simp;omega] at HI
 go_enter func10,ntmps10
 go_wp2_with (go_at_call 39;refine (HI.o _).mono ?_;rintro e w' ⟨rfl,rfl⟩)
 go_ret2
 exact⟨rfl,rfl⟩
theorem load_no (b:ByteArray) (mode:Int) (w:World) (h:mode<0\/7<mode) :
  Calls prog 36 #[.string b,.int .i64 mode] w fun e w'=>e=.returned (.tuple #[.pointer none,.int .i64 1])/\w'=w:=by
 have HI:=Z1 (fun W=>Qhd mode W h)
 clear h
 go_enter func36,ntmps36
 go_wp2_with (go_at_call 10;refine (HI.o _).mono ?_;rintro e w' ⟨rfl,rfl⟩)
 go_ret2
 exact⟨rfl,rfl⟩
theorem Nd.kept_ty (hk:∀(k:Nat) (c:Array Value) (t:TypeId),w.heap[k]?=some (Obj.cells c t)->t=188\/t=217->w'.heap[k]?=w.heap[k]?):∀{n:Nd},n.In w->n.In w'
 |.leaf _ _ _,h=>(hk _ _ _ h (.inl rfl)).trans h
 |.inner _ _ _ _ _,h=>⟨(hk _ _ _ h.1 (.inr rfl)).trans h.1,Nd.kept_ty hk h.2.1,Nd.kept_ty hk h.2.2⟩
theorem TrAt.kept_ty (h:TrAt w enc t R) (hk:∀(k:Nat) (c:Array Value) (t:TypeId),w.heap[k]?=some (Obj.cells c t)->t=188\/t=217->w'.heap[k]?=w.heap[k]?):TrAt w' enc t R :=
 ⟨fun n hn=>⟨Nd.kept_ty hk (h.inn n hn).1,(h.inn n hn).2⟩,h.non,h.ok⟩
theorem TrAt.wt (h:TrAt w enc t R) (hw:Wt w B v bs) (hs:WtStep v w w'):TrAt w' enc t R:=by
 refine h.kept_ty (fun k c ty hk hty=>hs.keep k (Z4 hk) (fun e=>?_));rcases hw with ⟨rfl,rfl⟩|⟨g,o,cap,cur,rfl,hg,hh,r⟩
 ·cases e
 cases e
 rw[hk] at hh;injection hh with hh
 injection hh with h1 h2 h3
 rcases hty with x|x
 ·rw[x] at h2;exact absurd h2 (by decide)
 rw[x] at h2;exact absurd h2 (by decide)
theorem Qop {p p':Option Addr} {n cap:Nat} (ty:TypeId) (h:Wt w B (.slice p n cap) bs) (k:Nat) (hk:k<=bs.length) (hs:Wt w B (.slice p' (n - k) (cap - k)) (bs.drop k)) (hne:0<bs.length) :
  ∃w',(Builtin.copy_ #[92,92] ty #[.slice p n cap,.slice p' (n - k) (cap - k)]).run prog w=.ok (goInt ((n - k:Nat):Int)) w'/\Wt w' B (.slice p (n - k) cap) (bs.drop k)/\WtStep (.slice p n cap) w w':=by
 rcases h with ⟨hv,rfl⟩|⟨g,o,cap',cur,hv,hg,hh,hoc,hle,hcm,htk⟩
 ·simp at hne
 injection hv with h1 h2 h3
 subst h1 h2 h3
 have hcl:(Lib.byteCells (bs.drop k)).length=bs.length - k:=by rw[Lib.byteCells_length,List.length_drop]
 have hone:∀v∈Lib.byteCells (bs.drop k),v.oneCell'=true:=by
  intro v hv;simp only[Lib.byteCells,List.mem_map] at hv;obtain⟨x,_,rfl⟩:=hv;rfl
 have hsz:(prog.info? 5).map (·.size)=some 1:=by kernel_rfl
 have hcz:cur.toList.length=cur.size:=Array.length_toList
 rcases hs with ⟨hv2,hb2⟩|⟨g2,o2,cap2,cur2,hv2,hg2,hh2,hoc2,hle2,hcm2,htk2⟩
 ·injection hv2 with h1 h2 h3
  subst h1;have hz:bs.length - k=0:=h2;rw[hz];refine⟨w,?_,.inr ⟨g,o,cap,cur,by rw[hb2];rfl,hg,hh,hoc,by rw[hb2];exact Nat.zero_le _,hcm,by rw[hb2];rfl⟩,⟨rfl,rfl,rfl,Z6 _,fun _ _ _=>rfl⟩⟩;rw[show cap - k=0 from h3];exact run_copy_none w 92 92 ty 5 _ _ _ _ _ _ underlying92 hsz (by simp)
 injection hv2 with h1 h2 h3
 subst h1
 have hsrc:∀j v,(Lib.byteCells (bs.drop k))[j]?=some v->w.cell? ((⟨g2,o2,none⟩:Addr).add j)=some v:=by
  intro j u hj;rw[Addr.add_lit,Lib.cell_of_heap hh2];rw[<-htk2] at hj;rw[List.getElem?_take] at hj;split at hj
  ·rw[List.getElem?_drop] at hj;rw[<-hj,Array.getElem?_toList]
  cases hj
 have hr:=run_copy_row (P:=prog) w 92 92 ty 5 g o bs.length cap ⟨g2,o2,none⟩ (bs.length - k) (cap - k) cur 5 (Lib.byteCells (bs.drop k)) underlying92 hsz hh (by rw[hcl];exact (Nat.min_eq_left (by omega)).symm) hsrc (by rw[hcl];omega) hone
 rw[hcl] at hr
 refine⟨_,hr,.inr ⟨g,o,cap,_,by rw[List.length_drop],hg,setRow_heap w g cur _ 5 _ hh,?_,by rw[List.length_drop];omega,hcm,?_⟩,⟨rfl,rfl,rfl,by simp,fun k' _ hk'=>setRow_other w g k' _ (fun e=>hk' (by simp [wblk,e]))⟩⟩
 ·simp only[List.size_toArray,List.length_append,List.length_take,List.length_drop,Array.length_toList,hcl];omega
 rw[List.length_drop]
 show ((cur.toList.take o++Lib.byteCells (bs.drop k)++cur.toList.drop (o+(bs.length - k))).drop o).take _=_
 rw[List.append_assoc,List.drop_append_of_le_length (by rw[List.length_take];omega),List.drop_take,Nat.sub_self,List.take_zero,List.nil_append,<-hcl]
 exact List.take_left
theorem QmR (bs l:List UInt8) (hp:bs <+: l) (h:3<=bs.length\/bs=l):(hdB bs).data.toList=l.take 3:=by
 show (bs.take (min 3 bs.length)).toArray.toList=_;rw[List.toList_toArray];rcases h with h|rfl
 ·obtain⟨r,rfl⟩:=hp;rw[Nat.min_eq_left h,List.take_append_of_le_length h]
 by_cases g:3<=bs.length
 ·rw[Nat.min_eq_left g]
 rw[Nat.min_eq_right (by omega),List.take_of_length_le (Z6 _),List.take_of_length_le (by omega)]
theorem Qg7 (b:ByteArray) (bs:List UInt8) (mode:Int) (hp:bs <+: b.data.toList) (h:3<=bs.length\/bs=b.data.toList):hdEnc bs mode=encOf b mode/\hdMark bs mode=ofMark b (encOf b mode):=by
 have hh:=QmR bs b.data.toList hp h
 have e1:hdEnc bs mode=encOf b mode:=by
  unfold hdEnc encOf;rw[Qeq b (hdB bs) (mode%4) hh 3]
 refine⟨e1,?_⟩;unfold hdMark;rw[QfH b (hdB bs) _ hh,e1]
theorem QhG (b:ByteArray) (E:Int):b.data.toList=(mkB E (ofMark b E)).data.toList++(ofBody b E).data.toList:=by
 unfold mkB ofBody;cases h:ofMark b E
 ·simp
 simp only[if_true]
 have h1:(markB E).data.toList.isPrefixOf b.data.toList=true:=by
  unfold ofMark at h;rw[Bool.and_eq_true] at h;exact h.2
 obtain⟨r,hr⟩:=List.isPrefixOf_iff_prefix.1 h1;have hl:(markB E).data.toList.length=(markB E).size:=rfl;have hb:b.data.toList.length=b.size:=rfl
 have h2:(b.extract (markB E).size b.size).data.toList=b.data.toList.drop (markB E).size:=by
  rw[ByteArray.data_extract,Array.toList_extract,List.extract_eq_take_drop];exact List.take_of_length_le (by rw[List.length_drop];omega)
 rw[h2,<-hr,<-hl,List.drop_left]
theorem TrAt.tn2 (h:TrAt w enc t R) (hq:NoNd w q) (hs:Tn q w w'):TrAt w' enc t R:=by
 refine h.kept_ty (fun k c ty hk hty=>hs.keep k (Z4 hk) (fun e=>?_));subst e;have:tyAt w k=some ty:=by unfold tyAt;rw[hk]
 rcases hty with x|x
 ·exact hq.1 (by rw[this,x])
 exact hq.2 (by rw[this,x])
structure Ps (q:Nat) (v:Value) (w:World) (v':Value) (w':World):Prop where
 os:w'.os=w.os
 tape:w'.tape=w.tape
 output:w'.output=w.output
 size:w.heap.size<=w'.heap.size
 keep:∀k,k<w.heap.size->k≠q->wblk v≠some k->w'.heap[k]?=w.heap[k]?
 row:wblk v'=wblk v\/wblk v'=none\/∃k,wblk v'=some k/\w.heap.size<=k
theorem Ps.refl (q:Nat) (v:Value) (w:World):Ps q v w v w:=⟨rfl,rfl,rfl,Z6 _,fun _ _ _ _=>rfl,.inl rfl⟩
theorem Ps.trans {v1 v2:Value} {w1 w2:World} (h:Ps q v w v1 w1) (g:Ps q v1 w1 v2 w2):Ps q v w v2 w2:=by
 refine⟨g.os.trans h.os,g.tape.trans h.tape,g.output.trans h.output,Nat.le_trans h.size g.size,fun k hk hq hv=>?_,?_⟩
 ·have h1:=h.keep k hk hq hv;refine (g.keep k (Nat.lt_of_lt_of_le hk h.size) hq (fun e=>?_)).trans h1;rcases h.row with r|r|⟨k',r,hk'⟩
  ·exact hv (r.symm.trans e)
  ·rw[r] at e;cases e
  rw[r] at e;cases e;omega
 rcases g.row with r|r|⟨k',r,hk'⟩
 ·rcases h.row with s|s|⟨k',s,hk'⟩
  ·exact .inl (r.trans s)
  ·exact .inr (.inl (r.trans s))
  exact .inr (.inr ⟨k',r.trans s,hk'⟩)
 ·exact .inr (.inl r)
 exact .inr (.inr ⟨k',r,Nat.le_trans h.size hk'⟩)
theorem Ps.of_tn (h:Tn q w w') (hv:wblk v'=wblk v):Ps q v w v' w':=⟨h.os,h.tape,h.output,h.size,fun k hk hq _=>h.keep k hk hq,.inl hv⟩
theorem Ps.of_low (h:Below w.heap.size w w') (hv:wblk v'=wblk v):Ps q v w v' w':=⟨h.os,h.tape,h.output,h.size,fun k hk _ _=>h.block k hk,.inl hv⟩
theorem Ps.of_wt (h:WtStep v w w') (hv:wblk v'=wblk v\/wblk v'=some w.heap.size\/wblk v'=none):Ps q v w v' w' :=
 ⟨h.os,h.tape,h.output,h.size,fun k hk _ hk2=>h.keep k hk hk2,hv.elim .inl (fun r=>r.elim (fun r=>.inr (.inr ⟨_,r,Z6 _⟩)) (fun r=>.inr (.inl r)))⟩
structure LdS (B q:Nat) (mode:Int) (begun:Bool) (enc:Int) (mark:Bool) (t:Option Nd) (R:List (Cn × ByteArray)) (v:Value) (ws:List UInt8) (w:World):Prop where
 ld:LdC w q mode begun enc mark (trv t) ⟨#[]⟩ v
 wt:Wt w B v ws
 nq:wblk v≠some q
 tr:TrAt w enc t R
section
variable {B q:Nat} {mode:Int} {begun:Bool} {enc:Int} {mark:Bool} {t:Option Nd} {R:List (Cn × ByteArray)} {v:Value} {ws:List UInt8} {w:World}
theorem LdS.low (h:LdS B q mode begun enc mark t R v ws w) (hb:Below w.heap.size w w'):LdS B q mode begun enc mark t R v ws w' :=
 ⟨h.ld.below hb,h.wt.low hb,h.nq,h.tr.low hb⟩
theorem LdC.lt (h:LdC w q mode begun enc mark (trv t) ⟨#[]⟩ v):q<w.heap.size:=Z3 h.c0
theorem LdC.wtstep (h:LdC w q mode begun enc mark (trv t) ⟨#[]⟩ v) (hs:WtStep v w w') (hq:wblk v≠some q):LdC w' q mode begun enc mark (trv t) ⟨#[]⟩ v:=by
 have hB:=Z3 h.c0;have hk:=hs.keep q hB hq;have g:∀o,w'.cell? ⟨q,o,none⟩=w.cell? ⟨q,o,none⟩:=fun o=>by simp only[World.cell?,hk]
 refine⟨(g _).trans h.c0,(g _).trans h.c1,(g _).trans h.c2,(g _).trans h.c3,(g _).trans h.c4,(g _).trans h.c5,(g _).trans h.c6,fun j=>?_,?_⟩
 ·rw[<-h.fr j];simp only[World.frozen?,hk]
 unfold NoNd tyAt;rw[hk];exact h.nb
theorem LdS.root (h:LdS B q mode begun enc mark t R v ws w) (t':Option Nd) (R':List (Cn × ByteArray)) (h':TrAt w enc t' R'):LdS B q mode begun enc mark t' R' v ws (w.setCell ⟨q,4,none⟩ (trv t')):=by
 have t1:Tn q w (w.setCell ⟨q,4,none⟩ (trv t')):=(Tn.refl _ _).setCell _;exact⟨h.ld.set4 _,h.wt.tn t1 h.nq,h.nq,h'.tn2 h.ld.nb t1⟩
theorem LdS.wait (h:LdS B q mode begun enc mark t R v ws w) (v':Value) (ws':List UInt8) (hw:Wt w' B v' ws') (hs:WtStep v w w') (hv:wblk v'=wblk v\/wblk v'=some w.heap.size\/wblk v'=none):LdS B q mode begun enc mark t R v' ws' (w'.setCell ⟨q,6,none⟩ v'):=by
 have hB:=Z3 h.ld.c0
 have hn:wblk v'≠some q:=by
  rcases hv with r|r|r
  ·rw[r];exact h.nq
  ·rw[r];intro e;cases e;omega
  rw[r];intro e;cases e
 have hl:=h.ld.wtstep hs h.nq;have t1:Tn q w' (w'.setCell ⟨q,6,none⟩ v'):=(Tn.refl _ _).setCell _;exact⟨hl.set6 _,hw.tn t1 hn,hn,(h.tr.wt h.wt hs).tn2 hl.nb t1⟩
end
structure Said (mode:Int) (all:List UInt8) (enc:Int) (mark:Bool) (R:List (Cn × ByteArray)) (ws:List UInt8):Prop where
 enc_:enc=hdEnc all mode
 mark_:mark=hdMark all mode
 bytes:all=(mkB enc mark).data.toList++(rowB R++ws)
 read:∀F,Vm.atoms enc (rowB R++(ws++F))=rowA enc R++Vm.atoms enc (ws++F)
 len:R.length<=(rowB R).length
 gd:Gd R
def Inv (mode:Int) (all:List UInt8) (begun:Bool) (enc:Int) (mark:Bool) (t:Option Nd) (R:List (Cn × ByteArray)) (ws:List UInt8):Prop :=
 (begun=false/\t=none/\R=[]/\ws=all)\/(begun=true/\3<=all.length/\Said mode all enc mark R ws)
theorem Qmb (bs r:List UInt8) (h:3<=bs.length):hdB (bs++r)=hdB bs:=by
 unfold hdB;congr 2;rw[List.length_append,Nat.min_eq_left h,Nat.min_eq_left (by omega),List.take_append_of_le_length h]
theorem Said.more (h:Said mode all enc mark R ws) (h3:3<=all.length) (r:List UInt8):Said mode (all++r) enc mark R (ws++r):=by
 have e1:hdEnc (all++r) mode=hdEnc all mode:=by unfold hdEnc;rw[Qmb _ _ h3]
 have e2:hdMark (all++r) mode=hdMark all mode:=by unfold hdMark;rw[Qmb _ _ h3,e1]
 exact⟨h.enc_.trans e1.symm,h.mark_.trans e2.symm,by rw[h.bytes];simp only[List.append_assoc],fun F=>by have:=h.read (r++F);simpa only [List.append_assoc] using this,h.len,h.gd⟩
theorem Inv.more {begun:Bool} (h:Inv mode all begun enc mark t R ws) (r:List UInt8):Inv mode (all++r) begun enc mark t R (ws++r):=by
 rcases h with ⟨h1,h2,h3,h4⟩|⟨h1,h2,h3⟩
 ·exact .inl ⟨h1,h2,h3,by rw[h4]⟩
 exact .inr ⟨h1,by rw[List.length_append];omega,h3.more h2 r⟩
theorem Qgc (mode:Int) (all:List UInt8):Said mode all (hdEnc all mode) (hdMark all mode) [] (all.drop (mkB (hdEnc all mode) (hdMark all mode)).size):=by
 refine⟨rfl,rfl,?_,fun F=>by simp [rowB,rowA],Z6 _,Gd.nil⟩;show all=_++([]++_);rw[List.nil_append];have h:=QhG ⟨all.toArray⟩ (encOf ⟨all.toArray⟩ mode);have hh:=Qg7 ⟨all.toArray⟩ all mode (by simp) (.inr (by simp));rw[<-hh.2,<-hh.1] at h;have hl:(mkB (hdEnc all mode) (hdMark all mode)).data.toList.length=(mkB (hdEnc all mode) (hdMark all mode)).size:=rfl;have h2:all=(mkB (hdEnc all mode) (hdMark all mode)).data.toList++(ofBody ⟨all.toArray⟩ (hdEnc all mode)).data.toList:=by simpa using h
 generalize (mkB (hdEnc all mode) (hdMark all mode))=M at h2 hl ⊢;generalize (ofBody ⟨all.toArray⟩ (hdEnc all mode)).data.toList=X at h2;rw[h2,<-hl,List.drop_left]
theorem Said.leaf {view:List UInt8} (h:Said mode all enc mark R ws) (hv:view=ws.take 1004) (hl:1004<=ws.length) (hA:A0 <+: Vm.atoms enc view) (hs:Vm.sizeA A0<=1000) (h1:1<=Vm.sizeA A0)
  (eb:rowB R'=rowB R++ws.take (Vm.sizeA A0)) (ea:rowA enc R'=rowA enc R++A0) (el:R'.length<=R.length+1) (eg:Gd R->Gd R'):Said mode all enc mark R' (ws.drop (Vm.sizeA A0)):=by
 subst hv
 have hvl:(ws.take 1004).length=1004:=by rw[List.length_take];omega
 refine⟨h.enc_,h.mark_,?_,fun F=>?_,?_,eg h.gd⟩
 ·rw[eb,List.append_assoc (rowB R),List.take_append_drop];exact h.bytes
 ·have e1:=h.read F;have e2:=Vm.Qen (r:=ws.drop 1004++F) hA (by omega);rw[<-List.append_assoc,List.take_append_drop] at e2;rw[eb,ea,List.append_assoc (rowB R),<-List.append_assoc (ws.take _),List.take_append_drop,e1,e2,List.append_assoc];rw[List.drop_append_of_le_length (by omega)]
 rw[eb,List.length_append,List.length_take]
 have:=h.len
 omega
theorem Said.doc (h:Said mode all enc mark R ws) (b:ByteArray) (hb:b.data.toList=all) (tail:ByteArray)
  (eb:rowB R'=rowB R++ws.take (Vm.sizeA (Vm.atoms enc ws))) (ea:rowA enc R'=rowA enc R++Vm.atoms enc ws) (et:tail.data.toList=ws.drop (Vm.sizeA (Vm.atoms enc ws))) :
  enc=encOf b mode/\mark=ofMark b (encOf b mode)/\(ofBody b (encOf b mode)).data.toList=rowB R'++tail.data.toList/\Vm.atoms enc (ofBody b (encOf b mode)).data.toList=rowA enc R':=by
 have hh:=Qg7 b all mode (by rw[hb];exact List.prefix_refl _) (.inr hb.symm)
 have e1:enc=encOf b mode:=h.enc_.trans hh.1
 have e2:mark=ofMark b (encOf b mode):=h.mark_.trans hh.2
 have h1:=QhG b (encOf b mode)
 rw[hb,<-e2,<-e1] at h1
 have h2:(ofBody b enc).data.toList=rowB R++ws:=(List.append_cancel_left (h.bytes.symm.trans h1)).symm
 refine⟨e1,e2,?_,?_⟩
 ·rw[<-e1,h2,eb,et,List.append_assoc,List.take_append_drop]
 have:=h.read []
 rw[List.append_nil] at this
 rw[<-e1,h2,this,ea]
theorem QeI {b:ByteArray} {Bk:Nat} (hp:A0 <+: Vm.atoms enc b.data.toList) (hin:(Nd.leaf Bk (cnOf A0) (b.extract 0 (Vm.sizeA A0))).In w) :
  TrAt w enc (some (Nd.leaf Bk (cnOf A0) (b.extract 0 (Vm.sizeA A0)))) [(cnOf A0,b.extract 0 (Vm.sizeA A0))]/\rowB [(cnOf A0,b.extract 0 (Vm.sizeA A0))]=b.data.toList.take (Vm.sizeA A0)/\rowA enc [(cnOf A0,b.extract 0 (Vm.sizeA A0))]=A0:=by
 have hle:=Vm.QaE hp
 have hbl:b.data.toList.length=b.size:=rfl
 have e1:(b.extract 0 (Vm.sizeA A0)).data.toList=b.data.toList.take (Vm.sizeA A0):=by
  rw[ByteArray.data_extract,Array.toList_extract,List.extract_eq_take_drop,List.drop_zero,Nat.sub_zero]
 have e2:Vm.atoms enc (b.extract 0 (Vm.sizeA A0)).data.toList=A0:=by rw[e1];exact (Vm.QaC hp).1
 have e3:(b.extract 0 (Vm.sizeA A0)).size=Vm.sizeA A0:=by
  have:(b.extract 0 (Vm.sizeA A0)).data.toList.length=(b.extract 0 (Vm.sizeA A0)).size:=rfl;rw[<-this,e1,List.length_take];omega
 refine⟨⟨fun n hn=>?_,fun h=>(by cases h),fun x hx=>?_⟩,?_,?_⟩
 ·cases hn
  exact⟨hin,e3.symm,rfl⟩
 ·rw[List.mem_singleton] at hx;subst hx;exact⟨by rw[e2],by rw[e2,e3]⟩
 ·show (b.extract 0 (Vm.sizeA A0)).data.toList++[]=_;rw[List.append_nil,e1]
 show Vm.atoms enc (b.extract 0 (Vm.sizeA A0)).data.toList++[]=_
 rw[List.append_nil,e2]
structure AlI (B Z:Nat) (w0:World) (mode E:Int) (mk:Bool) (t:Option Nd) (tail:ByteArray) (v:Value) (ws:List UInt8) (R:List (Cn × ByteArray)) (w:World):Prop where
 ld:LdC w Z mode true E mk (trv t) tail v
 wt:Wt w B v ws
 nz:wblk v≠some Z
 tr:TrAt w E t R
 tabs0:Tabs w0
 zle:w0.heap.size<=Z
 rs:w.heap[Z+1]?=some (.cells #[.int .i64 0,.bool false,.nilIface,.string ⟨#[]⟩] 91)
 low:Below w0.heap.size w0 w
theorem AlI.step {tail:ByteArray} (h:AlI B Z w0 mode E mk t tail v ws R w) (hb:Below w.heap.size w w'):AlI B Z w0 mode E mk t tail v ws R w' :=
 ⟨h.ld.below hb,h.wt.low hb,h.nz,h.tr.low hb,h.tabs0,h.zle,(hb.block _ (Z4 h.rs)).trans h.rs,h.low.trans (hb.mono h.low.size)⟩
theorem AlI.tabs {tail:ByteArray} (h:AlI B Z w0 mode E mk t tail v ws R w):Tabs w:=h.tabs0.below h.low
theorem QbK (h:Below w0.heap.size w0 w) (hz:w0.heap.size<=Z) (ht:Tn Z w w'):Below w0.heap.size w0 w' :=
 h.trans ⟨ht.os,ht.tape,ht.output,ht.size,fun k hk=>ht.keep k (Nat.lt_of_lt_of_le hk h.size) (by omega)⟩
theorem AlI.root {tail:ByteArray} (h:AlI B Z w0 mode E mk t tail v ws R w) (t':Option Nd) (R':List (Cn × ByteArray)) (h':TrAt w E t' R'):AlI B Z w0 mode E mk t' tail v ws R' (w.setCell ⟨Z,4,none⟩ (trv t')):=by
 have t1:Tn Z w (w.setCell ⟨Z,4,none⟩ (trv t')):=(Tn.refl _ _).setCell _;exact⟨h.ld.set4 _,h.wt.tn t1 h.nz,h.nz,h'.tn2 h.ld.nb t1,h.tabs0,h.zle,(t1.keep _ (Z4 h.rs) (by omega)).trans h.rs,QbK h.low h.zle t1⟩
theorem AlI.tail {tail:ByteArray} (h:AlI B Z w0 mode E mk t tail v ws R w) (s:ByteArray):AlI B Z w0 mode E mk t s v ws R (w.setCell ⟨Z,5,none⟩ (.string s)):=by
 have t1:Tn Z w (w.setCell ⟨Z,5,none⟩ (.string s)):=(Tn.refl _ _).setCell _;exact⟨h.ld.set5 _,h.wt.tn t1 h.nz,h.nz,h.tr.tn2 h.ld.nb t1,h.tabs0,h.zle,(t1.keep _ (Z4 h.rs) (by omega)).trans h.rs,QbK h.low h.zle t1⟩
theorem QdZ {W:World} {C:Nat} {u0 u1 u2 u3:Value} (a b c d:Value) (h0:W.cell? ⟨C,0,none⟩=some u0) (h1:W.cell? ⟨C,1,none⟩=some u1) (h2:W.cell? ⟨C,2,none⟩=some u2) (h3:W.cell? ⟨C,3,none⟩=some u3) {X:World} (hX:X=(((W.setCell ⟨C,0,none⟩ a).setCell ⟨C,1,none⟩ b).setCell ⟨C,2,none⟩ c).setCell ⟨C,3,none⟩ d) :
  X.cell? ⟨C,0,none⟩=some a/\X.cell? ⟨C,1,none⟩=some b/\X.cell? ⟨C,2,none⟩=some c/\X.cell? ⟨C,3,none⟩=some d/\Tn C W X/\tyAt X C=tyAt W C:=by
 subst hX
 refine⟨?_,?_,?_,?_,((((Tn.refl _ _).setCell _).setCell _).setCell _).setCell _,by rw[Qb9,Qb9,Qb9,Qb9]⟩
 ·rw[Qab _ _ 3 0 _ (by decide),Qab _ _ 2 0 _ (by decide),Qab _ _ 1 0 _ (by decide)];exact Qbb _ _ 0 _ _ h0
 ·rw[Qab _ _ 3 1 _ (by decide),Qab _ _ 2 1 _ (by decide)];refine Qbb _ _ 1 _ u1 ?_;rw[Qab _ _ 0 1 _ (by decide)];exact h1
 ·rw[Qab _ _ 3 2 _ (by decide)];refine Qbb _ _ 2 _ u2 ?_;rw[Qab _ _ 1 2 _ (by decide),Qab _ _ 0 2 _ (by decide)];exact h2
 refine Qbb _ _ 3 _ u3 ?_;rw[Qab _ _ 2 3 _ (by decide),Qab _ _ 1 3 _ (by decide),Qab _ _ 0 3 _ (by decide)];exact h3
theorem QbF (n:Nd):trv (some n)=.iface n.ty (.pointer (some ⟨n.blk,0,none⟩)):=rfl
theorem Qos (B:Nat) (mode enc E:Int) (begun mark mk:Bool) (t:Option Nd) (tail:ByteArray) (v:Value) (ws:List UInt8) (R:List (Cn × ByteArray)) (w:World) (h0:0<=E) (h3:E<=3) (hws:ws.length<=1099511627776) (hlen:(rowB R).length+ws.length<=1099511627776) (hrl:R.length<=1099511627776)
  (HBG:Calls prog 80 #[.pointer (some ⟨w.heap.size,0,none⟩)] ((w.alloc (.cells #[.int .i64 mode,.bool begun,.int .i64 enc,.bool mark,trv t,.string tail,v] 94)).alloc (.cells #[.int .i64 0,.bool false,.nilIface,.string ⟨#[]⟩] 91)) fun e w1=>e=.returned (.tuple #[])/\∃v',AlI B w.heap.size w mode E mk t tail v' ws R w1) :
  Calls prog 49 #[.agg #[.int .i64 mode,.bool begun,.int .i64 enc,.bool mark,trv t,.string tail,v]] w fun e w'=>∃n R' tail',e=.returned (.agg #[.int .i64 E,.bool mk,trv (some n),.string tail'])/\TrAt w' E (some n) R' /\
   rowB R'=rowB R++ws.take (Vm.sizeA (Vm.atoms E ws))/\rowA E R'=rowA E R++Vm.atoms E ws/\tail'.data.toList=ws.drop (Vm.sizeA (Vm.atoms E ws))/\(Gd R->Gd R')/\Below w.heap.size w w':=by
 have HB:=Z1 HBG
 clear HBG
 go_enter func49,ntmps49
 go_wp2_with fail
 refine HB.o.mono ?_
 rintro e w1 ⟨rfl,v',hA⟩
 obtain⟨p,cap,rfl,hcap⟩:=hA.wt.val
 have c0:=hA.ld.c0
 have c2:=hA.ld.c2
 have c6:=hA.ld.c6
 have hcv:=QeC hA.wt ws.length (Z6 _)
 have HA:=Z1 hA
 clear hA HB
 go_wp2_with fail
 refine (Qhg E ⟨ws.toArray⟩ ws.length w1 HA.o.tabs (by simpa [ByteArray.size] using hws) hws h0 h3).mono ?_
 rintro e w2 ⟨Bk,A0,rfl,hpre,hsz,hor,hin,hb2⟩
 have hwl:(⟨ws.toArray⟩:ByteArray).data.toList=ws:=by simp
 obtain⟨htr,hrb,hra⟩:=QeI hpre hin
 rw[hwl] at hpre hor hrb
 have hA0:A0=Vm.atoms E ws:=by
  rcases hor with r|⟨x,hx,hlt⟩
  ·exact r
  have:=Vm.QaE hx;omega
 have H2:=Z1 (HA.o.step hb2)
 have HTR:=Z1 htr
 clear hor hin hb2 HA hpre htr c0 c2 c6 hcv
 have hsle:Vm.sizeA A0<=ws.length:=hsz
 generalize hlf:(⟨ws.toArray⟩:ByteArray).extract 0 (Vm.sizeA A0)=lf at *
 have c4:=H2.o.ld.c4
 have f4:=H2.o.ld.fr 4
 have hz:=Z3 c4
 go_wp2_with fail
 have hba:=Z7 w2 (.cells #[.iface 184 (.pointer (some ⟨Bk,0,none⟩))] 89)
 have H2b:=Z1 (H2.o.step hba)
 have HTRb:=Z1 (HTR.o.low hba)
 have hLb:=heap_alloc_new w2 (.cells #[.iface 184 (.pointer (some ⟨Bk,0,none⟩))] 89)
 have hLz:w.heap.size<w2.heap.size:=Z3 H2.o.ld.c0
 clear H2 HTR c4 f4 hz hba
 generalize w2.alloc (.cells #[.iface 184 (.pointer (some ⟨Bk,0,none⟩))] 89)=w2b at *
 generalize w2.heap.size=L at *
 have HJ:=Z1 (QbG E t (some (Nd.leaf Bk (cnOf A0) lf)) R [(cnOf A0,lf)] w2b H2b.o.tr HTRb.o (by rw[hrb,List.length_take];omega) (by simp;omega))
 refine HJ.o.mono ?_
 rintro e w3 ⟨t',R',hJ⟩
 obtain⟨n',rfl⟩:∃n',t'=some n':=Option.isSome_iff_exists.1 (hJ.som rfl)
 obtain⟨rfl,htr3,hat,hby,_,hb3,_,hgd⟩:=hJ
 have HGD:=Z1 (fun h=>hgd h (Gd.one _))
 clear hgd
 have H3:=Z1 (H2b.o.step hb3)
 have HL3:=Z1 (HTRb.o.low hb3)
 have HT3:=Z1 htr3
 have hL3:=(hb3.block L (Z4 hLb)).trans hLb
 have hne:L≠w.heap.size:=by omega
 clear H2b HTRb HJ htr3 hb3 hLb
 have c4:=H3.o.ld.c4
 have f4:=H3.o.ld.fr 4
 have hz:=Z3 c4
 have t1:Tn w.heap.size w3 (w3.setCell ⟨w.heap.size,4,none⟩ (trv (some n'))):=(Tn.refl _ _).setCell _
 have hL4:=(t1.keep L (Z4 hL3) hne).trans hL3
 have cL:=C0 hL4
 have H4:=Z1 (H3.o.root (some n') R' HT3.o)
 have HL4:=Z1 (HL3.o.tn2 H3.o.ld.nb t1)
 clear H3 HL3 HT3 t1
 simp only[QbF] at cL hL4 H4 HL4 ⊢
 go_wp2_with fail
 generalize w3.setCell ⟨w.heap.size,4,none⟩ (.iface n'.ty (.pointer (some ⟨n'.blk,0,none⟩)))=w4 at *
 refine HL4.o.counts.mono ?_
 rintro e w5 ⟨rfl,hb5⟩
 rw[hra]
 have H5:=Z1 (H4.o.step hb5)
 clear H4 HL4 cL hL4 c4 f4 hz hL3 hb5
 subst hA0
 have c5:=H5.o.ld.c5
 have f5:=H5.o.ld.fr 5
 have hz:=Z3 c5
 have fb:=QaA
 simp only[cnOf,Cn.val]
 have HBY:=Z1 hby
 have HAT:=Z1 hat
 have HRA:=Z1 hra
 have HRB:=Z1 hrb
 clear hby hat hra hrb hlf
 generalize hk:Vm.sizeA (Vm.atoms E ws)=k at *
 have hkI:(k:Int)<=(ws.length:Int):=by omega
 have hk0:(0:Int)<=(k:Int):=by omega
 have H6:=Z1 (H5.o.tail ((⟨ws.toArray⟩:ByteArray).extract k ws.length))
 obtain⟨d2,d3,d4,d5⟩:=Qfx H6.o.ld
 simp only[QbF] at d4
 have HK:=Z1 hk
 have hr0:=C0 H6.o.rs
 have hr1:=C1 H6.o.rs
 have hr2:=C2 H6.o.rs
 have hr3:=C3 H6.o.rs
 have hf:∀j,w5.frozen? ⟨w.heap.size+1,j,none⟩=false:=fun j=>Lib.frozen_of_heap H5.o.rs j
 have hz1:w.heap.size+1<w5.heap.size:=Z4 H5.o.rs
 clear H5 hk
 go_wp2_with fail
 clear d2 d3 d4 d5 hf hz1 c5 f5 hz
 generalize w5.setCell ⟨w.heap.size,5,none⟩ (.string ((⟨ws.toArray⟩:ByteArray).extract k ws.length))=w6 at *
 have hfp:=fun X hX=>QdZ (W:=w6) (C:=w.heap.size+1) (.int .i64 E) (.bool mk) (.iface n'.ty (.pointer (some ⟨n'.blk,0,none⟩))) (.string ((⟨ws.toArray⟩:ByteArray).extract k ws.length)) hr0 hr1 hr2 hr3 (X:=X) hX
 have hty:tyAt w6 (w.heap.size+1)=some 91:=by unfold tyAt;rw[H6.o.rs]
 generalize hX:(((w6.setCell ⟨w.heap.size+1,0,none⟩ (.int .i64 E)).setCell ⟨w.heap.size+1,1,none⟩ (.bool mk)).setCell ⟨w.heap.size+1,2,none⟩ (.iface n'.ty (.pointer (some ⟨n'.blk,0,none⟩)))).setCell ⟨w.heap.size+1,3,none⟩ (.string ((⟨ws.toArray⟩:ByteArray).extract k ws.length))=X
 obtain⟨q0,q1,q2,q3,htn,_⟩:=hfp X hX.symm
 clear hfp hX hr0 hr1 hr2 hr3
 have hnn:NoNd w6 (w.heap.size+1):=by unfold NoNd;rw[hty];exact⟨by decide,by decide⟩
 refine bodyPost_ret (v:=.agg #[.int .i64 E,.bool mk,.iface n'.ty (.pointer (some ⟨n'.blk,0,none⟩)),.string ((⟨ws.toArray⟩:ByteArray).extract k ws.length)]) (by simp [results,Tryz.results49,go_sem,q0,q1,q2,q3]) rfl ⟨n',R',_,rfl,H6.o.tr.tn2 hnn htn,?_,?_,?_,HGD.o,QbK H6.o.low (by omega) htn⟩
 ·rw[HBY.o,HRB.o,HK.o]
 ·rw[HAT.o,HRA.o]
 rw[HK.o,ByteArray.data_extract,Array.toList_extract,List.extract_eq_take_drop]
 show ((ws.toArray.toList).drop k).take (ws.length - k)=_
 rw[List.toList_toArray]
 exact List.take_of_length_le (by rw[List.length_drop];omega)
end Go.Proofs.YtoejbngihecafaaGreatDoor
