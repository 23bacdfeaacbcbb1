import Derived.Test.YtoejbngihecafaaGreatDoorC43
import Derived.Test.YtoejbngihecafaaGreatDoorC45
import Derived.Test.YtoejbngihecafaaGreatDoorC42
import Derived.Test.YtoejbngihecafaaGreatDoorC44
import Derived.Test.YtoejbngihecafaaGreatDoorC38
import Derived.Test.YtoejbngihecafaaGreatDoorC0
open Go.Proofs.Tryz
namespace Go.Proofs.YtoejbngihecafaaGreatDoor
open Go.RowKit
variable {O:List Kp} {x:Vm.At} {M M' p B i j:Nat} {s:St} {k:Kp} {f t kd en enc o:Int} {dn un dn' un':Value} {w w':World} {F:Nat->Prop} {A:List Vm.At}
def St.chg (s:St) (e:Int) (k:Kp):Int × St:=(e,if e=0 then ⟨k,pushK s.O s.k,[]⟩ else s)
def St.rpl (s:St) (f t:Int) (text:ByteArray):Int × St:=s.chg (rplE s.k f t text) (rplK s.k f t text)
def St.mrk (s:St) (on:Bool):Int × St:=s.chg (mkE s.k on) (markK s.k on)
def St.eds (s:St) (kd:Int):Int × St:=s.chg (edE kd) (endK s.k kd)
def St.cod (s:St) (en:Int):Int × St:=s.chg (ecE s.k en) (encK s.k en)
def St.und (s:St):Int × St:=match s.O.getLast? with
 |none=>(8,s)
 |some z=>(0,⟨z,s.O.dropLast,s.U++[s.k]⟩)
def St.red (s:St):Int × St:=match s.U.getLast? with
 |none=>(9,s)
 |some z=>(0,⟨z,s.O++[s.k],s.U.dropLast⟩)
structure St.Good (M:Nat) (s:St):Prop where
 ok:∀e∈s.k :: (s.O++s.U),e.Ok/\e.A.length<=M
 len:s.O.length+s.U.length<=30
theorem Qly {x e:Kp} (h:e∈pushK O x):e∈O\/e=x:=by
 unfold pushK at h;rw[List.mem_append,List.mem_singleton] at h;rcases h with h|h
 ·left;split at h
  ·exact List.mem_of_mem_drop h
  exact h
 exact .inr h
theorem Qls (x:Kp) (h:O.length<=30):(pushK O x).length<=30:=by
 unfold pushK;rw[List.length_append,List.length_singleton];split
 ·rw[List.length_drop];omega
 omega
theorem St.Good.mono (h:s.Good M) (hm:M<=M'):s.Good M':=⟨fun e he=>⟨(h.ok e he).1,Nat.le_trans (h.ok e he).2 hm⟩,h.len⟩
theorem St.Good.now (h:s.Good M):s.k.Ok/\s.k.A.length<=M:=h.ok s.k (by simp)
theorem St.Good.chg {e:Int} (h:s.Good M) (hm:M<=M') (hk:e=0->k.Ok/\k.A.length<=M'):(s.chg e k).2.Good M':=by
 unfold St.chg;by_cases he:e=0
 ·simp only[if_pos he];refine⟨fun x hx=>?_,?_⟩
  ·have hc:x=k\/x∈pushK s.O s.k:=by simpa using hx
   rcases hc with rfl|hx
   ·exact hk he
   rcases Qly hx with q|rfl
   ·exact (h.mono hm).ok x (by simp [q])
   exact (h.mono hm).ok _ (by simp)
  have hl:=Qls s.k (O:=s.O) (by have:=h.len;omega);simpa using hl
 simp only[if_neg he];exact h.mono hm
theorem St.Good.rpl {text:ByteArray} (h:s.Good M):(s.rpl f t text).2.Good (M+8 * text.size):=by
 refine h.chg (by omega) (fun he=>?_);have hk:=h.now
 have hs:(strV s.k.A f t).2.2=0:=by
  unfold rplE at he;split at he
  ·exact he
  rename_i q;simpa using q
 obtain⟨_,_,hab⟩:=QiT hs;unfold rplK;refine⟨Qns _ _ _ hk.1,?_⟩;have h1:=Qlg (k:=s.k) (put:=Vm.nb (Vm.typL s.k.enc (Vm.endingOf (Vm.cntK s.k.A 0) (Vm.cntK s.k.A 1) (Vm.cntK s.k.A 2)) (Vm.atoms 0 text.data.toList))) hk.1 hab (Vm.Qk1 hk.1.h0 hk.1.h3 _);have h2:=QeY s.k.enc (Vm.endingOf (Vm.cntK s.k.A 0) (Vm.cntK s.k.A 1) (Vm.cntK s.k.A 2)) (Vm.atoms 0 text.data.toList);have h3:=Vm.QbH 0 text.data.toList;have h4:text.data.toList.length=text.size:=rfl;rw[Vm.Qca] at h1;omega
theorem St.Good.mrk {on:Bool} (h:s.Good M):(s.mrk on).2.Good M:=by
 refine h.chg (Z6 _) (fun he=>?_);have hk:=h.now;refine⟨QnM hk.1 (fun ho e3=>?_),Nat.le_trans (QmE on hk.1) hk.2⟩;unfold mkE at he;rw[if_pos ⟨ho,e3⟩] at he;cases he
theorem Qo2 (h:edE kd=0):0<=kd/\kd<=2:=by
 unfold edE at h;split at h
 ·assumption
 cases h
theorem Qo8 (h:ecE k en=0):0<=en/\en<=3/\fitsK k en=true:=by
 unfold ecE at h;split at h
 ·rename_i q;split at h
  ·exact⟨q.1,q.2,by assumption⟩
  cases h
 cases h
theorem St.Good.eds (h:s.Good M):(s.eds kd).2.Good M:=by
 refine h.chg (Z6 _) (fun he=>?_);have hk:=h.now;obtain⟨k0,k2⟩:=Qo2 he;exact⟨QoB hk.1 k0 k2,by rw[QnA hk.1 k0 k2];exact hk.2⟩
theorem St.Good.cod (h:s.Good M):(s.cod en).2.Good M:=by
 refine h.chg (Z6 _) (fun he=>?_);have hk:=h.now;obtain⟨e0,e3,hf⟩:=Qo8 he;exact⟨QoQ e0 e3,Nat.le_trans (Qnq hk.1 e0 e3 hf) hk.2⟩
theorem Qc6 {z:Kp} (h:O.getLast?=some z):O=O.dropLast++[z]:=by
 obtain⟨l,rfl⟩:=List.getLast?_eq_some_iff.1 h;simp
theorem St.Good.und (h:s.Good M):s.und.2.Good M:=by
 unfold St.und;cases ho:s.O.getLast? with
 |none=>exact h
 |some z =>
  have hz:=Qc6 ho;generalize s.O.dropLast=l at *;refine⟨fun e he=>h.ok e ?_,?_⟩
  ·rw[hz];simp at he ⊢;rcases he with q|q|q|q<;>simp [q]
  have:=h.len;rw[hz] at this;simp at this ⊢;omega
theorem St.Good.red (h:s.Good M):s.red.2.Good M:=by
 unfold St.red;cases ho:s.U.getLast? with
 |none=>exact h
 |some z =>
  have hz:=Qc6 ho;generalize s.U.dropLast=l at *;refine⟨fun e he=>h.ok e ?_,?_⟩
  ·rw[hz];simp at he ⊢;rcases he with q|q|q|q<;>simp [q]
  have:=h.len;rw[hz] at this;simp at this ⊢;omega
theorem Qe2 {b:ByteArray} (h0:0<=enc) (h3:enc<=3):St.Good b.size ⟨ofK b enc,[],[]⟩:=by
 refine⟨fun e he=>?_,by simp⟩;have:e=ofK b enc:=by simpa using he
 subst this;exact⟨Qmu h0 h3,Nat.le_trans (Qlm h0 h3) (Vm.QbH enc b.data.toList)⟩
theorem Turn.of_dr (h:Dr p dn un dn' un' w w') (hF:∀i,F i↔(i=p\/dn.ownBlock=some i\/un.ownBlock=some i)):Turn F (fun i=>i=p\/dn'.ownBlock=some i\/un'.ownBlock=some i) w w' :=
 ⟨h.os,h.tape,h.output,h.size,fun i h1 h2=>h.keep i h1 (fun e=>h2 ((hF i).2 (.inl e))) (fun e=>h2 ((hF i).2 (.inr (.inl e)))) (fun e=>h2 ((hF i).2 (.inr (.inr e)))),
  fun i hi=>by
   rcases hi with rfl|hi
   ·exact .inl ((hF _).2 (.inl rfl))
   rcases h.new i hi with q|q|q
   ·exact .inl ((hF _).2 (.inr (.inl q)))
   ·exact .inl ((hF _).2 (.inr (.inr q)))
   exact .inr q⟩
def EH (B:Nat) (w:World) (p:Nat) (s:St) (F:Nat->Prop):Prop :=
 ∃(x:He) (O U:List He) (dn un:Value),DocH B w p x O U dn un/\x.k=s.k/\O.map He.k=s.O/\U.map He.k=s.U/\∀i,F i↔(i=p\/dn.ownBlock=some i\/un.ownBlock=some i)
theorem EH.low (h:EH B w p s F) (hb:Below w.heap.size w w'):EH B w' p s F:=by
 obtain⟨x,O,U,dn,un,h1,h2⟩:=h;exact⟨x,O,U,dn,un,h1.low hb,h2⟩
theorem EH.ty (h:EH B w p s F) (hi:F i):B<=i/\i<w.heap.size/\(tyAt w i=some 110\/tyAt w i=some 91):=by
 obtain⟨x,O,U,dn,un,h1,_,_,_,h5⟩:=h;rcases (h5 i).1 hi with rfl|q|q
 ·exact⟨h1.pB,Z4 h1.blk,.inl (by unfold tyAt;rw[h1.blk])⟩
 ·have:=h1.hd.lt q;exact⟨this.1,this.2.1,.inr this.2.2⟩
 have:=h1.hu.lt q;exact⟨this.1,this.2.1,.inr this.2.2⟩
theorem EH.nd (h:EH B w p s F) (hi:F i):NoNd w i:=by
 rcases (h.ty hi).2.2 with q|q<;>(unfold NoNd;rw[q];exact⟨fun e=>absurd (Option.some.inj e) (by decide),fun e=>absurd (Option.some.inj e) (by decide)⟩)
theorem EH.dd (h:EH B w p s F) (hs:s.k.body.size<=1099511627776):DD w p s.k.enc s.k.mark s.k.body:=by
 obtain⟨x,O,U,dn,un,h1,h2,_⟩:=h;have hx:x.Ok w:=h1.ok x (by simp);rw[<-h2] at hs ⊢;exact⟨x.n,x.R,x.tail,⟨dn,un,h1.blk⟩,hx.tr,hx.h0,hx.h3,hx.bytes,hx.atoms,hs,hx.gd⟩
theorem EH.new {mark:Bool} {body:ByteArray} (h:DF w p enc mark body) (hB:B<=p):EH B w p ⟨⟨enc,mark,body⟩,[],[]⟩ (fun i=>i=p):=by
 obtain⟨n,R,tail,h1,h2⟩:=h;refine⟨⟨⟨enc,mark,body⟩,n,R,tail⟩,[],[],.slice none 0 0,.slice none 0 0,⟨h2,fun e he=>?_,World.ownsRow_nil _ _ _ _,World.ownsRow_nil _ _ _ _,fun g _ e=>(by cases e),hB⟩,rfl,rfl,rfl,fun i=>⟨.inl,fun q=>?_⟩⟩
 ·have:e=⟨⟨enc,mark,body⟩,n,R,tail⟩:=by simpa using he
  subst this;exact⟨h1.tr,h1.bytes,h1.atoms,h1.gd,h1.h0,h1.h3⟩
 rcases q with q|q|q
 ·exact q
 ·cases q
 cases q
theorem EH.turn {G G':Nat->Prop} (h:EH B w p s F) (ht:Turn G G' w w') (hd:∀i,G i->¬F i) (hn:∀i,G i->NoNd w i):EH B w' p s F:=by
 have hty:=fun i (hi:F i)=>(h.ty hi).2.1;obtain⟨x,O,U,dn,un,h1,h2,h3,h4,h5⟩:=h;have hk:∀i,F i->w'.heap[i]?=w.heap[i]?:=fun i hi=>ht.keep i (hty i hi) (fun g=>hd i g hi);refine⟨x,O,U,dn,un,⟨(hk p ((h5 p).2 (.inl rfl))).trans h1.blk,fun e he=>?_,h1.hd.low (fun g hg=>hk g ((h5 g).2 (.inr (.inl hg)))),h1.hu.low (fun g hg=>hk g ((h5 g).2 (.inr (.inr hg)))),h1.ne,h1.pB⟩,h2,h3,h4,h5⟩;have he:=h1.ok e he;refine⟨?_,he.bytes,he.atoms,he.gd,he.h0,he.h3⟩;refine he.tr.kept_ty (fun b c ty hb hty=>ht.keep b (Z4 hb) (fun g=>?_));have hq:=hn b g;have e1:tyAt w b=some ty:=by unfold tyAt;rw[hb]
 rcases hty with q|q
 ·exact hq.1 (by rw[e1,q])
 exact hq.2 (by rw[e1,q])
theorem QkZ (O:List He) (x:He):(pushO O x).map He.k=pushK (O.map He.k) x.k:=by
 unfold pushO pushK;rw[List.map_append,List.length_map];split
 ·rw[List.map_drop];rfl
 rfl
theorem EH.changed {x x':He} {O U O' U':List He} {E:Int} {K:Kp} (h2:x.k=s.k) (h3:O.map He.k=s.O) (h4:U.map He.k=s.U) (hF:∀i,F i↔(i=p\/dn.ownBlock=some i\/un.ownBlock=some i))
  (hd:DocH B w' p x' O' U' dn' un') (hr:Dr p dn un dn' un' w w') (hy:E=0->x'.k=K/\O'=pushO O x/\U'=[]) (hn:E≠0->x'=x/\O'=O/\U'=U):∃F',EH B w' p (s.chg E K).2 F'/\Turn F F' w w':=by
 refine⟨_,⟨x',O',U',dn',un',hd,?_,?_,?_,fun i=>Iff.rfl⟩,Turn.of_dr hr hF⟩
 all_goals
  unfold St.chg;by_cases he:E=0
  ·obtain⟨a,b,c⟩:=hy he;simp only[if_pos he]
   first|exact a|(rw[b,QkZ,h3,h2])|(rw[c];rfl)
  obtain⟨a,b,c⟩:=hn he;simp only[if_neg he]
  first|(rw[a,h2])|(rw[b,h3])|(rw[c,h4])
theorem QaZ (h:s.Good M):s.k.body.size<=8 * M+1:=by
 have h1:=s.k.body_le;have h2:=h.now.2;omega
section
variable (B p:Nat) (s:St) (F:Nat->Prop) (M:Nat) (w:World)
theorem eRpl (f t:Int) (text:ByteArray) (ht:TabA w) (h:EH B w p s F) (hg:s.Good M) (hM:M+text.size<=1000000000) :
  Calls prog 29 #[.pointer (some ⟨p,0,none⟩),.int .i64 f,.int .i64 t,.string text] w fun e w'=>e=.returned (.int .i64 (s.rpl f t text).1)/\∃F',EH B w' p (s.rpl f t text).2 F'/\Turn F F' w w':=by
 obtain⟨x,O,U,dn,un,h1,h2,h3,h4,h5⟩:=h
 have hb:=QaZ hg
 have hl:=hg.len
 rw[<-h3,List.length_map] at hl
 have hq:=docReplace B p x O U dn un f t text w ht h1 (by omega) (by rw[h2];omega)
 rw[h2] at hq
 exact hq.mono fun e w' ⟨x',O',U',dn',un',he,hd,hr,hy,hn⟩=>⟨he,EH.changed h2 h3 h4 h5 hd hr hy hn⟩
theorem eMrk (on:Bool) (ht:TabA w) (h:EH B w p s F) (hg:s.Good M) (hM:M<=1000000000) :
  Calls prog 68 #[.pointer (some ⟨p,0,none⟩),.bool on] w fun e w'=>e=.returned (.int .i64 (s.mrk on).1)/\∃F',EH B w' p (s.mrk on).2 F'/\Turn F F' w w':=by
 obtain⟨x,O,U,dn,un,h1,h2,h3,h4,h5⟩:=h
 have hb:=QaZ hg
 have hl:=hg.len
 rw[<-h3,List.length_map] at hl
 have hq:=docSetMark B p x O U dn un on w ht h1 (by omega) (by rw[h2];omega)
 rw[h2] at hq
 exact hq.mono fun e w' ⟨x',O',U',dn',un',he,hd,hr,hy,hn⟩=>⟨he,EH.changed h2 h3 h4 h5 hd hr hy hn⟩
theorem eEds (kd:Int) (ht:TabA w) (h:EH B w p s F) (hg:s.Good M) (hM:M<=1000000000) :
  Calls prog 69 #[.pointer (some ⟨p,0,none⟩),.int .i64 kd] w fun e w'=>e=.returned (.int .i64 (s.eds kd).1)/\∃F',EH B w' p (s.eds kd).2 F'/\Turn F F' w w':=by
 obtain⟨x,O,U,dn,un,h1,h2,h3,h4,h5⟩:=h
 have hb:=QaZ hg
 have hl:=hg.len
 rw[<-h3,List.length_map] at hl
 have hq:=docSetEndings B p x O U dn un kd w ht h1 (by omega) (by rw[h2];omega)
 rw[h2] at hq
 exact hq.mono fun e w' ⟨x',O',U',dn',un',he,hd,hr,hy,hn⟩=>⟨he,EH.changed h2 h3 h4 h5 hd hr hy hn⟩
theorem eCod (en:Int) (ht:TabA w) (h:EH B w p s F) (hg:s.Good M) (hM:M<=1000000000) :
  Calls prog 70 #[.pointer (some ⟨p,0,none⟩),.int .i64 en] w fun e w'=>e=.returned (.int .i64 (s.cod en).1)/\∃F',EH B w' p (s.cod en).2 F'/\Turn F F' w w':=by
 obtain⟨x,O,U,dn,un,h1,h2,h3,h4,h5⟩:=h
 have hb:=QaZ hg
 have hl:=hg.len
 rw[<-h3,List.length_map] at hl
 have hq:=docEncode B p x O U dn un en w ht h1 (by omega) (by rw[h2];omega) (by rw[h2];exact hg.now.1)
 rw[h2] at hq
 exact hq.mono fun e w' ⟨x',O',U',dn',un',he,hd,hr,hy,hn⟩=>⟨he,EH.changed h2 h3 h4 h5 hd hr hy hn⟩
theorem eUnd (h:EH B w p s F) (hg:s.Good M) :
  Calls prog 34 #[.pointer (some ⟨p,0,none⟩)] w fun e w'=>e=.returned (.int .i64 s.und.1)/\∃F',EH B w' p s.und.2 F'/\Turn F F' w w':=by
 obtain⟨x,O,U,dn,un,h1,h2,h3,h4,h5⟩:=h
 have hl:=hg.len
 rw[<-h3,<-h4,List.length_map,List.length_map] at hl
 rcases List.eq_nil_or_concat O with rfl|⟨l,z,rfl⟩
 ·have hu:s.und=(8,s):=by unfold St.und;rw[<-h3];rfl
  rw[hu];exact (QkN B p x U dn un w h1).mono fun e w' ⟨he,hb⟩=>⟨he,F,⟨x,[],U,dn,un,h1.low hb,h2,h3,h4,h5⟩,Turn.of_below hb⟩
 rw[List.concat_eq_append] at h1 h3 hl
 have hu:s.und=(0,⟨z.k,l.map He.k,s.U++[s.k]⟩):=by
  unfold St.und;rw[<-h3,List.map_append];simp
 rw[hu]
 rw[List.length_append,List.length_singleton] at hl
 exact (Qi3 B p x z l U dn un w h1 (by omega)).mono fun e w' ⟨dn',un',he,hd,hr⟩=>⟨he,_,⟨z,l,U++[x],dn',un',hd,rfl,rfl,by rw[List.map_append,h4];simp [h2],fun i=>Iff.rfl⟩,Turn.of_dr hr h5⟩
theorem eRed (h:EH B w p s F) (hg:s.Good M) :
  Calls prog 35 #[.pointer (some ⟨p,0,none⟩)] w fun e w'=>e=.returned (.int .i64 s.red.1)/\∃F',EH B w' p s.red.2 F'/\Turn F F' w w':=by
 obtain⟨x,O,U,dn,un,h1,h2,h3,h4,h5⟩:=h
 have hl:=hg.len
 rw[<-h3,<-h4,List.length_map,List.length_map] at hl
 rcases List.eq_nil_or_concat U with rfl|⟨l,z,rfl⟩
 ·have hu:s.red=(9,s):=by unfold St.red;rw[<-h4];rfl
  rw[hu];exact (Qkm B p x O dn un w h1).mono fun e w' ⟨he,hb⟩=>⟨he,F,⟨x,O,[],dn,un,h1.low hb,h2,h3,h4,h5⟩,Turn.of_below hb⟩
 rw[List.concat_eq_append] at h1 h4 hl
 have hu:s.red=(0,⟨z.k,s.O++[s.k],l.map He.k⟩):=by
  unfold St.red;rw[<-h4,List.map_append];simp
 rw[hu]
 rw[List.length_append,List.length_singleton] at hl
 exact (Qi8 B p x z O l dn un w h1 (by omega)).mono fun e w' ⟨dn',un',he,hd,hr⟩=>⟨he,_,⟨z,O++[x],l,dn',un',hd,rfl,by rw[List.map_append,h3];simp [h2],rfl,fun i=>Iff.rfl⟩,Turn.of_dr hr h5⟩
end
theorem plV2 (A:List Vm.At) (o:Int):(plV A o).2=(rplV A o).2:=by
 unfold plV rplV;split
 ·rfl
 split<;>rfl
theorem rplV_range :(rplV A o).2=2↔(o<0\/(Vm.bytesA A:Int)<o):=by
 unfold rplV;by_cases h:o<0\/(Vm.bytesA A:Int)<o
 ·rw[if_pos h];simp [h]
 rw[if_neg h];split<;>simp [h]
theorem Qgl (A:List Vm.At) (o:Int):(rplV A o).2=0\/(rplV A o).2=2\/(rplV A o).2=3:=by
 unfold rplV;split
 ·simp
 split<;>simp
theorem Qlu (h:(rplV A o).2=0):(rplV A o).1=Vm.plK A o:=by
 unfold rplV at h ⊢;split at h
 ·cases h
 rename_i q1;split at h
 ·cases h
 rename_i q2;rw[if_neg q1,if_neg q2]
theorem QlY (h:(rplV A f).2=2\/(rplV A t).2=2\/t<f):(strV A f t).2.2=2:=by
 unfold strV;rw[rplV_range,rplV_range] at h;rw[if_pos (by omega)]
theorem Qo6 (h1:(rplV A f).2≠2) (h2:(rplV A t).2≠2) (h3:¬t<f):(strV A f t).2.2=if (rplV A f).2=0/\(rplV A t).2=0 then 0 else 3:=by
 unfold strV;rw[ne_eq,rplV_range] at h1 h2;rw[if_neg (by omega),plV2,plV2];have c1:=Qgl A f;have c2:=Qgl A t;rw[rplV_range] at c1 c2;by_cases q:(rplV A f).2=0
 ·rw[if_neg (by simpa using q)];by_cases q2:(rplV A t).2=0
  ·rw[if_pos ⟨q,q2⟩];exact q2
  rw[if_neg (fun x=>q2 x.2)];show (rplV A t).2=3;omega
 rw[if_pos q,if_neg (fun x=>q x.1)];show (rplV A f).2=3;omega
theorem Qoz (k:Kp) (f t:Int) (text:ByteArray) (kd:Int):rplE k f t text=if (strV k.A f t).2.2≠0 then (strV k.A f t).2.2 else (Vm.typV k.enc kd (Vm.atoms 0 text.data.toList)).2:=by
 unfold rplE Vm.typV;split
 ·rfl
 split
 ·rfl
 split<;>rfl
theorem Qms (h:(Vm.typV enc kd A).2=0):(Vm.typV enc kd A).1=Vm.typL enc kd A:=by
 unfold Vm.typV at h ⊢;split at h
 ·cases h
 rename_i q1;split at h
 ·cases h
 rename_i q2;rw[if_neg q1,if_neg q2]
theorem QeW (b:ByteArray) (i j:Nat):(b.extract i j).data.toList=(b.data.toList.drop i).take (j - i):=by
 rw[ByteArray.data_extract,Array.toList_extract,List.extract_eq_take_drop]
theorem QdX (a b:ByteArray):(a++b).data.toList=a.data.toList++b.data.toList:=by
 rw[ByteArray.data_append,Array.toList_append]
theorem QlO (l:List Int):(strOfNums l).data.toList=Vm.nb l:=rfl
theorem Qnr (h:k.Ok) (a b:Nat) (P:List Int):ofK (bytesOf k.enc k.mark (k.body.extract 0 (Vm.sizeA (k.A.take a))++strOfNums P++k.body.extract (Vm.sizeA (k.A.take b)) k.body.size)) k.enc=replK k a b (Vm.nb P):=by
 refine (Ql7 (k:=⟨k.enc,k.mark,k.body.extract 0 (Vm.sizeA (k.A.take a))++strOfNums P++k.body.extract (Vm.sizeA (k.A.take b)) k.body.size⟩) h.h0 h.h3 h.lat).trans ?_;unfold replK;congr 2;apply QcO;rw[QdX,QdX,QeW,QeW,Qbs,QlO,Nat.sub_zero,List.drop_zero,List.append_assoc];have e:List.take (k.body.size - Vm.sizeA (k.A.take b)) (k.L.drop (Vm.sizeA (k.A.take b)))=k.L.drop (Vm.sizeA (k.A.take b)):=List.take_of_length_le (by rw[List.length_drop,k.L_len];exact Z6 _);show k.L.take _++(_++List.take _ (k.L.drop _))=_;rw[e]
theorem QmV (h:k.Ok) (on:Bool) (hl:on=true->k.enc≠3):ofK (bytesOf k.enc on k.body) k.enc=markK k on:=by
 unfold markK;exact Ql7 (k:=⟨k.enc,on,k.body⟩) h.h0 h.h3 (fun e=>by cases on;rfl;exact absurd e (hl rfl))
theorem Qj3 {enc kind:Int}:∀(A:List Vm.At) (l:List UInt8) (j:Nat) (x:Vm.At),A[j]?=some x->Vm.reB enc kind (A.take (j+1)) l=Vm.reB enc kind (A.take j) l++(if x.1<=2 then Vm.nb (Vm.endL enc kind) else (l.drop (Vm.sizeA (A.take j))).take x.2.2)
 |[],_,_,_,h=>by simp at h
 |y :: A,l,0,x,h=>by
  have:y=x:=by simpa using h
  subst this
  simp [Vm.reB,Vm.sizeA]
 |y :: A,l,j+1,x,h=>by
  have h':A[j]?=some x:=by simpa using h
  have ih:=Qj3 (enc:=enc) (kind:=kind) A (l.drop y.2.2) j x h'
  rw[List.take_succ_cons,List.take_succ_cons,Vm.reB,Vm.reB,ih,List.append_assoc,List.drop_drop,Vm.Qar]
theorem QbQ (A:List Vm.At) (j:Nat):Vm.sizeA (A.take j)<=Vm.sizeA A:=by
 have h:=congrArg Vm.sizeA (List.take_append_drop j A);have:∀(X Y:List Vm.At),Vm.sizeA (X++Y)=Vm.sizeA X+Vm.sizeA Y:=fun X Y=>by simp [Vm.sizeA]
 rw[this] at h;omega
theorem Qgn (h:A[j]?=some x):Vm.sizeA (A.take (j+1))=Vm.sizeA (A.take j)+x.2.2:=by
 rw[List.take_add_one,h];exact Vm.Qay _ _
theorem Qck (k:Kp):Vm.sizeA k.A<=k.body.size:=Vm.QaE (List.prefix_refl _)
theorem QlL (h:A[j]?=some x):Vm.recL enc (A.take (j+1))=Vm.recL enc (A.take j)++Vm.recA enc x:=by
 rw[List.take_add_one,h];simp [Vm.recL]
theorem QjB (enc:Int) (x:Vm.At):(Vm.recA enc x).length<=8:=by
 have:=Qdb enc x.1 x;unfold Vm.typA at this;unfold Vm.recA;exact this
theorem QoJ {kind:Int} (A:List Vm.At) (l:List UInt8):(Vm.reB enc kind A l).length<=8 * A.length+Vm.sizeA A:=by
 induction A generalizing l with
 |nil=>simp [Vm.reB]
 |cons x A ih =>
  have h1:=ih (l.drop x.2.2);have h2:=Qdb enc kind (0,10,1);unfold Vm.typA at h2;rw[if_pos (by decide)] at h2;rw[Vm.reB,List.length_append,List.length_cons,Vm.Qar];split
  ·rw[Vm.Qca];omega
  rw[List.length_take];omega
end Go.Proofs.YtoejbngihecafaaGreatDoor
