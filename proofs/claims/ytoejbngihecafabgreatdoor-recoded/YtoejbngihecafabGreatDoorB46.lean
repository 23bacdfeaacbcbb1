import Derived.Test.YtoejbngihecafabGreatDoorB43
import Derived.Test.YtoejbngihecafabGreatDoorB45
import Derived.Test.YtoejbngihecafabGreatDoorB42
import Derived.Test.YtoejbngihecafabGreatDoorB44
import Derived.Test.YtoejbngihecafabGreatDoorB38
namespace Go.Proofs.YtoejbngihecafabGreatDoor
open Go.RowKit
def St.chg (s:St) (e:Int) (k:Kp):Int × St:=(e,if e=0 then ⟨k,pushK s.O s.k,[]⟩ else s)
def St.rpl (s:St) (f t:Int) (text:ByteArray):Int × St:=s.chg (rplE s.k f t text) (rplK s.k f t text)
def St.mrk (s:St) (on:Bool):Int × St:=s.chg (mkE s.k on) (markK s.k on)
def St.eds (s:St) (kd:Int):Int × St:=s.chg (edE kd) (endK s.k kd)
def St.cod (s:St) (en:Int):Int × St:=s.chg (ecE s.k en) (encK s.k en)
def St.und (s:St):Int × St:=match s.O.getLast? with
 |none=>(8,s)
 |some z=>(0,⟨z,s.O.dropLast,s.U++[s.k]⟩)
def St.red (s:St):Int × St:=match s.U.getLast? with
 |none=>(9,s)
 |some z=>(0,⟨z,s.O++[s.k],s.U.dropLast⟩)
structure St.Good (M:Nat) (s:St):Prop where
 ok:∀e∈s.k :: (s.O++s.U),e.Ok/\e.A.length<=M
 len:s.O.length+s.U.length<=30
theorem mem_pushK {O:List Kp} {x e:Kp} (h:e∈pushK O x):e∈O\/e=x:=by
 unfold pushK at h
 rw[List.mem_append,List.mem_singleton] at h
 rcases h with h|h
 ·left
  split at h
  ·exact List.mem_of_mem_drop h
  ·exact h
 ·exact .inr h
theorem pushK_len {O:List Kp} (x:Kp) (h:O.length<=30):(pushK O x).length<=30:=by
 unfold pushK
 rw[List.length_append,List.length_singleton]
 split
 ·rw[List.length_drop];omega
 ·omega
theorem St.Good.mono {M M':Nat} {s:St} (h:s.Good M) (hm:M<=M'):s.Good M':=⟨fun e he=>⟨(h.ok e he).1,Nat.le_trans (h.ok e he).2 hm⟩,h.len⟩
theorem St.Good.now {M:Nat} {s:St} (h:s.Good M):s.k.Ok/\s.k.A.length<=M:=h.ok s.k (by simp)
theorem St.Good.chg {M M':Nat} {s:St} {e:Int} {k:Kp} (h:s.Good M) (hm:M<=M') (hk:e=0->k.Ok/\k.A.length<=M'):(s.chg e k).2.Good M':=by
 unfold St.chg
 by_cases he:e=0
 ·simp only[if_pos he]
  refine⟨fun x hx=>?_,?_⟩
  ·have hc:x=k\/x∈pushK s.O s.k:=by simpa using hx
   rcases hc with rfl|hx
   ·exact hk he
   ·rcases mem_pushK hx with q|rfl
    ·exact (h.mono hm).ok x (by simp [q])
    ·exact (h.mono hm).ok _ (by simp)
  ·have hl:=pushK_len s.k (O:=s.O) (by have:=h.len;omega)
   simpa using hl
 ·simp only[if_neg he]
  exact h.mono hm
theorem St.Good.rpl {M:Nat} {s:St} {f t:Int} {text:ByteArray} (h:s.Good M):(s.rpl f t text).2.Good (M+8 * text.size):=by
 refine h.chg (by omega) (fun he=>?_)
 have hk:=h.now
 have hs:(strV s.k.A f t).2.2=0:=by
  unfold rplE at he
  split at he
  ·exact he
  ·rename_i q;simpa using q
 obtain⟨_,_,hab⟩:=strV_ok hs
 unfold rplK
 refine⟨replK_ok _ _ _ hk.1,?_⟩
 have h1:=replK_len (k:=s.k) (put:=Vm.nb (Vm.typL s.k.enc (Vm.endingOf (Vm.cntK s.k.A 0) (Vm.cntK s.k.A 1) (Vm.cntK s.k.A 2)) (Vm.atoms 0 text.data.toList))) hk.1 hab (Vm.typ_wh hk.1.h0 hk.1.h3 _)
 have h2:=typL_len s.k.enc (Vm.endingOf (Vm.cntK s.k.A 0) (Vm.cntK s.k.A 1) (Vm.cntK s.k.A 2)) (Vm.atoms 0 text.data.toList)
 have h3:=Vm.atoms_len 0 text.data.toList
 have h4:text.data.toList.length=text.size:=rfl
 rw[Vm.nb_len] at h1
 omega
theorem St.Good.mrk {M:Nat} {s:St} {on:Bool} (h:s.Good M):(s.mrk on).2.Good M:=by
 refine h.chg (Nat.le_refl _) (fun he=>?_)
 have hk:=h.now
 refine⟨markK_ok hk.1 (fun ho e3=>?_),Nat.le_trans (markK_len on hk.1) hk.2⟩
 unfold mkE at he
 rw[if_pos ⟨ho,e3⟩] at he
 cases he
theorem edE_ok {kd:Int} (h:edE kd=0):0<=kd/\kd<=2:=by
 unfold edE at h
 split at h
 ·assumption
 ·cases h
theorem ecE_ok {k:Kp} {en:Int} (h:ecE k en=0):0<=en/\en<=3/\fitsK k en=true:=by
 unfold ecE at h
 split at h
 ·rename_i q
  split at h
  ·exact⟨q.1,q.2,by assumption⟩
  ·cases h
 ·cases h
theorem St.Good.eds {M:Nat} {s:St} {kd:Int} (h:s.Good M):(s.eds kd).2.Good M:=by
 refine h.chg (Nat.le_refl _) (fun he=>?_)
 have hk:=h.now
 obtain⟨k0,k2⟩:=edE_ok he
 exact⟨endK_ok hk.1 k0 k2,by rw[endK_len hk.1 k0 k2];exact hk.2⟩
theorem St.Good.cod {M:Nat} {s:St} {en:Int} (h:s.Good M):(s.cod en).2.Good M:=by
 refine h.chg (Nat.le_refl _) (fun he=>?_)
 have hk:=h.now
 obtain⟨e0,e3,hf⟩:=ecE_ok he
 exact⟨encK_ok e0 e3,Nat.le_trans (encK_len hk.1 e0 e3 hf) hk.2⟩
theorem ofK_good {b:ByteArray} {enc:Int} (h0:0<=enc) (h3:enc<=3):St.Good b.size ⟨ofK b enc,[],[]⟩:=by
 refine⟨fun e he=>?_,by simp⟩
 have:e=ofK b enc:=by simpa using he
 subst this
 exact⟨ofK_ok h0 h3,Nat.le_trans (ofK_len h0 h3) (Vm.atoms_len enc b.data.toList)⟩
theorem Turn.of_dr {p:Nat} {dn un dn' un':Value} {w w':World} {F:Nat->Prop} (h:Dr p dn un dn' un' w w') (hF:∀i,F i↔(i=p\/dn.ownBlock=some i\/un.ownBlock=some i)):Turn F (fun i=>i=p\/dn'.ownBlock=some i\/un'.ownBlock=some i) w w' :=
 ⟨h.os,h.tape,h.output,h.size,fun i h1 h2=>h.keep i h1 (fun e=>h2 ((hF i).2 (.inl e))) (fun e=>h2 ((hF i).2 (.inr (.inl e)))) (fun e=>h2 ((hF i).2 (.inr (.inr e)))),
  fun i hi=>by
   rcases hi with rfl|hi
   ·exact .inl ((hF _).2 (.inl rfl))
   ·rcases h.new i hi with q|q|q
    ·exact .inl ((hF _).2 (.inr (.inl q)))
    ·exact .inl ((hF _).2 (.inr (.inr q)))
    ·exact .inr q⟩
def EH (B:Nat) (w:World) (p:Nat) (s:St) (F:Nat->Prop):Prop :=
 ∃(x:He) (O U:List He) (dn un:Value),DocH B w p x O U dn un/\x.k=s.k/\O.map He.k=s.O/\U.map He.k=s.U/\∀i,F i↔(i=p\/dn.ownBlock=some i\/un.ownBlock=some i)
theorem EH.low {B:Nat} {w w':World} {p:Nat} {s:St} {F:Nat->Prop} (h:EH B w p s F) (hb:Below w.heap.size w w'):EH B w' p s F:=by
 obtain⟨x,O,U,dn,un,h1,h2⟩:=h
 exact⟨x,O,U,dn,un,h1.low hb,h2⟩
theorem EH.ty {B:Nat} {w:World} {p:Nat} {s:St} {F:Nat->Prop} (h:EH B w p s F) {i:Nat} (hi:F i):B<=i/\i<w.heap.size/\(tyAt w i=some 58\/tyAt w i=some 53):=by
 obtain⟨x,O,U,dn,un,h1,_,_,_,h5⟩:=h
 rcases (h5 i).1 hi with rfl|q|q
 ·exact⟨h1.pB,Z4 h1.blk,.inl (by unfold tyAt;rw[h1.blk])⟩
 ·have:=h1.hd.lt q
  exact⟨this.1,this.2.1,.inr this.2.2⟩
 ·have:=h1.hu.lt q
  exact⟨this.1,this.2.1,.inr this.2.2⟩
theorem EH.self {B:Nat} {w:World} {p:Nat} {s:St} {F:Nat->Prop} (h:EH B w p s F):F p:=by
 obtain⟨x,O,U,dn,un,_,_,_,_,h5⟩:=h
 exact (h5 p).2 (.inl rfl)
theorem EH.lt {B:Nat} {w:World} {p:Nat} {s:St} {F:Nat->Prop} (h:EH B w p s F):p<w.heap.size:=(h.ty h.self).2.1
theorem EH.dd {B:Nat} {w:World} {p:Nat} {s:St} {F:Nat->Prop} (h:EH B w p s F) (hs:s.k.body.size<=1099511627776):DD w p s.k.enc s.k.mark s.k.body:=by
 obtain⟨x,O,U,dn,un,h1,h2,_⟩:=h
 have hx:x.Ok w:=h1.ok x (by simp)
 rw[<-h2] at hs ⊢
 exact⟨x.n,x.R,x.tail,⟨dn,un,h1.blk⟩,hx.tr,hx.h0,hx.h3,hx.bytes,hx.atoms,hs,hx.gd⟩
theorem EH.new {B:Nat} {w:World} {p:Nat} {enc:Int} {mark:Bool} {body:ByteArray} (h:DF w p enc mark body) (hB:B<=p):EH B w p ⟨⟨enc,mark,body⟩,[],[]⟩ (fun i=>i=p):=by
 obtain⟨n,R,tail,h1,h2⟩:=h
 refine⟨⟨⟨enc,mark,body⟩,n,R,tail⟩,[],[],.slice none 0 0,.slice none 0 0,⟨h2,fun e he=>?_,World.ownsRow_nil _ _ _ _,World.ownsRow_nil _ _ _ _,fun g _ e=>(by cases e),hB⟩,rfl,rfl,rfl,fun i=>⟨.inl,fun q=>?_⟩⟩
 ·have:e=⟨⟨enc,mark,body⟩,n,R,tail⟩:=by simpa using he
  subst this
  exact⟨h1.tr,h1.bytes,h1.atoms,h1.gd,h1.h0,h1.h3⟩
 ·rcases q with q|q|q
  ·exact q
  ·cases q
  ·cases q
theorem map_pushO (O:List He) (x:He):(pushO O x).map He.k=pushK (O.map He.k) x.k:=by
 unfold pushO pushK
 rw[List.map_append,List.length_map]
 split
 ·rw[List.map_drop];rfl
 ·rfl
theorem EH.changed {B:Nat} {w w':World} {p:Nat} {s:St} {F:Nat->Prop} {x x':He} {O U O' U':List He} {dn un dn' un':Value} {E:Int} {K:Kp} (h2:x.k=s.k) (h3:O.map He.k=s.O) (h4:U.map He.k=s.U) (hF:∀i,F i↔(i=p\/dn.ownBlock=some i\/un.ownBlock=some i))
  (hd:DocH B w' p x' O' U' dn' un') (hr:Dr p dn un dn' un' w w') (hy:E=0->x'.k=K/\O'=pushO O x/\U'=[]) (hn:E≠0->x'=x/\O'=O/\U'=U):∃F',EH B w' p (s.chg E K).2 F'/\Turn F F' w w':=by
 refine⟨_,⟨x',O',U',dn',un',hd,?_,?_,?_,fun i=>Iff.rfl⟩,Turn.of_dr hr hF⟩
 all_goals
  unfold St.chg
  by_cases he:E=0
  ·obtain⟨a,b,c⟩:=hy he
   simp only[if_pos he]
   first|exact a|(rw[b,map_pushO,h3,h2])|(rw[c];rfl)
  ·obtain⟨a,b,c⟩:=hn he
   simp only[if_neg he]
   first|(rw[a,h2])|(rw[b,h3])|(rw[c,h4])
theorem good_body {M:Nat} {s:St} (h:s.Good M):s.k.body.size<=8 * M+1:=by
 have h1:=s.k.body_le
 have h2:=h.now.2
 omega
section
variable (B p:Nat) (s:St) (F:Nat->Prop) (M:Nat) (w:World)
theorem eRpl (f t:Int) (text:ByteArray) (ht:TabA w) (h:EH B w p s F) (hg:s.Good M) (hM:M+text.size<=1000000000) :
  Calls Tryz.prog 7 #[.pointer (some ⟨p,0,none⟩),.int .i64 f,.int .i64 t,.string text] w fun e w'=>e=.returned (.int .i64 (s.rpl f t text).1)/\∃F',EH B w' p (s.rpl f t text).2 F'/\Turn F F' w w':=by
 obtain⟨x,O,U,dn,un,h1,h2,h3,h4,h5⟩:=h
 have hb:=good_body hg
 have hl:=hg.len
 rw[<-h3,List.length_map] at hl
 have hq:=docReplace B p x O U dn un f t text w ht h1 (by omega) (by rw[h2];omega)
 rw[h2] at hq
 exact hq.mono fun e w' ⟨x',O',U',dn',un',he,hd,hr,hy,hn⟩=>⟨he,EH.changed h2 h3 h4 h5 hd hr hy hn⟩
theorem eMrk (on:Bool) (ht:TabA w) (h:EH B w p s F) (hg:s.Good M) (hM:M<=1000000000) :
  Calls Tryz.prog 9 #[.pointer (some ⟨p,0,none⟩),.bool on] w fun e w'=>e=.returned (.int .i64 (s.mrk on).1)/\∃F',EH B w' p (s.mrk on).2 F'/\Turn F F' w w':=by
 obtain⟨x,O,U,dn,un,h1,h2,h3,h4,h5⟩:=h
 have hb:=good_body hg
 have hl:=hg.len
 rw[<-h3,List.length_map] at hl
 have hq:=docSetMark B p x O U dn un on w ht h1 (by omega) (by rw[h2];omega)
 rw[h2] at hq
 exact hq.mono fun e w' ⟨x',O',U',dn',un',he,hd,hr,hy,hn⟩=>⟨he,EH.changed h2 h3 h4 h5 hd hr hy hn⟩
theorem eEds (kd:Int) (ht:TabA w) (h:EH B w p s F) (hg:s.Good M) (hM:M<=1000000000) :
  Calls Tryz.prog 8 #[.pointer (some ⟨p,0,none⟩),.int .i64 kd] w fun e w'=>e=.returned (.int .i64 (s.eds kd).1)/\∃F',EH B w' p (s.eds kd).2 F'/\Turn F F' w w':=by
 obtain⟨x,O,U,dn,un,h1,h2,h3,h4,h5⟩:=h
 have hb:=good_body hg
 have hl:=hg.len
 rw[<-h3,List.length_map] at hl
 have hq:=docSetEndings B p x O U dn un kd w ht h1 (by omega) (by rw[h2];omega)
 rw[h2] at hq
 exact hq.mono fun e w' ⟨x',O',U',dn',un',he,hd,hr,hy,hn⟩=>⟨he,EH.changed h2 h3 h4 h5 hd hr hy hn⟩
theorem eCod (en:Int) (ht:TabA w) (h:EH B w p s F) (hg:s.Good M) (hM:M<=1000000000) :
  Calls Tryz.prog 13 #[.pointer (some ⟨p,0,none⟩),.int .i64 en] w fun e w'=>e=.returned (.int .i64 (s.cod en).1)/\∃F',EH B w' p (s.cod en).2 F'/\Turn F F' w w':=by
 obtain⟨x,O,U,dn,un,h1,h2,h3,h4,h5⟩:=h
 have hb:=good_body hg
 have hl:=hg.len
 rw[<-h3,List.length_map] at hl
 have hq:=docEncode B p x O U dn un en w ht h1 (by omega) (by rw[h2];omega) (by rw[h2];exact hg.now.1)
 rw[h2] at hq
 exact hq.mono fun e w' ⟨x',O',U',dn',un',he,hd,hr,hy,hn⟩=>⟨he,EH.changed h2 h3 h4 h5 hd hr hy hn⟩
end
end Go.Proofs.YtoejbngihecafabGreatDoor
namespace Go.Proofs.YtoejbngihecafabGreatDoor
open Go.RowKit
theorem recA_len (enc:Int) (x:Vm.At):(Vm.recA enc x).length<=8:=by
 have:=typA_len enc x.1 x
 unfold Vm.typA at this
 unfold Vm.recA
 exact this
end Go.Proofs.YtoejbngihecafabGreatDoor
