import Derived.Test.YtoejbngihecafabGreatDoorB4
import Derived.Test.YtoejbngihecafabGreatDoorB24
import Derived.Test.YtoejbngihecafabGreatDoorB34
set_option maxRecDepth 100000
set_option maxHeartbeats 1000000
namespace Vm
def kL (v:Int):List Int:=[97+v / 16%26,97+v / 16%26,32,0,127,128+v / 16%64,192+v / 16%64,255]
def kM (v:Int):List Int:=[256+v / 16%1000,2047,2048,55295,57344,65533,65279,65535,65536,128512+v / 16%80,1114111,65534]
def kChar (latin:Bool) (v:Int):Int:=if latin=true\/v%20<8 then (kL v).getD (v%20%8).toNat 0 else (kM v).getD (v%20 - 8).toNat 0
theorem kL_cases (v:Int) (i:Nat) (h:i<8):0<=(kL v).getD i 0/\(kL v).getD i 0<=255/\(kL v).getD i 0≠10/\(kL v).getD i 0≠13:=by
 have:i=0\/i=1\/i=2\/i=3\/i=4\/i=5\/i=6\/i=7:=by omega
 rcases this with rfl|rfl|rfl|rfl|rfl|rfl|rfl|rfl<;>simp [kL]<;>omega
theorem kM_cases (v:Int) (i:Nat) (h:i<12):256<=(kM v).getD i 0/\(kM v).getD i 0<=1114111/\((kM v).getD i 0<=55295\/57344<=(kM v).getD i 0):=by
 have:i=0\/i=1\/i=2\/i=3\/i=4\/i=5\/i=6\/i=7\/i=8\/i=9\/i=10\/i=11:=by omega
 rcases this with rfl|rfl|rfl|rfl|rfl|rfl|rfl|rfl|rfl|rfl|rfl|rfl<;>simp [kM]<;>omega
theorem kChar_ok (latin:Bool) (v:Int):0<=kChar latin v/\kChar latin v<=1114111/\validB (kChar latin v)=true/\kChar latin v≠10/\kChar latin v≠13/\(latin=true->kChar latin v<=255):=by
 unfold kChar
 split
 ·have h:=kL_cases v (v%20%8).toNat (by omega)
  generalize (kL v).getD (v%20%8).toNat 0=c at *
  exact⟨h.1,by omega,(validB_iff c).2 (by omega),h.2.2.1,h.2.2.2,fun _=>h.2.1⟩
 ·rename_i q
  have h:=kM_cases v (v%20 - 8).toNat (by omega)
  generalize (kM v).getD (v%20 - 8).toNat 0=c at *
  exact⟨by omega,h.2.1,(validB_iff c).2 (by omega),by omega,by omega,fun e=>absurd (.inl e) q⟩
def ktA (latin:Bool):Bool->List Int->List At
 |_,[]=>[]
 |last,z :: zs=>if pick z 1099511627776%5=0/\last=false then (pick z 1099511627776 / 5%3,10,0) :: ktA latin true zs else (3,kChar latin (pick z 1099511627776 / 5),0) :: ktA latin false zs
theorem kt_nj (latin:Bool):∀(zs:List Int) (last:Bool),NJ (ktA latin last zs)/\(last=true->∀y s,ktA latin last zs=y :: s->y.1≠0)
 |[],_=>⟨trivial,fun _ y s h=>by cases h⟩
 |z :: zs,last=>by
  unfold ktA
  split
  ·rename_i q
   have ih:=kt_nj latin zs true
   exact⟨⟨fun _ y s h=>ih.2 rfl y s h,ih.1⟩,fun h=>by rw[q.2] at h;cases h⟩
  ·have ih:=kt_nj latin zs false
   refine⟨⟨fun (h:(3:Int)=2)=>absurd h (by decide),ih.1⟩,fun _ y s h=>?_⟩
   injection h with h1 _
   rw[<-h1]
   show (3:Int)≠0
   decide
theorem kt_says {enc:Int} {latin:Bool} (hl:enc=3->latin=true):∀(zs:List Int) (last:Bool),∀x∈ktA latin last zs,Says enc x
 |[],_,x,h=>by cases h
 |z :: zs,last,x,h=>by
  unfold ktA at h
  split at h
  ·rcases List.mem_cons.1 h with rfl|h
   ·have h3:pick z 1099511627776 / 5%3=0\/pick z 1099511627776 / 5%3=1\/pick z 1099511627776 / 5%3=2:=by omega
    refine⟨?_,fun _=>rfl,(show validB 10=true by decide),fun _=>(show (10:Int)<=255 by decide)⟩
    rcases h3 with q|q|q
    ·exact .inl q
    ·exact .inr (.inl q)
    ·exact .inr (.inr (.inl q))
   ·exact kt_says hl zs true x h
  ·rcases List.mem_cons.1 h with rfl|h
   ·have hc:=kChar_ok latin (pick z 1099511627776 / 5)
    exact⟨.inr (.inr (.inr ⟨rfl,hc.2.2.2.1,hc.2.2.2.2.1⟩)),fun (q:(3:Int)<=2)=>absurd q (by decide),hc.2.2.1,fun e=>hc.2.2.2.2.2 (hl e)⟩
   ·exact kt_says hl zs false x h
theorem kt_atoms (latin last:Bool) (zs:List Int):atoms 0 (nb (recL 0 (ktA latin last zs)))=(ktA latin last zs).map (toE 0) :=
 rec_atoms (by decide) (by decide) (kt_nj latin zs last).1 (kt_says (fun e=>by cases e) zs last)
theorem kt_plain (latin last:Bool) (zs:List Int):(atoms 0 (nb (recL 0 (ktA latin last zs)))).any (fun x=>x.1==4)=false:=by
 rw[kt_atoms,List.any_eq_false]
 intro x hx
 obtain⟨y,hy,rfl⟩:=List.mem_map.1 hx
 have h:=(kt_says (enc:=0) (latin:=latin) (fun e=>by cases e) zs last y hy).1
 show ¬(y.1==4)=true
 rcases h with q|q|q|q
 ·rw[q];decide
 ·rw[q];decide
 ·rw[q];decide
 ·rw[q.1];decide
theorem kt_small (last:Bool) (zs:List Int):(atoms 0 (nb (recL 0 (ktA true last zs)))).any (fun x=>decide (255<x.2.1))=false:=by
 rw[kt_atoms,List.any_eq_false]
 intro x hx
 obtain⟨y,hy,rfl⟩:=List.mem_map.1 hx
 have h:=(kt_says (enc:=3) (latin:=true) (fun _=>rfl) zs last y hy).2.2.2 rfl
 show ¬decide (255<y.2.1)=true
 simpa using h
theorem kt_len (latin:Bool):∀(zs:List Int) (last:Bool),(ktA latin last zs).length=zs.length
 |[],_=>rfl
 |z :: zs,last=>by
  unfold ktA
  split<;>simp [kt_len latin zs]
def ktLast (latin:Bool):Bool->List Int->Bool
 |last,[]=>last
 |last,z :: zs=>if pick z 1099511627776%5=0/\last=false then ktLast latin true zs else ktLast latin false zs
theorem kt_snoc (latin:Bool) (z:Int):∀(zs:List Int) (last:Bool),ktA latin last (zs++[z])=ktA latin last zs++(if pick z 1099511627776%5=0/\ktLast latin last zs=false then [(pick z 1099511627776 / 5%3,10,0)] else [(3,kChar latin (pick z 1099511627776 / 5),0)])
  /\ ktLast latin last (zs++[z])=decide (pick z 1099511627776%5=0/\ktLast latin last zs=false)
 |[],last=>by
  have hl:ktLast latin last []=last:=rfl
  rw[hl,List.nil_append]
  by_cases q:pick z 1099511627776%5=0/\last=false
  ·rw[if_pos q,decide_eq_true q]
   exact⟨by show (if _ then _ else _)=_;rw[if_pos q];rfl,by show (if _ then _ else _)=_;rw[if_pos q];rfl⟩
  ·rw[if_neg q,decide_eq_false q]
   exact⟨by show (if _ then _ else _)=_;rw[if_neg q];rfl,by show (if _ then _ else _)=_;rw[if_neg q];rfl⟩
 |y :: zs,last=>by
  by_cases q:pick y 1099511627776%5=0/\last=false
  ·have ih:=kt_snoc latin z zs true
   have e1:ktLast latin last (y :: zs)=ktLast latin true zs:=by rw[ktLast,if_pos q]
   rw[e1,List.cons_append,ktA,if_pos q,ktLast,if_pos q,ih.2,ih.1,ktA,if_pos q]
   exact⟨rfl,rfl⟩
  ·have ih:=kt_snoc latin z zs false
   have e1:ktLast latin last (y :: zs)=ktLast latin false zs:=by rw[ktLast,if_neg q]
   rw[e1,List.cons_append,ktA,if_neg q,ktLast,if_neg q,ih.2,ih.1,ktA,if_neg q]
   exact⟨rfl,rfl⟩
end Vm
namespace Go.Proofs.YtoejbngihecafabGreatDoor
open Go.RowKit
theorem i64_and255 (x:Int) (h₀:0<=x) (h₁:x<=2097151):bits .and .i64 x 255=x%256:=bits_mask .i64 62 (by decide) wraps_i64x 8 (by decide) x h₀ (by omega)
theorem i64_and1023 (x:Int) (h₀:0<=x) (h₁:x<=2097151):bits .and .i64 x 1023=x%1024:=bits_mask .i64 62 (by decide) wraps_i64x 10 (by decide) x h₀ (by omega)
theorem ktwo_any (u enc:Int) (w:World) (h0:0<=u) (h1:u<=65535) (e0:1<=enc) (e2:enc<=2) :
  Calls Tryz.prog 39 #[.int .i64 u,.int .i64 enc] w fun e w'=>e=.returned (.string (strOfNums (Vm.unitL enc u)))/\Below w.heap.size w w':=by
 have k2:=conv2
 have hA:=i64_and255 u h0 (by omega)
 have hc:enc=1\/enc=2:=by omega
 rcases hc with rfl|rfl
 ·go_enter Tryz.func39,Tryz.ntmps39
  go_wp2
  go_ret
  refine⟨nums_eq ?_,(Below.refl _ _).alloc (Nat.le_refl _) _⟩
  unfold Vm.unitL
  rw[if_pos rfl]
 ·go_enter Tryz.func39,Tryz.ntmps39
  go_wp2
  go_ret
  refine⟨nums_eq ?_,(Below.refl _ _).alloc (Nat.le_refl _) _⟩
  unfold Vm.unitL
  rw[if_neg (by decide)]
theorem kcoded_any (n enc:Int) (w:World) (h0:0<=n) (h1:n<=1114111) (e0:0<=enc) (e3:enc<=3) :
  Calls Tryz.prog 16 #[.int .i64 n,.int .i64 enc] w fun e w'=>e=.returned (.string (strOfNums (Vm.wrL enc n)))/\Below w.heap.size w w':=by
 have k1:=conv1
 have hc:enc=0\/enc=3\/(enc=1\/enc=2):=by omega
 rcases hc with rfl|rfl|hc
 ·have U:=Z2 (kutf_any n w h0 (by omega))
  go_enter Tryz.func16,Tryz.ntmps16
  go_wp2_with fail
  refine U.out.mono ?_
  rintro e w1 ⟨rfl,hb1⟩
  go_wp2_with fail
  go_ret
  exact⟨ret_str (by unfold Vm.wrL;rw[if_pos rfl]),hb1⟩
 ·go_enter Tryz.func16,Tryz.ntmps16
  go_wp2
  go_ret
  exact⟨ret_str (by unfold Vm.wrL;rw[if_neg (by decide),if_pos rfl]),(Below.refl _ _).alloc (Nat.le_refl _) _⟩
 ·have n0:(enc==0)=false:=by simp;omega
  have n3:(enc==3)=false:=by simp;omega
  have hw:Vm.wrL enc n=if 65535<n then Vm.unitL enc (55296+(n - 65536) / 1024)++Vm.unitL enc (56320+(n - 65536)%1024) else Vm.unitL enc n:=by unfold Vm.wrL;rw[if_neg (by omega),if_neg (by omega)]
  by_cases hg:65536<=n
  ·have hA:=i64_and1023 (n - 65536) (by omega) (by omega)
   have hwr:IntKind.i64.wrap (n - 65536)=n - 65536:=by rw[IntKind.wrap_i64];omega
   have hO1:=i64_or 10 55296 ((n - 65536) / 1024) (by decide) (by decide) (by decide) (by omega) (by omega) (by omega)
   have hO2:=i64_or 10 56320 ((n - 65536)%1024) (by decide) (by decide) (by decide) (by omega) (by omega) (by omega)
   have T1:=Z2 (fun W=>ktwo_any (55296+(n - 65536) / 1024) enc W (by omega) (by omega) (by omega) (by omega))
   have T2:=Z2 (fun W=>ktwo_any (56320+(n - 65536)%1024) enc W (by omega) (by omega) (by omega) (by omega))
   rw[hw,if_pos (by omega),strOf_append]
   have hz1:(strOfNums (Vm.unitL enc (55296+(n - 65536) / 1024))).size=2:=by simp [strOfNums,ByteArray.size,Vm.unitL_len]
   have hz2:(strOfNums (Vm.unitL enc (56320+(n - 65536)%1024))).size=2:=by simp [strOfNums,ByteArray.size,Vm.unitL_len]
   go_enter Tryz.func16,Tryz.ntmps16
   go_wp2_with fail
   refine (T1.out _).mono ?_
   rintro e w1 ⟨rfl,hb1⟩
   go_wp2_with fail
   refine (T2.out _).mono ?_
   rintro e w2 ⟨rfl,hb2⟩
   go_wp2_with fail
   go_ret
   exact⟨rfl,hb1.trans (hb2.mono hb1.size)⟩
  ·have T1:=Z2 (ktwo_any n enc w h0 (by omega) (by omega) (by omega))
   rw[hw,if_neg (by omega)]
   go_enter Tryz.func16,Tryz.ntmps16
   go_wp2_with fail
   refine T1.out.mono ?_
   rintro e w1 ⟨rfl,hb1⟩
   go_wp2_with fail
   go_ret
   exact⟨rfl,hb1⟩
def kL' (v:Int):Array Value:=#[.int .i64 (97+v / 16%26),.int .i64 (97+v / 16%26),.int .i64 32,.int .i64 0,.int .i64 127,.int .i64 (128+v / 16%64),.int .i64 (192+v / 16%64),.int .i64 255]
def kM' (v:Int):Array Value:=#[.int .i64 (256+v / 16%1000),.int .i64 2047,.int .i64 2048,.int .i64 55295,.int .i64 57344,.int .i64 65533,.int .i64 65279,.int .i64 65535,.int .i64 65536,.int .i64 (128512+v / 16%80),.int .i64 1114111,.int .i64 65534]
theorem kcharacter_any (c:Int) (latin:Bool) (w:World) (h0:0<=c) (h1:c<1099511627776) :
  Calls Tryz.prog 17 #[.int .i64 c,.bool latin] w fun e w'=>e=.returned (.int .i64 (Vm.kChar latin c))/\Below w.heap.size w w':=by
 have hp:Vm.pick c 1099511627776=c:=by unfold Vm.pick;rw[if_neg (by omega)];omega
 have K:=Z2 (kpick_any c 1099511627776 w (by omega) (by omega) (by decide) (by decide))
 rw[hp] at K
 have hd:=emod_tmod c 20 h0
 obtain⟨V,hV⟩:∃V,V=Vm.kChar latin c:=⟨_,rfl⟩
 rw[<-hV]
 unfold Vm.kChar at hV
 have HV:=Z2 hV
 clear hV
 go_enter Tryz.func17,Tryz.ntmps17
 go_wp2_with fail
 refine K.out.mono ?_
 rintro e w1 ⟨rfl,rfl⟩
 go_upto_region 4 with fail
 have hl:∀i,i<8->((w1.alloc (.cells (kL' c) 3)).alloc (.cells (kM' c) 3)).cell? ⟨w1.heap.size,i,none⟩=some (.int .i64 ((Vm.kL c).getD i 0)):=fun i hi=>by
  have e:((w1.alloc (.cells (kL' c) 3)).alloc (.cells (kM' c) 3)).heap[w1.heap.size]?=some (.cells (kL' c) 3):=by
   rw[Below.heap_alloc _ _ _ (by rw[World.size_alloc];omega)];exact Go.Deep.blk_alloc_new _ _
  rw[Lib.cell_of_heap e]
  unfold kL' Vm.kL
  have:i=0\/i=1\/i=2\/i=3\/i=4\/i=5\/i=6\/i=7:=by omega
  rcases this with rfl|rfl|rfl|rfl|rfl|rfl|rfl|rfl<;>rfl
 have hm:∀i,i<12->((w1.alloc (.cells (kL' c) 3)).alloc (.cells (kM' c) 3)).cell? ⟨w1.heap.size+1,i,none⟩=some (.int .i64 ((Vm.kM c).getD i 0)):=fun i hi=>by
  have e:((w1.alloc (.cells (kL' c) 3)).alloc (.cells (kM' c) 3)).heap[w1.heap.size+1]?=some (.cells (kM' c) 3):=by
   rw[<-World.size_alloc w1 (.cells (kL' c) 3)];exact Go.Deep.blk_alloc_new _ _
  rw[Lib.cell_of_heap e]
  unfold kM' Vm.kM
  have:i=0\/i=1\/i=2\/i=3\/i=4\/i=5\/i=6\/i=7\/i=8\/i=9\/i=10\/i=11:=by omega
  rcases this with rfl|rfl|rfl|rfl|rfl|rfl|rfl|rfl|rfl|rfl|rfl|rfl<;>rfl
 have hb:Below w1.heap.size w1 ((w1.alloc (.cells (kL' c) 3)).alloc (.cells (kM' c) 3)):=((Below.refl _ _).alloc (Nat.le_refl _) _).alloc (by rw[World.size_alloc];omega) _
 unfold kL' kM' at hl hm hb
 generalize (w1.alloc _).alloc _=W at *
 have HB:=Z2 hb
 clear hb
 generalize w1.heap.size=C at hl hm ⊢
 have q1:=hl (c%20%8).toNat (by omega)
 have z1:=Z3 q1
 by_cases h8:c%20<8
 ·have HE:=Z2 (show V=(Vm.kL c).getD (c%20%8).toNat 0 by rw[HV.out,if_pos (.inr h8)])
  generalize (Vm.kL c).getD (c%20%8).toNat 0=x at *
  clear hl hm HV
  cases latin
  all_goals
   go_wp2_with fail
   go_ret
   exact⟨by rw[HE.out];rfl,HB.out⟩
 ·cases latin with
  |true =>
   have HE:=Z2 (show V=(Vm.kL c).getD (c%20%8).toNat 0 by rw[HV.out,if_pos (.inl rfl)])
   generalize (Vm.kL c).getD (c%20%8).toNat 0=x at *
   clear hl hm HV
   go_wp2_with fail
   go_ret
   exact⟨by rw[HE.out];rfl,HB.out⟩
  |false =>
   have q2:=hm (c%20 - 8).toNat (by omega)
   have z2:=Z3 q2
   have HE:=Z2 (show V=(Vm.kM c).getD (c%20 - 8).toNat 0 by rw[HV.out,if_neg (by intro q;rcases q with q|q;cases q;omega)])
   generalize (Vm.kM c).getD (c%20 - 8).toNat 0=x at *
   have hwr:IntKind.i64.wrap (c%20 - 8)=c%20 - 8:=by rw[IntKind.wrap_i64];omega
   clear hl hm HV q1 z1
   go_wp2_with fail
   go_ret
   exact⟨by rw[HE.out];rfl,HB.out⟩
end Go.Proofs.YtoejbngihecafabGreatDoor
namespace Go.Proofs.YtoejbngihecafabGreatDoor
open Go.RowKit
theorem wr_len4 (enc n:Int):(Vm.wrL enc n).length<=4:=by
 unfold Vm.wrL
 split
 ·unfold Vm.utfL;repeat' split
  all_goals simp
 ·split
  ·simp
  ·split
   ·rw[List.length_append,Vm.unitL_len,Vm.unitL_len];omega
   ·rw[Vm.unitL_len];omega
theorem kt_step {latin:Bool} {zs:List Int} {j:Nat} {z:Int} (h:zs[j]?=some z):Vm.ktA latin false (zs.take (j+1))=Vm.ktA latin false (zs.take j)++(if Vm.pick z 1099511627776%5=0/\Vm.ktLast latin false (zs.take j)=false then [(Vm.pick z 1099511627776 / 5%3,10,0)] else [(3,Vm.kChar latin (Vm.pick z 1099511627776 / 5),0)])
  /\ Vm.ktLast latin false (zs.take (j+1))=decide (Vm.pick z 1099511627776%5=0/\Vm.ktLast latin false (zs.take j)=false):=by
 rw[List.take_add_one,h]
 exact Vm.kt_snoc latin z (zs.take j) false
theorem recL_app (enc:Int) (A B:List Vm.At):Vm.recL enc (A++B)=Vm.recL enc A++Vm.recL enc B:=by simp [Vm.recL]
theorem typL_app (enc k:Int) (A B:List Vm.At):Vm.typL enc k (A++B)=Vm.typL enc k A++Vm.typL enc k B:=by simp [Vm.typL]
theorem str_size (l:List Int):(strOfNums l).size=l.length:=by simp [strOfNums,ByteArray.size]
theorem end_len8 (enc k:Int):(Vm.endL enc k).length<=8:=by
 have l1:=wr_len4 enc 10
 have l2:=wr_len4 enc 13
 unfold Vm.endL
 split
 ·omega
 ·split
  ·omega
  ·rw[List.length_append];omega
theorem rec_len8 (enc:Int):∀(A:List Vm.At),(Vm.recL enc A).length<=8 * A.length
 |[]=>by simp [Vm.recL]
 |x :: A=>by
  have ih:=rec_len8 enc A
  have e:Vm.recL enc (x :: A)=Vm.recA enc x++Vm.recL enc A:=rfl
  have h1:=wr_len4 enc x.2.1
  have h2:=end_len8 enc x.1
  have h3:(Vm.recA enc x).length<=8:=by unfold Vm.recA;split<;>omega
  rw[e,List.length_append,List.length_cons];omega
theorem typ_len8 (enc k:Int):∀(A:List Vm.At),(Vm.typL enc k A).length<=8 * A.length
 |[]=>by simp [Vm.typL]
 |x :: A=>by
  have ih:=typ_len8 enc k A
  have e:Vm.typL enc k (x :: A)=Vm.typA enc k x++Vm.typL enc k A:=rfl
  have h1:=wr_len4 enc x.2.1
  have h2:=end_len8 enc k
  have h3:(Vm.typA enc k x).length<=8:=by unfold Vm.typA;split<;>omega
  rw[e,List.length_append,List.length_cons];omega
theorem ktyped_free (v:Value) (zs:List Int) (enc k:Int) (w:World) (hv:IntsAt w v zs) (e0:0<=enc) (e3:enc<=3) (k0:0<=k) (k2:k<=2) (hz:∀i,-9223372036854775808<=zs.getD i 0/\zs.getD i 0<=9223372036854775807) :
  Calls Tryz.prog 5 #[v,.int .i64 enc,.int .i64 k] w fun e w'=>e=.returned (.tuple #[.string (strOfNums (Vm.recL 0 (Vm.ktA (decide (enc=3)) false (zs.take 60)))),.string (strOfNums (Vm.typL enc k (Vm.ktA (decide (enc=3)) false (zs.take 60))))])/\Below w.heap.size w w':=by
 obtain⟨p,cap,rfl⟩:=hv.val
 have C1:=Z2 (fun W=>kcoded_any 10 enc W (by decide) (by decide) e0 e3)
 have C2:=Z2 (fun W=>kcoded_any 13 enc W (by decide) (by decide) e0 e3)
 have HV:=Z2 hv
 have l1:=wr_len4 enc 10
 have l2:=wr_len4 enc 13
 have s1:=str_size (Vm.wrL enc 10)
 have s2:=str_size (Vm.wrL enc 13)
 clear hv
 go_enter Tryz.func5,Tryz.ntmps5
 go_wp2_with fail
 refine (C1.out _).mono ?_
 rintro e w1 ⟨rfl,hb1⟩
 go_wp2_with fail
 refine (C2.out _).mono ?_
 rintro e w2 ⟨rfl,hb2⟩
 go_wp2_with fail
 refine (C1.out _).mono ?_
 rintro e w3 ⟨rfl,hb3⟩
 go_wp2_with fail
 refine (C2.out _).mono ?_
 rintro e w4 ⟨rfl,hb4⟩
 go_wp2_with fail
 have hb14:=((hb1.trans (hb2.mono hb1.size)).trans (hb3.mono (Nat.le_trans hb1.size hb2.size))).trans (hb4.mono (Nat.le_trans hb1.size (Nat.le_trans hb2.size hb3.size)))
 have hE0:=Go.Deep.blk_alloc_new w (.cells #[.string ⟨#[10]⟩,.string ⟨#[13,10]⟩,.string ⟨#[13]⟩] 9)
 have hz4:=hb14.size
 rw[World.size_alloc] at hz4
 have hE4:=(hb14.block w.heap.size (by rw[World.size_alloc];omega)).trans hE0
 have hbw:Below w.heap.size w w4:=((Below.refl _ _).alloc (Nat.le_refl _) _).trans (hb14.mono (by rw[World.size_alloc];omega))
 have hbW:=hbw.alloc (by omega) (.cells #[.string (strOfNums (Vm.wrL enc 10)),.string (strOfNums (Vm.wrL enc 13)++strOfNums (Vm.wrL enc 10)),.string (strOfNums (Vm.wrL enc 13))] 9)
 have hCW:=Go.Deep.blk_alloc_new w4 (.cells #[.string (strOfNums (Vm.wrL enc 10)),.string (strOfNums (Vm.wrL enc 13)++strOfNums (Vm.wrL enc 10)),.string (strOfNums (Vm.wrL enc 13))] 9)
 have hEW:=(Below.heap_alloc w4 (.cells #[.string (strOfNums (Vm.wrL enc 10)),.string (strOfNums (Vm.wrL enc 13)++strOfNums (Vm.wrL enc 10)),.string (strOfNums (Vm.wrL enc 13))] 9) w.heap.size (by omega)).trans hE4
 have HBW:=Z2 hbW
 clear hb1 hb2 hb3 hb4 hb14 hE0 hE4 hbw hbW hz4 C1 C2
 generalize w4.alloc _=W at *
 generalize w4.heap.size=C at *
 obtain⟨E,hEe⟩:∃E,E=w.heap.size:=⟨_,rfl⟩
 rw[<-hEe] at hEW ⊢
 clear hEe
 have ends_at:∀e:Int,0<=e->e<=2->W.cell? ⟨E,e.toNat,none⟩=some (.string (strOfNums (Vm.endL 0 e))):=fun e h0 h2=>by
  rw[Lib.cell_of_heap hEW]
  have:e=0\/e=1\/e=2:=by omega
  rcases this with rfl|rfl|rfl<;>rfl
 have codes_at:W.cell? ⟨C,k.toNat,none⟩=some (.string (strOfNums (Vm.endL enc k))):=by
  rw[Lib.cell_of_heap hCW]
  unfold Vm.endL
  have:k=0\/k=1\/k=2:=by omega
  rcases this with rfl|rfl|rfl
  ·rfl
  ·rw[if_neg (by decide),if_neg (by decide),strOf_append];rfl
  ·rw[if_neg (by decide),if_pos rfl];rfl
 have hln:=end_len8 enc k
 have HEN:=Z2 ends_at
 have HCO:=Z2 codes_at
 clear hEW hCW ends_at codes_at s1 s2
 generalize hla:decide (enc=3)=la at *
 have HLA:=Z2 hla
 clear hla
 have hlb:∀j,(Vm.recL 0 (Vm.ktA la false (zs.take j))).length<=8 * j:=fun j=>by
  have h1:=Vm.kt_len la (zs.take j) false
  have h2:=rec_len8 0 (Vm.ktA la false (zs.take j))
  rw[h1,List.length_take] at h2
  omega
 have hlc:∀j,(Vm.typL enc k (Vm.ktA la false (zs.take j))).length<=8 * j:=fun j=>by
  have h1:=Vm.kt_len la (zs.take j) false
  have h2:=typ_len8 enc k (Vm.ktA la false (zs.take j))
  rw[h1,List.length_take] at h2
  omega
 go_loopw [10,11,12,13] (fun s t last i wx=>∃j:Nat,j<=zs.length/\j<=60/\s=.string (strOfNums (Vm.recL 0 (Vm.ktA la false (zs.take j))))/\t=.string (strOfNums (Vm.typL enc k (Vm.ktA la false (zs.take j))))/\last=.bool (Vm.ktLast la false (zs.take j))/\i=.int .i64 j/\Below W.heap.size W wx) (fun _ _ _ i _=>zs.length - (intOf i).toNat)
 case atStart=>exact⟨0,Nat.zero_le _,by omega,rfl,rfl,rfl,rfl,Below.refl _ _⟩
 case round =>
  obtain⟨j,hj,hj60,rfl,rfl,rfl,rfl,hbx⟩:=hrel
  have HBX:=Z2 hbx
  by_cases hlt:j<zs.length/\j<60
  ·obtain⟨hlt,hlt6⟩:=hlt
   have hltI:(j:Int)<(zs.length:Int):=by omega
   have hltJ:(j:Int)<60:=by omega
   obtain⟨a,rfl,hca⟩:=((HV.out.low HBW.out).low hbx).at_ j hlt
   have hzr:=hz j
   have hget:zs[j]?=some (zs.getD j 0):=by simp [List.getD,List.getElem?_eq_getElem hlt]
   generalize zs.getD j 0=z at *
   have hst:=kt_step (latin:=la) hget
   have hpk:=Vm.pick_bd z 1099511627776 (by decide)
   have K:=Z2 (kpick_any z 1099511627776 wr hzr.1 hzr.2 (by decide) (by decide))
   generalize Vm.pick z 1099511627776=v at *
   have hz1:=cell_lt hca
   have z1:=str_size (Vm.recL 0 (Vm.ktA la false (zs.take j)))
   have z2:=str_size (Vm.typL enc k (Vm.ktA la false (zs.take j)))
   have z3:=hlb j
   have z4:=hlc j
   have HST:=Z2 hst
   clear hst hget hzr hlb hlc
   generalize hsj:strOfNums (Vm.recL 0 (Vm.ktA la false (zs.take j)))=sj at *
   generalize htj:strOfNums (Vm.typL enc k (Vm.ktA la false (zs.take j)))=tj at *
   generalize hlj:Vm.ktLast la false (zs.take j)=lj at *
   have HSJ:=Z2 hsj
   have HTJ:=Z2 htj
   have HLJ:=Z2 hlj
   clear hsj htj hlj
   go_wp2_with fail
   refine K.out.mono ?_
   rintro e w5 ⟨rfl,rfl⟩
   by_cases hend:v%5=0/\lj=false
   ·have qE:=(hbx.cell (p:=⟨E,(v / 5%3).toNat,none⟩) (Z3 (HEN.out (v / 5%3) (by omega) (by omega)))).trans (HEN.out (v / 5%3) (by omega) (by omega))
    have qC:=(hbx.cell (p:=⟨C,k.toNat,none⟩) (Z3 HCO.out)).trans HCO.out
    have HR1:=Z2 (show strOfNums (Vm.recL 0 (Vm.ktA la false (zs.take (j+1))))=sj++strOfNums (Vm.endL 0 (v / 5%3)) by
     rw[HST.out.1,if_pos hend,recL_app,strOf_append,HSJ.out]
     congr 2
     simp [Vm.recL,Vm.recA]
     omega)
    have HR2:=Z2 (show strOfNums (Vm.typL enc k (Vm.ktA la false (zs.take (j+1))))=tj++strOfNums (Vm.endL enc k) by
     rw[HST.out.1,if_pos hend,typL_app,strOf_append,HTJ.out]
     congr 2
     simp [Vm.typL,Vm.typA]
     omega)
    have HR3:=Z2 (show Vm.ktLast la false (zs.take (j+1))=true by rw[HST.out.2,decide_eq_true hend])
    have y1:=end_len8 0 (v / 5%3)
    have y2:=str_size (Vm.endL 0 (v / 5%3))
    have y3:=str_size (Vm.endL enc k)
    obtain⟨hv5,hlf⟩:=hend
    subst hlf
    have hze:=Z3 qE
    have hzc:=Z3 qC
    generalize strOfNums (Vm.endL 0 (v / 5%3))=u1 at *
    generalize strOfNums (Vm.endL enc k)=u2 at *
    clear HST K HEN
    go_wp2_with fail
    refine⟨⟨j+1,by omega,by omega,?_,?_,?_,by go_num,HBX.out⟩,by simp [intOf];omega⟩
    ·rw[HR1.out]
    ·rw[HR2.out]
    ·rw[HR3.out]
   ·have hcv:0<=v / 5/\v / 5<1099511627776:=by omega
    have K1:=Z2 (kcharacter_any (v / 5) la w5 hcv.1 hcv.2)
    have hck:=Vm.kChar_ok la (v / 5)
    have HR1:=Z2 (show strOfNums (Vm.recL 0 (Vm.ktA la false (zs.take (j+1))))=sj++strOfNums (Vm.utfL (Vm.kChar la (v / 5))) by
     rw[HST.out.1,if_neg hend,recL_app,strOf_append,HSJ.out]
     congr 2
     simp [Vm.recL,Vm.recA,Vm.wrL])
    have HR2:=Z2 (show strOfNums (Vm.typL enc k (Vm.ktA la false (zs.take (j+1))))=tj++strOfNums (Vm.wrL enc (Vm.kChar la (v / 5))) by
     rw[HST.out.1,if_neg hend,typL_app,strOf_append,HTJ.out]
     congr 2
     simp [Vm.typL,Vm.typA])
    have HR3:=Z2 (show Vm.ktLast la false (zs.take (j+1))=false by rw[HST.out.2,decide_eq_false hend])
    generalize Vm.kChar la (v / 5)=ch at *
    have K2:=Z2 (fun W=>kutf_any ch W hck.1 (by omega))
    have K3:=Z2 (fun W=>kcoded_any ch enc W hck.1 hck.2.1 e0 e3)
    have y0:=wr_len4 0 ch
    have y1:=wr_len4 enc ch
    have y2:=str_size (Vm.utfL ch)
    have y3:=str_size (Vm.wrL enc ch)
    have y4:Vm.wrL 0 ch=Vm.utfL ch:=by unfold Vm.wrL;rw[if_pos rfl]
    rw[y4] at y0
    generalize strOfNums (Vm.utfL ch)=u1 at *
    generalize strOfNums (Vm.wrL enc ch)=u2 at *
    have hbe:(enc==3)=la:=HLA.out
    have HNE:=Z2 hend
    clear HST K HEN HCO hend y4
    by_cases hv5:v%5=0
    ·have hlt':lj=true:=by
      cases lj
      ·exact absurd ⟨hv5,rfl⟩ HNE.out
      ·rfl
     subst hlt'
     go_wp2_with fail
     refine K1.out.mono ?_
     rintro e w6 ⟨rfl,hb6⟩
     go_wp2_with fail
     refine (K2.out _).mono ?_
     rintro e w7 ⟨rfl,hb7⟩
     go_wp2_with fail
     refine (K3.out _).mono ?_
     rintro e w8 ⟨rfl,hb8⟩
     have HB8:=Z2 (HBX.out.trans (((hb6.trans (hb7.mono hb6.size)).trans (hb8.mono (Nat.le_trans hb6.size hb7.size))).mono HBX.out.size))
     clear hb6 hb7 hb8
     go_wp2_with fail
     refine⟨⟨j+1,by omega,by omega,?_,?_,?_,by go_num,HB8.out⟩,by simp [intOf];omega⟩
     ·rw[HR1.out]
     ·rw[HR2.out]
     ·rw[HR3.out]
    ·go_wp2_with fail
     refine K1.out.mono ?_
     rintro e w6 ⟨rfl,hb6⟩
     go_wp2_with fail
     refine (K2.out _).mono ?_
     rintro e w7 ⟨rfl,hb7⟩
     go_wp2_with fail
     refine (K3.out _).mono ?_
     rintro e w8 ⟨rfl,hb8⟩
     have HB8:=Z2 (HBX.out.trans (((hb6.trans (hb7.mono hb6.size)).trans (hb8.mono (Nat.le_trans hb6.size hb7.size))).mono HBX.out.size))
     clear hb6 hb7 hb8
     go_wp2_with fail
     refine⟨⟨j+1,by omega,by omega,?_,?_,?_,by go_num,HB8.out⟩,by simp [intOf];omega⟩
     ·rw[HR1.out]
     ·rw[HR2.out]
     ·rw[HR3.out]
  ·have hd:zs.take j=zs.take 60:=by
    by_cases h6:j=60
    ·rw[h6]
    ·have:j=zs.length:=by omega
     rw[this,List.take_length,List.take_of_length_le (by omega)]
   rw[hd]
   have HF:=Z2 (HBW.out.trans (hbx.mono HBW.out.size))
   have hn:¬((j:Int)<(zs.length:Int)/\(j:Int)<60):=by omega
   have z1:=str_size (Vm.recL 0 (Vm.ktA la false (zs.take 60)))
   clear hd hlb hlc HEN HCO
   by_cases hjl:(j:Int)<(zs.length:Int)
   ·have h60:¬(j:Int)<60:=fun q=>hn ⟨hjl,q⟩
    clear hn hlt
    go_wp2_with fail
    go_ret2
    exact⟨by rw[HLA.out];rfl,HF.out⟩
   ·clear hn hlt
    go_wp2_with fail
    go_ret2
    exact⟨by rw[HLA.out];rfl,HF.out⟩
end Go.Proofs.YtoejbngihecafabGreatDoor
namespace Vm
theorem typL_toE (enc k:Int) (A:List At):typL enc k (A.map (toE 0))=typL enc k A:=by
 unfold typL
 rw[List.flatMap_map]
 rfl
end Vm
namespace Go.Proofs.YtoejbngihecafabGreatDoor
open Go.RowKit
def wholeB (b:ByteArray) (enc:Int):ByteArray:=if (enc=1\/enc=2)/\b.size%2=1 then b.extract 0 (b.size - 1) else b
theorem kmark_any (enc:Int) (w:World) (e0:0<=enc) (e3:enc<=3) :
  Calls Tryz.prog 15 #[.int .i64 enc] w fun e w'=>e=.returned (.string (markB enc))/\w'=w:=by
 have hc:enc=0\/enc=1\/enc=2\/enc=3:=by omega
 rcases hc with rfl|rfl|rfl|rfl
 all_goals
  go_enter Tryz.func15,Tryz.ntmps15
  go_wp2
  go_ret
  exact⟨rfl,rfl⟩
end Go.Proofs.YtoejbngihecafabGreatDoor
