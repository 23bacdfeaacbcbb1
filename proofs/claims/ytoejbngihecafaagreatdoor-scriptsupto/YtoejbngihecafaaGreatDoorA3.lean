import Derived.Test.YtoejbngihecafaaGreatDoorProg
import Derived.WalkKit
import Derived.WalkSpells
import Derived.WalkLawsBesides
import Derived.Deep.QuietTactic
import Derived.BigQuiet
import Derived.Deep.RegionHeld3
import Derived.Laws.BytesArg
import Derived.Test.YtoejbngihecafaaGreatDoorA2
import Derived.Test.YtoejbngihecafaaGreatDoorA1
set_option maxRecDepth 100000
set_option maxHeartbeats 4000000
namespace Go.Proofs.YtoejbngihecafaaGreatDoor
open Go.RowKit
theorem rcont_any (s:ByteArray) (i:Int) (w:World) (h0:0<=i) :
  Calls Tryz.prog 176 #[.string s,.int .i64 i] w fun e w'=>e=.returned (.bool (decide (i<s.size)&&(decide (128<=Vm.b0 s.data.toList i.toNat)&&decide (Vm.b0 s.data.toList i.toNat<192))))/\w'=w:=by
 obtain⟨k,rfl⟩:=Int.eq_ofNat_of_zero_le h0
 by_cases h:k<s.size
 ·have hI:(k:Int)<(s.size:Int):=by omega
  rw[Int.toNat_natCast,Vm.b0_byte s k h]
  by_cases h1:128<=(s[k].toNat:Int)
  ·by_cases h2:(s[k].toNat:Int)<192
   ·go_enter Tryz.func176,Tryz.ntmps176
    go_wp2
    go_ret
    exact⟨ret_bool (by simp;omega),rfl⟩
   ·go_enter Tryz.func176,Tryz.ntmps176
    go_wp2
    go_ret
    exact⟨ret_bool (by simp;omega),rfl⟩
  ·go_enter Tryz.func176,Tryz.ntmps176
   go_wp2
   go_ret
   exact⟨ret_bool (by simp;omega),rfl⟩
 ·have hI:¬(k:Int)<(s.size:Int):=by omega
  go_enter Tryz.func176,Tryz.ntmps176
  go_wp2
  go_ret
  exact⟨ret_bool (by simp),rfl⟩
theorem conv1 (w:World) (a:Int):(convert 92 9 (.slice (some ⟨w.heap.size,0,none⟩) 1 1)).run Tryz.prog (w.alloc (.cells #[.int .u8 a] 5))=.ok (.string (strOfNums [a])) (w.alloc (.cells #[.int .u8 a] 5)) :=
 run_convert_bytes_arg _ 92 5 Tryz.underlying92 Tryz.underlying5 w.heap.size 0 1 1 [a] rfl (fun i hi=>by
  have:i=0:=by omega
  subst this;simp) 9 Tryz.underlying9
theorem conv2 (w:World) (a b:Int):(convert 92 9 (.slice (some ⟨w.heap.size,0,none⟩) 2 2)).run Tryz.prog (w.alloc (.cells #[.int .u8 a,.int .u8 b] 5))=.ok (.string (strOfNums [a,b])) (w.alloc (.cells #[.int .u8 a,.int .u8 b] 5)) :=
 run_convert_bytes_arg _ 92 5 Tryz.underlying92 Tryz.underlying5 w.heap.size 0 2 2 [a,b] rfl (fun i hi=>by
  have:i=0\/i=1:=by omega
  rcases this with rfl|rfl<;>simp) 9 Tryz.underlying9
theorem conv3 (w:World) (a b c:Int):(convert 92 9 (.slice (some ⟨w.heap.size,0,none⟩) 3 3)).run Tryz.prog (w.alloc (.cells #[.int .u8 a,.int .u8 b,.int .u8 c] 5))=.ok (.string (strOfNums [a,b,c])) (w.alloc (.cells #[.int .u8 a,.int .u8 b,.int .u8 c] 5)) :=
 run_convert_bytes_arg _ 92 5 Tryz.underlying92 Tryz.underlying5 w.heap.size 0 3 3 [a,b,c] rfl (fun i hi=>by
  have:i=0\/i=1\/i=2:=by omega
  rcases this with rfl|rfl|rfl<;>simp) 9 Tryz.underlying9
theorem conv4 (w:World) (a b c d:Int):(convert 92 9 (.slice (some ⟨w.heap.size,0,none⟩) 4 4)).run Tryz.prog (w.alloc (.cells #[.int .u8 a,.int .u8 b,.int .u8 c,.int .u8 d] 5))=.ok (.string (strOfNums [a,b,c,d])) (w.alloc (.cells #[.int .u8 a,.int .u8 b,.int .u8 c,.int .u8 d] 5)) :=
 run_convert_bytes_arg _ 92 5 Tryz.underlying92 Tryz.underlying5 w.heap.size 0 4 4 [a,b,c,d] rfl (fun i hi=>by
  have:i=0\/i=1\/i=2\/i=3:=by omega
  rcases this with rfl|rfl|rfl|rfl<;>simp) 9 Tryz.underlying9
theorem ret_str {a b:ByteArray} (h:a=b):Ending.returned (.string a)=.returned (.string b):=by rw[h]
theorem rutf_any (n:Int) (w:World) (h0:0<=n) (hx:n<=2097151) :
  Calls Tryz.prog 113 #[.int .i64 n] w fun e w'=>e=.returned (.string (strOfNums (Vm.utfL n)))/\Below w.heap.size w w':=by
 have k1:=conv1
 have k2:=conv2
 have k3:=conv3
 have k4:=conv4
 by_cases h1:n<128
 ·go_enter Tryz.func113,Tryz.ntmps113
  go_wp2
  go_ret
  exact⟨ret_str (by unfold Vm.utfL;rw[if_pos h1]),(Below.refl _ _).alloc (Nat.le_refl _) _⟩
 ·by_cases h2:n<2048
  ·have e:Vm.utfL n=[192+n / 64,128+n%64]:=by unfold Vm.utfL;rw[if_neg h1,if_pos h2]
   rw[e];clear e
   go_enter Tryz.func113,Tryz.ntmps113
   go_wp2
   go_ret
   exact⟨rfl,(Below.refl _ _).alloc (Nat.le_refl _) _⟩
  ·by_cases h3:n<65536
   ·have e:Vm.utfL n=[224+n / 4096,128+n / 64%64,128+n%64]:=by unfold Vm.utfL;rw[if_neg h1,if_neg h2,if_pos h3]
    rw[e];clear e
    go_enter Tryz.func113,Tryz.ntmps113
    go_wp2
    go_ret
    exact⟨rfl,(Below.refl _ _).alloc (Nat.le_refl _) _⟩
   ·have e:Vm.utfL n=[240+n / 262144,128+n / 4096%64,128+n / 64%64,128+n%64]:=by unfold Vm.utfL;rw[if_neg h1,if_neg h2,if_neg h3]
    rw[e];clear e
    go_enter Tryz.func113,Tryz.ntmps113
    go_wp2
    go_ret
    exact⟨rfl,(Below.refl _ _).alloc (Nat.le_refl _) _⟩
theorem rvalid_any (n:Int) (w:World) :
  Calls Tryz.prog 177 #[.int .i64 n] w fun e w'=>e=.returned (.bool (Vm.validB n))/\w'=w:=by
 have hcase:n<0\/(0<=n/\n<=55295)\/(55295<n/\n<57344)\/(57344<=n/\n<=1114111)\/1114111<n:=by omega
 rcases hcase with h|⟨h,h'⟩|⟨h,h'⟩|⟨h,h'⟩|h
 ·have e:Vm.validB n=false:=by simp [Vm.validB];omega
  rw[e];clear e
  have g1:¬0<=n:=by omega
  have g2:¬57344<=n:=by omega
  go_enter Tryz.func177,Tryz.ntmps177
  go_wp2
  go_ret
  exact⟨rfl,rfl⟩
 ·have e:Vm.validB n=true:=by simp [Vm.validB];omega
  rw[e];clear e
  go_enter Tryz.func177,Tryz.ntmps177
  go_wp2
  go_ret
  exact⟨rfl,rfl⟩
 ·have e:Vm.validB n=false:=by simp [Vm.validB];omega
  rw[e];clear e
  have g1:0<=n:=by omega
  have g2:¬n<=55295:=by omega
  have g3:¬57344<=n:=by omega
  go_enter Tryz.func177,Tryz.ntmps177
  go_wp2
  go_ret
  exact⟨rfl,rfl⟩
 ·have e:Vm.validB n=true:=by simp [Vm.validB];omega
  rw[e];clear e
  have g1:0<=n:=by omega
  have g2:¬n<=55295:=by omega
  go_enter Tryz.func177,Tryz.ntmps177
  go_wp2
  go_ret
  exact⟨rfl,rfl⟩
 ·have e:Vm.validB n=false:=by simp [Vm.validB];omega
  rw[e];clear e
  have g1:0<=n:=by omega
  have g2:¬n<=55295:=by omega
  have g3:57344<=n:=by omega
  have g4:¬n<=1114111:=by omega
  go_enter Tryz.func177,Tryz.ntmps177
  go_wp2
  go_ret
  exact⟨rfl,rfl⟩
theorem runit_any (s:ByteArray) (i:Nat) (enc:Int) (w:World) (hs:s.size<=1099511627776) (h:i+1<s.size) :
  Calls Tryz.prog 166 #[.string s,.int .i64 i,.int .i64 enc] w fun e w'=>e=.returned (.int .i64 (Vm.unitAt enc s.data.toList i))/\Below w.heap.size w w':=by
 have hI:(i:Int)+1<(s.size:Int):=by omega
 have hI0:(i:Int)<(s.size:Int):=by omega
 have e1:=s[i].toNat_lt
 have e2:=s[i+1].toNat_lt
 have hwr:IntKind.i64.wrap ((i:Int)+1)=(i:Int)+1:=by rw[IntKind.wrap_i64];omega
 have htn:((i:Int)+1).toNat=i+1:=by omega
 have hw1:IntKind.i64.wrap (s[i].toNat:Int)=(s[i].toNat:Int):=by rw[IntKind.wrap_i64];omega
 have hw2:IntKind.i64.wrap (s[i+1].toNat:Int)=(s[i+1].toNat:Int):=by rw[IntKind.wrap_i64];omega
 by_cases he:enc=1
 ·subst he
  have hw3:IntKind.i64.wrap (256 * (s[i+1].toNat:Int))=256 * (s[i+1].toNat:Int):=by rw[IntKind.wrap_i64];omega
  have hw4:IntKind.i64.wrap ((s[i].toNat:Int)+256 * (s[i+1].toNat:Int))=(s[i].toNat:Int)+256 * (s[i+1].toNat:Int):=by rw[IntKind.wrap_i64];omega
  rw[Vm.unitAt_1,Vm.b0_byte s i (by omega),Vm.b0_byte s (i+1) h]
  go_enter Tryz.func166,Tryz.ntmps166
  go_wp2
  go_region_held3 (fun _=>True) (trivial) (fail)
  all_goals (go_wp2;go_ret)
  all_goals exact⟨ret_int (by omega),(Below.refl _ _).drew⟩
 ·have he':(enc==1)=false:=by simpa using he
  have hw3:IntKind.i64.wrap (256 * (s[i].toNat:Int))=256 * (s[i].toNat:Int):=by rw[IntKind.wrap_i64];omega
  have hw4:IntKind.i64.wrap (256 * (s[i].toNat:Int)+(s[i+1].toNat:Int))=256 * (s[i].toNat:Int)+(s[i+1].toNat:Int):=by rw[IntKind.wrap_i64];omega
  have hu:Vm.unitAt enc s.data.toList i=256 * (s[i].toNat:Int)+(s[i+1].toNat:Int):=by
   unfold Vm.unitAt;rw[if_neg he,Vm.b0_byte s i (by omega),Vm.b0_byte s (i+1) h]
  rw[hu];clear hu he
  go_enter Tryz.func166,Tryz.ntmps166
  go_wp2
  go_region_held3 (fun _=>True) (trivial) (fail)
  all_goals (go_wp2;go_ret)
  all_goals exact⟨ret_int (by omega),(Below.refl _ _).drew⟩
end Go.Proofs.YtoejbngihecafaaGreatDoor
namespace Go.Proofs.YtoejbngihecafaaGreatDoor
open Go.RowKit
theorem Z2 {p:Prop} (h:p):Hid p:=h
theorem str_len (n:Int):(strOfNums (Vm.utfL n)).size=Vm.utfLen n:=by
 rw[<-Vm.utfL_length];simp [strOfNums,ByteArray.size]
theorem rutfAt_any (
          s:ByteArray) (i:Nat) (w:World) (hs:s.size<=1099511627776) (hi:i<s.size) :
  Calls Tryz.prog 165 #[.string s,.int .i64 i] w fun e w'=>e=.returned (.tuple #[.int .i64 (Vm.utfRef (s.data.toList.drop i)).1,.int .i64 (Vm.utfRef (s.data.toList.drop i)).2])/\Below w.heap.size w w':=by
 have hb0:Vm.b0 (s.data.toList.drop i) 0=(s[i].toNat:Int):=by rw[Vm.b0_drop,Nat.add_zero,Vm.b0_byte s i hi]
 have hc:=s[i].toNat_lt
 have hI:(i:Int)<(s.size:Int):=by omega
 by_cases c0:(s[i].toNat:Int)<128
 ·have hk:Vm.rk (s[i].toNat:Int)=1:=by unfold Vm.rk;rw[if_pos c0]
  have hp:Vm.rpart (s.data.toList.drop i) 1=(s[i].toNat:Int):=by show Vm.rn0 _=_;rw[hb0];unfold Vm.rn0;rw[if_pos c0]
  have hu0:Vm.utfRef (s.data.toList.drop i)=if Vm.validB (s[i].toNat:Int)=false then (0,0) else if Vm.utfLen (s[i].toNat:Int)=1 then ((s[i].toNat:Int),1) else (0,0):=by
   unfold Vm.utfRef;rw[hb0,hk];simp only[hp];rw[if_neg (by decide),if_neg (by simp [Vm.rok])]
  have HU:=Z2 hu0
  have Hb:=Z2 hb0
  clear hu0 hb0 hk hp
  go_enter Tryz.func165,Tryz.ntmps165
  go_wp2
  refine wp_loop_rounds 1 ?_
  rw[rounds_succ]
  go_wp2_with fail
  cases hv:Vm.validB ((s[i].toNat:Int))
  ·have hu:Vm.utfRef (s.data.toList.drop i)=(0,0):=by rw[HU.out,if_pos hv]
   have Hu:=Z2 hu
   clear hu
   refine (rvalid_any _ _).mono ?_
   rintro e w1 ⟨rfl,rfl⟩
   rw[hv]
   go_wp2
   go_ret2
   exact⟨by rw[Hu.out];rfl,by first|exact Below.refl _ _|assumption⟩
  ·have hn:0<=(s[i].toNat:Int)/\(s[i].toNat:Int)<=1114111:=by simp [Vm.validB] at hv;omega
   obtain⟨hn0,hn1⟩:=hn
   have hlen:=str_len ((s[i].toNat:Int))
   refine (rvalid_any _ _).mono ?_
   rintro e w1 ⟨rfl,rfl⟩
   rw[hv]
   go_wp2_with fail
   refine (rutf_any _ _ hn0 (by omega)).mono ?_
   rintro e w2 ⟨rfl,hb2⟩
   by_cases hk:Vm.utfLen ((s[i].toNat:Int))=1
   ·have hu:Vm.utfRef (s.data.toList.drop i)=((s[i].toNat:Int),1):=by rw[HU.out,if_neg (by rw[hv];decide),if_pos hk]
    have Hu:=Z2 hu
    clear hu
    rw[hk] at hlen
    have hl2:(((strOfNums (Vm.utfL ((s[i].toNat:Int)))).size:Nat):Int)=1:=by rw[hlen];rfl
    have hl3:((((strOfNums (Vm.utfL ((s[i].toNat:Int)))).size:Nat):Int) != 1)=false:=by rw[hl2];rfl
    have Hk:=Z2 hk
    have Hv:=Z2 hv
    clear hk hlen hl2 hv
    go_wp2
    go_ret2
    exact⟨by rw[Hu.out];rfl,by first|exact hb2|exact Below.trans (by assumption) (hb2.mono (Below.size (by assumption)))⟩
   ·have hu:Vm.utfRef (s.data.toList.drop i)=(0,0):=by rw[HU.out,if_neg (by rw[hv];decide),if_neg hk]
    have Hu:=Z2 hu
    clear hu
    have hl3:((((strOfNums (Vm.utfL ((s[i].toNat:Int)))).size:Nat):Int) != 1)=true:=by rw[bne_iff_ne,hlen];omega
    have Hk:=Z2 hk
    have Hv:=Z2 hv
    clear hk hlen hv
    go_wp2
    go_ret2
    exact⟨by rw[Hu.out];rfl,by first|exact hb2|exact Below.trans (by assumption) (hb2.mono (Below.size (by assumption)))⟩
 ·by_cases c1:(s[i].toNat:Int)<192
  ·have hu:Vm.utfRef (s.data.toList.drop i)=(0,0):=by
    unfold Vm.utfRef;rw[hb0,if_pos (by unfold Vm.rk;rw[if_neg c0,if_pos c1])]
   rw[hu]
   clear hu hb0
   go_enter Tryz.func165,Tryz.ntmps165
   go_wp2
   go_ret2
   exact⟨rfl,Below.refl _ _⟩
  ·by_cases c2:(s[i].toNat:Int)<224
   ·have hk:Vm.rk (s[i].toNat:Int)=2:=by unfold Vm.rk;rw[if_neg c0,if_neg c1,if_pos c2]
    have hp1:Vm.rpart (s.data.toList.drop i) 1=(s[i].toNat:Int) - 192:=by show Vm.rn0 _=_;rw[hb0];unfold Vm.rn0;rw[if_neg c0,if_pos c2]
    have hkn:Vm.rk (Vm.b0 (s.data.toList.drop i) 0)≠0:=by rw[hb0,hk];decide
    have hu0:Vm.utfRef (s.data.toList.drop i)=if Vm.rok (s.data.toList.drop i) (2 - 1)=false then (0,0) else if Vm.validB (Vm.rpart (s.data.toList.drop i) 2)=false then (0,0) else if Vm.utfLen (Vm.rpart (s.data.toList.drop i) 2)=2 then (Vm.rpart (s.data.toList.drop i) 2,2) else (0,0):=by
     unfold Vm.utfRef;rw[hb0,hk,if_neg (by decide)]
    have HU0:=Z2 hu0
    have HP1:=Z2 hp1
    have HK:=Z2 hk
    have Hb:=Z2 hb0
    have HKN:=Z2 hkn
    clear hu0 hp1 hk hb0 hkn
    go_enter Tryz.func165,Tryz.ntmps165
    go_wp2
    go_loopw [7,9] (fun n j wx=>∃q:Nat,1<=q/\q<=2/\j=.int .i64 q/\n=.int .i64 (Vm.rpart (s.data.toList.drop i) q)/\Vm.rok (s.data.toList.drop i) (q - 1)=true/\Below w.heap.size w wx) (fun _ j _=>2 - (intOf j).toNat)
    case atStart=>exact⟨1,Nat.le_refl _,by omega,rfl,by rw[HP1.out],rfl,Below.refl _ _⟩
    case round =>
     obtain⟨q,hq1,hq2,rfl,rfl,hok,hbx⟩:=hrel
     have hpv:=Vm.rpart_bd (l:=s.data.toList.drop i) (k:=q) (by omega) hq1 HKN.out hok
     have Hok:=Z2 hok
     clear hok
     by_cases hlt:q<2
     ·have hltI:(q:Int)<2:=by omega
      have hqi:((i:Int)+(q:Int)).toNat=i+q:=by omega
      have hcb:=Vm.contB_in (b:=s) (k:=i) (j:=q)
      rw[Int.natCast_add] at hcb
      cases hcv:Vm.contB (s.data.toList.drop i) q
      ·rw[hcv] at hcb
       have Hcb:=Z2 hcb
       clear hcb
       go_wp2_with fail
       refine (rcont_any s _ _ (by omega)).mono ?_
       rintro e w1 ⟨rfl,rfl⟩
       rw[hqi,<-Hcb.out]
       go_wp2
       go_ret2
       exact⟨by rw[HU0.out,if_pos (Vm.rok_false hq1 (by omega) hcv)];rfl,hbx⟩
      ·rw[hcv] at hcb
       have Hcb:=Z2 hcb
       obtain⟨hc1,hc2,hc3⟩:=Vm.contB_bd hcv
       rw[Vm.len_drop] at hc1
       have hin:i+q<s.size:=by omega
       have hinI:(i:Int)+(q:Int)<(s.size:Int):=by omega
       rw[Vm.b0_drop,Vm.b0_byte s (i+q) hin] at hc2 hc3
       have Hcv:=Z2 hcv
       clear hcb hcv
       go_wp2_with fail
       refine (rcont_any s _ _ (by omega)).mono ?_
       rintro e w1 ⟨rfl,rfl⟩
       rw[hqi,<-Hcb.out]
       go_wp2
       refine⟨⟨q+1,by omega,by omega,by go_num,?_,?_,hbx⟩,by simp [intOf];omega⟩
       ·rw[Vm.rpart_succ _ _ hq1,Vm.b0_drop,Vm.b0_byte s (i+q) hin]
       ·simp only[Nat.add_sub_cancel];exact Vm.rok_succ hq1 Hok.out Hcv.out
     ·obtain rfl:q=2:=by omega
      have HU:Hid (Vm.utfRef (s.data.toList.drop i)=if Vm.validB (Vm.rpart (s.data.toList.drop i) 2)=false then (0,0) else if Vm.utfLen (Vm.rpart (s.data.toList.drop i) 2)=2 then (Vm.rpart (s.data.toList.drop i) 2,2) else (0,0)):=by
       show _=_
       rw[HU0.out,if_neg]
       rw[Hok.out];decide
      go_wp2_with fail
      cases hv:Vm.validB (Vm.rpart (s.data.toList.drop i) 2)
      ·have hu:Vm.utfRef (s.data.toList.drop i)=(0,0):=by rw[HU.out,if_pos hv]
       have Hu:=Z2 hu
       clear hu
       refine (rvalid_any _ _).mono ?_
       rintro e w1 ⟨rfl,rfl⟩
       rw[hv]
       go_wp2
       go_ret2
       exact⟨by rw[Hu.out];rfl,by first|exact Below.refl _ _|assumption⟩
      ·have hn:0<=Vm.rpart (s.data.toList.drop i) 2/\Vm.rpart (s.data.toList.drop i) 2<=1114111:=by simp [Vm.validB] at hv;omega
       obtain⟨hn0,hn1⟩:=hn
       have hlen:=str_len (Vm.rpart (s.data.toList.drop i) 2)
       refine (rvalid_any _ _).mono ?_
       rintro e w1 ⟨rfl,rfl⟩
       rw[hv]
       go_wp2_with fail
       refine (rutf_any _ _ hn0 (by omega)).mono ?_
       rintro e w2 ⟨rfl,hb2⟩
       by_cases hk:Vm.utfLen (Vm.rpart (s.data.toList.drop i) 2)=2
       ·have hu:Vm.utfRef (s.data.toList.drop i)=(Vm.rpart (s.data.toList.drop i) 2,2):=by rw[HU.out,if_neg (by rw[hv];decide),if_pos hk]
        have Hu:=Z2 hu
        clear hu
        rw[hk] at hlen
        have hl2:(((strOfNums (Vm.utfL (Vm.rpart (s.data.toList.drop i) 2))).size:Nat):Int)=2:=by rw[hlen];rfl
        have hl3:((((strOfNums (Vm.utfL (Vm.rpart (s.data.toList.drop i) 2))).size:Nat):Int) != 2)=false:=by rw[hl2];rfl
        have Hk:=Z2 hk
        have Hv:=Z2 hv
        clear hk hlen hl2 hv
        go_wp2
        go_ret2
        exact⟨by rw[Hu.out];rfl,by first|exact hb2|exact Below.trans (by assumption) (hb2.mono (Below.size (by assumption)))⟩
       ·have hu:Vm.utfRef (s.data.toList.drop i)=(0,0):=by rw[HU.out,if_neg (by rw[hv];decide),if_neg hk]
        have Hu:=Z2 hu
        clear hu
        have hl3:((((strOfNums (Vm.utfL (Vm.rpart (s.data.toList.drop i) 2))).size:Nat):Int) != 2)=true:=by rw[bne_iff_ne,hlen];omega
        have Hk:=Z2 hk
        have Hv:=Z2 hv
        clear hk hlen hv
        go_wp2
        go_ret2
        exact⟨by rw[Hu.out];rfl,by first|exact hb2|exact Below.trans (by assumption) (hb2.mono (Below.size (by assumption)))⟩
   ·by_cases c3:(s[i].toNat:Int)<240
    ·have hk:Vm.rk (s[i].toNat:Int)=3:=by unfold Vm.rk;rw[if_neg c0,if_neg c1,if_neg c2,if_pos c3]
     have hp1:Vm.rpart (s.data.toList.drop i) 1=(s[i].toNat:Int) - 224:=by show Vm.rn0 _=_;rw[hb0];unfold Vm.rn0;rw[if_neg c0,if_neg c2,if_pos c3]
     have hkn:Vm.rk (Vm.b0 (s.data.toList.drop i) 0)≠0:=by rw[hb0,hk];decide
     have hu0:Vm.utfRef (s.data.toList.drop i)=if Vm.rok (s.data.toList.drop i) (3 - 1)=false then (0,0) else if Vm.validB (Vm.rpart (s.data.toList.drop i) 3)=false then (0,0) else if Vm.utfLen (Vm.rpart (s.data.toList.drop i) 3)=3 then (Vm.rpart (s.data.toList.drop i) 3,3) else (0,0):=by
      unfold Vm.utfRef;rw[hb0,hk,if_neg (by decide)]
     have HU0:=Z2 hu0
     have HP1:=Z2 hp1
     have HK:=Z2 hk
     have Hb:=Z2 hb0
     have HKN:=Z2 hkn
     clear hu0 hp1 hk hb0 hkn
     go_enter Tryz.func165,Tryz.ntmps165
     go_wp2
     go_loopw [7,9] (fun n j wx=>∃q:Nat,1<=q/\q<=3/\j=.int .i64 q/\n=.int .i64 (Vm.rpart (s.data.toList.drop i) q)/\Vm.rok (s.data.toList.drop i) (q - 1)=true/\Below w.heap.size w wx) (fun _ j _=>3 - (intOf j).toNat)
     case atStart=>exact⟨1,Nat.le_refl _,by omega,rfl,by rw[HP1.out],rfl,Below.refl _ _⟩
     case round =>
      obtain⟨q,hq1,hq2,rfl,rfl,hok,hbx⟩:=hrel
      have hpv:=Vm.rpart_bd (l:=s.data.toList.drop i) (k:=q) (by omega) hq1 HKN.out hok
      have Hok:=Z2 hok
      clear hok
      by_cases hlt:q<3
      ·have hltI:(q:Int)<3:=by omega
       have hqi:((i:Int)+(q:Int)).toNat=i+q:=by omega
       have hcb:=Vm.contB_in (b:=s) (k:=i) (j:=q)
       rw[Int.natCast_add] at hcb
       cases hcv:Vm.contB (s.data.toList.drop i) q
       ·rw[hcv] at hcb
        have Hcb:=Z2 hcb
        clear hcb
        go_wp2_with fail
        refine (rcont_any s _ _ (by omega)).mono ?_
        rintro e w1 ⟨rfl,rfl⟩
        rw[hqi,<-Hcb.out]
        go_wp2
        go_ret2
        exact⟨by rw[HU0.out,if_pos (Vm.rok_false hq1 (by omega) hcv)];rfl,hbx⟩
       ·rw[hcv] at hcb
        have Hcb:=Z2 hcb
        obtain⟨hc1,hc2,hc3⟩:=Vm.contB_bd hcv
        rw[Vm.len_drop] at hc1
        have hin:i+q<s.size:=by omega
        have hinI:(i:Int)+(q:Int)<(s.size:Int):=by omega
        rw[Vm.b0_drop,Vm.b0_byte s (i+q) hin] at hc2 hc3
        have Hcv:=Z2 hcv
        clear hcb hcv
        go_wp2_with fail
        refine (rcont_any s _ _ (by omega)).mono ?_
        rintro e w1 ⟨rfl,rfl⟩
        rw[hqi,<-Hcb.out]
        go_wp2
        refine⟨⟨q+1,by omega,by omega,by go_num,?_,?_,hbx⟩,by simp [intOf];omega⟩
        ·rw[Vm.rpart_succ _ _ hq1,Vm.b0_drop,Vm.b0_byte s (i+q) hin]
        ·simp only[Nat.add_sub_cancel];exact Vm.rok_succ hq1 Hok.out Hcv.out
      ·obtain rfl:q=3:=by omega
       have HU:Hid (Vm.utfRef (s.data.toList.drop i)=if Vm.validB (Vm.rpart (s.data.toList.drop i) 3)=false then (0,0) else if Vm.utfLen (Vm.rpart (s.data.toList.drop i) 3)=3 then (Vm.rpart (s.data.toList.drop i) 3,3) else (0,0)):=by
        show _=_
        rw[HU0.out,if_neg]
        rw[Hok.out];decide
       go_wp2_with fail
       cases hv:Vm.validB (Vm.rpart (s.data.toList.drop i) 3)
       ·have hu:Vm.utfRef (s.data.toList.drop i)=(0,0):=by rw[HU.out,if_pos hv]
        have Hu:=Z2 hu
        clear hu
        refine (rvalid_any _ _).mono ?_
        rintro e w1 ⟨rfl,rfl⟩
        rw[hv]
        go_wp2
        go_ret2
        exact⟨by rw[Hu.out];rfl,by first|exact Below.refl _ _|assumption⟩
       ·have hn:0<=Vm.rpart (s.data.toList.drop i) 3/\Vm.rpart (s.data.toList.drop i) 3<=1114111:=by simp [Vm.validB] at hv;omega
        obtain⟨hn0,hn1⟩:=hn
        have hlen:=str_len (Vm.rpart (s.data.toList.drop i) 3)
        refine (rvalid_any _ _).mono ?_
        rintro e w1 ⟨rfl,rfl⟩
        rw[hv]
        go_wp2_with fail
        refine (rutf_any _ _ hn0 (by omega)).mono ?_
        rintro e w2 ⟨rfl,hb2⟩
        by_cases hk:Vm.utfLen (Vm.rpart (s.data.toList.drop i) 3)=3
        ·have hu:Vm.utfRef (s.data.toList.drop i)=(Vm.rpart (s.data.toList.drop i) 3,3):=by rw[HU.out,if_neg (by rw[hv];decide),if_pos hk]
         have Hu:=Z2 hu
         clear hu
         rw[hk] at hlen
         have hl2:(((strOfNums (Vm.utfL (Vm.rpart (s.data.toList.drop i) 3))).size:Nat):Int)=3:=by rw[hlen];rfl
         have hl3:((((strOfNums (Vm.utfL (Vm.rpart (s.data.toList.drop i) 3))).size:Nat):Int) != 3)=false:=by rw[hl2];rfl
         have Hk:=Z2 hk
         have Hv:=Z2 hv
         clear hk hlen hl2 hv
         go_wp2
         go_ret2
         exact⟨by rw[Hu.out];rfl,by first|exact hb2|exact Below.trans (by assumption) (hb2.mono (Below.size (by assumption)))⟩
        ·have hu:Vm.utfRef (s.data.toList.drop i)=(0,0):=by rw[HU.out,if_neg (by rw[hv];decide),if_neg hk]
         have Hu:=Z2 hu
         clear hu
         have hl3:((((strOfNums (Vm.utfL (Vm.rpart (s.data.toList.drop i) 3))).size:Nat):Int) != 3)=true:=by rw[bne_iff_ne,hlen];omega
         have Hk:=Z2 hk
         have Hv:=Z2 hv
         clear hk hlen hv
         go_wp2
         go_ret2
         exact⟨by rw[Hu.out];rfl,by first|exact hb2|exact Below.trans (by assumption) (hb2.mono (Below.size (by assumption)))⟩
    ·by_cases c4:(s[i].toNat:Int)<248
     ·have hk:Vm.rk (s[i].toNat:Int)=4:=by unfold Vm.rk;rw[if_neg c0,if_neg c1,if_neg c2,if_neg c3,if_pos c4]
      have hp1:Vm.rpart (s.data.toList.drop i) 1=(s[i].toNat:Int) - 240:=by show Vm.rn0 _=_;rw[hb0];unfold Vm.rn0;rw[if_neg c0,if_neg c2,if_neg c3]
      have hkn:Vm.rk (Vm.b0 (s.data.toList.drop i) 0)≠0:=by rw[hb0,hk];decide
      have hu0:Vm.utfRef (s.data.toList.drop i)=if Vm.rok (s.data.toList.drop i) (4 - 1)=false then (0,0) else if Vm.validB (Vm.rpart (s.data.toList.drop i) 4)=false then (0,0) else if Vm.utfLen (Vm.rpart (s.data.toList.drop i) 4)=4 then (Vm.rpart (s.data.toList.drop i) 4,4) else (0,0):=by
       unfold Vm.utfRef;rw[hb0,hk,if_neg (by decide)]
      have HU0:=Z2 hu0
      have HP1:=Z2 hp1
      have HK:=Z2 hk
      have Hb:=Z2 hb0
      have HKN:=Z2 hkn
      clear hu0 hp1 hk hb0 hkn
      go_enter Tryz.func165,Tryz.ntmps165
      go_wp2
      go_loopw [7,9] (fun n j wx=>∃q:Nat,1<=q/\q<=4/\j=.int .i64 q/\n=.int .i64 (Vm.rpart (s.data.toList.drop i) q)/\Vm.rok (s.data.toList.drop i) (q - 1)=true/\Below w.heap.size w wx) (fun _ j _=>4 - (intOf j).toNat)
      case atStart=>exact⟨1,Nat.le_refl _,by omega,rfl,by rw[HP1.out],rfl,Below.refl _ _⟩
      case round =>
       obtain⟨q,hq1,hq2,rfl,rfl,hok,hbx⟩:=hrel
       have hpv:=Vm.rpart_bd (l:=s.data.toList.drop i) (k:=q) (by omega) hq1 HKN.out hok
       have Hok:=Z2 hok
       clear hok
       by_cases hlt:q<4
       ·have hltI:(q:Int)<4:=by omega
        have hqi:((i:Int)+(q:Int)).toNat=i+q:=by omega
        have hcb:=Vm.contB_in (b:=s) (k:=i) (j:=q)
        rw[Int.natCast_add] at hcb
        cases hcv:Vm.contB (s.data.toList.drop i) q
        ·rw[hcv] at hcb
         have Hcb:=Z2 hcb
         clear hcb
         go_wp2_with fail
         refine (rcont_any s _ _ (by omega)).mono ?_
         rintro e w1 ⟨rfl,rfl⟩
         rw[hqi,<-Hcb.out]
         go_wp2
         go_ret2
         exact⟨by rw[HU0.out,if_pos (Vm.rok_false hq1 (by omega) hcv)];rfl,hbx⟩
        ·rw[hcv] at hcb
         have Hcb:=Z2 hcb
         obtain⟨hc1,hc2,hc3⟩:=Vm.contB_bd hcv
         rw[Vm.len_drop] at hc1
         have hin:i+q<s.size:=by omega
         have hinI:(i:Int)+(q:Int)<(s.size:Int):=by omega
         rw[Vm.b0_drop,Vm.b0_byte s (i+q) hin] at hc2 hc3
         have Hcv:=Z2 hcv
         clear hcb hcv
         go_wp2_with fail
         refine (rcont_any s _ _ (by omega)).mono ?_
         rintro e w1 ⟨rfl,rfl⟩
         rw[hqi,<-Hcb.out]
         go_wp2
         refine⟨⟨q+1,by omega,by omega,by go_num,?_,?_,hbx⟩,by simp [intOf];omega⟩
         ·rw[Vm.rpart_succ _ _ hq1,Vm.b0_drop,Vm.b0_byte s (i+q) hin]
         ·simp only[Nat.add_sub_cancel];exact Vm.rok_succ hq1 Hok.out Hcv.out
       ·obtain rfl:q=4:=by omega
        have HU:Hid (Vm.utfRef (s.data.toList.drop i)=if Vm.validB (Vm.rpart (s.data.toList.drop i) 4)=false then (0,0) else if Vm.utfLen (Vm.rpart (s.data.toList.drop i) 4)=4 then (Vm.rpart (s.data.toList.drop i) 4,4) else (0,0)):=by
         show _=_
         rw[HU0.out,if_neg]
         rw[Hok.out];decide
        go_wp2_with fail
        cases hv:Vm.validB (Vm.rpart (s.data.toList.drop i) 4)
        ·have hu:Vm.utfRef (s.data.toList.drop i)=(0,0):=by rw[HU.out,if_pos hv]
         have Hu:=Z2 hu
         clear hu
         refine (rvalid_any _ _).mono ?_
         rintro e w1 ⟨rfl,rfl⟩
         rw[hv]
         go_wp2
         go_ret2
         exact⟨by rw[Hu.out];rfl,by first|exact Below.refl _ _|assumption⟩
        ·have hn:0<=Vm.rpart (s.data.toList.drop i) 4/\Vm.rpart (s.data.toList.drop i) 4<=1114111:=by simp [Vm.validB] at hv;omega
         obtain⟨hn0,hn1⟩:=hn
         have hlen:=str_len (Vm.rpart (s.data.toList.drop i) 4)
         refine (rvalid_any _ _).mono ?_
         rintro e w1 ⟨rfl,rfl⟩
         rw[hv]
         go_wp2_with fail
         refine (rutf_any _ _ hn0 (by omega)).mono ?_
         rintro e w2 ⟨rfl,hb2⟩
         by_cases hk:Vm.utfLen (Vm.rpart (s.data.toList.drop i) 4)=4
         ·have hu:Vm.utfRef (s.data.toList.drop i)=(Vm.rpart (s.data.toList.drop i) 4,4):=by rw[HU.out,if_neg (by rw[hv];decide),if_pos hk]
          have Hu:=Z2 hu
          clear hu
          rw[hk] at hlen
          have hl2:(((strOfNums (Vm.utfL (Vm.rpart (s.data.toList.drop i) 4))).size:Nat):Int)=4:=by rw[hlen];rfl
          have hl3:((((strOfNums (Vm.utfL (Vm.rpart (s.data.toList.drop i) 4))).size:Nat):Int) != 4)=false:=by rw[hl2];rfl
          have Hk:=Z2 hk
          have Hv:=Z2 hv
          clear hk hlen hl2 hv
          go_wp2
          go_ret2
          exact⟨by rw[Hu.out];rfl,by first|exact hb2|exact Below.trans (by assumption) (hb2.mono (Below.size (by assumption)))⟩
         ·have hu:Vm.utfRef (s.data.toList.drop i)=(0,0):=by rw[HU.out,if_neg (by rw[hv];decide),if_neg hk]
          have Hu:=Z2 hu
          clear hu
          have hl3:((((strOfNums (Vm.utfL (Vm.rpart (s.data.toList.drop i) 4))).size:Nat):Int) != 4)=true:=by rw[bne_iff_ne,hlen];omega
          have Hk:=Z2 hk
          have Hv:=Z2 hv
          clear hk hlen hv
          go_wp2
          go_ret2
          exact⟨by rw[Hu.out];rfl,by first|exact hb2|exact Below.trans (by assumption) (hb2.mono (Below.size (by assumption)))⟩
     ·have hu:Vm.utfRef (s.data.toList.drop i)=(0,0):=by
       unfold Vm.utfRef;rw[hb0,if_pos (by unfold Vm.rk;rw[if_neg c0,if_neg c1,if_neg c2,if_neg c3,if_neg c4])]
      rw[hu]
      clear hu hb0
      go_enter Tryz.func165,Tryz.ntmps165
      go_wp2
      go_ret2
      exact⟨rfl,Below.refl _ _⟩
end Go.Proofs.YtoejbngihecafaaGreatDoor
namespace Go.Proofs.YtoejbngihecafaaGreatDoor
open Go.RowKit
theorem bcell {W w1:World} (hb:Below W.heap.size W w1):(∀b o,b<W.heap.size->w1.cell? ⟨b,o,none⟩=W.cell? ⟨b,o,none⟩)/\(∀b o,b<W.heap.size->w1.frozen? ⟨b,o,none⟩=W.frozen? ⟨b,o,none⟩) :=
 ⟨fun b o h=>hb.cell (p:=⟨b,o,none⟩) h,fun b o h=>hb.frozen (p:=⟨b,o,none⟩) h⟩
theorem sc_ne (W:World) (B i j:Nat) (v:Value) (h:i≠j):(W.setCell ⟨B,i,none⟩ v).cell? ⟨B,j,none⟩=W.cell? ⟨B,j,none⟩:=by
 apply World.cell?_setCell_other
 intro e
 injection e with e1 e2
 exact h e2
theorem sc_eq (W:World) (B i:Nat) (v u:Value) (h:W.cell? ⟨B,i,none⟩=some u):(W.setCell ⟨B,i,none⟩ v).cell? ⟨B,i,none⟩=some v:=World.cell?_setCell_same' W _ v (by rw[h];rfl)
theorem five_set {W:World} {B:Nat} {u0 u1 u2 u3 u4:Value} (v0 v1 v2 v3 v4:Value)
  (h:W.cell? ⟨B,0,none⟩=some u0/\W.cell? ⟨B,1,none⟩=some u1/\W.cell? ⟨B,2,none⟩=some u2/\W.cell? ⟨B,3,none⟩=some u3/\W.cell? ⟨B,4,none⟩=some u4) :
  (((((W.setCell ⟨B,0,none⟩ v0).setCell ⟨B,1,none⟩ v1).setCell ⟨B,2,none⟩ v2).setCell ⟨B,3,none⟩ v3).setCell ⟨B,4,none⟩ v4).cell? ⟨B,0,none⟩=some v0 /\
  (((((W.setCell ⟨B,0,none⟩ v0).setCell ⟨B,1,none⟩ v1).setCell ⟨B,2,none⟩ v2).setCell ⟨B,3,none⟩ v3).setCell ⟨B,4,none⟩ v4).cell? ⟨B,1,none⟩=some v1 /\
  (((((W.setCell ⟨B,0,none⟩ v0).setCell ⟨B,1,none⟩ v1).setCell ⟨B,2,none⟩ v2).setCell ⟨B,3,none⟩ v3).setCell ⟨B,4,none⟩ v4).cell? ⟨B,2,none⟩=some v2 /\
  (((((W.setCell ⟨B,0,none⟩ v0).setCell ⟨B,1,none⟩ v1).setCell ⟨B,2,none⟩ v2).setCell ⟨B,3,none⟩ v3).setCell ⟨B,4,none⟩ v4).cell? ⟨B,3,none⟩=some v3 /\
  (((((W.setCell ⟨B,0,none⟩ v0).setCell ⟨B,1,none⟩ v1).setCell ⟨B,2,none⟩ v2).setCell ⟨B,3,none⟩ v3).setCell ⟨B,4,none⟩ v4).cell? ⟨B,4,none⟩=some v4:=by
 obtain⟨h0,h1,h2,h3,h4⟩:=h
 refine⟨?_,?_,?_,?_,?_⟩
 ·rw[sc_ne _ _ 4 0 _ (by decide),sc_ne _ _ 3 0 _ (by decide),sc_ne _ _ 2 0 _ (by decide),sc_ne _ _ 1 0 _ (by decide),sc_eq _ _ 0 _ u0 h0]
 ·rw[sc_ne _ _ 4 1 _ (by decide),sc_ne _ _ 3 1 _ (by decide),sc_ne _ _ 2 1 _ (by decide),sc_eq _ _ 1 _ u1 (by rw[sc_ne _ _ 0 1 _ (by decide)];exact h1)]
 ·rw[sc_ne _ _ 4 2 _ (by decide),sc_ne _ _ 3 2 _ (by decide),sc_eq _ _ 2 _ u2 (by rw[sc_ne _ _ 1 2 _ (by decide),sc_ne _ _ 0 2 _ (by decide)];exact h2)]
 ·rw[sc_ne _ _ 4 3 _ (by decide),sc_eq _ _ 3 _ u3 (by rw[sc_ne _ _ 2 3 _ (by decide),sc_ne _ _ 1 3 _ (by decide),sc_ne _ _ 0 3 _ (by decide)];exact h3)]
 ·rw[sc_eq _ _ 4 _ u4 (by rw[sc_ne _ _ 3 4 _ (by decide),sc_ne _ _ 2 4 _ (by decide),sc_ne _ _ 1 4 _ (by decide),sc_ne _ _ 0 4 _ (by decide)];exact h4)]
theorem five_below {w W:World} {B:Nat} (v0 v1 v2 v3 v4:Value) (h:Below w.heap.size w W) (hB:w.heap.size<=B) :
  Below w.heap.size w (((((W.setCell ⟨B,0,none⟩ v0).setCell ⟨B,1,none⟩ v1).setCell ⟨B,2,none⟩ v2).setCell ⟨B,3,none⟩ v3).setCell ⟨B,4,none⟩ v4) :=
 ((((h.setCell (p:=⟨B,0,none⟩) hB _).setCell (p:=⟨B,1,none⟩) hB _).setCell (p:=⟨B,2,none⟩) hB _).setCell (p:=⟨B,3,none⟩) hB _).setCell (p:=⟨B,4,none⟩) hB _
theorem five_far {W:World} {B C o:Nat} {u0 u1 u2 u3 u4 v:Value} (hne:C≠B)
  (h:W.cell? ⟨B,0,none⟩=some u0/\W.cell? ⟨B,1,none⟩=some u1/\W.cell? ⟨B,2,none⟩=some u2/\W.cell? ⟨B,3,none⟩=some u3/\W.cell? ⟨B,4,none⟩=some u4) :
  (W.setCell ⟨C,o,none⟩ v).cell? ⟨B,0,none⟩=some u0/\(W.setCell ⟨C,o,none⟩ v).cell? ⟨B,1,none⟩=some u1/\(W.setCell ⟨C,o,none⟩ v).cell? ⟨B,2,none⟩=some u2/\(W.setCell ⟨C,o,none⟩ v).cell? ⟨B,3,none⟩=some u3/\(W.setCell ⟨C,o,none⟩ v).cell? ⟨B,4,none⟩=some u4:=by
 have g:∀p,(W.setCell ⟨C,o,none⟩ v).cell? ⟨B,p,none⟩=W.cell? ⟨B,p,none⟩:=fun p=>World.cell?_setCell_far W _ _ v hne
 exact⟨(g _).trans h.1,(g _).trans h.2.1,(g _).trans h.2.2.1,(g _).trans h.2.2.2.1,(g _).trans h.2.2.2.2⟩
def rdVal (enc:Int) (s:ByteArray) (i:Nat):Value :=
 match Vm.rd enc (s.data.toList.drop i) with
 |none=>.tuple #[.agg #[.int .i64 0,.bool false,.int .i64 0,.int .i64 i,.int .i64 ((i:Int)+1)],.bool false]
 |some x=>.tuple #[.agg #[.int .i64 x.1,.bool x.2.1,.int .i64 0,.int .i64 i,.int .i64 ((i:Int)+x.2.2)],.bool true]
theorem rread_latin (s:ByteArray) (i:Nat) (w:World) (hs:s.size<=1099511627776) (hi:i<s.size) :
  Calls Tryz.prog 141 #[.string s,.int .i64 i,.int .i64 3] w fun e w'=>e=.returned (rdVal 3 s i)/\Below w.heap.size w w':=by
 have hI:(i:Int)<(s.size:Int):=by omega
 have hc:=s[i].toNat_lt
 have e:rdVal 3 s i=.tuple #[.agg #[.int .i64 (s[i].toNat:Int),.bool false,.int .i64 0,.int .i64 i,.int .i64 ((i:Int)+1)],.bool true]:=by
  have e:=Vm.len_drop s i
  unfold rdVal Vm.rd
  rw[if_neg (by omega),if_pos rfl,Vm.b0_drop,Nat.add_zero,Vm.b0_byte s i hi];rfl
 rw[e];clear e
 go_enter Tryz.func141,Tryz.ntmps141
 go_wp2
 exact bodyPost_ret (v:=.tuple #[.agg #[.int .i64 (s[i].toNat:Int),.bool false,.int .i64 0,.int .i64 i,.int .i64 ((i:Int)+1)],.bool true]) (by simp [results,Tryz.results141,go_sem]) rfl ⟨rfl,((Below.refl _ _).alloc (Nat.le_refl _) _).alloc (by simp) _⟩
theorem rread_utf (s:ByteArray) (i:Nat) (w:World) (hs:s.size<=1099511627776) (hi:i<s.size) :
  Calls Tryz.prog 141 #[.string s,.int .i64 i,.int .i64 0] w fun e w'=>e=.returned (rdVal 0 s i)/\Below w.heap.size w w':=by
 have hI:(i:Int)<(s.size:Int):=by omega
 have hc:=s[i].toNat_lt
 have e:rdVal 0 s i=if (Vm.utfRef (s.data.toList.drop i)).2=0 then .tuple #[.agg #[.int .i64 0,.bool true,.int .i64 0,.int .i64 i,.int .i64 ((i:Int)+1)],.bool true]
   else .tuple #[.agg #[.int .i64 (Vm.utfRef (s.data.toList.drop i)).1,.bool false,.int .i64 0,.int .i64 i,.int .i64 ((i:Int)+(Vm.utfRef (s.data.toList.drop i)).2)],.bool true]:=by
  have e:=Vm.len_drop s i
  unfold rdVal Vm.rd
  rw[if_neg (by omega),if_neg (by decide),if_pos rfl]
  split
  ·rename_i h;split at h<;>simp at h
  ·rename_i x h
   split at h
   ·rename_i h2;cases h;rw[if_pos h2];rfl
   ·rename_i h2;cases h;rw[if_neg h2]
 have hle:=Vm.utfRef_le (s.data.toList.drop i)
 have hca:=rutfAt_any s i
 generalize Vm.utfRef (s.data.toList.drop i)=u at *
 obtain⟨n,k⟩:=u
 simp only at hle hca e
 have Hca:=Z2 hca
 clear hca
 by_cases hk:k=0
 ·subst hk
  rw[e,if_pos rfl];clear e
  go_enter Tryz.func141,Tryz.ntmps141
  go_wp2_with fail
  refine (Hca.out _ hs hi).mono ?_
  rintro e w2 ⟨rfl,hb2⟩
  obtain⟨hc2,hf2⟩:=bcell hb2
  simp only[World.size_alloc] at hc2 hf2
  have hz2:=hb2.size
  simp only[World.size_alloc] at hz2
  have z:w2.cell? ⟨w.heap.size,0,none⟩=some (.int .i64 0)/\w2.cell? ⟨w.heap.size,1,none⟩=some (.bool false)/\w2.cell? ⟨w.heap.size,2,none⟩=some (.int .i64 0)/\w2.cell? ⟨w.heap.size,3,none⟩=some (.int .i64 0)/\w2.cell? ⟨w.heap.size,4,none⟩=some (.int .i64 0) :=
   ⟨(hc2 _ _ (by omega)).trans (by simp),(hc2 _ _ (by omega)).trans (by simp),(hc2 _ _ (by omega)).trans (by simp),(hc2 _ _ (by omega)).trans (by simp),(hc2 _ _ (by omega)).trans (by simp)⟩
  have hbw:Below w.heap.size w w2:=(((Below.refl _ _).alloc (Nat.le_refl _) _).alloc (by simp) _).trans (hb2.mono (by simp;omega))
  have Z:=Z2 z
  clear z
  go_wp2
  have z:=Z.out
  exact bodyPost_ret (v:=.tuple #[.agg #[.int .i64 0,.bool true,.int .i64 0,.int .i64 i,.int .i64 ((i:Int)+1)],.bool true]) (by
   have z5:=five_far (C:=w.heap.size+1) (o:=1) (v:=.bool true) (by omega) z
   obtain⟨q0,q1,q2,q3,q4⟩:=five_set (.int .i64 0) (.bool true) (.int .i64 0) (.int .i64 i) (.int .i64 ((i:Int)+1)) z5
   simp [results,Tryz.results141,go_sem,q0,q1,q2,q3,q4]) rfl ⟨rfl,five_below _ _ _ _ _ (hbw.setCell (p:=⟨w.heap.size+1,1,none⟩) (Nat.le_succ _) _) (Nat.le_refl _)⟩
 ·have hk':((k:Int)==0)=false:=by rw[beq_eq_false_iff_ne];omega
  rw[e,if_neg hk];clear e
  go_enter Tryz.func141,Tryz.ntmps141
  go_wp2_with fail
  refine (Hca.out _ hs hi).mono ?_
  rintro e w2 ⟨rfl,hb2⟩
  obtain⟨hc2,hf2⟩:=bcell hb2
  simp only[World.size_alloc] at hc2 hf2
  have hz2:=hb2.size
  simp only[World.size_alloc] at hz2
  have z:w2.cell? ⟨w.heap.size,0,none⟩=some (.int .i64 0)/\w2.cell? ⟨w.heap.size,1,none⟩=some (.bool false)/\w2.cell? ⟨w.heap.size,2,none⟩=some (.int .i64 0)/\w2.cell? ⟨w.heap.size,3,none⟩=some (.int .i64 0)/\w2.cell? ⟨w.heap.size,4,none⟩=some (.int .i64 0) :=
   ⟨(hc2 _ _ (by omega)).trans (by simp),(hc2 _ _ (by omega)).trans (by simp),(hc2 _ _ (by omega)).trans (by simp),(hc2 _ _ (by omega)).trans (by simp),(hc2 _ _ (by omega)).trans (by simp)⟩
  have hbw:Below w.heap.size w w2:=(((Below.refl _ _).alloc (Nat.le_refl _) _).alloc (by simp) _).trans (hb2.mono (by simp;omega))
  have Z:=Z2 z
  clear z
  go_wp2
  have z:=Z.out
  exact bodyPost_ret (v:=.tuple #[.agg #[.int .i64 n,.bool false,.int .i64 0,.int .i64 i,.int .i64 ((i:Int)+k)],.bool true]) (by
   have z5:=five_far (C:=w.heap.size+1) (o:=4) (v:=.int .i64 ((i:Int)+k)) (by omega) (five_far (C:=w.heap.size+1) (o:=0) (v:=.int .i64 n) (by omega) z)
   obtain⟨q0,q1,q2,q3,q4⟩:=five_set (.int .i64 n) (.bool false) (.int .i64 0) (.int .i64 i) (.int .i64 ((i:Int)+k)) z5
   simp [results,Tryz.results141,go_sem,q0,q1,q2,q3,q4]) rfl ⟨rfl,five_below _ _ _ _ _ ((hbw.setCell (p:=⟨w.heap.size+1,0,none⟩) (Nat.le_succ _) _).setCell (p:=⟨w.heap.size+1,4,none⟩) (Nat.le_succ _) _) (Nat.le_refl _)⟩
theorem rdVal_tail {enc:Int} {s:ByteArray} {i:Nat} (he:enc=1\/enc=2) (hi:i<s.size) (h:s.size<=i+1) :
  rdVal enc s i=.tuple #[.agg #[.int .i64 0,.bool false,.int .i64 0,.int .i64 i,.int .i64 ((i:Int)+1)],.bool false]:=by
 have e:=Vm.len_drop s i
 unfold rdVal Vm.rd
 rw[if_neg (by omega),if_neg (by omega),if_neg (by omega),if_pos (by omega)]
theorem rdVal_pair {enc:Int} {s:ByteArray} {i:Nat} (he:enc=1\/enc=2) (h:i+3<s.size) (hu:55296<=Vm.unitAt enc s.data.toList i/\Vm.unitAt enc s.data.toList i<=56319) (hv:56320<=Vm.unitAt enc s.data.toList (i+2)/\Vm.unitAt enc s.data.toList (i+2)<=57343) :
  rdVal enc s i=.tuple #[.agg #[.int .i64 (65536+1024 * (Vm.unitAt enc s.data.toList i - 55296)+Vm.unitAt enc s.data.toList (i+2) - 56320),.bool false,.int .i64 0,.int .i64 i,.int .i64 ((i:Int)+4)],.bool true]:=by
 have e:=Vm.len_drop s i
 unfold rdVal Vm.rd
 rw[if_neg (by omega),if_neg (by omega),if_neg (by omega),if_neg (by omega),Vm.unitAt_drop,Vm.unitAt_drop,Nat.add_zero,if_pos ⟨hu.1,hu.2,by omega,hv.1,hv.2⟩]
 rfl
theorem rdVal_lone {enc:Int} {s:ByteArray} {i:Nat} (he:enc=1\/enc=2) (h:i+1<s.size) (hp:¬(55296<=Vm.unitAt enc s.data.toList i/\Vm.unitAt enc s.data.toList i<=56319/\i+3<s.size/\56320<=Vm.unitAt enc s.data.toList (i+2)/\Vm.unitAt enc s.data.toList (i+2)<=57343)) :
  rdVal enc s i=.tuple #[.agg #[.int .i64 (Vm.unitAt enc s.data.toList i),.bool (decide (55296<=Vm.unitAt enc s.data.toList i)&&decide (Vm.unitAt enc s.data.toList i<=57343)),.int .i64 0,.int .i64 i,.int .i64 ((i:Int)+2)],.bool true]:=by
 have e:=Vm.len_drop s i
 unfold rdVal Vm.rd
 rw[if_neg (by omega),if_neg (by omega),if_neg (by omega),if_neg (by omega),Vm.unitAt_drop,Vm.unitAt_drop,Nat.add_zero,if_neg (fun x=>hp ⟨x.1,x.2.1,by omega,x.2.2.2⟩)]
 rfl
end Go.Proofs.YtoejbngihecafaaGreatDoor
