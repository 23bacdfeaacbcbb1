import Derived.Test.YtoejbngihecafaaGreatDoorProg
import Derived.WalkKit
import Derived.WalkSpells
import Derived.WalkLawsBesides
import Derived.Deep.QuietTactic
import Derived.BigQuiet
import Derived.Deep.RegionHeld3
import Derived.Laws.BytesArg
import Derived.OwnWalk
import Derived.Maps.AppendAt
import Derived.RangeFuncBox
import Derived.Lib.Strings
import Derived.Lib.IndexBytes
import Derived.Deep.Heap
import Derived.Lib.AppendStr
import Derived.Lib.SlBytesRow
import Derived.Test.YtoejbngihecafaaGreatDoorC2
import Derived.Test.YtoejbngihecafaaGreatDoorC1
import Derived.Test.YtoejbngihecafaaGreatDoorC0
set_option maxRecDepth 100000
set_option maxHeartbeats 4000000
open Go.Proofs.Tryz
namespace Go.Proofs.YtoejbngihecafaaGreatDoor
open Go.RowKit
variable {a b s body t:ByteArray} {W w w' w0:World} {B i base g n cap:Nat} {u0 u1 u2 u3 u4 v v0 v1 v2 u:Value} {enc:Int} {mark:Bool} {x:Vm.At} {p:Option Addr}
theorem Qcr (s:ByteArray) (i:Int) (w:World) (h0:0<=i) :
  Calls prog 176 #[.string s,.int .i64 i] w fun e w'=>e=.returned (.bool (decide (i<s.size)&&(decide (128<=Vm.b0 s.data.toList i.toNat)&&decide (Vm.b0 s.data.toList i.toNat<192))))/\w'=w:=by
 obtain⟨k,rfl⟩:=Int.eq_ofNat_of_zero_le h0
 by_cases h:k<s.size
 ·have hI:(k:Int)<(s.size:Int):=by omega
  rw[Int.toNat_natCast,Vm.QaJ s k h];by_cases h1:128<=(s[k].toNat:Int)
  ·by_cases h2:(s[k].toNat:Int)<192
   ·go_enter func176,ntmps176;go_wp2;go_ret;exact⟨Qbv (by simp;omega),rfl⟩
   go_enter func176,ntmps176;go_wp2;go_ret;exact⟨Qbv (by simp;omega),rfl⟩
  go_enter func176,ntmps176;go_wp2;go_ret;exact⟨Qbv (by simp;omega),rfl⟩
 have hI:¬(k:Int)<(s.size:Int):=by omega
 go_enter func176,ntmps176
 go_wp2
 go_ret
 exact⟨Qbv (by simp),rfl⟩
theorem conv1 (w:World) (a:Int):(convert 92 9 (.slice (some ⟨w.heap.size,0,none⟩) 1 1)).run prog (w.alloc (.cells #[.int .u8 a] 5))=.ok (.string (strOfNums [a])) (w.alloc (.cells #[.int .u8 a] 5)) :=
 run_convert_bytes_arg _ 92 5 underlying92 underlying5 w.heap.size 0 1 1 [a] rfl (fun i hi=>by
  have:i=0:=by omega
  subst this;simp) 9 underlying9
theorem conv2 (w:World) (a b:Int):(convert 92 9 (.slice (some ⟨w.heap.size,0,none⟩) 2 2)).run prog (w.alloc (.cells #[.int .u8 a,.int .u8 b] 5))=.ok (.string (strOfNums [a,b])) (w.alloc (.cells #[.int .u8 a,.int .u8 b] 5)) :=
 run_convert_bytes_arg _ 92 5 underlying92 underlying5 w.heap.size 0 2 2 [a,b] rfl (fun i hi=>by
  have:i=0\/i=1:=by omega
  rcases this with rfl|rfl<;>simp) 9 underlying9
theorem conv3 (w:World) (a b c:Int):(convert 92 9 (.slice (some ⟨w.heap.size,0,none⟩) 3 3)).run prog (w.alloc (.cells #[.int .u8 a,.int .u8 b,.int .u8 c] 5))=.ok (.string (strOfNums [a,b,c])) (w.alloc (.cells #[.int .u8 a,.int .u8 b,.int .u8 c] 5)) :=
 run_convert_bytes_arg _ 92 5 underlying92 underlying5 w.heap.size 0 3 3 [a,b,c] rfl (fun i hi=>by
  have:i=0\/i=1\/i=2:=by omega
  rcases this with rfl|rfl|rfl<;>simp) 9 underlying9
theorem conv4 (w:World) (a b c d:Int):(convert 92 9 (.slice (some ⟨w.heap.size,0,none⟩) 4 4)).run prog (w.alloc (.cells #[.int .u8 a,.int .u8 b,.int .u8 c,.int .u8 d] 5))=.ok (.string (strOfNums [a,b,c,d])) (w.alloc (.cells #[.int .u8 a,.int .u8 b,.int .u8 c,.int .u8 d] 5)) :=
 run_convert_bytes_arg _ 92 5 underlying92 underlying5 w.heap.size 0 4 4 [a,b,c,d] rfl (fun i hi=>by
  have:i=0\/i=1\/i=2\/i=3:=by omega
  rcases this with rfl|rfl|rfl|rfl<;>simp) 9 underlying9
theorem Qee (h:a=b):Ending.returned (.string a)=.returned (.string b):=by rw[h]
theorem QcB (n:Int) (w:World) (h0:0<=n) (hx:n<=2097151) :
  Calls prog 113 #[.int .i64 n] w fun e w'=>e=.returned (.string (strOfNums (Vm.utfL n)))/\Below w.heap.size w w':=by
 have k1:=conv1
 have k2:=conv2
 have k3:=conv3
 have k4:=conv4
 by_cases h1:n<128
 ·go_enter func113,ntmps113;go_wp2;go_ret;exact⟨Qee (by unfold Vm.utfL;rw[if_pos h1]),Z7 _ _⟩
 by_cases h2:n<2048
 ·have e:Vm.utfL n=[192+n / 64,128+n%64]:=by unfold Vm.utfL;rw[if_neg h1,if_pos h2]
  rw[e];clear e;go_enter func113,ntmps113;go_wp2;go_ret;exact⟨rfl,Z7 _ _⟩
 by_cases h3:n<65536
 ·have e:Vm.utfL n=[224+n / 4096,128+n / 64%64,128+n%64]:=by unfold Vm.utfL;rw[if_neg h1,if_neg h2,if_pos h3]
  rw[e];clear e;go_enter func113,ntmps113;go_wp2;go_ret;exact⟨rfl,Z7 _ _⟩
 have e:Vm.utfL n=[240+n / 262144,128+n / 4096%64,128+n / 64%64,128+n%64]:=by unfold Vm.utfL;rw[if_neg h1,if_neg h2,if_neg h3]
 rw[e];clear e
 go_enter func113,ntmps113
 go_wp2
 go_ret
 exact⟨rfl,Z7 _ _⟩
theorem Qbo (n:Int) (w:World) :
  Calls prog 177 #[.int .i64 n] w fun e w'=>e=.returned (.bool (Vm.validB n))/\w'=w:=by
 have hcase:n<0\/(0<=n/\n<=55295)\/(55295<n/\n<57344)\/(57344<=n/\n<=1114111)\/1114111<n:=by omega
 rcases hcase with h|⟨h,h'⟩|⟨h,h'⟩|⟨h,h'⟩|h
 ·have e:Vm.validB n=false:=by simp [Vm.validB];omega
  rw[e];clear e;have g1:¬0<=n:=by omega
  have g2:¬57344<=n:=by omega
  go_enter func177,ntmps177;go_wp2;go_ret;exact⟨rfl,rfl⟩
 ·have e:Vm.validB n=true:=by simp [Vm.validB];omega
  rw[e];clear e;go_enter func177,ntmps177;go_wp2;go_ret;exact⟨rfl,rfl⟩
 ·have e:Vm.validB n=false:=by simp [Vm.validB];omega
  rw[e];clear e;have g1:0<=n:=by omega
  have g2:¬n<=55295:=by omega
  have g3:¬57344<=n:=by omega
  go_enter func177,ntmps177;go_wp2;go_ret;exact⟨rfl,rfl⟩
 ·have e:Vm.validB n=true:=by simp [Vm.validB];omega
  rw[e];clear e;have g1:0<=n:=by omega
  have g2:¬n<=55295:=by omega
  go_enter func177,ntmps177;go_wp2;go_ret;exact⟨rfl,rfl⟩
 have e:Vm.validB n=false:=by simp [Vm.validB];omega
 rw[e];clear e
 have g1:0<=n:=by omega
 have g2:¬n<=55295:=by omega
 have g3:57344<=n:=by omega
 have g4:¬n<=1114111:=by omega
 go_enter func177,ntmps177
 go_wp2
 go_ret
 exact⟨rfl,rfl⟩
theorem Qh8 (s:ByteArray) (i:Nat) (enc:Int) (w:World) (hs:s.size<=1099511627776) (h:i+1<s.size) :
  Calls prog 166 #[.string s,.int .i64 i,.int .i64 enc] w fun e w'=>e=.returned (.int .i64 (Vm.unitAt enc s.data.toList i))/\Below w.heap.size w w':=by
 have hI:(i:Int)+1<(s.size:Int):=by omega
 have hI0:(i:Int)<(s.size:Int):=by omega
 have e1:=s[i].toNat_lt
 have e2:=s[i+1].toNat_lt
 have hwr:IntKind.i64.wrap ((i:Int)+1)=(i:Int)+1:=by rw[IntKind.wrap_i64];omega
 have htn:((i:Int)+1).toNat=i+1:=by omega
 have hw1:IntKind.i64.wrap (s[i].toNat:Int)=(s[i].toNat:Int):=by rw[IntKind.wrap_i64];omega
 have hw2:IntKind.i64.wrap (s[i+1].toNat:Int)=(s[i+1].toNat:Int):=by rw[IntKind.wrap_i64];omega
 by_cases he:enc=1
 ·subst he;have hw3:IntKind.i64.wrap (256 * (s[i+1].toNat:Int))=256 * (s[i+1].toNat:Int):=by rw[IntKind.wrap_i64];omega
  have hw4:IntKind.i64.wrap ((s[i].toNat:Int)+256 * (s[i+1].toNat:Int))=(s[i].toNat:Int)+256 * (s[i+1].toNat:Int):=by rw[IntKind.wrap_i64];omega
  rw[Vm.Qfa,Vm.QaJ s i (by omega),Vm.QaJ s (i+1) h];go_enter func166,ntmps166;go_wp2;go_region_held3 (fun _=>True) (trivial) (fail)
  all_goals (go_wp2;go_ret)
  all_goals exact⟨Qc5 (by omega),(Below.refl _ _).drew⟩
 have he':(enc==1)=false:=by simpa using he
 have hw3:IntKind.i64.wrap (256 * (s[i].toNat:Int))=256 * (s[i].toNat:Int):=by rw[IntKind.wrap_i64];omega
 have hw4:IntKind.i64.wrap (256 * (s[i].toNat:Int)+(s[i+1].toNat:Int))=256 * (s[i].toNat:Int)+(s[i+1].toNat:Int):=by rw[IntKind.wrap_i64];omega
 have hu:Vm.unitAt enc s.data.toList i=256 * (s[i].toNat:Int)+(s[i+1].toNat:Int):=by
  unfold Vm.unitAt;rw[if_neg he,Vm.QaJ s i (by omega),Vm.QaJ s (i+1) h]
 rw[hu];clear hu he
 go_enter func166,ntmps166
 go_wp2
 go_region_held3 (fun _=>True) (trivial) (fail)
 all_goals (go_wp2;go_ret)
 all_goals exact⟨Qc5 (by omega),(Below.refl _ _).drew⟩
theorem Z2 {p:Prop} (h:p):Hid p:=h
theorem QbZ (n:Int):(strOfNums (Vm.utfL n)).size=Vm.utfLen n:=by
 rw[<-Vm.QaS];simp [strOfNums,ByteArray.size]
theorem Qki (
          s:ByteArray) (i:Nat) (w:World) (hs:s.size<=1099511627776) (hi:i<s.size) :
  Calls prog 165 #[.string s,.int .i64 i] w fun e w'=>e=.returned (.tuple #[.int .i64 (Vm.utfRef (s.data.toList.drop i)).1,.int .i64 (Vm.utfRef (s.data.toList.drop i)).2])/\Below w.heap.size w w':=by
 have hb0:Vm.b0 (s.data.toList.drop i) 0=(s[i].toNat:Int):=by rw[Vm.Qa1,Nat.add_zero,Vm.QaJ s i hi]
 have hc:=s[i].toNat_lt;have hI:(i:Int)<(s.size:Int):=by omega
 by_cases c0:(s[i].toNat:Int)<128
 ·have hk:Vm.rk (s[i].toNat:Int)=1:=by unfold Vm.rk;rw[if_pos c0]
  have hp:Vm.rpart (s.data.toList.drop i) 1=(s[i].toNat:Int):=by show Vm.rn0 _=_;rw[hb0];unfold Vm.rn0;rw[if_pos c0]
  have hu0:Vm.utfRef (s.data.toList.drop i)=if Vm.validB (s[i].toNat:Int)=false then (0,0) else if Vm.utfLen (s[i].toNat:Int)=1 then ((s[i].toNat:Int),1) else (0,0):=by
   unfold Vm.utfRef;rw[hb0,hk];simp only[hp];rw[if_neg (by decide),if_neg (by simp [Vm.rok])]
  have HU:=Z2 hu0;have Hb:=Z2 hb0;clear hu0 hb0 hk hp;go_enter func165,ntmps165;go_wp2;refine wp_loop_rounds 1 ?_;rw[rounds_succ];go_wp2_with fail;cases hv:Vm.validB ((s[i].toNat:Int))
  ·have hu:Vm.utfRef (s.data.toList.drop i)=(0,0):=by rw[HU.o,if_pos hv]
   have Hu:=Z2 hu;clear hu;refine (Qbo _ _).mono ?_;rintro e w1 ⟨rfl,rfl⟩;rw[hv];go_wp2;go_ret2;exact⟨by rw[Hu.o];rfl,by first|exact Below.refl _ _|assumption⟩
  have hn:0<=(s[i].toNat:Int)/\(s[i].toNat:Int)<=1114111:=by simp [Vm.validB] at hv;omega
  obtain⟨hn0,hn1⟩:=hn;have hlen:=QbZ ((s[i].toNat:Int));refine (Qbo _ _).mono ?_;rintro e w1 ⟨rfl,rfl⟩;rw[hv];go_wp2_with fail;refine (QcB _ _ hn0 (by omega)).mono ?_;rintro e w2 ⟨rfl,hb2⟩;by_cases hk:Vm.utfLen ((s[i].toNat:Int))=1
  ·have hu:Vm.utfRef (s.data.toList.drop i)=((s[i].toNat:Int),1):=by rw[HU.o,if_neg (by rw[hv];decide),if_pos hk]
   have Hu:=Z2 hu;clear hu;rw[hk] at hlen;have hl2:(((strOfNums (Vm.utfL ((s[i].toNat:Int)))).size:Nat):Int)=1:=by rw[hlen];rfl
   have hl3:((((strOfNums (Vm.utfL ((s[i].toNat:Int)))).size:Nat):Int) != 1)=false:=by rw[hl2];rfl
   have Hk:=Z2 hk;have Hv:=Z2 hv;clear hk hlen hl2 hv;go_wp2;go_ret2;exact⟨by rw[Hu.o];rfl,by first|exact hb2|exact Below.trans (by assumption) (hb2.mono (Below.size (by assumption)))⟩
  have hu:Vm.utfRef (s.data.toList.drop i)=(0,0):=by rw[HU.o,if_neg (by rw[hv];decide),if_neg hk]
  have Hu:=Z2 hu;clear hu;have hl3:((((strOfNums (Vm.utfL ((s[i].toNat:Int)))).size:Nat):Int) != 1)=true:=by rw[bne_iff_ne,hlen];omega
  have Hk:=Z2 hk;have Hv:=Z2 hv;clear hk hlen hv;go_wp2;go_ret2;exact⟨by rw[Hu.o];rfl,by first|exact hb2|exact Below.trans (by assumption) (hb2.mono (Below.size (by assumption)))⟩
 by_cases c1:(s[i].toNat:Int)<192
 ·have hu:Vm.utfRef (s.data.toList.drop i)=(0,0):=by
   unfold Vm.utfRef;rw[hb0,if_pos (by unfold Vm.rk;rw[if_neg c0,if_pos c1])]
  rw[hu];clear hu hb0;go_enter func165,ntmps165;go_wp2;go_ret2;exact⟨rfl,Below.refl _ _⟩
 by_cases c2:(s[i].toNat:Int)<224
 ·have hk:Vm.rk (s[i].toNat:Int)=2:=by unfold Vm.rk;rw[if_neg c0,if_neg c1,if_pos c2]
  have hp1:Vm.rpart (s.data.toList.drop i) 1=(s[i].toNat:Int) - 192:=by show Vm.rn0 _=_;rw[hb0];unfold Vm.rn0;rw[if_neg c0,if_pos c2]
  have hkn:Vm.rk (Vm.b0 (s.data.toList.drop i) 0)≠0:=by rw[hb0,hk];decide
  have hu0:Vm.utfRef (s.data.toList.drop i)=if Vm.rok (s.data.toList.drop i) (2 - 1)=false then (0,0) else if Vm.validB (Vm.rpart (s.data.toList.drop i) 2)=false then (0,0) else if Vm.utfLen (Vm.rpart (s.data.toList.drop i) 2)=2 then (Vm.rpart (s.data.toList.drop i) 2,2) else (0,0):=by
   unfold Vm.utfRef;rw[hb0,hk,if_neg (by decide)]
  have HU0:=Z2 hu0;have HP1:=Z2 hp1;have HK:=Z2 hk;have Hb:=Z2 hb0;have HKN:=Z2 hkn;clear hu0 hp1 hk hb0 hkn;go_enter func165,ntmps165;go_wp2;go_loopw [7,9] (fun n j wx=>∃q:Nat,1<=q/\q<=2/\j=.int .i64 q/\n=.int .i64 (Vm.rpart (s.data.toList.drop i) q)/\Vm.rok (s.data.toList.drop i) (q - 1)=true/\Below w.heap.size w wx) (fun _ j _=>2 - (intOf j).toNat)
  case atStart=>exact⟨1,Z6 _,by omega,rfl,by rw[HP1.o],rfl,Below.refl _ _⟩
  case round =>
   obtain⟨q,hq1,hq2,rfl,rfl,hok,hbx⟩:=hrel;have hpv:=Vm.Qg1 (l:=s.data.toList.drop i) (k:=q) (by omega) hq1 HKN.o hok;have Hok:=Z2 hok;clear hok;by_cases hlt:q<2
   ·have hltI:(q:Int)<2:=by omega
    have hqi:((i:Int)+(q:Int)).toNat=i+q:=by omega
    have hcb:=Vm.QgO (b:=s) (k:=i) (j:=q);rw[Int.natCast_add] at hcb;cases hcv:Vm.contB (s.data.toList.drop i) q
    ·rw[hcv] at hcb;have Hcb:=Z2 hcb;clear hcb;go_wp2_with fail;refine (Qcr s _ _ (by omega)).mono ?_;rintro e w1 ⟨rfl,rfl⟩;rw[hqi,<-Hcb.o];go_wp2;go_ret2;exact⟨by rw[HU0.o,if_pos (Vm.QdN hq1 (by omega) hcv)];rfl,hbx⟩
    rw[hcv] at hcb;have Hcb:=Z2 hcb;obtain⟨hc1,hc2,hc3⟩:=Vm.QbN hcv;rw[Vm.QaD] at hc1;have hin:i+q<s.size:=by omega
    have hinI:(i:Int)+(q:Int)<(s.size:Int):=by omega
    rw[Vm.Qa1,Vm.QaJ s (i+q) hin] at hc2 hc3;have Hcv:=Z2 hcv;clear hcb hcv;go_wp2_with fail;refine (Qcr s _ _ (by omega)).mono ?_;rintro e w1 ⟨rfl,rfl⟩;rw[hqi,<-Hcb.o];go_wp2;refine⟨⟨q+1,by omega,by omega,by go_num,?_,?_,hbx⟩,by simp [intOf];omega⟩
    ·rw[Vm.Qa7 _ _ hq1,Vm.Qa1,Vm.QaJ s (i+q) hin]
    simp only[Nat.add_sub_cancel];exact Vm.QgR hq1 Hok.o Hcv.o
   obtain rfl:q=2:=by omega
   have HU:Hid (Vm.utfRef (s.data.toList.drop i)=if Vm.validB (Vm.rpart (s.data.toList.drop i) 2)=false then (0,0) else if Vm.utfLen (Vm.rpart (s.data.toList.drop i) 2)=2 then (Vm.rpart (s.data.toList.drop i) 2,2) else (0,0)):=by
    show _=_;rw[HU0.o,if_neg];rw[Hok.o];decide
   go_wp2_with fail;cases hv:Vm.validB (Vm.rpart (s.data.toList.drop i) 2)
   ·have hu:Vm.utfRef (s.data.toList.drop i)=(0,0):=by rw[HU.o,if_pos hv]
    have Hu:=Z2 hu;clear hu;refine (Qbo _ _).mono ?_;rintro e w1 ⟨rfl,rfl⟩;rw[hv];go_wp2;go_ret2;exact⟨by rw[Hu.o];rfl,by first|exact Below.refl _ _|assumption⟩
   have hn:0<=Vm.rpart (s.data.toList.drop i) 2/\Vm.rpart (s.data.toList.drop i) 2<=1114111:=by simp [Vm.validB] at hv;omega
   obtain⟨hn0,hn1⟩:=hn;have hlen:=QbZ (Vm.rpart (s.data.toList.drop i) 2);refine (Qbo _ _).mono ?_;rintro e w1 ⟨rfl,rfl⟩;rw[hv];go_wp2_with fail;refine (QcB _ _ hn0 (by omega)).mono ?_;rintro e w2 ⟨rfl,hb2⟩;by_cases hk:Vm.utfLen (Vm.rpart (s.data.toList.drop i) 2)=2
   ·have hu:Vm.utfRef (s.data.toList.drop i)=(Vm.rpart (s.data.toList.drop i) 2,2):=by rw[HU.o,if_neg (by rw[hv];decide),if_pos hk]
    have Hu:=Z2 hu;clear hu;rw[hk] at hlen;have hl2:(((strOfNums (Vm.utfL (Vm.rpart (s.data.toList.drop i) 2))).size:Nat):Int)=2:=by rw[hlen];rfl
    have hl3:((((strOfNums (Vm.utfL (Vm.rpart (s.data.toList.drop i) 2))).size:Nat):Int) != 2)=false:=by rw[hl2];rfl
    have Hk:=Z2 hk;have Hv:=Z2 hv;clear hk hlen hl2 hv;go_wp2;go_ret2;exact⟨by rw[Hu.o];rfl,by first|exact hb2|exact Below.trans (by assumption) (hb2.mono (Below.size (by assumption)))⟩
   have hu:Vm.utfRef (s.data.toList.drop i)=(0,0):=by rw[HU.o,if_neg (by rw[hv];decide),if_neg hk]
   have Hu:=Z2 hu;clear hu;have hl3:((((strOfNums (Vm.utfL (Vm.rpart (s.data.toList.drop i) 2))).size:Nat):Int) != 2)=true:=by rw[bne_iff_ne,hlen];omega
   have Hk:=Z2 hk;have Hv:=Z2 hv;clear hk hlen hv;go_wp2;go_ret2;exact⟨by rw[Hu.o];rfl,by first|exact hb2|exact Below.trans (by assumption) (hb2.mono (Below.size (by assumption)))⟩
 by_cases c3:(s[i].toNat:Int)<240
 ·have hk:Vm.rk (s[i].toNat:Int)=3:=by unfold Vm.rk;rw[if_neg c0,if_neg c1,if_neg c2,if_pos c3]
  have hp1:Vm.rpart (s.data.toList.drop i) 1=(s[i].toNat:Int) - 224:=by show Vm.rn0 _=_;rw[hb0];unfold Vm.rn0;rw[if_neg c0,if_neg c2,if_pos c3]
  have hkn:Vm.rk (Vm.b0 (s.data.toList.drop i) 0)≠0:=by rw[hb0,hk];decide
  have hu0:Vm.utfRef (s.data.toList.drop i)=if Vm.rok (s.data.toList.drop i) (3 - 1)=false then (0,0) else if Vm.validB (Vm.rpart (s.data.toList.drop i) 3)=false then (0,0) else if Vm.utfLen (Vm.rpart (s.data.toList.drop i) 3)=3 then (Vm.rpart (s.data.toList.drop i) 3,3) else (0,0):=by
   unfold Vm.utfRef;rw[hb0,hk,if_neg (by decide)]
  have HU0:=Z2 hu0;have HP1:=Z2 hp1;have HK:=Z2 hk;have Hb:=Z2 hb0;have HKN:=Z2 hkn;clear hu0 hp1 hk hb0 hkn;go_enter func165,ntmps165;go_wp2;go_loopw [7,9] (fun n j wx=>∃q:Nat,1<=q/\q<=3/\j=.int .i64 q/\n=.int .i64 (Vm.rpart (s.data.toList.drop i) q)/\Vm.rok (s.data.toList.drop i) (q - 1)=true/\Below w.heap.size w wx) (fun _ j _=>3 - (intOf j).toNat)
  case atStart=>exact⟨1,Z6 _,by omega,rfl,by rw[HP1.o],rfl,Below.refl _ _⟩
  case round =>
   obtain⟨q,hq1,hq2,rfl,rfl,hok,hbx⟩:=hrel;have hpv:=Vm.Qg1 (l:=s.data.toList.drop i) (k:=q) (by omega) hq1 HKN.o hok;have Hok:=Z2 hok;clear hok;by_cases hlt:q<3
   ·have hltI:(q:Int)<3:=by omega
    have hqi:((i:Int)+(q:Int)).toNat=i+q:=by omega
    have hcb:=Vm.QgO (b:=s) (k:=i) (j:=q);rw[Int.natCast_add] at hcb;cases hcv:Vm.contB (s.data.toList.drop i) q
    ·rw[hcv] at hcb;have Hcb:=Z2 hcb;clear hcb;go_wp2_with fail;refine (Qcr s _ _ (by omega)).mono ?_;rintro e w1 ⟨rfl,rfl⟩;rw[hqi,<-Hcb.o];go_wp2;go_ret2;exact⟨by rw[HU0.o,if_pos (Vm.QdN hq1 (by omega) hcv)];rfl,hbx⟩
    rw[hcv] at hcb;have Hcb:=Z2 hcb;obtain⟨hc1,hc2,hc3⟩:=Vm.QbN hcv;rw[Vm.QaD] at hc1;have hin:i+q<s.size:=by omega
    have hinI:(i:Int)+(q:Int)<(s.size:Int):=by omega
    rw[Vm.Qa1,Vm.QaJ s (i+q) hin] at hc2 hc3;have Hcv:=Z2 hcv;clear hcb hcv;go_wp2_with fail;refine (Qcr s _ _ (by omega)).mono ?_;rintro e w1 ⟨rfl,rfl⟩;rw[hqi,<-Hcb.o];go_wp2;refine⟨⟨q+1,by omega,by omega,by go_num,?_,?_,hbx⟩,by simp [intOf];omega⟩
    ·rw[Vm.Qa7 _ _ hq1,Vm.Qa1,Vm.QaJ s (i+q) hin]
    simp only[Nat.add_sub_cancel];exact Vm.QgR hq1 Hok.o Hcv.o
   obtain rfl:q=3:=by omega
   have HU:Hid (Vm.utfRef (s.data.toList.drop i)=if Vm.validB (Vm.rpart (s.data.toList.drop i) 3)=false then (0,0) else if Vm.utfLen (Vm.rpart (s.data.toList.drop i) 3)=3 then (Vm.rpart (s.data.toList.drop i) 3,3) else (0,0)):=by
    show _=_;rw[HU0.o,if_neg];rw[Hok.o];decide
   go_wp2_with fail;cases hv:Vm.validB (Vm.rpart (s.data.toList.drop i) 3)
   ·have hu:Vm.utfRef (s.data.toList.drop i)=(0,0):=by rw[HU.o,if_pos hv]
    have Hu:=Z2 hu;clear hu;refine (Qbo _ _).mono ?_;rintro e w1 ⟨rfl,rfl⟩;rw[hv];go_wp2;go_ret2;exact⟨by rw[Hu.o];rfl,by first|exact Below.refl _ _|assumption⟩
   have hn:0<=Vm.rpart (s.data.toList.drop i) 3/\Vm.rpart (s.data.toList.drop i) 3<=1114111:=by simp [Vm.validB] at hv;omega
   obtain⟨hn0,hn1⟩:=hn;have hlen:=QbZ (Vm.rpart (s.data.toList.drop i) 3);refine (Qbo _ _).mono ?_;rintro e w1 ⟨rfl,rfl⟩;rw[hv];go_wp2_with fail;refine (QcB _ _ hn0 (by omega)).mono ?_;rintro e w2 ⟨rfl,hb2⟩;by_cases hk:Vm.utfLen (Vm.rpart (s.data.toList.drop i) 3)=3
   ·have hu:Vm.utfRef (s.data.toList.drop i)=(Vm.rpart (s.data.toList.drop i) 3,3):=by rw[HU.o,if_neg (by rw[hv];decide),if_pos hk]
    have Hu:=Z2 hu;clear hu;rw[hk] at hlen;have hl2:(((strOfNums (Vm.utfL (Vm.rpart (s.data.toList.drop i) 3))).size:Nat):Int)=3:=by rw[hlen];rfl
    have hl3:((((strOfNums (Vm.utfL (Vm.rpart (s.data.toList.drop i) 3))).size:Nat):Int) != 3)=false:=by rw[hl2];rfl
    have Hk:=Z2 hk;have Hv:=Z2 hv;clear hk hlen hl2 hv;go_wp2;go_ret2;exact⟨by rw[Hu.o];rfl,by first|exact hb2|exact Below.trans (by assumption) (hb2.mono (Below.size (by assumption)))⟩
   have hu:Vm.utfRef (s.data.toList.drop i)=(0,0):=by rw[HU.o,if_neg (by rw[hv];decide),if_neg hk]
   have Hu:=Z2 hu;clear hu;have hl3:((((strOfNums (Vm.utfL (Vm.rpart (s.data.toList.drop i) 3))).size:Nat):Int) != 3)=true:=by rw[bne_iff_ne,hlen];omega
   have Hk:=Z2 hk;have Hv:=Z2 hv;clear hk hlen hv;go_wp2;go_ret2;exact⟨by rw[Hu.o];rfl,by first|exact hb2|exact Below.trans (by assumption) (hb2.mono (Below.size (by assumption)))⟩
 by_cases c4:(s[i].toNat:Int)<248
 ·have hk:Vm.rk (s[i].toNat:Int)=4:=by unfold Vm.rk;rw[if_neg c0,if_neg c1,if_neg c2,if_neg c3,if_pos c4]
  have hp1:Vm.rpart (s.data.toList.drop i) 1=(s[i].toNat:Int) - 240:=by show Vm.rn0 _=_;rw[hb0];unfold Vm.rn0;rw[if_neg c0,if_neg c2,if_neg c3]
  have hkn:Vm.rk (Vm.b0 (s.data.toList.drop i) 0)≠0:=by rw[hb0,hk];decide
  have hu0:Vm.utfRef (s.data.toList.drop i)=if Vm.rok (s.data.toList.drop i) (4 - 1)=false then (0,0) else if Vm.validB (Vm.rpart (s.data.toList.drop i) 4)=false then (0,0) else if Vm.utfLen (Vm.rpart (s.data.toList.drop i) 4)=4 then (Vm.rpart (s.data.toList.drop i) 4,4) else (0,0):=by
   unfold Vm.utfRef;rw[hb0,hk,if_neg (by decide)]
  have HU0:=Z2 hu0;have HP1:=Z2 hp1;have HK:=Z2 hk;have Hb:=Z2 hb0;have HKN:=Z2 hkn;clear hu0 hp1 hk hb0 hkn;go_enter func165,ntmps165;go_wp2;go_loopw [7,9] (fun n j wx=>∃q:Nat,1<=q/\q<=4/\j=.int .i64 q/\n=.int .i64 (Vm.rpart (s.data.toList.drop i) q)/\Vm.rok (s.data.toList.drop i) (q - 1)=true/\Below w.heap.size w wx) (fun _ j _=>4 - (intOf j).toNat)
  case atStart=>exact⟨1,Z6 _,by omega,rfl,by rw[HP1.o],rfl,Below.refl _ _⟩
  case round =>
   obtain⟨q,hq1,hq2,rfl,rfl,hok,hbx⟩:=hrel;have hpv:=Vm.Qg1 (l:=s.data.toList.drop i) (k:=q) (by omega) hq1 HKN.o hok;have Hok:=Z2 hok;clear hok;by_cases hlt:q<4
   ·have hltI:(q:Int)<4:=by omega
    have hqi:((i:Int)+(q:Int)).toNat=i+q:=by omega
    have hcb:=Vm.QgO (b:=s) (k:=i) (j:=q);rw[Int.natCast_add] at hcb;cases hcv:Vm.contB (s.data.toList.drop i) q
    ·rw[hcv] at hcb;have Hcb:=Z2 hcb;clear hcb;go_wp2_with fail;refine (Qcr s _ _ (by omega)).mono ?_;rintro e w1 ⟨rfl,rfl⟩;rw[hqi,<-Hcb.o];go_wp2;go_ret2;exact⟨by rw[HU0.o,if_pos (Vm.QdN hq1 (by omega) hcv)];rfl,hbx⟩
    rw[hcv] at hcb;have Hcb:=Z2 hcb;obtain⟨hc1,hc2,hc3⟩:=Vm.QbN hcv;rw[Vm.QaD] at hc1;have hin:i+q<s.size:=by omega
    have hinI:(i:Int)+(q:Int)<(s.size:Int):=by omega
    rw[Vm.Qa1,Vm.QaJ s (i+q) hin] at hc2 hc3;have Hcv:=Z2 hcv;clear hcb hcv;go_wp2_with fail;refine (Qcr s _ _ (by omega)).mono ?_;rintro e w1 ⟨rfl,rfl⟩;rw[hqi,<-Hcb.o];go_wp2;refine⟨⟨q+1,by omega,by omega,by go_num,?_,?_,hbx⟩,by simp [intOf];omega⟩
    ·rw[Vm.Qa7 _ _ hq1,Vm.Qa1,Vm.QaJ s (i+q) hin]
    simp only[Nat.add_sub_cancel];exact Vm.QgR hq1 Hok.o Hcv.o
   obtain rfl:q=4:=by omega
   have HU:Hid (Vm.utfRef (s.data.toList.drop i)=if Vm.validB (Vm.rpart (s.data.toList.drop i) 4)=false then (0,0) else if Vm.utfLen (Vm.rpart (s.data.toList.drop i) 4)=4 then (Vm.rpart (s.data.toList.drop i) 4,4) else (0,0)):=by
    show _=_;rw[HU0.o,if_neg];rw[Hok.o];decide
   go_wp2_with fail;cases hv:Vm.validB (Vm.rpart (s.data.toList.drop i) 4)
   ·have hu:Vm.utfRef (s.data.toList.drop i)=(0,0):=by rw[HU.o,if_pos hv]
    have Hu:=Z2 hu;clear hu;refine (Qbo _ _).mono ?_;rintro e w1 ⟨rfl,rfl⟩;rw[hv];go_wp2;go_ret2;exact⟨by rw[Hu.o];rfl,by first|exact Below.refl _ _|assumption⟩
   have hn:0<=Vm.rpart (s.data.toList.drop i) 4/\Vm.rpart (s.data.toList.drop i) 4<=1114111:=by simp [Vm.validB] at hv;omega
   obtain⟨hn0,hn1⟩:=hn;have hlen:=QbZ (Vm.rpart (s.data.toList.drop i) 4);refine (Qbo _ _).mono ?_;rintro e w1 ⟨rfl,rfl⟩;rw[hv];go_wp2_with fail;refine (QcB _ _ hn0 (by omega)).mono ?_;rintro e w2 ⟨rfl,hb2⟩;by_cases hk:Vm.utfLen (Vm.rpart (s.data.toList.drop i) 4)=4
   ·have hu:Vm.utfRef (s.data.toList.drop i)=(Vm.rpart (s.data.toList.drop i) 4,4):=by rw[HU.o,if_neg (by rw[hv];decide),if_pos hk]
    have Hu:=Z2 hu;clear hu;rw[hk] at hlen;have hl2:(((strOfNums (Vm.utfL (Vm.rpart (s.data.toList.drop i) 4))).size:Nat):Int)=4:=by rw[hlen];rfl
    have hl3:((((strOfNums (Vm.utfL (Vm.rpart (s.data.toList.drop i) 4))).size:Nat):Int) != 4)=false:=by rw[hl2];rfl
    have Hk:=Z2 hk;have Hv:=Z2 hv;clear hk hlen hl2 hv;go_wp2;go_ret2;exact⟨by rw[Hu.o];rfl,by first|exact hb2|exact Below.trans (by assumption) (hb2.mono (Below.size (by assumption)))⟩
   have hu:Vm.utfRef (s.data.toList.drop i)=(0,0):=by rw[HU.o,if_neg (by rw[hv];decide),if_neg hk]
   have Hu:=Z2 hu;clear hu;have hl3:((((strOfNums (Vm.utfL (Vm.rpart (s.data.toList.drop i) 4))).size:Nat):Int) != 4)=true:=by rw[bne_iff_ne,hlen];omega
   have Hk:=Z2 hk;have Hv:=Z2 hv;clear hk hlen hv;go_wp2;go_ret2;exact⟨by rw[Hu.o];rfl,by first|exact hb2|exact Below.trans (by assumption) (hb2.mono (Below.size (by assumption)))⟩
 have hu:Vm.utfRef (s.data.toList.drop i)=(0,0):=by
  unfold Vm.utfRef;rw[hb0,if_pos (by unfold Vm.rk;rw[if_neg c0,if_neg c1,if_neg c2,if_neg c3,if_neg c4])]
 rw[hu];clear hu hb0;go_enter func165,ntmps165;go_wp2;go_ret2;exact⟨rfl,Below.refl _ _⟩
theorem bcell {w1:World} (hb:Below W.heap.size W w1):(∀b o,b<W.heap.size->w1.cell? ⟨b,o,none⟩=W.cell? ⟨b,o,none⟩)/\(∀b o,b<W.heap.size->w1.frozen? ⟨b,o,none⟩=W.frozen? ⟨b,o,none⟩) :=
 ⟨fun b o h=>hb.cell (p:=⟨b,o,none⟩) h,fun b o h=>hb.frozen (p:=⟨b,o,none⟩) h⟩
theorem sc_ne (W:World) (B i j:Nat) (v:Value) (h:i≠j):(W.setCell ⟨B,i,none⟩ v).cell? ⟨B,j,none⟩=W.cell? ⟨B,j,none⟩:=by
 apply World.cell?_setCell_other;intro e;injection e with e1 e2
 exact h e2
theorem sc_eq (W:World) (B i:Nat) (v u:Value) (h:W.cell? ⟨B,i,none⟩=some u):(W.setCell ⟨B,i,none⟩ v).cell? ⟨B,i,none⟩=some v:=World.cell?_setCell_same' W _ v (by rw[h];rfl)
theorem QbO (v0 v1 v2 v3 v4:Value)
  (h:W.cell? ⟨B,0,none⟩=some u0/\W.cell? ⟨B,1,none⟩=some u1/\W.cell? ⟨B,2,none⟩=some u2/\W.cell? ⟨B,3,none⟩=some u3/\W.cell? ⟨B,4,none⟩=some u4) :
  (((((W.setCell ⟨B,0,none⟩ v0).setCell ⟨B,1,none⟩ v1).setCell ⟨B,2,none⟩ v2).setCell ⟨B,3,none⟩ v3).setCell ⟨B,4,none⟩ v4).cell? ⟨B,0,none⟩=some v0 /\
  (((((W.setCell ⟨B,0,none⟩ v0).setCell ⟨B,1,none⟩ v1).setCell ⟨B,2,none⟩ v2).setCell ⟨B,3,none⟩ v3).setCell ⟨B,4,none⟩ v4).cell? ⟨B,1,none⟩=some v1 /\
  (((((W.setCell ⟨B,0,none⟩ v0).setCell ⟨B,1,none⟩ v1).setCell ⟨B,2,none⟩ v2).setCell ⟨B,3,none⟩ v3).setCell ⟨B,4,none⟩ v4).cell? ⟨B,2,none⟩=some v2 /\
  (((((W.setCell ⟨B,0,none⟩ v0).setCell ⟨B,1,none⟩ v1).setCell ⟨B,2,none⟩ v2).setCell ⟨B,3,none⟩ v3).setCell ⟨B,4,none⟩ v4).cell? ⟨B,3,none⟩=some v3 /\
  (((((W.setCell ⟨B,0,none⟩ v0).setCell ⟨B,1,none⟩ v1).setCell ⟨B,2,none⟩ v2).setCell ⟨B,3,none⟩ v3).setCell ⟨B,4,none⟩ v4).cell? ⟨B,4,none⟩=some v4:=by
 obtain⟨h0,h1,h2,h3,h4⟩:=h
 refine⟨?_,?_,?_,?_,?_⟩
 ·rw[sc_ne _ _ 4 0 _ (by decide),sc_ne _ _ 3 0 _ (by decide),sc_ne _ _ 2 0 _ (by decide),sc_ne _ _ 1 0 _ (by decide),sc_eq _ _ 0 _ u0 h0]
 ·rw[sc_ne _ _ 4 1 _ (by decide),sc_ne _ _ 3 1 _ (by decide),sc_ne _ _ 2 1 _ (by decide),sc_eq _ _ 1 _ u1 (by rw[sc_ne _ _ 0 1 _ (by decide)];exact h1)]
 ·rw[sc_ne _ _ 4 2 _ (by decide),sc_ne _ _ 3 2 _ (by decide),sc_eq _ _ 2 _ u2 (by rw[sc_ne _ _ 1 2 _ (by decide),sc_ne _ _ 0 2 _ (by decide)];exact h2)]
 ·rw[sc_ne _ _ 4 3 _ (by decide),sc_eq _ _ 3 _ u3 (by rw[sc_ne _ _ 2 3 _ (by decide),sc_ne _ _ 1 3 _ (by decide),sc_ne _ _ 0 3 _ (by decide)];exact h3)]
 rw[sc_eq _ _ 4 _ u4 (by rw[sc_ne _ _ 3 4 _ (by decide),sc_ne _ _ 2 4 _ (by decide),sc_ne _ _ 1 4 _ (by decide),sc_ne _ _ 0 4 _ (by decide)];exact h4)]
theorem Qa6 (v0 v1 v2 v3 v4:Value) (h:Below w.heap.size w W) (hB:w.heap.size<=B) :
  Below w.heap.size w (((((W.setCell ⟨B,0,none⟩ v0).setCell ⟨B,1,none⟩ v1).setCell ⟨B,2,none⟩ v2).setCell ⟨B,3,none⟩ v3).setCell ⟨B,4,none⟩ v4) :=
 ((((h.setCell (p:=⟨B,0,none⟩) hB _).setCell (p:=⟨B,1,none⟩) hB _).setCell (p:=⟨B,2,none⟩) hB _).setCell (p:=⟨B,3,none⟩) hB _).setCell (p:=⟨B,4,none⟩) hB _
theorem QaG {C o:Nat} (hne:C≠B)
  (h:W.cell? ⟨B,0,none⟩=some u0/\W.cell? ⟨B,1,none⟩=some u1/\W.cell? ⟨B,2,none⟩=some u2/\W.cell? ⟨B,3,none⟩=some u3/\W.cell? ⟨B,4,none⟩=some u4) :
  (W.setCell ⟨C,o,none⟩ v).cell? ⟨B,0,none⟩=some u0/\(W.setCell ⟨C,o,none⟩ v).cell? ⟨B,1,none⟩=some u1/\(W.setCell ⟨C,o,none⟩ v).cell? ⟨B,2,none⟩=some u2/\(W.setCell ⟨C,o,none⟩ v).cell? ⟨B,3,none⟩=some u3/\(W.setCell ⟨C,o,none⟩ v).cell? ⟨B,4,none⟩=some u4:=by
 have g:∀p,(W.setCell ⟨C,o,none⟩ v).cell? ⟨B,p,none⟩=W.cell? ⟨B,p,none⟩:=fun p=>World.cell?_setCell_far W _ _ v hne
 exact⟨(g _).trans h.1,(g _).trans h.2.1,(g _).trans h.2.2.1,(g _).trans h.2.2.2.1,(g _).trans h.2.2.2.2⟩
def rdVal (enc:Int) (s:ByteArray) (i:Nat):Value :=
 match Vm.rd enc (s.data.toList.drop i) with
 |none=>.tuple #[.agg #[.int .i64 0,.bool false,.int .i64 0,.int .i64 i,.int .i64 ((i:Int)+1)],.bool false]
 |some x=>.tuple #[.agg #[.int .i64 x.1,.bool x.2.1,.int .i64 0,.int .i64 i,.int .i64 ((i:Int)+x.2.2)],.bool true]
theorem Qje (s:ByteArray) (i:Nat) (w:World) (hs:s.size<=1099511627776) (hi:i<s.size) :
  Calls prog 141 #[.string s,.int .i64 i,.int .i64 3] w fun e w'=>e=.returned (rdVal 3 s i)/\Below w.heap.size w w':=by
 have hI:(i:Int)<(s.size:Int):=by omega
 have hc:=s[i].toNat_lt
 have e:rdVal 3 s i=.tuple #[.agg #[.int .i64 (s[i].toNat:Int),.bool false,.int .i64 0,.int .i64 i,.int .i64 ((i:Int)+1)],.bool true]:=by
  have e:=Vm.QaD s i;unfold rdVal Vm.rd;rw[if_neg (by omega),if_pos rfl,Vm.Qa1,Nat.add_zero,Vm.QaJ s i hi];rfl
 rw[e];clear e
 go_enter func141,ntmps141
 go_wp2
 exact bodyPost_ret (v:=.tuple #[.agg #[.int .i64 (s[i].toNat:Int),.bool false,.int .i64 0,.int .i64 i,.int .i64 ((i:Int)+1)],.bool true]) (by simp [results,Tryz.results141,go_sem]) rfl ⟨rfl,(Z7 _ _).alloc (by simp) _⟩
theorem Qlt (s:ByteArray) (i:Nat) (w:World) (hs:s.size<=1099511627776) (hi:i<s.size) :
  Calls prog 141 #[.string s,.int .i64 i,.int .i64 0] w fun e w'=>e=.returned (rdVal 0 s i)/\Below w.heap.size w w':=by
 have hI:(i:Int)<(s.size:Int):=by omega
 have hc:=s[i].toNat_lt
 have e:rdVal 0 s i=if (Vm.utfRef (s.data.toList.drop i)).2=0 then .tuple #[.agg #[.int .i64 0,.bool true,.int .i64 0,.int .i64 i,.int .i64 ((i:Int)+1)],.bool true]
   else .tuple #[.agg #[.int .i64 (Vm.utfRef (s.data.toList.drop i)).1,.bool false,.int .i64 0,.int .i64 i,.int .i64 ((i:Int)+(Vm.utfRef (s.data.toList.drop i)).2)],.bool true]:=by
  have e:=Vm.QaD s i
  unfold rdVal Vm.rd
  rw[if_neg (by omega),if_neg (by decide),if_pos rfl]
  split
  ·rename_i h;split at h<;>simp at h
  rename_i x h
  split at h
  ·rename_i h2;cases h;rw[if_pos h2];rfl
  rename_i h2;cases h;rw[if_neg h2]
 have hle:=Vm.Qlo (s.data.toList.drop i)
 have hca:=Qki s i
 generalize Vm.utfRef (s.data.toList.drop i)=u at *
 obtain⟨n,k⟩:=u
 simp only at hle hca e
 have Hca:=Z2 hca
 clear hca
 by_cases hk:k=0
 ·subst hk;rw[e,if_pos rfl];clear e;go_enter func141,ntmps141;go_wp2_with fail;refine (Hca.o _ hs hi).mono ?_;rintro e w2 ⟨rfl,hb2⟩;obtain⟨hc2,hf2⟩:=bcell hb2;simp only[World.size_alloc] at hc2 hf2;have hz2:=hb2.size;simp only[World.size_alloc] at hz2
  have z:w2.cell? ⟨w.heap.size,0,none⟩=some (.int .i64 0)/\w2.cell? ⟨w.heap.size,1,none⟩=some (.bool false)/\w2.cell? ⟨w.heap.size,2,none⟩=some (.int .i64 0)/\w2.cell? ⟨w.heap.size,3,none⟩=some (.int .i64 0)/\w2.cell? ⟨w.heap.size,4,none⟩=some (.int .i64 0) :=
   ⟨(hc2 _ _ (by omega)).trans (by simp),(hc2 _ _ (by omega)).trans (by simp),(hc2 _ _ (by omega)).trans (by simp),(hc2 _ _ (by omega)).trans (by simp),(hc2 _ _ (by omega)).trans (by simp)⟩
  have hbw:Below w.heap.size w w2:=((Z7 _ _).alloc (by simp) _).trans (hb2.mono (by simp;omega));have Z:=Z2 z;clear z;go_wp2;have z:=Z.o
  exact bodyPost_ret (v:=.tuple #[.agg #[.int .i64 0,.bool true,.int .i64 0,.int .i64 i,.int .i64 ((i:Int)+1)],.bool true]) (by
   have z5:=QaG (C:=w.heap.size+1) (o:=1) (v:=.bool true) (by omega) z;obtain⟨q0,q1,q2,q3,q4⟩:=QbO (.int .i64 0) (.bool true) (.int .i64 0) (.int .i64 i) (.int .i64 ((i:Int)+1)) z5
   simp [results,Tryz.results141,go_sem,q0,q1,q2,q3,q4]) rfl ⟨rfl,Qa6 _ _ _ _ _ (hbw.setCell (p:=⟨w.heap.size+1,1,none⟩) (Nat.le_succ _) _) (Z6 _)⟩
 have hk':((k:Int)==0)=false:=by rw[beq_eq_false_iff_ne];omega
 rw[e,if_neg hk];clear e
 go_enter func141,ntmps141
 go_wp2_with fail
 refine (Hca.o _ hs hi).mono ?_
 rintro e w2 ⟨rfl,hb2⟩
 obtain⟨hc2,hf2⟩:=bcell hb2
 simp only[World.size_alloc] at hc2 hf2
 have hz2:=hb2.size
 simp only[World.size_alloc] at hz2
 have z:w2.cell? ⟨w.heap.size,0,none⟩=some (.int .i64 0)/\w2.cell? ⟨w.heap.size,1,none⟩=some (.bool false)/\w2.cell? ⟨w.heap.size,2,none⟩=some (.int .i64 0)/\w2.cell? ⟨w.heap.size,3,none⟩=some (.int .i64 0)/\w2.cell? ⟨w.heap.size,4,none⟩=some (.int .i64 0) :=
  ⟨(hc2 _ _ (by omega)).trans (by simp),(hc2 _ _ (by omega)).trans (by simp),(hc2 _ _ (by omega)).trans (by simp),(hc2 _ _ (by omega)).trans (by simp),(hc2 _ _ (by omega)).trans (by simp)⟩
 have hbw:Below w.heap.size w w2:=((Z7 _ _).alloc (by simp) _).trans (hb2.mono (by simp;omega))
 have Z:=Z2 z
 clear z
 go_wp2
 have z:=Z.o
 exact bodyPost_ret (v:=.tuple #[.agg #[.int .i64 n,.bool false,.int .i64 0,.int .i64 i,.int .i64 ((i:Int)+k)],.bool true]) (by
  have z5:=QaG (C:=w.heap.size+1) (o:=4) (v:=.int .i64 ((i:Int)+k)) (by omega) (QaG (C:=w.heap.size+1) (o:=0) (v:=.int .i64 n) (by omega) z);obtain⟨q0,q1,q2,q3,q4⟩:=QbO (.int .i64 n) (.bool false) (.int .i64 0) (.int .i64 i) (.int .i64 ((i:Int)+k)) z5
  simp [results,Tryz.results141,go_sem,q0,q1,q2,q3,q4]) rfl ⟨rfl,Qa6 _ _ _ _ _ ((hbw.setCell (p:=⟨w.heap.size+1,0,none⟩) (Nat.le_succ _) _).setCell (p:=⟨w.heap.size+1,4,none⟩) (Nat.le_succ _) _) (Z6 _)⟩
theorem QkC (he:enc=1\/enc=2) (hi:i<s.size) (h:s.size<=i+1) :
  rdVal enc s i=.tuple #[.agg #[.int .i64 0,.bool false,.int .i64 0,.int .i64 i,.int .i64 ((i:Int)+1)],.bool false]:=by
 have e:=Vm.QaD s i
 unfold rdVal Vm.rd
 rw[if_neg (by omega),if_neg (by omega),if_neg (by omega),if_pos (by omega)]
theorem Qkq {enc:Int} {s:ByteArray} {i:Nat} (he:enc=1\/enc=2) (h:i+3<s.size) (hu:55296<=Vm.unitAt enc s.data.toList i/\Vm.unitAt enc s.data.toList i<=56319) (hv:56320<=Vm.unitAt enc s.data.toList (i+2)/\Vm.unitAt enc s.data.toList (i+2)<=57343) :
  rdVal enc s i=.tuple #[.agg #[.int .i64 (65536+1024 * (Vm.unitAt enc s.data.toList i - 55296)+Vm.unitAt enc s.data.toList (i+2) - 56320),.bool false,.int .i64 0,.int .i64 i,.int .i64 ((i:Int)+4)],.bool true]:=by
 have e:=Vm.QaD s i
 unfold rdVal Vm.rd
 rw[if_neg (by omega),if_neg (by omega),if_neg (by omega),if_neg (by omega),Vm.QaK,Vm.QaK,Nat.add_zero,if_pos ⟨hu.1,hu.2,by omega,hv.1,hv.2⟩]
 rfl
theorem Qkl {enc:Int} {s:ByteArray} {i:Nat} (he:enc=1\/enc=2) (h:i+1<s.size) (hp:¬(55296<=Vm.unitAt enc s.data.toList i/\Vm.unitAt enc s.data.toList i<=56319/\i+3<s.size/\56320<=Vm.unitAt enc s.data.toList (i+2)/\Vm.unitAt enc s.data.toList (i+2)<=57343)) :
  rdVal enc s i=.tuple #[.agg #[.int .i64 (Vm.unitAt enc s.data.toList i),.bool (decide (55296<=Vm.unitAt enc s.data.toList i)&&decide (Vm.unitAt enc s.data.toList i<=57343)),.int .i64 0,.int .i64 i,.int .i64 ((i:Int)+2)],.bool true]:=by
 have e:=Vm.QaD s i
 unfold rdVal Vm.rd
 rw[if_neg (by omega),if_neg (by omega),if_neg (by omega),if_neg (by omega),Vm.QaK,Vm.QaK,Nat.add_zero,if_neg (fun x=>hp ⟨x.1,x.2.1,by omega,x.2.2.2⟩)]
 rfl
theorem QkH (s:ByteArray) (i:Nat) (enc:Int) (w:World) (hs:s.size<=1099511627776) (he:enc=1\/enc=2) (hi:i<s.size) (h:s.size<=i+1) :
  Calls prog 141 #[.string s,.int .i64 i,.int .i64 enc] w fun e w'=>e=.returned (rdVal enc s i)/\Below w.heap.size w w':=by
 rw[QkC he hi h]
 have hI:(i:Int)<(s.size:Int):=by omega
 have hI1:(s.size:Int)<=(i:Int)+1:=by omega
 have e3:(enc==3)=false:=by rw[beq_eq_false_iff_ne];omega
 have e0:(enc==0)=false:=by rw[beq_eq_false_iff_ne];omega
 clear he
 go_enter func141,ntmps141
 go_wp2
 exact bodyPost_ret (v:=.tuple #[.agg #[.int .i64 0,.bool false,.int .i64 0,.int .i64 i,.int .i64 ((i:Int)+1)],.bool false]) (by simp [results,Tryz.results141,go_sem]) rfl ⟨rfl,(Z7 _ _).alloc (by simp) _⟩
structure Bx5 (w:World) (B:Nat) (v0 v1 v2 v3 v4:Value):Prop where
 c:w.cell? ⟨B,0,none⟩=some v0/\w.cell? ⟨B,1,none⟩=some v1/\w.cell? ⟨B,2,none⟩=some v2/\w.cell? ⟨B,3,none⟩=some v3/\w.cell? ⟨B,4,none⟩=some v4
 f:w.frozen? ⟨B,0,none⟩=false/\w.frozen? ⟨B,1,none⟩=false/\w.frozen? ⟨B,2,none⟩=false/\w.frozen? ⟨B,3,none⟩=false/\w.frozen? ⟨B,4,none⟩=false
theorem Bx5.below {v3 v4:Value} (h:Bx5 w B v0 v1 v2 v3 v4) (hb:Below w.heap.size w w'):Bx5 w' B v0 v1 v2 v3 v4:=by
 have hB:=Z3 h.c.1;have g:∀o,w'.cell? ⟨B,o,none⟩=w.cell? ⟨B,o,none⟩:=fun o=>hb.cell (p:=⟨B,o,none⟩) hB;have k:∀o,w'.frozen? ⟨B,o,none⟩=w.frozen? ⟨B,o,none⟩:=fun o=>hb.frozen (p:=⟨B,o,none⟩) hB;exact⟨⟨(g _).trans h.c.1,(g _).trans h.c.2.1,(g _).trans h.c.2.2.1,(g _).trans h.c.2.2.2.1,(g _).trans h.c.2.2.2.2⟩,⟨(k _).trans h.f.1,(k _).trans h.f.2.1,(k _).trans h.f.2.2.1,(k _).trans h.f.2.2.2.1,(k _).trans h.f.2.2.2.2⟩⟩
theorem Bx5.new (w:World) (t:TypeId) (v0 v1 v2 v3 v4:Value):Bx5 (w.alloc (.cells #[v0,v1,v2,v3,v4] t)) w.heap.size v0 v1 v2 v3 v4 :=
 ⟨⟨by simp,by simp,by simp,by simp,by simp⟩,⟨by simp [go_sem],by simp [go_sem],by simp [go_sem],by simp [go_sem],by simp [go_sem]⟩⟩
theorem Qky {R:Ending->World->Prop} (h:Calls prog 166 #[.string s,.int .i64 ((i+2:Nat):Int),.int .i64 enc] w R):Calls prog 166 #[.string s,.int .i64 ((i:Int)+2),.int .i64 enc] w R:=h
theorem QiN (s:ByteArray) (i:Nat) (enc:Int) (w:World) (hs:s.size<=1099511627776) (he:enc=1\/enc=2) (h:i+1<s.size) :
  Calls prog 141 #[.string s,.int .i64 i,.int .i64 enc] w fun e w'=>e=.returned (rdVal enc s i)/\Below w.heap.size w w':=by
 have hI:(i:Int)<(s.size:Int):=by omega
 have hI1:(i:Int)+1<(s.size:Int):=by omega
 have e3:(enc==3)=false:=by rw[beq_eq_false_iff_ne];omega
 have e0:(enc==0)=false:=by rw[beq_eq_false_iff_ne];omega
 have hub:=Vm.QaT enc s.data.toList i
 have hvb:=Vm.QaT enc s.data.toList (i+2)
 have hca:=Qh8 s i enc
 have hcb:=Qh8 s (i+2) enc
 have hpair:=@Qkq enc s i he
 have hlone:=@Qkl enc s i he h
 generalize Vm.unitAt enc s.data.toList i=U at *
 generalize Vm.unitAt enc s.data.toList (i+2)=V at *
 have Hca:=Z2 hca
 have Hcb:=Z2 hcb
 have Hpair:=Z2 hpair
 have Hlone:=Z2 hlone
 clear hca hcb hpair hlone he
 go_enter func141,ntmps141
 go_wp2_with fail
 refine (Hca.o _ hs h).mono ?_
 rintro e w2 ⟨rfl,hb2⟩
 have bR:=((Bx5.new w 136 (.int .i64 0) (.bool false) (.int .i64 0) (.int .i64 0) (.int .i64 0)).below ((Below.refl _ _).alloc (Z6 _) (.cells #[.int .i64 0,.bool false,.int .i64 0,.int .i64 i,.int .i64 ((i:Int)+2)] 136))).below hb2
 have bA:=(Bx5.new (w.alloc (.cells #[.int .i64 0,.bool false,.int .i64 0,.int .i64 0,.int .i64 0] 136)) 136 (.int .i64 0) (.bool false) (.int .i64 0) (.int .i64 i) (.int .i64 ((i:Int)+2))).below hb2
 simp only[World.size_alloc] at bA
 have hbw:Below w.heap.size w w2:=((Z7 _ _).alloc (by simp) _).trans (hb2.mono (by simp;omega))
 clear hb2
 obtain⟨a0,a1,a2,a3,a4⟩:=bA.c
 obtain⟨fa0,fa1,fa2,fa3,fa4⟩:=bA.f
 obtain⟨r0,r1,r2,r3,r4⟩:=bR.c
 obtain⟨fr0,fr1,fr2,fr3,fr4⟩:=bR.f
 have Z:=Z2 bR.c
 by_cases hU:55296<=U/\U<=56319
 ·obtain⟨hU1,hU2⟩:=hU;by_cases h3:i+3<s.size
  ·have h3I:(i:Int)+3<(s.size:Int):=by omega
   go_wp2_with fail;refine (Qky (Hcb.o _ hs (by omega))).mono ?_;rintro e w3 ⟨rfl,hb3⟩;have hbw3:Below w.heap.size w w3:=hbw.trans (hb3.mono hbw.size);have bR3:=bR.below hb3;have bA3:=bA.below hb3;clear hb3 Z;obtain⟨a0',a1',a2',a3',a4'⟩:=bA3.c;obtain⟨fa0',fa1',fa2',fa3',fa4'⟩:=bA3.f;obtain⟨r0',r1',r2',r3',r4'⟩:=bR3.c;obtain⟨fr0',fr1',fr2',fr3',fr4'⟩:=bR3.f;have Z:=Z2 bR3.c;by_cases hV:56320<=V/\V<=57343
   ·obtain⟨hV1,hV2⟩:=hV;have Hv:=Z2 (Hpair.o h3 ⟨hU1,hU2⟩ ⟨hV1,hV2⟩);go_wp2;have z:=Z.o
    exact bodyPost_ret (v:=.tuple #[.agg #[.int .i64 (65536+1024 * (U - 55296)+V - 56320),.bool false,.int .i64 0,.int .i64 i,.int .i64 ((i:Int)+4)],.bool true]) (by
     have z5:=QaG (C:=w.heap.size+1) (o:=4) (v:=.int .i64 ((i:Int)+4)) (by omega) (QaG (C:=w.heap.size+1) (o:=0) (v:=.int .i64 (65536+1024 * (U - 55296)+V - 56320)) (by omega) z);obtain⟨q0,q1,q2,q3,q4⟩:=QbO (.int .i64 (65536+1024 * (U - 55296)+V - 56320)) (.bool false) (.int .i64 0) (.int .i64 i) (.int .i64 ((i:Int)+4)) z5
     simp [results,Tryz.results141,go_sem,q0,q1,q2,q3,q4]) rfl ⟨by rw[Hv.o],Qa6 _ _ _ _ _ ((hbw3.setCell (p:=⟨w.heap.size+1,0,none⟩) (Nat.le_succ _) _).setCell (p:=⟨w.heap.size+1,4,none⟩) (Nat.le_succ _) _) (Z6 _)⟩
   have Hv:=Z2 (Hlone.o (by omega));have HE:Hid ((decide (55296<=U)&&decide (U<=57343))=true):=by show _=_;simp;omega
   have hE2:U<=57343:=by omega
   by_cases hV1:56320<=V
   ·have hV2:¬V<=57343:=by omega
    go_wp2;have z:=Z.o
    exact bodyPost_ret (v:=.tuple #[.agg #[.int .i64 U,.bool true,.int .i64 0,.int .i64 i,.int .i64 ((i:Int)+2)],.bool true]) (by
     have z5:=QaG (C:=w.heap.size+1) (o:=1) (v:=.bool true) (by omega) (QaG (C:=w.heap.size+1) (o:=0) (v:=.int .i64 U) (by omega) z);obtain⟨q0,q1,q2,q3,q4⟩:=QbO (.int .i64 U) (.bool true) (.int .i64 0) (.int .i64 i) (.int .i64 ((i:Int)+2)) z5
     simp [results,Tryz.results141,go_sem,q0,q1,q2,q3,q4]) rfl ⟨by rw[Hv.o];rw[HE.o],Qa6 _ _ _ _ _ ((hbw3.setCell (p:=⟨w.heap.size+1,0,none⟩) (Nat.le_succ _) _).setCell (p:=⟨w.heap.size+1,1,none⟩) (Nat.le_succ _) _) (Z6 _)⟩
   skip;go_wp2;have z:=Z.o
   exact bodyPost_ret (v:=.tuple #[.agg #[.int .i64 U,.bool true,.int .i64 0,.int .i64 i,.int .i64 ((i:Int)+2)],.bool true]) (by
    have z5:=QaG (C:=w.heap.size+1) (o:=1) (v:=.bool true) (by omega) (QaG (C:=w.heap.size+1) (o:=0) (v:=.int .i64 U) (by omega) z);obtain⟨q0,q1,q2,q3,q4⟩:=QbO (.int .i64 U) (.bool true) (.int .i64 0) (.int .i64 i) (.int .i64 ((i:Int)+2)) z5
    simp [results,Tryz.results141,go_sem,q0,q1,q2,q3,q4]) rfl ⟨by rw[Hv.o];rw[HE.o],Qa6 _ _ _ _ _ ((hbw3.setCell (p:=⟨w.heap.size+1,0,none⟩) (Nat.le_succ _) _).setCell (p:=⟨w.heap.size+1,1,none⟩) (Nat.le_succ _) _) (Z6 _)⟩
  have h3I:¬(i:Int)+3<(s.size:Int):=by omega
  have Hv:=Z2 (Hlone.o (by omega));have HE:Hid ((decide (55296<=U)&&decide (U<=57343))=true):=by show _=_;simp;omega
  have hE2:U<=57343:=by omega
  go_wp2;have z:=Z.o
  exact bodyPost_ret (v:=.tuple #[.agg #[.int .i64 U,.bool true,.int .i64 0,.int .i64 i,.int .i64 ((i:Int)+2)],.bool true]) (by
   have z5:=QaG (C:=w.heap.size+1) (o:=1) (v:=.bool true) (by omega) (QaG (C:=w.heap.size+1) (o:=0) (v:=.int .i64 U) (by omega) z);obtain⟨q0,q1,q2,q3,q4⟩:=QbO (.int .i64 U) (.bool true) (.int .i64 0) (.int .i64 i) (.int .i64 ((i:Int)+2)) z5
   simp [results,Tryz.results141,go_sem,q0,q1,q2,q3,q4]) rfl ⟨by rw[Hv.o];rw[HE.o],Qa6 _ _ _ _ _ ((hbw.setCell (p:=⟨w.heap.size+1,0,none⟩) (Nat.le_succ _) _).setCell (p:=⟨w.heap.size+1,1,none⟩) (Nat.le_succ _) _) (Z6 _)⟩
 by_cases hU1:55296<=U
 ·have hU2:¬U<=56319:=by omega
  have Hv:=Z2 (Hlone.o (by omega));by_cases hE2:U<=57343
  ·have HE:Hid ((decide (55296<=U)&&decide (U<=57343))=true):=by show _=_;simp;omega
   go_wp2;have z:=Z.o
   exact bodyPost_ret (v:=.tuple #[.agg #[.int .i64 U,.bool true,.int .i64 0,.int .i64 i,.int .i64 ((i:Int)+2)],.bool true]) (by
    have z5:=QaG (C:=w.heap.size+1) (o:=1) (v:=.bool true) (by omega) (QaG (C:=w.heap.size+1) (o:=0) (v:=.int .i64 U) (by omega) z);obtain⟨q0,q1,q2,q3,q4⟩:=QbO (.int .i64 U) (.bool true) (.int .i64 0) (.int .i64 i) (.int .i64 ((i:Int)+2)) z5
    simp [results,Tryz.results141,go_sem,q0,q1,q2,q3,q4]) rfl ⟨by rw[Hv.o];rw[HE.o],Qa6 _ _ _ _ _ ((hbw.setCell (p:=⟨w.heap.size+1,0,none⟩) (Nat.le_succ _) _).setCell (p:=⟨w.heap.size+1,1,none⟩) (Nat.le_succ _) _) (Z6 _)⟩
  have HE:Hid ((decide (55296<=U)&&decide (U<=57343))=false):=by show _=_;simp;omega
  have hE3:decide (U<=57343)=false:=by simp;omega
  go_wp2;have z:=Z.o
  exact bodyPost_ret (v:=.tuple #[.agg #[.int .i64 U,.bool false,.int .i64 0,.int .i64 i,.int .i64 ((i:Int)+2)],.bool true]) (by
   have z5:=QaG (C:=w.heap.size+1) (o:=1) (v:=.bool false) (by omega) (QaG (C:=w.heap.size+1) (o:=0) (v:=.int .i64 U) (by omega) z);obtain⟨q0,q1,q2,q3,q4⟩:=QbO (.int .i64 U) (.bool false) (.int .i64 0) (.int .i64 i) (.int .i64 ((i:Int)+2)) z5
   simp [results,Tryz.results141,go_sem,q0,q1,q2,q3,q4]) rfl ⟨by rw[Hv.o];rw[HE.o],Qa6 _ _ _ _ _ ((hbw.setCell (p:=⟨w.heap.size+1,0,none⟩) (Nat.le_succ _) _).setCell (p:=⟨w.heap.size+1,1,none⟩) (Nat.le_succ _) _) (Z6 _)⟩
 have Hv:=Z2 (Hlone.o (by omega))
 have HE:Hid ((decide (55296<=U)&&decide (U<=57343))=false):=by show _=_;simp;omega
 go_wp2
 have z:=Z.o
 exact bodyPost_ret (v:=.tuple #[.agg #[.int .i64 U,.bool false,.int .i64 0,.int .i64 i,.int .i64 ((i:Int)+2)],.bool true]) (by
  have z5:=QaG (C:=w.heap.size+1) (o:=1) (v:=.bool false) (by omega) (QaG (C:=w.heap.size+1) (o:=0) (v:=.int .i64 U) (by omega) z);obtain⟨q0,q1,q2,q3,q4⟩:=QbO (.int .i64 U) (.bool false) (.int .i64 0) (.int .i64 i) (.int .i64 ((i:Int)+2)) z5
  simp [results,Tryz.results141,go_sem,q0,q1,q2,q3,q4]) rfl ⟨by rw[Hv.o];rw[HE.o],Qa6 _ _ _ _ _ ((hbw.setCell (p:=⟨w.heap.size+1,0,none⟩) (Nat.le_succ _) _).setCell (p:=⟨w.heap.size+1,1,none⟩) (Nat.le_succ _) _) (Z6 _)⟩
theorem Qct (s:ByteArray) (i:Nat) (enc:Int) (w:World) (hs:s.size<=1099511627776) (h0:0<=enc) (h3:enc<=3) (hi:i<s.size) :
  Calls prog 141 #[.string s,.int .i64 i,.int .i64 enc] w fun e w'=>e=.returned (rdVal enc s i)/\Below w.heap.size w w':=by
 have:enc=0\/enc=3\/(enc=1\/enc=2):=by omega
 rcases this with rfl|rfl|he
 ·exact Qlt s i w hs hi
 ·exact Qje s i w hs hi
 by_cases h:i+1<s.size
 ·exact QiN s i enc w hs he h
 exact QkH s i enc w hs he hi (by omega)
def cellsRA (a:Vm.RA):List Value:=[.int .i64 a.1,.bool a.2.1,.int .i64 a.2.2.1,.int .i64 a.2.2.2.1,.int .i64 a.2.2.2.2]
def flatRA (L:List Vm.RA):List Value:=L.flatMap cellsRA
theorem QcC (L:List Vm.RA):(flatRA L).length=L.length * 5:=by
 induction L with
 |nil=>rfl
 |cons a L ih=>simp [flatRA,cellsRA] at ih ⊢;omega
theorem Qbl (L:List Vm.RA) (a:Vm.RA):flatRA (L++[a])=flatRA L++cellsRA a:=by simp [flatRA]
theorem Qjf (L:List Vm.RA) (a:Vm.RA) (j:Nat) (hj:j<5):(flatRA (L++[a]))[L.length * 5+j]?=(cellsRA a)[j]?:=by
 rw[Qbl,List.getElem?_append_right (by rw[QcC];omega),QcC];congr 1;omega
theorem Tryz.infoAtom :(prog.info? 136).map (fun i=>(i.zero,i.size,i.bytes))=some (some (.agg #[.int .i64 0,.bool false,.int .i64 0,.int .i64 0,.int .i64 0]),5,40):=by kernel_rfl
def Holds (w:World) (base:Nat) (v:Value) (L:List Vm.RA):Prop:=w.ownsRow base 136 5 v L.length (flatRA L)
theorem Holds.below {L:List Vm.RA} (h:Holds w base v L) (hb:Below w.heap.size w w'):Holds w' base v L:=by
 refine⟨h.1,?_⟩;rcases h.2 with x|⟨g,cap,cur,e1,e2,e3,r⟩
 ·exact .inl x
 exact .inr ⟨g,cap,cur,e1,e2,(hb.block g (Array.getElem?_eq_some_iff.1 e3).1).trans e3,r⟩
theorem Qe1 (w:World) (o:Obj) (t:TypeId) (v0 v1 v2 v3 v4:Value):∀(j:Nat) (u:Value),[v0,v1,v2,v3,v4][j]?=some u->((w.alloc o).alloc (.cells #[v0,v1,v2,v3,v4] t)).cell? ((⟨w.heap.size+1,0,none⟩:Addr).add j)=some u:=by
 intro j u h;have hp:(⟨w.heap.size+1,0,none⟩:Addr).add j=⟨w.heap.size+1,j,none⟩:=by unfold Addr.add;split<;>simp_all
 rw[hp]
 have:j=0\/j=1\/j=2\/j=3\/j=4:=by
  have:=(List.getElem?_eq_some_iff.1 h).1;simp at this;omega
 rcases this with rfl|rfl|rfl|rfl|rfl<;>simp at h<;>subst h<;>simp
theorem Holds.lt {L:List Vm.RA} (h:Holds w base v L):∀k,v.ownBlock=some k->base<=k/\k<w.heap.size:=World.ownsRow.lt h
theorem Holds.cellAt {L:List Vm.RA} (h:Holds w base (.slice (some ⟨g,0,none⟩) n cap) L) (j:Nat) (hj:j<L.length * 5):w.cell? ⟨g,j,none⟩=(flatRA L)[j]?:=by
 obtain rfl:n=L.length:=by
  rcases h.2 with ⟨x,_⟩|⟨_,_,_,x,_⟩
  ·cases x
  cases x;rfl
 exact World.ownsRow.cellAt h j hj
theorem Holds.frozenAt {L:List Vm.RA} (h:Holds w base (.slice (some ⟨g,0,none⟩) n cap) L) (j:Nat):w.frozen? ⟨g,j,none⟩=false:=by
 obtain rfl:n=L.length:=by
  rcases h.2 with ⟨x,_⟩|⟨_,_,_,x,_⟩
  ·cases x
  cases x;rfl
 exact World.ownsRow.frozenAt h j
theorem QjY {α:Type} (F C:List α) (j:Nat) (x:α):(F++C).set (F.length+j) x=F++C.set j x:=by
 rw[List.set_append_right _ _ (by omega)];simp
theorem Holds.last2 {M:List Vm.RA} {a:Vm.RA} (h:Holds w base (.slice (some ⟨g,0,none⟩) n cap) (M++[a])) (x y:Int) :
  Holds ((w.setCell ⟨g,M.length * 5+2,none⟩ (.int .i64 x)).setCell ⟨g,M.length * 5+4,none⟩ (.int .i64 y)) base (.slice (some ⟨g,0,none⟩) n cap) (M++[(a.1,a.2.1,x,a.2.2.2.1,y)]):=by
 obtain rfl:n=(M++[a]).length:=by
  rcases h.2 with ⟨x,_⟩|⟨_,_,_,x,_⟩
  ·cases x
  cases x;rfl
 have h1:=(World.ownsRow.stored h (M.length * 5+2) (.int .i64 x)).1
 have h2:=(World.ownsRow.stored h1 (M.length * 5+4) (.int .i64 y)).1
 unfold Holds
 have e:((flatRA (M++[a])).set (M.length * 5+2) (.int .i64 x)).set (M.length * 5+4) (.int .i64 y)=flatRA (M++[(a.1,a.2.1,x,a.2.2.2.1,y)]):=by
  rw[Qbl,Qbl,<-QcC,QjY,QjY];rfl
 rw[e] at h2
 have l:(M++[(a.1,a.2.1,x,a.2.2.2.1,y)]).length=(M++[a]).length:=by simp
 rw[l];exact h2
theorem Holds.alloc {L:List Vm.RA} (h:Holds w base v L) (o:Obj):Holds (w.alloc o) base v L:=World.ownsRow.alloc h o
theorem Qgm (s:ByteArray) (enc:Int) (w:World) (hs:s.size<=1099511627776) (h0:0<=enc) (h3:enc<=3) :
  Calls prog 112 #[.string s,.int .i64 enc] w fun e w'=>∃v L,e=.returned v/\Vm.Reads L (Vm.atoms enc s.data.toList) 0/\L.length<=s.size/\Holds w' w.heap.size v L/\Below w.heap.size w w':=by
 obtain⟨i0,hi,hz0,hz1,hz2⟩:=info_parts Tryz.infoAtom
 go_enter func112,ntmps112
 go_wp2
 go_loopw [5,6] (fun out i wx=>∃(k:Nat) (L:List Vm.RA) (p:Option Addr) (cap:Nat),k<=s.size/\i=.int .i64 k/\Vm.RS enc s.data.toList k L/\out=.slice p L.length cap/\Holds wx w.heap.size (.slice p L.length cap) L/\Below w.heap.size w wx) (fun _ i _=>s.size - (intOf i).toNat)
 case atStart=>exact⟨0,[],none,0,Nat.zero_le _,rfl,Vm.RS.nil _ _,rfl,World.ownsRow_nil _ _ _ _,Below.refl _ _⟩
 case round =>
  obtain⟨k,L,p,cap,hk,rfl,hrs,rfl,hown,hbx⟩:=hrel;have HR:=Z2 hrs;have HO:=Z2 hown;clear hrs hown;by_cases hlt:k<s.size
  ·have hltI:(k:Int)<(s.size:Int):=by omega
   cases hrd:Vm.rd enc (s.data.toList.drop k) with
   |none =>
    have hval:rdVal enc s k=.tuple #[.agg #[.int .i64 0,.bool false,.int .i64 0,.int .i64 k,.int .i64 ((k:Int)+1)],.bool false]:=by unfold rdVal;rw[hrd]
    have HV:=Z2 hval;have HD:=Z2 hrd;clear hval hrd;go_wp2_with fail;refine (Qct s k enc _ hs h0 h3 hlt).mono ?_;rintro e w1 ⟨rfl,hb1⟩;rw[HV.o];go_wp2;go_ret;exact⟨_,L,rfl,HR.o.done (Vm.rd_no HD.o),by have:=HR.o.len;omega,(HO.o.below hb1).alloc _,(hbx.trans (hb1.mono hbx.size)).alloc (by have:=hbx.size;have:=hb1.size;omega) _⟩
   |some x =>
    obtain⟨c,e,n⟩:=x;obtain⟨hn1,hn4,hnl⟩:=Vm.rd_bd hrd;simp only at hn1 hn4 hnl;rw[Vm.QaD] at hnl;have hval:rdVal enc s k=.tuple #[.agg #[.int .i64 c,.bool e,.int .i64 0,.int .i64 k,.int .i64 ((k:Int)+n)],.bool true]:=by unfold rdVal;rw[hrd]
    have HV:=Z2 hval;have HD:=Z2 hrd;have hwh:=Vm.Qir hrd;simp only at hwh;clear hval hrd;have hLk:=HR.o.len;by_cases h10:c=10
    ·subst h10;obtain rfl:e=false:=by cases e<;>simp_all
     rcases List.eq_nil_or_concat L with hL|⟨M,a,hL⟩
     ·subst hL;have RS2:=Z2 (HR.o.lf HD.o (fun M a h=>by simp at h));clear hwh;have hl0:((0:Nat):Int) - 1 = -1:=rfl;go_wp2_with fail;refine (Qct s k enc _ hs h0 h3 hlt).mono ?_;rintro e w1 ⟨rfl,hb1⟩;rw[HV.o];have HO1:=Z2 (HO.o.below hb1);have hbw:=hbx.trans (hb1.mono hbx.size);have hsz:=hbw.size;clear hb1;go_wp2_with (at_builtin;refine wpList_append_own _ rfl _ _ 132 rfl w.heap.size 136 i0 _ 5 40 underlying132 hi hz0 hz1 hz2 rfl (by decide) _ 0 [] rfl ?hown ⟨w1.heap.size+1,0,none⟩ 1 1 [.int .i64 10,.bool false,.int .i64 1,.int .i64 k,.int .i64 ((k:Int)+n)] rfl rfl ?hnews ?h1 ?h63 ?hby ?hbase ?hrest)
      case hown=>exact (HO1.o.alloc _).alloc _
      case hnews=>exact Qe1 _ _ _ _ _ _ _ _
      case h1=>simp [Value.oneCell']
      case h63=>unfold maxLen;omega
      case hby=>omega
      case hbase=>simp;omega
      case hrest =>
       intro v' w2 hown2 hgrow2 _;obtain⟨g',cap',rfl⟩:=ownsRow_succ hown2;have hb2:Below w.heap.size w w2:=((hbw.alloc hsz _).alloc (by simp;omega) _).grown hgrow2 (by simp;omega) (fun k' hk'=>(HO1.o.lt k' hk').1)
       have HO2:Hid (Holds w2 w.heap.size (.slice (some ⟨g',0,none⟩) (0+1) cap') ([]++[(10,false,1,(k:Int),(k:Int)+n)])):=by
        show Holds _ _ _ _;unfold Holds;rw[Qbl,List.length_append];exact hown2
       clear hown2 hgrow2;go_wp2;refine⟨⟨k+n,_,some ⟨g',0,none⟩,cap',by omega,by go_num,RS2.o,?_,?_,hb2⟩,by simp [intOf];omega⟩
       ·rw[List.length_append];rfl
       rw[List.length_append];exact HO2.o
     rw[List.concat_eq_append] at hL;subst hL;have hML:(M++[a]).length=M.length+1:=by simp
     obtain⟨g,capg,hg⟩:=ownsRow_succ (by have:=HO.o;unfold Holds at this;rw[hML] at this;exact this);rw[<-hML] at hg;injection hg with hg1 hg2 hg3
     subst hg1;have cellL:=fun j (hj:j<5)=>(HO.o.cellAt (M.length * 5+j) (by rw[hML];omega)).trans (Qjf M a j hj);have cE:=cellL 2 (by decide);have cT:=cellL 4 (by decide);have fE:=HO.o.frozenAt (M.length * 5+2);have fT:=HO.o.frozenAt (M.length * 5+4);have hglt:=(HO.o.lt g rfl);clear cellL hg2 hg3;simp only[cellsRA,List.getElem?_cons_succ,List.getElem?_cons_zero] at cE cT;by_cases hE:a.2.2.1=3
     ·have RS2:=Z2 (HR.o.crlf HD.o hE);rw[hE] at cE;clear hwh;go_wp2_with fail;refine (Qct s k enc _ hs h0 h3 hlt).mono ?_;rintro e w1 ⟨rfl,hb1⟩;rw[HV.o];have HO1:=Z2 (HO.o.below hb1);have hbw:=hbx.trans (hb1.mono hbx.size);have hsz:=hbw.size;have cE1:=(hb1.cell (p:=⟨g,M.length * 5+2,none⟩) hglt.2).trans cE;have cT1:=(hb1.cell (p:=⟨g,M.length * 5+4,none⟩) hglt.2).trans cT;have fE1:=(hb1.frozen (p:=⟨g,M.length * 5+2,none⟩) hglt.2).trans fE;have fT1:=(hb1.frozen (p:=⟨g,M.length * 5+4,none⟩) hglt.2).trans fT;have hg1:g<w1.heap.size:=by have:=hb1.size;omega
      clear hb1;simp only[List.length_append,List.length_cons,List.length_nil];go_wp2;have hst:=HO1.o.last2 2 ((k:Int)+n);refine⟨⟨k+n,_,some ⟨g,0,none⟩,cap,by omega,by go_num,RS2.o,by simp,?_,?_⟩,by simp [intOf];omega⟩
      ·have h2:=hst.alloc (.cells #[.int .i64 10,.bool false,.int .i64 0,.int .i64 k,.int .i64 ((k:Int)+n)] 136);simpa using h2
      exact ((hbw.setCell (p:=⟨g,M.length * 5+2,none⟩) hglt.1 _).setCell (p:=⟨g,M.length * 5+4,none⟩) hglt.1 _).alloc (by simp [World.setCell];omega) _
     have RS2:=Z2 (HR.o.lf HD.o (fun M2 a2 h=>by
      have h1:=List.append_inj_right' h (by simp)
      simp at h1;rw[<-h1];exact hE))
     have hE':(a.2.2.1==3)=false:=by simpa using hE
     clear hwh hE;go_wp2_with fail;refine (Qct s k enc _ hs h0 h3 hlt).mono ?_;rintro e w1 ⟨rfl,hb1⟩;rw[HV.o];have HO1:=Z2 (HO.o.below hb1);have hbw:=hbx.trans (hb1.mono hbx.size);have hsz:=hbw.size;have cE1:=(hb1.cell (p:=⟨g,M.length * 5+2,none⟩) hglt.2).trans cE;have hg1:g<w1.heap.size:=by have:=hb1.size;omega
     clear hb1;simp only[List.length_append,List.length_cons,List.length_nil];go_wp2_with (at_builtin;refine wpList_append_own _ rfl _ _ 132 rfl w.heap.size 136 i0 _ 5 40 underlying132 hi hz0 hz1 hz2 rfl (by decide) _ (M.length+1) (flatRA (M++[a])) rfl ?hown ⟨w1.heap.size+1,0,none⟩ 1 1 [.int .i64 10,.bool false,.int .i64 1,.int .i64 k,.int .i64 ((k:Int)+n)] rfl rfl ?hnews ?h1 ?h63 ?hby ?hbase ?hrest)
     case hown =>
      have:=(HO1.o.alloc (.cells #[.int .i64 10,.bool false,.int .i64 1,.int .i64 k,.int .i64 ((k:Int)+n)] 136)).alloc (.cells #[.int .i64 10,.bool false,.int .i64 1,.int .i64 k,.int .i64 ((k:Int)+n)] 136);unfold Holds at this;rw[hML] at this;exact this
     case hnews=>exact Qe1 _ _ _ _ _ _ _ _
     case h1=>simp [Value.oneCell']
     case h63=>unfold maxLen;omega
     case hby=>omega
     case hbase=>simp;omega
     case hrest =>
      intro v' w2 hown2 hgrow2 _;obtain⟨g',cap',rfl⟩:=ownsRow_succ hown2;have hb2:Below w.heap.size w w2:=((hbw.alloc hsz _).alloc (by simp;omega) _).grown hgrow2 (by simp;omega) (fun k' hk'=>(HO1.o.lt k' hk').1)
      have HO2:Hid (Holds w2 w.heap.size (.slice (some ⟨g',0,none⟩) (M.length+1+1) cap') ((M++[a])++[(10,false,1,(k:Int),(k:Int)+n)])):=by
       show Holds _ _ _ _;unfold Holds;rw[Qbl,List.length_append,hML];exact hown2
      clear hown2 hgrow2;go_wp2;refine⟨⟨k+n,_,some ⟨g',0,none⟩,cap',by omega,by go_num,RS2.o,?_,?_,hb2⟩,by simp [intOf];omega⟩
      ·rw[List.length_append,hML];rfl
      rw[List.length_append,hML];exact HO2.o
    have h10':(c==10)=false:=by simpa using h10
    by_cases h13:c=13
    ·subst h13;obtain rfl:e=false:=by cases e<;>simp_all
     have RS2:=Z2 (HR.o.cr HD.o);clear h10 hwh;go_wp2_with fail;refine (Qct s k enc _ hs h0 h3 hlt).mono ?_;rintro e w1 ⟨rfl,hb1⟩;rw[HV.o];have HO1:=Z2 (HO.o.below hb1);have hbw:=hbx.trans (hb1.mono hbx.size);have hsz:=hbw.size;clear hb1;go_wp2_with (at_builtin;refine wpList_append_own _ rfl _ _ 132 rfl w.heap.size 136 i0 _ 5 40 underlying132 hi hz0 hz1 hz2 rfl (by decide) _ L.length (flatRA L) rfl ?hown ⟨w1.heap.size+1,0,none⟩ 1 1 [.int .i64 10,.bool false,.int .i64 3,.int .i64 k,.int .i64 ((k:Int)+n)] rfl rfl ?hnews ?h1 ?h63 ?hby ?hbase ?hrest)
     case hown=>exact (HO1.o.alloc _).alloc _
     case hnews=>exact Qe1 _ _ _ _ _ _ _ _
     case h1=>simp [Value.oneCell']
     case h63=>unfold maxLen;omega
     case hby=>omega
     case hbase=>simp;omega
     case hrest =>
      intro v' w2 hown2 hgrow2 _;obtain⟨g',cap',rfl⟩:=ownsRow_succ hown2;have hb2:Below w.heap.size w w2:=((hbw.alloc hsz _).alloc (by simp;omega) _).grown hgrow2 (by simp;omega) (fun k' hk'=>(HO1.o.lt k' hk').1)
      have HO2:Hid (Holds w2 w.heap.size (.slice (some ⟨g',0,none⟩) (L.length+1) cap') (L++[(10,false,3,(k:Int),(k:Int)+n)])):=by
       show Holds _ _ _ _;unfold Holds;rw[Qbl,List.length_append];exact hown2
      clear hown2 hgrow2;go_wp2;refine⟨⟨k+n,_,some ⟨g',0,none⟩,cap',by omega,by go_num,RS2.o,?_,?_,hb2⟩,by simp [intOf];omega⟩
      ·rw[List.length_append];rfl
      rw[List.length_append];exact HO2.o
    have h13':(c==13)=false:=by simpa using h13
    have RS2:=Z2 (HR.o.other HD.o h10 h13);clear h10 h13 hwh;go_wp2_with fail;refine (Qct s k enc _ hs h0 h3 hlt).mono ?_;rintro e w1 ⟨rfl,hb1⟩;rw[HV.o];have HO1:=Z2 (HO.o.below hb1);have hbw:=hbx.trans (hb1.mono hbx.size);have hsz:=hbw.size;clear hb1;go_wp2_with (at_builtin;refine wpList_append_own _ rfl _ _ 132 rfl w.heap.size 136 i0 _ 5 40 underlying132 hi hz0 hz1 hz2 rfl (by decide) _ L.length (flatRA L) rfl ?hown ⟨w1.heap.size+1,0,none⟩ 1 1 [.int .i64 c,.bool e,.int .i64 0,.int .i64 k,.int .i64 ((k:Int)+n)] rfl rfl ?hnews ?h1 ?h63 ?hby ?hbase ?hrest)
    case hown=>exact (HO1.o.alloc _).alloc _
    case hnews=>exact Qe1 _ _ _ _ _ _ _ _
    case h1=>simp [Value.oneCell']
    case h63=>unfold maxLen;omega
    case hby=>omega
    case hbase=>simp;omega
    case hrest =>
     intro v' w2 hown2 hgrow2 _;obtain⟨g',cap',rfl⟩:=ownsRow_succ hown2;have hb2:Below w.heap.size w w2:=((hbw.alloc hsz _).alloc (by simp;omega) _).grown hgrow2 (by simp;omega) (fun k' hk'=>(HO1.o.lt k' hk').1)
     have HO2:Hid (Holds w2 w.heap.size (.slice (some ⟨g',0,none⟩) (L.length+1) cap') (L++[(c,e,0,(k:Int),(k:Int)+n)])):=by
      show Holds _ _ _ _;unfold Holds;rw[Qbl,List.length_append];exact hown2
     clear hown2 hgrow2;go_wp2;refine⟨⟨k+n,_,some ⟨g',0,none⟩,cap',by omega,by go_num,RS2.o,?_,?_,hb2⟩,by simp [intOf];omega⟩
     ·rw[List.length_append];rfl
     rw[List.length_append];exact HO2.o
  have hx:=HR.o.done (Vm.Qhi enc s k (by omega));have HX:=Z2 hx;clear hx;go_wp2;go_ret;exact⟨_,L,rfl,HX.o,by have:=HR.o.len;omega,HO.o,hbx⟩
theorem Qox :markB 3=⟨#[]⟩:=rfl
theorem Qd8 (enc:Int) (w:World) (h0:0<=enc) (h3:enc<=3) :
  Calls prog 41 #[.int .i64 enc] w fun e w'=>e=.returned (.string (markB enc))/\Below w.heap.size w w':=by
 have:enc=0\/enc=1\/enc=2\/enc=3:=by omega
 rcases this with rfl|rfl|rfl|rfl
 ·go_enter func41,ntmps41;go_wp2;go_ret;exact⟨rfl,Z7 _ _⟩
 ·go_enter func41,ntmps41;go_wp2;go_ret;exact⟨rfl,Z7 _ _⟩
 ·go_enter func41,ntmps41;go_wp2;go_ret;exact⟨rfl,Z7 _ _⟩
 go_enter func41,ntmps41
 go_wp2
 go_ret
 exact⟨rfl,Z7 _ _⟩
theorem QoT (s t:ByteArray):((s.extract 0 t.size).toList==t.toList)=t.data.toList.isPrefixOf s.data.toList:=by
 rw[ByteArray.toList_eq,ByteArray.toList_eq,Lib.extract_data];have hl:t.size=t.data.toList.length:=rfl;rw[hl,Nat.sub_zero,List.drop_zero];generalize t.data.toList=a;generalize s.data.toList=b;rw[Bool.eq_iff_iff,beq_iff_eq,List.isPrefixOf_iff_prefix];exact⟨fun h=>⟨b.drop a.length,by have:=List.take_append_drop a.length b;rw[h] at this;exact this⟩,fun ⟨c,h⟩=>by rw[<-h];simp⟩
theorem Ql1 (s t:ByteArray) (h:s.size<t.size):t.data.toList.isPrefixOf s.data.toList=false:=by
 cases e:t.data.toList.isPrefixOf s.data.toList
 ·rfl
 have:=(List.isPrefixOf_iff_prefix.1 e).length_le;have h1:t.size=t.data.toList.length:=rfl;have h2:s.size=s.data.toList.length:=rfl;omega
theorem Qh5 (t:ByteArray) (h:t.size≠0):t.toList.isEmpty=false:=by
 rw[ByteArray.toList_eq];have h1:t.size=t.data.toList.length:=rfl;cases e:t.data.toList with
 |nil=>rw[e] at h1;exact absurd h1 h
 |cons a l=>rfl
theorem QcG (s t:ByteArray) (w:World) (_hs:s.size<=1099511627776) (_ht:t.size<=1099511627776) :
  Calls prog 40 #[.string s,.string t] w fun e w'=>e=.returned (.bool (decide (t.size≠0)&&t.data.toList.isPrefixOf s.data.toList))/\w'=w:=by
 by_cases h0:t.size=0
 ·have e0:t=⟨#[]⟩:=by
   cases t with|mk d=>simp [ByteArray.size] at h0;rw[h0]
  subst e0;go_enter func40,ntmps40;go_wp2;go_ret;exact⟨rfl,rfl⟩
 by_cases h1:t.size<=s.size
 ·have h1I:(t.size:Int)<=(s.size:Int):=by omega
  have hne:=Qh5 t h0;have hd:decide (t.size≠0)=true:=by simp [h0]
  rw[hd,Bool.true_and,<-QoT];clear hd;go_enter func40,ntmps40;go_wp2;go_ret;exact⟨Qbv (by simp),rfl⟩
 have h1I:¬(t.size:Int)<=(s.size:Int):=by omega
 have hne:=Qh5 t h0
 rw[Ql1 s t (by omega),Bool.and_false]
 go_enter func40,ntmps40
 go_wp2
 go_ret
 exact⟨rfl,rfl⟩
theorem QbS (a:Vm.RA) (w:World) (h:a.2.1=false->0<=a.1/\a.1<=1114111) :
  Calls prog 77 #[.agg #[.int .i64 a.1,.bool a.2.1,.int .i64 a.2.2.1,.int .i64 a.2.2.2.1,.int .i64 a.2.2.2.2]] w fun e w'=>e=.returned (.string (strOfNums (Vm.utfL (if a.2.1 then 65533 else a.1))))/\Below w.heap.size w w':=by
 obtain⟨c,e,x,y,z⟩:=a
 cases e
 ·obtain⟨g1,g2⟩:=h rfl;go_enter func77,ntmps77;go_wp2_with fail;refine (QcB _ _ g1 (by omega)).mono ?_;rintro e w1 ⟨rfl,hb⟩;go_wp2;go_ret;exact⟨rfl,(Z7 _ _).trans (hb.mono (by simp))⟩
 clear h
 go_enter func77,ntmps77
 go_wp2_with fail
 refine (QcB _ _ (by omega) (by omega)).mono ?_
 rintro e w1 ⟨rfl,hb⟩
 go_wp2
 go_ret
 exact⟨rfl,(Z7 _ _).trans (hb.mono (by simp))⟩
theorem Qcu (a:Vm.RA) (w:World) :
  Calls prog 79 #[.agg #[.int .i64 a.1,.bool a.2.1,.int .i64 a.2.2.1,.int .i64 a.2.2.2.1,.int .i64 a.2.2.2.2]] w fun e w'=>e=.returned (.int .i64 (if a.2.1=false/\65535<a.1 then 2 else 1))/\Below w.heap.size w w':=by
 obtain⟨c,e,x,y,z⟩:=a
 cases e
 ·by_cases g:65535<c
  ·rw[if_pos ⟨rfl,g⟩];go_enter func79,ntmps79;go_wp2;go_ret;exact⟨rfl,Z7 _ _⟩
  rw[if_neg (fun h=>g h.2)];go_enter func79,ntmps79;go_wp2;go_ret;exact⟨rfl,Z7 _ _⟩
 rw[if_neg (fun h=>by simp at h)]
 go_enter func79,ntmps79
 go_wp2
 go_ret
 exact⟨rfl,Z7 _ _⟩
def ofMark (s:ByteArray) (enc:Int):Bool:=decide ((markB enc).size≠0)&&(markB enc).data.toList.isPrefixOf s.data.toList
def ofBody (s:ByteArray) (enc:Int):ByteArray:=if ofMark s enc then s.extract (markB enc).size s.size else s
def bytesOf (enc:Int) (mark:Bool) (body:ByteArray):ByteArray:=if mark then markB enc++body else body
theorem QaN (enc:Int):(markB enc).size<=3:=by
 unfold markB;(repeat' split)<;>decide
theorem QfZ {s:ByteArray} {enc:Int} (h:ofMark s enc=true):(markB enc).size<=s.size:=by
 unfold ofMark at h;simp only[Bool.and_eq_true] at h;exact (List.isPrefixOf_iff_prefix.1 h.2).length_le
theorem QiW (s:ByteArray) (enc:Int):(ofBody s enc).size<=s.size:=by
 unfold ofBody;split
 ·rw[ByteArray.size_extract];omega
 exact Z6 _
theorem QhE (h:a.data.toList=b.data.toList):a=b:=by
 cases a;cases b;simp at h;simp [h]
theorem Qdx (a b:ByteArray):(a++b).data.toList=a.data.toList++b.data.toList:=by simp
structure Bx3 (w:World) (B:Nat) (v0 v1 v2:Value):Prop where
 c:w.cell? ⟨B,0,none⟩=some v0/\w.cell? ⟨B,1,none⟩=some v1/\w.cell? ⟨B,2,none⟩=some v2
 f:w.frozen? ⟨B,0,none⟩=false/\w.frozen? ⟨B,1,none⟩=false/\w.frozen? ⟨B,2,none⟩=false
theorem Bx3.below (h:Bx3 w B v0 v1 v2) (hb:Below w.heap.size w w'):Bx3 w' B v0 v1 v2:=by
 have hB:=Z3 h.c.1;have g:∀o,w'.cell? ⟨B,o,none⟩=w.cell? ⟨B,o,none⟩:=fun o=>hb.cell (p:=⟨B,o,none⟩) hB;have k:∀o,w'.frozen? ⟨B,o,none⟩=w.frozen? ⟨B,o,none⟩:=fun o=>hb.frozen (p:=⟨B,o,none⟩) hB;exact⟨⟨(g _).trans h.c.1,(g _).trans h.c.2.1,(g _).trans h.c.2.2⟩,⟨(k _).trans h.f.1,(k _).trans h.f.2.1,(k _).trans h.f.2.2⟩⟩
theorem Bx3.new (w:World) (t:TypeId) (v0 v1 v2:Value):Bx3 (w.alloc (.cells #[v0,v1,v2] t)) w.heap.size v0 v1 v2 :=
 ⟨⟨by simp,by simp,by simp⟩,⟨by simp [go_sem],by simp [go_sem],by simp [go_sem]⟩⟩
theorem QhV (v0 v1 v2:Value) (h:W.cell? ⟨B,0,none⟩=some u0/\W.cell? ⟨B,1,none⟩=some u1/\W.cell? ⟨B,2,none⟩=some u2) :
  (((W.setCell ⟨B,0,none⟩ v0).setCell ⟨B,1,none⟩ v1).setCell ⟨B,2,none⟩ v2).cell? ⟨B,0,none⟩=some v0 /\
  (((W.setCell ⟨B,0,none⟩ v0).setCell ⟨B,1,none⟩ v1).setCell ⟨B,2,none⟩ v2).cell? ⟨B,1,none⟩=some v1 /\
  (((W.setCell ⟨B,0,none⟩ v0).setCell ⟨B,1,none⟩ v1).setCell ⟨B,2,none⟩ v2).cell? ⟨B,2,none⟩=some v2:=by
 obtain⟨h0,h1,h2⟩:=h
 refine⟨?_,?_,?_⟩
 ·rw[sc_ne _ _ 2 0 _ (by decide),sc_ne _ _ 1 0 _ (by decide),sc_eq _ _ 0 _ u0 h0]
 ·rw[sc_ne _ _ 2 1 _ (by decide),sc_eq _ _ 1 _ u1 (by rw[sc_ne _ _ 0 1 _ (by decide)];exact h1)]
 rw[sc_eq _ _ 2 _ u2 (by rw[sc_ne _ _ 1 2 _ (by decide),sc_ne _ _ 0 2 _ (by decide)];exact h2)]
theorem Qfh (v0 v1 v2:Value) (h:Below w.heap.size w W) (hB:w.heap.size<=B) :
  Below w.heap.size w (((W.setCell ⟨B,0,none⟩ v0).setCell ⟨B,1,none⟩ v1).setCell ⟨B,2,none⟩ v2) :=
 ((h.setCell (p:=⟨B,0,none⟩) hB _).setCell (p:=⟨B,1,none⟩) hB _).setCell (p:=⟨B,2,none⟩) hB _
theorem QfB (s:ByteArray) (enc:Int) (w:World) (hs:s.size<=1099511627776) (h0:0<=enc) (h3:enc<=3) :
  Calls prog 42 #[.string s,.int .i64 enc] w fun e w'=>e=.returned (.agg #[.int .i64 enc,.bool (ofMark s enc),.string (ofBody s enc)])/\Below w.heap.size w w':=by
 have hms:=QaN enc
 have hmd:(decide ((markB enc).size≠0)&&(markB enc).data.toList.isPrefixOf s.data.toList)=ofMark s enc:=rfl
 have hbd:ofBody s enc=if ofMark s enc then s.extract (markB enc).size s.size else s:=rfl
 have hle:=@QfZ s enc
 have HM:=Z2 hmd
 clear hmd
 generalize hm:ofMark s enc=m at *
 generalize ofBody s enc=bd at *
 have hcm:=Qd8 enc
 generalize hmk:markB enc=mk at *
 have HMK:=Z2 hmk
 have HM1:=Z2 hm
 clear hm hmk
 have HC:=Z2 hcm
 clear hcm
 have hsI:(mk.size:Int)<=3:=by omega
 cases m
 ·simp only[Bool.false_eq_true,if_false] at hbd;rw[hbd];clear hbd hle;go_enter func42,ntmps42;go_wp2_with fail;refine (HC.o _ h0 h3).mono ?_;rintro e w1 ⟨rfl,hb1⟩;obtain⟨⟨q0,q1,q2⟩,f0,f1,f2⟩:=Bx3.below (Bx3.new w 99 (.int .i64 0) (.bool false) (.string ⟨#[]⟩)) hb1;have hbw:Below w.heap.size w w1:=(Z7 _ _).trans (hb1.mono (by simp));clear hb1;go_wp2_with fail;refine (QcG s mk _ hs (by omega)).mono ?_;rintro e w2 ⟨rfl,rfl⟩;rw[HM.o];go_wp2
  exact bodyPost_ret (v:=.agg #[.int .i64 enc,.bool false,.string (s)]) (by
   obtain⟨g0,g1,g2⟩:=QhV (.int .i64 enc) (.bool false) (.string (s)) ⟨q0,q1,q2⟩
   simp [results,Tryz.results42,go_sem,g0,g1,g2]) rfl ⟨rfl,Qfh _ _ _ hbw (Z6 _)⟩
 simp only[if_true] at hbd
 have hle2:=hle rfl
 have hleI:(mk.size:Int)<=(s.size:Int):=by omega
 rw[hbd]
 clear hbd hle
 go_enter func42,ntmps42
 go_wp2_with fail
 refine (HC.o _ h0 h3).mono ?_
 rintro e w1 ⟨rfl,hb1⟩
 obtain⟨⟨q0,q1,q2⟩,f0,f1,f2⟩:=Bx3.below (Bx3.new w 99 (.int .i64 0) (.bool false) (.string ⟨#[]⟩)) hb1
 have hbw:Below w.heap.size w w1:=(Z7 _ _).trans (hb1.mono (by simp))
 clear hb1
 go_wp2_with fail
 refine (QcG s mk _ hs (by omega)).mono ?_
 rintro e w2 ⟨rfl,rfl⟩
 rw[HM.o]
 go_wp2
 exact bodyPost_ret (v:=.agg #[.int .i64 enc,.bool true,.string (s.extract mk.size s.size)]) (by
  obtain⟨g0,g1,g2⟩:=QhV (.int .i64 enc) (.bool true) (.string (s.extract mk.size s.size)) ⟨q0,q1,q2⟩
  simp [results,Tryz.results42,go_sem,g0,g1,g2]) rfl ⟨rfl,Qfh _ _ _ hbw (Z6 _)⟩
theorem Qc8 (enc:Int) (mark:Bool) (b:ByteArray) (w:World) (hs:b.size<=1099511627776) (h0:0<=enc) (h3:enc<=3) :
  Calls prog 75 #[.agg #[.int .i64 enc,.bool mark,.string b]] w fun e w'=>e=.returned (.string (bytesOf enc mark b))/\Below w.heap.size w w':=by
 have hms:=QaN enc
 cases mark
 ·go_enter func75,ntmps75;go_wp2;go_ret;exact⟨rfl,Z7 _ _⟩
 go_enter func75,ntmps75
 go_wp2_with fail
 refine (Qd8 _ _ h0 h3).mono ?_
 rintro e w1 ⟨rfl,hb1⟩
 obtain⟨⟨q0,q1,q2⟩,f0,f1,f2⟩:=Bx3.below (Bx3.new w 99 (.int .i64 enc) (.bool true) (.string b)) hb1
 have hbw:Below w.heap.size w w1:=(Z7 _ _).trans (hb1.mono (by simp))
 clear hb1
 go_wp2
 go_ret
 exact⟨rfl,hbw⟩
def sniffTo (s:ByteArray) (e0:Int):Nat->Int
 |0=>e0
 |k+1=>if ofMark s k then k else sniffTo s e0 k
def encOf (s:ByteArray) (mode:Int):Int:=if 4<=mode then sniffTo s (mode%4) 3 else mode%4
theorem Qco (s:ByteArray) (e0:Int) (h0:0<=e0) (h3:e0<=3):∀k,k<=3->0<=sniffTo s e0 k/\sniffTo s e0 k<=3
 |0,_=>⟨h0,h3⟩
 |k+1,hk=>by
  unfold sniffTo
  split
  ·omega
  exact Qco s e0 h0 h3 k (by omega)
theorem Qb3 (s:ByteArray) (mode:Int):0<=encOf s mode/\encOf s mode<=3:=by
 unfold encOf;split
 ·exact Qco s _ (by omega) (by omega) 3 (Z6 _)
 omega
def tyAt (w:World) (q:Nat):Option TypeId:=match w.heap[q]? with
 |some (.cells _ t _)=>some t
 |_=>none
theorem Qb9 (w:World) (a:Addr) (v:Value) (q:Nat):tyAt (w.setCell a v) q=tyAt w q:=by
 unfold tyAt;by_cases h:q=a.block
 ·subst h;simp only[World.setCell,Array.getElem?_modify,if_true];cases hh:w.heap[a.block]? with
  |none=>rfl
  |some o=>cases o<;>rfl
 rw[Deep.blk_setCell_other w a v q h]
theorem QdD {q:Nat} (hq:q<w.heap.size) (hb:Below w.heap.size w w'):tyAt w' q=tyAt w q:=by
 unfold tyAt;rw[hb.block q hq]
structure RDoc (w:World) (B:Nat) (enc:Int) (mark:Bool) (body:ByteArray):Prop where
 c0:w.cell? ⟨B,0,none⟩=some (.int .i64 enc)
 c1:w.cell? ⟨B,1,none⟩=some (.bool mark)
 c2:w.cell? ⟨B,2,none⟩=some (.string body)
 ty:tyAt w B≠some 5
theorem RDoc.below (h:RDoc w B enc mark body) (hb:Below w.heap.size w w'):RDoc w' B enc mark body :=
 ⟨(hb.cell (p:=⟨B,0,none⟩) (Z3 h.c0)).trans h.c0,(hb.cell (p:=⟨B,1,none⟩) (Z3 h.c0)).trans h.c1,(hb.cell (p:=⟨B,2,none⟩) (Z3 h.c0)).trans h.c2,by rw[QdD (Z3 h.c0) hb];exact h.ty⟩
theorem QjE (s:ByteArray) (mode:Int) (w:World) (h:mode<0\/7<mode) :
  Calls prog 11 #[.string s,.int .i64 mode] w fun e w'=>e=.returned (.tuple #[.pointer none,.int .i64 1])/\w'=w:=by
 rcases h with h|h
 ·go_enter func11,ntmps11;go_wp2;go_ret2;exact⟨rfl,rfl⟩
 have h':¬mode<0:=by omega
 go_enter func11,ntmps11
 go_wp2
 go_ret2
 exact⟨rfl,rfl⟩
theorem QdK (s:ByteArray) (mode:Int) (w:World) (hs:s.size<=1099511627776) (h0:0<=mode) (h7:mode<=7) :
  Calls prog 11 #[.string s,.int .i64 mode] w fun e w'=>∃B,e=.returned (.tuple #[.pointer (some ⟨B,0,none⟩),.int .i64 0])/\w.heap.size<=B/\w'.heap[B]?=some (.cells #[.int .i64 (encOf s mode),.bool (ofMark s (encOf s mode)),.string (ofBody s (encOf s mode)),.slice none 0 0,.slice none 0 0] 103)/\Below w.heap.size w w':=by
 have n0:¬mode<0:=by omega
 have n7:¬7<mode:=by omega
 by_cases h4:4<=mode
 ·have he:encOf s mode=sniffTo s (mode%4) 3:=by unfold encOf;rw[if_pos h4]
  rw[he];clear he;go_enter func11,ntmps11;go_wp2;go_loopw [6,7] (fun e k wx=>∃q:Nat,q<=3/\k=.int .i64 q/\e=.int .i64 (sniffTo s (mode%4) q)/\Below w.heap.size w wx) (fun _ k _=>3 - (intOf k).toNat)
  case atStart=>exact⟨0,Nat.zero_le _,rfl,rfl,Below.refl _ _⟩
  case round =>
   obtain⟨q,hq,rfl,rfl,hbx⟩:=hrel;by_cases hlt:q<3
   ·have hltI:(q:Int)<=2:=by omega
    have hms:=QaN (q:Int);have hmd:(decide ((markB q).size≠0)&&(markB q).data.toList.isPrefixOf s.data.toList)=ofMark s q:=rfl;have hst:sniffTo s (mode%4) (q+1)=if ofMark s q then (q:Int) else sniffTo s (mode%4) q:=rfl
    have HM:=Z2 hmd;have HS:=Z2 hst;clear hmd hst;cases hm:ofMark s q
    ·go_wp2_with fail;refine (Qd8 _ _ (by omega) (by omega)).mono ?_;rintro e w1 ⟨rfl,hb1⟩;go_wp2_with fail;refine (QcG s _ _ hs (by omega)).mono ?_;rintro e w2 ⟨rfl,rfl⟩;rw[HM.o,hm];go_wp2;refine⟨⟨q+1,by omega,by go_num,?_,hbx.trans (hb1.mono hbx.size)⟩,by simp [intOf];omega⟩;rw[HS.o,hm];rfl
    go_wp2_with fail;refine (Qd8 _ _ (by omega) (by omega)).mono ?_;rintro e w1 ⟨rfl,hb1⟩;go_wp2_with fail;refine (QcG s _ _ hs (by omega)).mono ?_;rintro e w2 ⟨rfl,rfl⟩;rw[HM.o,hm];go_wp2;refine⟨⟨q+1,by omega,by go_num,?_,hbx.trans (hb1.mono hbx.size)⟩,by simp [intOf];omega⟩;rw[HS.o,hm];rfl
   obtain rfl:q=3:=by omega
   obtain⟨g0,g3⟩:=Qco s (mode%4) (by omega) (by omega) 3 (Z6 _);generalize hen:sniffTo s (mode%4) 3=en at *;have HEN:=Z2 hen;clear hen;go_wp2_with fail;refine (QfB s en _ hs g0 g3).mono ?_;rintro e w1 ⟨rfl,hb1⟩;have hbw:=hbx.trans (hb1.mono hbx.size);go_wp2;go_ret2;refine⟨w1.heap.size,rfl,hbw.size,?_,hbw.alloc hbw.size _⟩;rw[HEN.o];exact Deep.blk_alloc_new _ _
 have he:encOf s mode=mode%4:=by unfold encOf;rw[if_neg h4]
 rw[he]
 clear he
 go_enter func11,ntmps11
 go_wp2_with fail
 refine (QfB s (mode%4) _ hs (by omega) (by omega)).mono ?_
 rintro e w1 ⟨rfl,hbw⟩
 go_wp2
 go_ret2
 refine⟨w1.heap.size,rfl,hbw.size,?_,hbw.alloc hbw.size _⟩
 exact Deep.blk_alloc_new _ _
theorem RDoc.of_heap {vo vb:Value} (h:w.heap[B]?=some (.cells #[.int .i64 enc,.bool mark,.string body,vo,vb] 103)):RDoc w B enc mark body :=
 ⟨by rw[Lib.cell_of_heap h];rfl,by rw[Lib.cell_of_heap h];rfl,by rw[Lib.cell_of_heap h];rfl,by unfold tyAt;rw[h];intro e;injection e with e;exact absurd e (by decide)⟩
theorem Qm3 (s:ByteArray) (mode:Int) (w:World) (hs:s.size<=1099511627776) (h0:0<=mode) (h7:mode<=7) :
  Calls prog 11 #[.string s,.int .i64 mode] w fun e w'=>∃B,e=.returned (.tuple #[.pointer (some ⟨B,0,none⟩),.int .i64 0])/\w.heap.size<=B/\RDoc w' B (encOf s mode) (ofMark s (encOf s mode)) (ofBody s (encOf s mode))/\Below w.heap.size w w' :=
 (QdK s mode w hs h0 h7).mono fun _ _ ⟨B,h1,h2,h3,h4⟩=>⟨B,h1,h2,RDoc.of_heap h3,h4⟩
theorem Qfc (B:Nat) (enc:Int) (mark:Bool) (body:ByteArray) (w:World) (hd:RDoc w B enc mark body) (hs:body.size<=1099511627776) (h0:0<=enc) (h3:enc<=3) :
  Calls prog 44 #[.pointer (some ⟨B,0,none⟩)] w fun e w'=>e=.returned (.string (bytesOf enc mark body))/\Below w.heap.size w w':=by
 obtain⟨c0,c1,c2⟩:=hd
 go_enter func44,ntmps44
 go_wp2_with fail
 refine (Qc8 _ _ _ _ hs h0 h3).mono ?_
 rintro e w1 ⟨rfl,hb1⟩
 go_wp2
 go_ret
 exact⟨rfl,hb1⟩
theorem QeZ {j:Nat} (h:w.cell? ⟨B,i,none⟩=some u/\w.cell? ⟨B,j,none⟩=some v) (hb:Below w.heap.size w w'):w'.cell? ⟨B,i,none⟩=some u/\w'.cell? ⟨B,j,none⟩=some v :=
 ⟨(hb.cell (p:=⟨B,i,none⟩) (Z3 h.1)).trans h.1,(hb.cell (p:=⟨B,j,none⟩) (Z3 h.1)).trans h.2⟩
theorem Qiy (h:Below w.heap.size w.drew w'):Below w.heap.size w w':=⟨h.os,h.tape,h.output,h.size,h.block⟩
theorem Qbk (B:Nat) (enc:Int) (mark:Bool) (body:ByteArray) (w:World) (hd:RDoc w B enc mark body) (hs:body.size<=1099511627776) (h0:0<=enc) (h3:enc<=3) :
  Calls prog 76 #[.pointer (some ⟨B,0,none⟩)] w fun e w'=>∃v L,e=.returned v/\Vm.Reads L (Vm.atoms enc body.data.toList) 0/\L.length<=body.size/\Holds w' w.heap.size v L/\Below w.heap.size w w':=by
 obtain⟨c0,c1,c2⟩:=hd
 go_enter func76,ntmps76
 go_wp2
 go_region_held3 (fun w'=>w'.cell? ⟨B,0,none⟩=some (.int .i64 enc)/\w'.cell? ⟨B,2,none⟩=some (.string body)) (first|go_keep|exact QeZ (by assumption) (by assumption))
  (first|(go_at_call 112;refine (Qgm body enc _ hs h0 h3).mono ?_;rintro e w1 ⟨v,L,rfl,hr,hl,ho,hb1⟩))
 all_goals
  go_wp2;go_ret;exact⟨v,L,rfl,hr,hl,ho,Qiy hb1⟩
theorem Qof (h:w.cell? ⟨B,0,none⟩=some u/\Hid (Below w0.heap.size w0 w)) (hb:Below w.heap.size w w'):w'.cell? ⟨B,0,none⟩=some u/\Hid (Below w0.heap.size w0 w') :=
 ⟨(hb.cell (p:=⟨B,0,none⟩) (Z3 h.1)).trans h.1,h.2.o.trans (hb.mono h.2.o.size)⟩
theorem Qjq (h:w.cell? ⟨B,0,none⟩=some u) (hb:Below w.heap.size w w):w.drew.cell? ⟨B,0,none⟩=some u/\Hid (Below w.heap.size w w.drew):=⟨h,hb.drew⟩
theorem Qo0 (hd:Hid (RDoc w0 B enc mark body)) (h:w.cell? ⟨B,0,none⟩=some u/\Hid (Below w0.heap.size w0 w)):RDoc w B enc mark body:=hd.o.below h.2.o
def stableB (enc:Int) (mark:Bool) (body:ByteArray):Bool:=encOf (bytesOf enc mark body) (4+enc)==enc
theorem Qjn (B:Nat) (enc:Int) (mark:Bool) (body:ByteArray) (w:World) (hd:RDoc w B enc mark body) (hs:body.size<=1099511627000) (h0:0<=enc) (h3:enc<=3) :
  Calls prog 47 #[.pointer (some ⟨B,0,none⟩)] w fun e w'=>e=.returned (.bool (stableB enc mark body))/\Below w.heap.size w w':=by
 have hbs:(bytesOf enc mark body).size<=1099511627776:=by
  have:=QaN enc;unfold bytesOf;split
  ·rw[ByteArray.size_append];omega
  omega
 have c0:=hd.c0
 have hwr:IntKind.i64.wrap (4+enc)=4+enc:=by rw[IntKind.wrap_i64];omega
 have HD:=Z2 hd
 clear hd
 go_enter func47,ntmps47
 go_wp2
 go_region_held3 (fun w'=>w'.cell? ⟨B,0,none⟩=some (.int .i64 enc)/\Hid (Below w.heap.size w w')) (first|exact Qjq c0 (Below.refl _ _)|exact Qof (by assumption) (by assumption)|exact Qjq c0 (Below.refl _ _))
  (first|(go_at_call 44;refine (Qfc B enc mark body _ (Qo0 HD (by assumption)) (by omega) h0 h3).mono ?_;rintro e w1 ⟨rfl,hb1⟩)|(go_at_call 11;refine (Qm3 (bytesOf enc mark body) (4+enc) _ hbs (by omega) (by omega)).mono ?_;rintro e w2 ⟨B2,rfl,hB2,hd2,hb2⟩))
 all_goals
  have hS:w2.cell? ⟨B,0,none⟩=some (.int .i64 enc)/\Hid (Below w.heap.size w w2):=by assumption
  obtain⟨q0,q1⟩:=hS;have q2:=hd2.c0;go_wp2;go_quiet (fail);go_wp2;go_ret;exact⟨rfl,below_drewN q1.o _⟩
theorem QaP (L:List Vm.RA):∀(k:Nat) (a:Vm.RA) (j:Nat),L[k]?=some a->j<5->(flatRA L)[k * 5+j]?=(cellsRA a)[j]?:=by
 induction L with
 |nil=>intro k a j h;simp at h
 |cons b L ih =>
  intro k a j h hj;have e:flatRA (b :: L)=cellsRA b++flatRA L:=rfl;have l5:(cellsRA b).length=5:=rfl;cases k with
  |zero =>
   simp only[List.getElem?_cons_zero,Option.some.injEq] at h;subst h;rw[e,Nat.zero_mul,Nat.zero_add,List.getElem?_append_left (by omega)]
  |succ k =>
   simp only[List.getElem?_cons_succ] at h;rw[e,List.getElem?_append_right (by omega),l5,<-ih k a j h hj];congr 1;omega
theorem Qbc :∀{L:List Vm.RA} {A:List Vm.At} {p:Nat},Vm.Reads L A p->∀(k:Nat) (a:Vm.RA),L[k]?=some a->∃x q,A[k]?=some x/\Vm.RaOk a x q
 |[],[],_,_,k,a,h=>by simp at h
 |[],_ :: _,_,h,_,_,_=>h.elim
 |_ :: _,[],_,h,_,_,_=>h.elim
 |b :: L,y :: A,p,h,k,a,hk=>by
  cases k with
  |zero =>
   simp only[List.getElem?_cons_zero,Option.some.injEq] at hk
   subst hk
   exact⟨y,p,rfl,h.1⟩
  |succ k =>
   simp only[List.getElem?_cons_succ] at hk
   obtain⟨x,q,h1,h2⟩:=Qbc h.2 k a hk
   exact⟨x,q,h1,h2⟩
theorem QbU {a:Vm.RA} {p:Nat} (h:Vm.RaOk a x p) (hx:Vm.AtOk x):(if a.2.1 then (65533:Int) else a.1)=Vm.chA x:=by
 obtain⟨_,_,he,_,hc,_,_⟩:=h;unfold Vm.chA;by_cases h4:x.1=4
 ·rw[he];simp [h4,hx.2.2.1 h4]
 rw[he,hc h4];simp [h4]
theorem QaH (a b:List Int):strOfNums (a++b)=strOfNums a++strOfNums b:=by
 apply QhE;rw[Qdx];simp [strOfNums]
theorem Tryz.infoByte :(prog.info? 5).map (fun i=>(i.zero,i.size,i.bytes))=some (some (.int .u8 0),1,1):=by kernel_rfl
theorem Qff (a b:ByteArray):Lib.strCells (a++b)=Lib.strCells a++Lib.strCells b:=by
 unfold Lib.strCells;rw[Qdx,List.map_append]
def textTo (A:List Vm.At) (k:Nat):ByteArray:=strOfNums (Vm.textL (A.take k))
theorem Qjh {A:List Vm.At} {k:Nat} (h:A[k]?=some x):textTo A (k+1)=textTo A k++strOfNums (Vm.utfL (Vm.chA x)):=by
 unfold textTo;rw[List.take_add_one,h,<-QaH];simp [Vm.textL]
theorem Qiq (A:List Vm.At):∀k,(textTo A k).size<=4 * k:=by
 intro k
 have:∀B:List Vm.At,(strOfNums (Vm.textL B)).size<=4 * B.length:=by
  intro B
  induction B with
  |nil=>simp [Vm.textL,strOfNums,ByteArray.size]
  |cons b B ih =>
   have e:Vm.textL (b :: B)=Vm.utfL (Vm.chA b)++Vm.textL B:=rfl;rw[e,QaH,ByteArray.size_append,QbZ];have:=Vm.Qaa (Vm.chA b);simp only[List.length_cons];omega
 have h:=this (A.take k);have:(A.take k).length<=k:=by simp;omega
 unfold textTo;omega
def OwnB (w:World) (base:Nat) (p:Option Addr) (cap:Nat) (t:ByteArray):Prop:=w.ownsRow base 5 1 (.slice p t.size cap) t.size (Lib.strCells t)
theorem OwnB.lt (h:OwnB w base p cap t):∀k,(Value.slice p t.size cap).ownBlock=some k->base<=k/\k<w.heap.size:=World.ownsRow.lt h
theorem OwnB.below (h:OwnB w base p cap t) (hb:Below w.heap.size w w'):OwnB w' base p cap t:=by
 refine⟨h.1,?_⟩;rcases h.2 with x|⟨g,cap,cur,e1,e2,e3,r⟩
 ·exact .inl x
 exact .inr ⟨g,cap,cur,e1,e2,(hb.block g (Array.getElem?_eq_some_iff.1 e3).1).trans e3,r⟩
theorem OwnB.conv (h:OwnB w base p cap t):(convert 92 9 (.slice p t.size cap)).run prog w=.ok (.string t) w:=by
 cases p with
 |none =>
  rcases h.2 with ⟨x,y⟩|⟨g,c,cur,x,_⟩
  ·have e:t=ByteArray.empty:=by
    apply QhE;have:t.data.toList.length=0:=y;rw[List.length_eq_zero_iff] at this;rw[this];rfl
   rw[e];exact run_convert_bytes_nil w 92 5 underlying92 underlying5 _ _ 9 underlying9
  cases x
 |some a =>
  rcases h.2 with ⟨x,_⟩|⟨g,c,cur,x,hx⟩
  ·cases x
  injection x with x1 x2 x3
  injection x1 with x1
  subst x1 x3;refine Lib.run_convert_whole w 92 5 9 underlying92 underlying5 underlying9 g 0 t ?_ _;intro i hi;rw[Nat.zero_add,World.ownsRow.cellAt h i (by omega)];unfold Lib.strCells;rw[List.getElem?_map,List.getElem?_eq_getElem (by simpa using hi)];rfl
theorem Ql6 (B:Nat) (enc:Int) (mark:Bool) (body:ByteArray) (w:World) (hd:RDoc w B enc mark body) (hs:body.size<=1099511627776) (h0:0<=enc) (h3:enc<=3) :
  Calls prog 45 #[.pointer (some ⟨B,0,none⟩)] w fun e w'=>e=.returned (.string (strOfNums (Vm.textL (Vm.atoms enc body.data.toList))))/\Below w.heap.size w w':=by
 obtain⟨i0,hi,hz0,hz1,hz2⟩:=info_parts Tryz.infoByte
 have hok:=Vm.Qao enc body.data.toList
 have hca:=Qbk B enc mark body w hd hs h0 h3
 generalize Vm.atoms enc body.data.toList=A at *
 have HC:=Z2 hca
 clear hca hd
 go_enter func45,ntmps45
 go_wp2_with fail
 refine HC.o.mono ?_
 rintro e w1 ⟨v,L,rfl,hr,hl,ho,hb1⟩
 have hlen:=hr.length
 obtain⟨p,cap,rfl⟩:∃p cap,v=.slice p L.length cap:=by
  rcases ho.2 with ⟨x,y⟩|⟨g,c,cur,x,_⟩
  ·exact⟨none,0,by rw[x,y]⟩
  exact⟨_,_,x⟩
 have HO:=Z2 ho
 have HR:=Z2 hr
 have HL:=Z2 hlen
 clear ho hr hlen
 go_wp2
 go_loopw [3,5] (fun s i wx=>∃(k:Nat) (q:Option Addr) (c:Nat),k<=L.length/\i=.int .i64 k/\s=.slice q (textTo A k).size c/\OwnB wx w1.heap.size q c (textTo A k)/\Below w1.heap.size w1 wx) (fun _ i _=>L.length - (intOf i).toNat)
 case atStart=>exact⟨0,none,0,Nat.zero_le _,rfl,rfl,World.ownsRow_nil _ _ _ _,Below.refl _ _⟩
 case round =>
  obtain⟨k,q,c,hk,rfl,rfl,hown,hbx⟩:=hrel;have hts:=Qiq A k;by_cases hlt:k<L.length
  ·have hltI:(k:Int)<(L.length:Int):=by omega
   obtain⟨a,ha⟩:∃a,L[k]?=some a:=⟨L[k],List.getElem?_eq_getElem hlt⟩;obtain⟨x,pz,hx,hra⟩:=Qbc HR.o k a ha;have hch:=QbU hra (hok x (List.mem_of_getElem? hx));have hxo:=hok x (List.mem_of_getElem? hx);have hsucc:=Qjh hx;have hcb:Vm.chA x<=1114111/\0<=Vm.chA x:=⟨hxo.2.2.2.2.2.1,hxo.2.2.2.2.1⟩
   obtain⟨g,rfl⟩:∃g,p=some ⟨g,0,none⟩:=by
    rcases HO.o.2 with ⟨y,z⟩|⟨g,c,cur,y,_⟩
    ·omega
    injection y with y1;exact⟨g,y1⟩
   have hox:=HO.o.below hbx;have cell:=fun j (hj:j<5)=>(hox.cellAt (k * 5+j) (by omega)).trans (QaP L k a j ha hj);have q0:=cell 0 (by decide);have q1:=cell 1 (by decide);have q2:=cell 2 (by decide);have q3:=cell 3 (by decide);have q4:=cell 4 (by decide);simp only[cellsRA,List.getElem?_cons_succ,List.getElem?_cons_zero,Nat.add_zero] at q0 q1 q2 q3 q4;have hsh:=QbS a;have hrange:a.2.1=false->0<=a.1/\a.1<=1114111:=fun h=>by rw[h] at hch;simp only[Bool.false_eq_true,if_false] at hch;rw[hch];exact⟨hcb.2,hcb.1⟩
   have HRG:=Z2 hrange;rw[hch] at hsh;clear hrange;have HSH:=Z2 hsh;have HS:=Z2 hsucc;have HW:=Z2 hown;have hlen:=QbZ (Vm.chA x);have hlc:=Vm.Qaa (Vm.chA x);have HLN:=Z2 hlen;clear cell hox hsh hsucc hown hch hra hx ha hlen;go_wp2_with fail;refine (HSH.o _ HRG.o).mono ?_;rintro e w2 ⟨rfl,hb2⟩;have HW2:=Z2 (HW.o.below hb2);have hbx2:=hbx.trans (hb2.mono hbx.size);have hsz:=hbx2.size;clear hb2 q0 q1 q2 q3 q4;go_wp2_with (at_builtin;refine Lib.wpList_append_own_string _ rfl _ _ 92 9 rfl w1.heap.size 5 i0 underlying92 underlying9 hi hz0 hz1 hz2 _ (textTo A k).size (Lib.strCells (textTo A k)) rfl HW2.o (strOfNums (Vm.utfL (Vm.chA x))) rfl ?h63 ?hby ?hbase ?hrest)
   case h63=>rw[HLN.o];unfold maxLen;omega
   case hby=>rw[HLN.o];omega
   case hbase=>omega
   case hrest =>
    intro v' w3 hown3 hgrow3 _
    obtain⟨q',c',hv'⟩:∃q' c',v'=.slice q' (textTo A (k+1)).size c':=by
     rcases hown3.2 with ⟨y,z⟩|⟨g',c',cur,y,_⟩
     ·exact⟨none,0,by rw[HS.o,ByteArray.size_append,z];exact y⟩
     exact⟨_,c',by rw[HS.o,ByteArray.size_append];exact y⟩
    have hown4:OwnB w3 w1.heap.size q' c' (textTo A (k+1)):=by
     unfold OwnB;rw[<-hv',HS.o,ByteArray.size_append,Qff];exact hown3
    have hb3:Below w1.heap.size w1 w3:=hbx2.grown hgrow3 hsz (fun k' hk'=>(HW2.o.lt k' hk').1);rw[hv'];clear hown3 hgrow3 hv';go_wp2;exact⟨⟨k+1,q',c',by omega,by go_num,rfl,hown4,hb3⟩,by simp [intOf];omega⟩
  obtain rfl:k=L.length:=by omega
  have hfin:textTo A L.length=strOfNums (Vm.textL A):=by unfold textTo;rw[HL.o,List.take_length]
  have hcv:=hown.conv
  have HF:=Z2 hfin;clear hfin hown;go_wp2;go_ret;exact⟨Qee HF.o,hb1.trans (hbx.mono hb1.size)⟩
end Go.Proofs.YtoejbngihecafaaGreatDoor
namespace Vm
def cntK (A:List At) (j:Int):Nat:=(A.filter (fun x=>x.1==j)).length
theorem Qhz (A:List At) (x:At) (j:Int):cntK (A++[x]) j=cntK A j+if x.1=j then 1 else 0:=by
 unfold cntK;rw[List.filter_append,List.length_append];by_cases h:x.1=j<;>simp [h]
theorem QcV (A:List At) (j:Int):cntK A j<=A.length:=List.length_filter_le _ _
theorem QdY {A:List At} {k:Nat} {x:At} (h:A[k]?=some x) (j:Int):cntK (A.take (k+1)) j=cntK (A.take k) j+if x.1=j then 1 else 0:=by
 rw[List.take_add_one,h];exact Qhz _ _ _
def endingOf (a b c:Nat):Int:=if (if a<b then b else a)<c then 2 else if a<b then 1 else 0
end Vm
namespace Go.Proofs.YtoejbngihecafaaGreatDoor
open Go.RowKit
theorem make3 (w:World):(Instr.makeSlice 22 (.int .i64 3) (.int .i64 3)).run prog w=.ok (.slice (some ⟨w.heap.size,0,none⟩) 3 3) (w.alloc (.cells #[.int .i64 0,.int .i64 0,.int .i64 0] 3)):=by kernel_rfl
theorem Qf3 (v:Value) (L:List Vm.RA) (A:List Vm.At) (base:Nat) (w:World) (ho:Holds w base v L) (hr:Vm.Reads L A 0) (hl:L.length<=1099511627776) :
  Calls prog 78 #[v] w fun e w'=>e=.returned (.int .i64 (Vm.endingOf (Vm.cntK A 0) (Vm.cntK A 1) (Vm.cntK A 2)))/\Below w.heap.size w w':=by
 have hmk:=make3
 obtain⟨p,cap,rfl⟩:∃p cap,v=.slice p L.length cap:=by
  rcases ho.2 with ⟨x,y⟩|⟨g,c,cur,x,_⟩
  ·exact⟨none,0,by rw[x,y]⟩
  exact⟨_,_,x⟩
 have hlen:=hr.length
 have HO:=Z2 ho
 have HR:=Z2 hr
 have HL:=Z2 hlen
 clear ho hr hlen
 go_enter func78,ntmps78
 go_wp2
 have bN:=Bx3.new w 3 (.int .i64 0) (.int .i64 0) (.int .i64 0)
 have hbN:Below w.heap.size w (w.alloc (.cells #[.int .i64 0,.int .i64 0,.int .i64 0] 3)):=Z7 _ _
 have HBN:=Z2 bN
 clear bN
 go_loopw [4] (fun i wx=>∃k:Nat,k<=L.length/\i=.int .i64 k/\Bx3 wx w.heap.size (.int .i64 (Vm.cntK (A.take k) 0)) (.int .i64 (Vm.cntK (A.take k) 1)) (.int .i64 (Vm.cntK (A.take k) 2))/\Below w.heap.size w wx) (fun i _=>L.length - (intOf i).toNat)
 case atStart=>exact⟨0,Nat.zero_le _,rfl,HBN.o,hbN⟩
 case round =>
  obtain⟨k,hk,rfl,hbk,hbx⟩:=hrel;obtain⟨⟨n0,n1,n2⟩,f0,f1,f2⟩:=hbk;have m0:=Vm.QcV (A.take k) 0;have m1:=Vm.QcV (A.take k) 1;have m2:=Vm.QcV (A.take k) 2;have mt:(A.take k).length<=k:=by simp;omega
  by_cases hlt:k<L.length
  ·have hltI:(k:Int)<(L.length:Int):=by omega
   obtain⟨a,ha⟩:∃a,L[k]?=some a:=⟨L[k],List.getElem?_eq_getElem hlt⟩;obtain⟨x,pz,hx,hra⟩:=Qbc HR.o k a ha
   obtain⟨g,rfl⟩:∃g,p=some ⟨g,0,none⟩:=by
    rcases HO.o.2 with ⟨y,z⟩|⟨g,c,cur,y,_⟩
    ·omega
    injection y with y1;exact⟨g,y1⟩
   have hgl:=(HO.o.lt g rfl).2;have q2:=(HO.o.below (hbx.mono (Z6 _))).cellAt (k * 5+2) (by omega);rw[QaP L k a 2 ha (by decide)] at q2;simp only[cellsRA,List.getElem?_cons_succ,List.getElem?_cons_zero] at q2;have hend:=hra.2.2.2.1;have hk0:=hra.2.2.2.2.2;have t0:=Vm.QdY hx 0;have t1:=Vm.QdY hx 1;have t2:=Vm.QdY hx 2;rw[hend] at q2;have T0:=Z2 t0;have T1:=Z2 t1;have T2:=Z2 t2;clear hend hra hx ha t0 t1 t2;have hcase:x.1=0\/x.1=1\/x.1=2\/3<=x.1:=by omega
   rcases hcase with hx1|hx1|hx1|hx1
   ·rw[hx1,if_pos (by decide)] at q2;go_wp2;refine⟨⟨k+1,by omega,by go_num,⟨⟨?_,?_,?_⟩,?_,?_,?_⟩,hbx.setCell (p:=⟨w.heap.size,0,none⟩) (Z6 _) _⟩,by simp [intOf];omega⟩
    ·rw[sc_eq _ _ 0 _ _ n0,T0.o,if_pos hx1];rfl
    ·rw[sc_ne _ _ 0 1 _ (by decide),T1.o,if_neg (by omega)];exact n1
    ·rw[sc_ne _ _ 0 2 _ (by decide),T2.o,if_neg (by omega)];exact n2
    ·rw[World.frozen?_setCell];exact f0
    ·rw[World.frozen?_setCell];exact f1
    rw[World.frozen?_setCell];exact f2
   ·rw[hx1,if_pos (by decide)] at q2;go_wp2;refine⟨⟨k+1,by omega,by go_num,⟨⟨?_,?_,?_⟩,?_,?_,?_⟩,hbx.setCell (p:=⟨w.heap.size,1,none⟩) (Z6 _) _⟩,by simp [intOf];omega⟩
    ·rw[sc_ne _ _ 1 0 _ (by decide),T0.o,if_neg (by omega)];exact n0
    ·rw[sc_eq _ _ 1 _ _ n1,T1.o,if_pos hx1];rfl
    ·rw[sc_ne _ _ 1 2 _ (by decide),T2.o,if_neg (by omega)];exact n2
    ·rw[World.frozen?_setCell];exact f0
    ·rw[World.frozen?_setCell];exact f1
    rw[World.frozen?_setCell];exact f2
   ·rw[hx1,if_pos (by decide)] at q2;go_wp2;refine⟨⟨k+1,by omega,by go_num,⟨⟨?_,?_,?_⟩,?_,?_,?_⟩,hbx.setCell (p:=⟨w.heap.size,2,none⟩) (Z6 _) _⟩,by simp [intOf];omega⟩
    ·rw[sc_ne _ _ 2 0 _ (by decide),T0.o,if_neg (by omega)];exact n0
    ·rw[sc_ne _ _ 2 1 _ (by decide),T1.o,if_neg (by omega)];exact n1
    ·rw[sc_eq _ _ 2 _ _ n2,T2.o,if_pos hx1];rfl
    ·rw[World.frozen?_setCell];exact f0
    ·rw[World.frozen?_setCell];exact f1
    rw[World.frozen?_setCell];exact f2
   rw[if_neg (by omega)] at q2;go_wp2;refine⟨⟨k+1,by omega,by go_num,⟨⟨?_,?_,?_⟩,f0,f1,f2⟩,hbx⟩,by simp [intOf];omega⟩
   ·rw[T0.o,if_neg (by omega)];exact n0
   ·rw[T1.o,if_neg (by omega)];exact n1
   rw[T2.o,if_neg (by omega)];exact n2
  obtain rfl:k=L.length:=by omega
  have hall:A.take L.length=A:=by rw[HL.o,List.take_length]
  rw[hall] at n0 n1 n2 m0 m1 m2;have hAl:=HL.o;clear hall mt;generalize e0:Vm.cntK A 0=c0 at *;generalize e1:Vm.cntK A 1=c1 at *;generalize e2:Vm.cntK A 2=c2 at *;have C0:=Z2 e0;have C1:=Z2 e1;have C2:=Z2 e2;clear e0 e1 e2;by_cases g1:(c0:Int)<(c1:Int)
  ·by_cases g2:(c1:Int)<(c2:Int)
   ·skip;have he:Vm.endingOf c0 c1 c2=2:=by unfold Vm.endingOf;rw[if_pos (show c0<c1 by omega),if_pos (by omega)]
    have HE:=Z2 he;clear he;go_wp2;refine wp_loop_rounds 3 ?_;rw[rounds_succ];go_wp2;go_quiet (fail);go_wp2;rw[rounds_succ];go_wp2;go_quiet (fail);go_wp2;rw[rounds_succ];go_wp2;go_ret;exact⟨Qc5 (by rw[C0.o,C1.o,C2.o];exact HE.o.symm),below_drewN hbx _⟩
   skip;have he:Vm.endingOf c0 c1 c2=1:=by unfold Vm.endingOf;rw[if_pos (show c0<c1 by omega),if_neg (by omega),if_pos (by omega)]
   have HE:=Z2 he;clear he;go_wp2;refine wp_loop_rounds 3 ?_;rw[rounds_succ];go_wp2;go_quiet (fail);go_wp2;rw[rounds_succ];go_wp2;go_quiet (fail);go_wp2;rw[rounds_succ];go_wp2;go_ret;exact⟨Qc5 (by rw[C0.o,C1.o,C2.o];exact HE.o.symm),below_drewN hbx _⟩
  by_cases g2:(c0:Int)<(c2:Int)
  ·skip;have he:Vm.endingOf c0 c1 c2=2:=by unfold Vm.endingOf;rw[if_neg (show ¬c0<c1 by omega),if_pos (by omega)]
   have HE:=Z2 he;clear he;go_wp2;refine wp_loop_rounds 3 ?_;rw[rounds_succ];go_wp2;go_quiet (fail);go_wp2;rw[rounds_succ];go_wp2;go_quiet (fail);go_wp2;rw[rounds_succ];go_wp2;go_ret;exact⟨Qc5 (by rw[C0.o,C1.o,C2.o];exact HE.o.symm),below_drewN hbx _⟩
  skip;have he:Vm.endingOf c0 c1 c2=0:=by unfold Vm.endingOf;rw[if_neg (show ¬c0<c1 by omega),if_neg (by omega),if_neg (by omega)]
  have HE:=Z2 he;clear he;go_wp2;refine wp_loop_rounds 3 ?_;rw[rounds_succ];go_wp2;go_quiet (fail);go_wp2;rw[rounds_succ];go_wp2;go_quiet (fail);go_wp2;rw[rounds_succ];go_wp2;go_ret;exact⟨Qc5 (by rw[C0.o,C1.o,C2.o];exact HE.o.symm),below_drewN hbx _⟩
end Go.Proofs.YtoejbngihecafaaGreatDoor
namespace Vm
variable {A:List At} {k:Nat} {x:At}
def bytesA (A:List At):Nat:=(A.map lenA).sum
def unitsA (A:List At):Nat:=(A.map unA).sum
def linesA (A:List At):Nat:=(A.filter (fun x=>decide (x.1<=2))).length
theorem Qbx (h:A[k]?=some x):bytesA (A.take (k+1))=bytesA (A.take k)+lenA x:=by
 rw[List.take_add_one,h];simp [bytesA]
theorem Qdw (h:A[k]?=some x):unitsA (A.take (k+1))=unitsA (A.take k)+unA x:=by
 rw[List.take_add_one,h];simp [unitsA]
theorem QaL (h:A[k]?=some x):linesA (A.take (k+1))=linesA (A.take k)+if x.1<=2 then 1 else 0:=by
 rw[List.take_add_one,h];unfold linesA;rw[List.filter_append,List.length_append];by_cases g:x.1<=2<;>simp [g]
theorem QkD (h:A[k]?=some x):sizeA (A.take (k+1))=sizeA (A.take k)+x.2.2:=by
 rw[List.take_add_one,h];exact Qay _ _
theorem Qcl (A:List At):bytesA A<=4 * A.length:=by
 induction A with
 |nil=>simp [bytesA]
 |cons a A ih =>
  have h1:lenA a<=4:=by have:=Qaa (chA a);unfold lenA;omega
  have h2:bytesA (a :: A)=lenA a+bytesA A:=by simp [bytesA]
  rw[h2,List.length_cons];omega
theorem Qc4 (A:List At):unitsA A<=2 * A.length:=by
 induction A with
 |nil=>simp [unitsA]
 |cons a A ih =>
  have h1:unA a<=2:=by unfold unA;split<;>omega
  have h2:unitsA (a :: A)=unA a+unitsA A:=by simp [unitsA]
  rw[h2,List.length_cons];omega
theorem QdB (A:List At):linesA A<=A.length:=List.length_filter_le _ _
theorem Reads.pos :∀{L:List RA} {A:List At} {p:Nat},Reads L A p->∀(k:Nat) (a:RA) (x:At),L[k]?=some a->A[k]?=some x->RaOk a x (p+sizeA (A.take k))
 |[],_,_,_,k,a,x,h,_=>by simp at h
 |_ :: _,[],_,h,_,_,_,_,_=>h.elim
 |b :: L,y :: A,p,h,k,a,x,hk,hx=>by
  cases k with
  |zero =>
   simp only[List.getElem?_cons_zero,Option.some.injEq] at hk hx
   subst hk hx
   simpa [sizeA] using h.1
  |succ k =>
   simp only[List.getElem?_cons_succ] at hk hx
   have:=h.2.pos k a x hk hx
   have e:p+y.2.2+sizeA (A.take k)=p+sizeA ((y :: A).take (k+1)):=by simp [sizeA];omega
   rwa [e] at this
end Vm
namespace Go.Proofs.YtoejbngihecafaaGreatDoor
open Go.RowKit
structure Bx9 (w:World) (B:Nat) (v0 v1 v2 v3 v4 v5 v6 v7 v8:Value):Prop where
 c0:w.cell? ⟨B,0,none⟩=some v0
 c1:w.cell? ⟨B,1,none⟩=some v1
 c2:w.cell? ⟨B,2,none⟩=some v2
 c3:w.cell? ⟨B,3,none⟩=some v3
 c4:w.cell? ⟨B,4,none⟩=some v4
 c5:w.cell? ⟨B,5,none⟩=some v5
 c6:w.cell? ⟨B,6,none⟩=some v6
 c7:w.cell? ⟨B,7,none⟩=some v7
 c8:w.cell? ⟨B,8,none⟩=some v8
 f:∀j,w.frozen? ⟨B,j,none⟩=false
theorem Bx9.below {w w':World} {B:Nat} {v0 v1 v2 v3 v4 v5 v6 v7 v8:Value} (h:Bx9 w B v0 v1 v2 v3 v4 v5 v6 v7 v8) (hb:Below w.heap.size w w'):Bx9 w' B v0 v1 v2 v3 v4 v5 v6 v7 v8:=by
 have hB:=Z3 h.c0;have g:∀o,w'.cell? ⟨B,o,none⟩=w.cell? ⟨B,o,none⟩:=fun o=>hb.cell (p:=⟨B,o,none⟩) hB;exact⟨(g _).trans h.c0,(g _).trans h.c1,(g _).trans h.c2,(g _).trans h.c3,(g _).trans h.c4,(g _).trans h.c5,(g _).trans h.c6,(g _).trans h.c7,(g _).trans h.c8,fun j=>(hb.frozen (p:=⟨B,j,none⟩) hB).trans (h.f j)⟩
theorem Bx9.new (w:World) (t:TypeId) (v0 v1 v2 v3 v4 v5 v6 v7 v8:Value):Bx9 (w.alloc (.cells #[v0,v1,v2,v3,v4,v5,v6,v7,v8] t)) w.heap.size v0 v1 v2 v3 v4 v5 v6 v7 v8 :=
 ⟨by simp,by simp,by simp,by simp,by simp,by simp,by simp,by simp,by simp,fun j=>by simp [go_sem]⟩
variable {w:World} {B:Nat} {v0 v1 v2 v3 v4 v5 v6 v7 v8:Value}
theorem Bx9.set2 (h:Bx9 w B v0 v1 v2 v3 v4 v5 v6 v7 v8) (u:Value):Bx9 (w.setCell ⟨B,2,none⟩ u) B v0 v1 u v3 v4 v5 v6 v7 v8 :=
 ⟨by rw[sc_ne _ _ 2 0 _ (by decide)];exact h.c0,by rw[sc_ne _ _ 2 1 _ (by decide)];exact h.c1,sc_eq _ _ 2 _ _ h.c2,by rw[sc_ne _ _ 2 3 _ (by decide)];exact h.c3,by rw[sc_ne _ _ 2 4 _ (by decide)];exact h.c4,by rw[sc_ne _ _ 2 5 _ (by decide)];exact h.c5,by rw[sc_ne _ _ 2 6 _ (by decide)];exact h.c6,by rw[sc_ne _ _ 2 7 _ (by decide)];exact h.c7,by rw[sc_ne _ _ 2 8 _ (by decide)];exact h.c8,fun j=>by rw[World.frozen?_setCell];exact h.f j⟩
theorem Bx9.set3 (h:Bx9 w B v0 v1 v2 v3 v4 v5 v6 v7 v8) (u:Value):Bx9 (w.setCell ⟨B,3,none⟩ u) B v0 v1 v2 u v4 v5 v6 v7 v8 :=
 ⟨by rw[sc_ne _ _ 3 0 _ (by decide)];exact h.c0,by rw[sc_ne _ _ 3 1 _ (by decide)];exact h.c1,by rw[sc_ne _ _ 3 2 _ (by decide)];exact h.c2,sc_eq _ _ 3 _ _ h.c3,by rw[sc_ne _ _ 3 4 _ (by decide)];exact h.c4,by rw[sc_ne _ _ 3 5 _ (by decide)];exact h.c5,by rw[sc_ne _ _ 3 6 _ (by decide)];exact h.c6,by rw[sc_ne _ _ 3 7 _ (by decide)];exact h.c7,by rw[sc_ne _ _ 3 8 _ (by decide)];exact h.c8,fun j=>by rw[World.frozen?_setCell];exact h.f j⟩
theorem Bx9.set4 (h:Bx9 w B v0 v1 v2 v3 v4 v5 v6 v7 v8) (u:Value):Bx9 (w.setCell ⟨B,4,none⟩ u) B v0 v1 v2 v3 u v5 v6 v7 v8 :=
 ⟨by rw[sc_ne _ _ 4 0 _ (by decide)];exact h.c0,by rw[sc_ne _ _ 4 1 _ (by decide)];exact h.c1,by rw[sc_ne _ _ 4 2 _ (by decide)];exact h.c2,by rw[sc_ne _ _ 4 3 _ (by decide)];exact h.c3,sc_eq _ _ 4 _ _ h.c4,by rw[sc_ne _ _ 4 5 _ (by decide)];exact h.c5,by rw[sc_ne _ _ 4 6 _ (by decide)];exact h.c6,by rw[sc_ne _ _ 4 7 _ (by decide)];exact h.c7,by rw[sc_ne _ _ 4 8 _ (by decide)];exact h.c8,fun j=>by rw[World.frozen?_setCell];exact h.f j⟩
theorem Bx9.set5 (h:Bx9 w B v0 v1 v2 v3 v4 v5 v6 v7 v8) (u:Value):Bx9 (w.setCell ⟨B,5,none⟩ u) B v0 v1 v2 v3 v4 u v6 v7 v8 :=
 ⟨by rw[sc_ne _ _ 5 0 _ (by decide)];exact h.c0,by rw[sc_ne _ _ 5 1 _ (by decide)];exact h.c1,by rw[sc_ne _ _ 5 2 _ (by decide)];exact h.c2,by rw[sc_ne _ _ 5 3 _ (by decide)];exact h.c3,by rw[sc_ne _ _ 5 4 _ (by decide)];exact h.c4,sc_eq _ _ 5 _ _ h.c5,by rw[sc_ne _ _ 5 6 _ (by decide)];exact h.c6,by rw[sc_ne _ _ 5 7 _ (by decide)];exact h.c7,by rw[sc_ne _ _ 5 8 _ (by decide)];exact h.c8,fun j=>by rw[World.frozen?_setCell];exact h.f j⟩
theorem Bx9.set6 (h:Bx9 w B v0 v1 v2 v3 v4 v5 v6 v7 v8) (u:Value):Bx9 (w.setCell ⟨B,6,none⟩ u) B v0 v1 v2 v3 v4 v5 u v7 v8 :=
 ⟨by rw[sc_ne _ _ 6 0 _ (by decide)];exact h.c0,by rw[sc_ne _ _ 6 1 _ (by decide)];exact h.c1,by rw[sc_ne _ _ 6 2 _ (by decide)];exact h.c2,by rw[sc_ne _ _ 6 3 _ (by decide)];exact h.c3,by rw[sc_ne _ _ 6 4 _ (by decide)];exact h.c4,by rw[sc_ne _ _ 6 5 _ (by decide)];exact h.c5,sc_eq _ _ 6 _ _ h.c6,by rw[sc_ne _ _ 6 7 _ (by decide)];exact h.c7,by rw[sc_ne _ _ 6 8 _ (by decide)];exact h.c8,fun j=>by rw[World.frozen?_setCell];exact h.f j⟩
theorem Bx9.set7 (h:Bx9 w B v0 v1 v2 v3 v4 v5 v6 v7 v8) (u:Value):Bx9 (w.setCell ⟨B,7,none⟩ u) B v0 v1 v2 v3 v4 v5 v6 u v8 :=
 ⟨by rw[sc_ne _ _ 7 0 _ (by decide)];exact h.c0,by rw[sc_ne _ _ 7 1 _ (by decide)];exact h.c1,by rw[sc_ne _ _ 7 2 _ (by decide)];exact h.c2,by rw[sc_ne _ _ 7 3 _ (by decide)];exact h.c3,by rw[sc_ne _ _ 7 4 _ (by decide)];exact h.c4,by rw[sc_ne _ _ 7 5 _ (by decide)];exact h.c5,by rw[sc_ne _ _ 7 6 _ (by decide)];exact h.c6,sc_eq _ _ 7 _ _ h.c7,by rw[sc_ne _ _ 7 8 _ (by decide)];exact h.c8,fun j=>by rw[World.frozen?_setCell];exact h.f j⟩
theorem Bx9.set0 (h:Bx9 w B v0 v1 v2 v3 v4 v5 v6 v7 v8) (u:Value):Bx9 (w.setCell ⟨B,0,none⟩ u) B u v1 v2 v3 v4 v5 v6 v7 v8 :=
 ⟨sc_eq _ _ 0 _ _ h.c0,by rw[sc_ne _ _ 0 1 _ (by decide)];exact h.c1,by rw[sc_ne _ _ 0 2 _ (by decide)];exact h.c2,by rw[sc_ne _ _ 0 3 _ (by decide)];exact h.c3,by rw[sc_ne _ _ 0 4 _ (by decide)];exact h.c4,by rw[sc_ne _ _ 0 5 _ (by decide)];exact h.c5,by rw[sc_ne _ _ 0 6 _ (by decide)];exact h.c6,by rw[sc_ne _ _ 0 7 _ (by decide)];exact h.c7,by rw[sc_ne _ _ 0 8 _ (by decide)];exact h.c8,fun j=>by rw[World.frozen?_setCell];exact h.f j⟩
theorem Bx9.set1 (h:Bx9 w B v0 v1 v2 v3 v4 v5 v6 v7 v8) (u:Value):Bx9 (w.setCell ⟨B,1,none⟩ u) B v0 u v2 v3 v4 v5 v6 v7 v8 :=
 ⟨by rw[sc_ne _ _ 1 0 _ (by decide)];exact h.c0,sc_eq _ _ 1 _ _ h.c1,by rw[sc_ne _ _ 1 2 _ (by decide)];exact h.c2,by rw[sc_ne _ _ 1 3 _ (by decide)];exact h.c3,by rw[sc_ne _ _ 1 4 _ (by decide)];exact h.c4,by rw[sc_ne _ _ 1 5 _ (by decide)];exact h.c5,by rw[sc_ne _ _ 1 6 _ (by decide)];exact h.c6,by rw[sc_ne _ _ 1 7 _ (by decide)];exact h.c7,by rw[sc_ne _ _ 1 8 _ (by decide)];exact h.c8,fun j=>by rw[World.frozen?_setCell];exact h.f j⟩
theorem Bx9.set8 (h:Bx9 w B v0 v1 v2 v3 v4 v5 v6 v7 v8) (u:Value):Bx9 (w.setCell ⟨B,8,none⟩ u) B v0 v1 v2 v3 v4 v5 v6 v7 u :=
 ⟨by rw[sc_ne _ _ 8 0 _ (by decide)];exact h.c0,by rw[sc_ne _ _ 8 1 _ (by decide)];exact h.c1,by rw[sc_ne _ _ 8 2 _ (by decide)];exact h.c2,by rw[sc_ne _ _ 8 3 _ (by decide)];exact h.c3,by rw[sc_ne _ _ 8 4 _ (by decide)];exact h.c4,by rw[sc_ne _ _ 8 5 _ (by decide)];exact h.c5,by rw[sc_ne _ _ 8 6 _ (by decide)];exact h.c6,by rw[sc_ne _ _ 8 7 _ (by decide)];exact h.c7,sc_eq _ _ 8 _ _ h.c8,fun j=>by rw[World.frozen?_setCell];exact h.f j⟩
end Go.Proofs.YtoejbngihecafaaGreatDoor
