import Derived.Test.YtoejbngihecafabGreatDoorB49
import Derived.Test.YtoejbngihecafabGreatDoorB45
namespace Go.Proofs.YtoejbngihecafabGreatDoor
open Go.RowKit
theorem plV2' (A:List Vm.At) (o:Int):(plV A o).2=(rplV A o).2:=by
 unfold plV rplV
 split
 ·rfl
 ·split<;>rfl
theorem strV_at {A:List Vm.At} {ja jb:Nat} (h1:ja<=jb) (h2:jb<=A.length):(strV A (Vm.bytesA (A.take ja)) (Vm.bytesA (A.take jb))).2.2=0/\Vm.plK A (Vm.bytesA (A.take ja))=ja/\Vm.plK A (Vm.bytesA (A.take jb))=jb:=by
 have e1:=rplV_at (A:=A) (k:=ja) (by omega) rfl
 have e2:=rplV_at (A:=A) (k:=jb) h2 rfl
 have m1:=Vm.bytesA_mono A ja jb h1
 have m2:=Vm.bytesA_mono A jb A.length h2
 rw[List.take_length] at m2
 refine⟨?_,?_,?_⟩
 ·unfold strV
  rw[if_neg (by omega),plV2',plV2',e1,e2]
  rfl
 ·exact Vm.plK_eq (by omega) (Int.le_refl _) (fun hl=>by have:=Vm.bytesA_lt A ja (ja+1) (by omega) hl;omega)
 ·exact Vm.plK_eq h2 (Int.le_refl _) (fun hl=>by have:=Vm.bytesA_lt A jb (jb+1) (by omega) hl;omega)
theorem empty_text:Vm.atoms 0 (⟨#[]⟩:ByteArray).data.toList=[]:=by decide
theorem rplE_empty {k:Kp} {f t:Int} (h:(strV k.A f t).2.2=0):rplE k f t ⟨#[]⟩=0:=by
 unfold rplE
 rw[if_neg (by simpa using h),empty_text]
 simp
theorem rplK_empty (k:Kp) (f t:Int):rplK k f t ⟨#[]⟩=replK k (Vm.plK k.A f) (Vm.plK k.A t) []:=by
 unfold rplK
 rw[empty_text]
 rfl
theorem rplE_text {k:Kp} {f t:Int} (zs:List Int) (h:(strV k.A f t).2.2=0):rplE k f t (strOfNums (Vm.recL 0 (Vm.ktA (decide (k.enc=3)) false zs)))=0:=by
 unfold rplE
 have hn:(strOfNums (Vm.recL 0 (Vm.ktA (decide (k.enc=3)) false zs))).data.toList=Vm.nb (Vm.recL 0 (Vm.ktA (decide (k.enc=3)) false zs)):=rfl
 rw[if_neg (by simpa using h),hn,Vm.kt_plain,if_neg (by decide),if_neg]
 rintro ⟨e3,hq⟩
 rw[decide_eq_true e3,Vm.kt_small] at hq
 cases hq
theorem rplK_text {k:Kp} {f t:Int} (zs:List Int):rplK k f t (strOfNums (Vm.recL 0 (Vm.ktA (decide (k.enc=3)) false zs)))=replK k (Vm.plK k.A f) (Vm.plK k.A t) (Vm.nb (Vm.typL k.enc (Vm.endingOf (Vm.cntK k.A 0) (Vm.cntK k.A 1) (Vm.cntK k.A 2)) (Vm.ktA (decide (k.enc=3)) false zs))):=by
 unfold rplK
 have hn:(strOfNums (Vm.recL 0 (Vm.ktA (decide (k.enc=3)) false zs))).data.toList=Vm.nb (Vm.recL 0 (Vm.ktA (decide (k.enc=3)) false zs)):=rfl
 rw[hn,Vm.kt_atoms,Vm.typL_toE]
end Go.Proofs.YtoejbngihecafabGreatDoor
namespace Go.Proofs.YtoejbngihecafabGreatDoor
open Go.RowKit
end Go.Proofs.YtoejbngihecafabGreatDoor
