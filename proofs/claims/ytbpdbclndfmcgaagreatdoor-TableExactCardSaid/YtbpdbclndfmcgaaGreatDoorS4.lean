/- A piece of a proof over this program: contracts of its functions, and a logic to prove them by. -/
import Derived.Test.YtbpdbclndfmcgaaGreatDoorS1
import Derived.Test.YtbpdbclndfmcgaaGreatDoorS2
import Derived.Test.YtbpdbclndfmcgaaGreatDoorS3
import Derived.Test.YtbpdbclndfmcgaaGreatDoorRows
import Derived.Lib.Strings
import Derived.Lib.TrimByte
section
set_option maxHeartbeats 12800000
set_option maxRecDepth 100000
namespace Go.Proofs.YtbpdbclndfmcgaaGreatDoor
open Go Go.Lg
theorem mixed:Tryz.prog.follows .mixedOrders=true:=by kernel_rfl
instance:OneT Tryz.prog 3:=⟨by kernel_rfl⟩
instance:IntT Tryz.prog 3 .i64:=⟨by kernel_rfl⟩
instance:OneT Tryz.prog 4:=⟨by kernel_rfl⟩
instance:BoolT Tryz.prog 4:=⟨by kernel_rfl⟩
instance:OneT Tryz.prog 5:=⟨by kernel_rfl⟩
instance:IntT Tryz.prog 5 .u8:=⟨by kernel_rfl⟩
instance:OneT Tryz.prog 9:=⟨by kernel_rfl⟩
instance:StrT Tryz.prog 9:=⟨by kernel_rfl⟩
instance:OneT Tryz.prog 22:=⟨by kernel_rfl⟩
instance:SliceT Tryz.prog 22 3:=⟨by kernel_rfl⟩
instance:ZeroT Tryz.prog 24 [(.val (.int .i64 0)),(.val (.slice none 0 0))]:=⟨by kernel_rfl⟩
instance:AggT Tryz.prog 24 2:=⟨by kernel_rfl⟩
instance:FieldT Tryz.prog 24 0 0 0:=⟨by kernel_rfl⟩
instance:FieldT Tryz.prog 24 1 1 0:=⟨by kernel_rfl⟩
instance:StructT Tryz.prog 24 [(.int .i64 0),(.slice none 0 0)] [(0,1),(1,1)]:=⟨by kernel_rfl⟩
instance:SliceT Tryz.prog 26 4:=⟨by kernel_rfl⟩
instance:OneT Tryz.prog 31:=⟨by kernel_rfl⟩
instance:OneT Tryz.prog 36:=⟨by kernel_rfl⟩
instance:IntT Tryz.prog 36 .u64:=⟨by kernel_rfl⟩
instance:OneT Tryz.prog 37:=⟨by kernel_rfl⟩
instance:OneT Tryz.prog 40:=⟨by kernel_rfl⟩
instance:SliceT Tryz.prog 40 3:=⟨by kernel_rfl⟩
instance:OneT Tryz.prog 43:=⟨by kernel_rfl⟩
instance:SliceT Tryz.prog 43 2:=⟨by kernel_rfl⟩
instance:ZeroT Tryz.prog 50 [(.val (.int .i64 0)),(.val (.slice none 0 0))]:=⟨by kernel_rfl⟩
instance:AggT Tryz.prog 50 2:=⟨by kernel_rfl⟩
instance:FieldT Tryz.prog 50 0 0 0:=⟨by kernel_rfl⟩
instance:FieldT Tryz.prog 50 1 1 0:=⟨by kernel_rfl⟩
instance:StructT Tryz.prog 50 [(.int .i64 0),(.slice none 0 0)] [(0,1),(1,1)]:=⟨by kernel_rfl⟩
instance:OneT Tryz.prog 53:=⟨by kernel_rfl⟩
instance:SliceT Tryz.prog 53 1:=⟨by kernel_rfl⟩
instance:OneT Tryz.prog 58:=⟨by kernel_rfl⟩
instance:SliceT Tryz.prog 58 1:=⟨by kernel_rfl⟩
instance:OneT Tryz.prog 60:=⟨by kernel_rfl⟩
instance:SliceT Tryz.prog 60 2:=⟨by kernel_rfl⟩
instance:ZeroT Tryz.prog 62 [(.val (.int .i64 0)),(.val (.slice none 0 0)),(.val (.slice none 0 0)),(.val (.int .i64 0)),(.val (.int .i64 0)),(.val (.slice none 0 0))]:=⟨by kernel_rfl⟩
instance:AggT Tryz.prog 62 6:=⟨by kernel_rfl⟩
instance:FieldT Tryz.prog 62 0 0 1:=⟨by kernel_rfl⟩
instance:FieldT Tryz.prog 62 1 2 0:=⟨by kernel_rfl⟩
instance:FieldT Tryz.prog 62 2 3 0:=⟨by kernel_rfl⟩
instance:FieldT Tryz.prog 62 3 4 0:=⟨by kernel_rfl⟩
instance:FieldT Tryz.prog 62 4 5 0:=⟨by kernel_rfl⟩
instance:StructT Tryz.prog 62 [(.int .i64 0),(.slice none 0 0),(.slice none 0 0),(.int .i64 0),(.int .i64 0),(.slice none 0 0)] [(0,2),(2,1),(3,1),(4,1),(5,1)]:=⟨by kernel_rfl⟩
instance:ZeroT Tryz.prog 64 [(.val (.int .i64 0)),(.val (.int .i64 0)),(.val (.int .u64 0)),(.val (.slice none 0 0))]:=⟨by kernel_rfl⟩
instance:AggT Tryz.prog 64 4:=⟨by kernel_rfl⟩
instance:FieldT Tryz.prog 64 0 0 0:=⟨by kernel_rfl⟩
instance:FieldT Tryz.prog 64 1 1 0:=⟨by kernel_rfl⟩
instance:FieldT Tryz.prog 64 2 2 0:=⟨by kernel_rfl⟩
instance:FieldT Tryz.prog 64 3 3 0:=⟨by kernel_rfl⟩
instance:ZeroT Tryz.prog 82 [(.val (.bool false)),(.val (.int .u64 0)),(.val (.int .u64 0))]:=⟨by kernel_rfl⟩
instance:AggT Tryz.prog 82 3:=⟨by kernel_rfl⟩
instance:FieldT Tryz.prog 82 0 0 0:=⟨by kernel_rfl⟩
instance:FieldT Tryz.prog 82 1 1 0:=⟨by kernel_rfl⟩
instance:FieldT Tryz.prog 82 2 2 0:=⟨by kernel_rfl⟩
instance:StructT Tryz.prog 82 [(.bool false),(.int .u64 0),(.int .u64 0)] [(0,1),(1,1),(2,1)]:=⟨by kernel_rfl⟩
instance:OneT Tryz.prog 84:=⟨by kernel_rfl⟩
instance:SliceT Tryz.prog 84 3:=⟨by kernel_rfl⟩
instance:ZeroT Tryz.prog 86 [(.val (.int .i64 0)),(.val (.string ⟨#[]⟩)),(.val (.slice none 0 0))]:=⟨by kernel_rfl⟩
instance:AggT Tryz.prog 86 3:=⟨by kernel_rfl⟩
instance:FieldT Tryz.prog 86 0 0 0:=⟨by kernel_rfl⟩
instance:FieldT Tryz.prog 86 1 1 0:=⟨by kernel_rfl⟩
instance:FieldT Tryz.prog 86 2 2 0:=⟨by kernel_rfl⟩
instance:StructT Tryz.prog 86 [(.int .i64 0),(.string ⟨#[]⟩),(.slice none 0 0)] [(0,1),(1,1),(2,1)]:=⟨by kernel_rfl⟩
instance:OneT Tryz.prog 90:=⟨by kernel_rfl⟩
instance:SliceT Tryz.prog 90 1:=⟨by kernel_rfl⟩
instance:ZeroT Tryz.prog 92 [(.val (.int .u32 0)),(.val (.int .i64 0)),(.val (.int .i64 0)),(.val (.slice none 0 0)),(.val (.int .i64 0)),(.val (.slice none 0 0)),(.val (.slice none 0 0))]:=⟨by kernel_rfl⟩
instance:AggT Tryz.prog 92 7:=⟨by kernel_rfl⟩
instance:FieldT Tryz.prog 92 0 0 0:=⟨by kernel_rfl⟩
instance:FieldT Tryz.prog 92 1 1 0:=⟨by kernel_rfl⟩
instance:FieldT Tryz.prog 92 2 2 0:=⟨by kernel_rfl⟩
instance:FieldT Tryz.prog 92 3 3 0:=⟨by kernel_rfl⟩
instance:FieldT Tryz.prog 92 4 4 1:=⟨by kernel_rfl⟩
instance:FieldT Tryz.prog 92 5 6 0:=⟨by kernel_rfl⟩
instance:StructT Tryz.prog 92 [(.int .u32 0),(.int .i64 0),(.int .i64 0),(.slice none 0 0),(.int .i64 0),(.slice none 0 0),(.slice none 0 0)] [(0,1),(1,1),(2,1),(3,1),(4,2),(6,1)]:=⟨by kernel_rfl⟩
instance:ZeroT Tryz.prog 94 [(.val (.int .i64 0)),(.val (.slice none 0 0))]:=⟨by kernel_rfl⟩
instance:AggT Tryz.prog 94 2:=⟨by kernel_rfl⟩
instance:FieldT Tryz.prog 94 0 0 0:=⟨by kernel_rfl⟩
instance:FieldT Tryz.prog 94 1 1 0:=⟨by kernel_rfl⟩
instance:StructT Tryz.prog 94 [(.int .i64 0),(.slice none 0 0)] [(0,1),(1,1)]:=⟨by kernel_rfl⟩
instance:OneT Tryz.prog 97:=⟨by kernel_rfl⟩
instance:ZeroT Tryz.prog 114 (List.replicate 32 (.val (.bool false))):=⟨by kernel_rfl⟩
instance:AggT Tryz.prog 114 32:=⟨by kernel_rfl⟩
instance:ArrT Tryz.prog 114 32 1:=⟨by kernel_rfl⟩
instance:AggT Tryz.prog 120 2:=⟨by kernel_rfl⟩
instance:FieldT Tryz.prog 120 0 0 0:=⟨by kernel_rfl⟩
instance:FieldT Tryz.prog 120 1 1 0:=⟨by kernel_rfl⟩
instance:StructT Tryz.prog 120 [(.int .u64 0),(.slice none 0 0)] [(0,1),(1,1)]:=⟨by kernel_rfl⟩
instance:OneT Tryz.prog 123:=⟨by kernel_rfl⟩
instance:ZeroT Tryz.prog 125 [(.val (.string ⟨#[]⟩)),(.val (.int .i64 0)),(.val (.int .i64 0))]:=⟨by kernel_rfl⟩
instance:AggT Tryz.prog 125 3:=⟨by kernel_rfl⟩
instance:FieldT Tryz.prog 125 0 0 0:=⟨by kernel_rfl⟩
instance:FieldT Tryz.prog 125 1 1 0:=⟨by kernel_rfl⟩
instance:FieldT Tryz.prog 125 2 2 0:=⟨by kernel_rfl⟩
instance:StructT Tryz.prog 125 [(.string ⟨#[]⟩),(.int .i64 0),(.int .i64 0)] [(0,1),(1,1),(2,1)]:=⟨by kernel_rfl⟩
instance:OneT Tryz.prog 141:=⟨by kernel_rfl⟩
instance:SliceT Tryz.prog 141 1:=⟨by kernel_rfl⟩
instance:ZeroT Tryz.prog 143 [(.val (.int .i64 0)),(.val (.int .i64 0)),(.val (.int .i64 0)),(.val (.slice none 0 0))]:=⟨by kernel_rfl⟩
instance:AggT Tryz.prog 143 4:=⟨by kernel_rfl⟩
instance:FieldT Tryz.prog 143 0 0 0:=⟨by kernel_rfl⟩
instance:FieldT Tryz.prog 143 1 1 0:=⟨by kernel_rfl⟩
instance:FieldT Tryz.prog 143 2 2 0:=⟨by kernel_rfl⟩
instance:FieldT Tryz.prog 143 3 3 0:=⟨by kernel_rfl⟩
instance:StructT Tryz.prog 143 [(.int .i64 0),(.int .i64 0),(.int .i64 0),(.slice none 0 0)] [(0,1),(1,1),(2,1),(3,1)]:=⟨by kernel_rfl⟩
instance:SliceT Tryz.prog 144 2:=⟨by kernel_rfl⟩
instance:OneT Tryz.prog 151:=⟨by kernel_rfl⟩
instance:SliceT Tryz.prog 151 1:=⟨by kernel_rfl⟩
instance:SliceT Tryz.prog 152 2:=⟨by kernel_rfl⟩
instance:ZeroT Tryz.prog 155 [(.val (.int .i64 0)),(.val (.int .i64 0))]:=⟨by kernel_rfl⟩
instance:AggT Tryz.prog 155 2:=⟨by kernel_rfl⟩
instance:FieldT Tryz.prog 155 0 0 0:=⟨by kernel_rfl⟩
instance:FieldT Tryz.prog 155 1 1 0:=⟨by kernel_rfl⟩
instance:StructT Tryz.prog 155 [(.int .i64 0),(.int .i64 0)] [(0,1),(1,1)]:=⟨by kernel_rfl⟩
instance:FieldT Tryz.prog 164 0 0 0:=⟨by kernel_rfl⟩
instance:FieldT Tryz.prog 164 1 1 0:=⟨by kernel_rfl⟩
instance:StructT Tryz.prog 164 [(.int .i64 0),(.int .i64 0)] [(0,1),(1,1)]:=⟨by kernel_rfl⟩
instance:ZeroT Tryz.prog 166 []:=⟨by kernel_rfl⟩
instance:AggT Tryz.prog 166 0:=⟨by kernel_rfl⟩
instance:StructT Tryz.prog 166 [] []:=⟨by kernel_rfl⟩
instance:ZeroT Tryz.prog 170 [(.val (.string ⟨#[]⟩)),(.val (.int .i64 0)),(.val (.int .u64 0)),(.val (.int .u64 0))]:=⟨by kernel_rfl⟩
instance:AggT Tryz.prog 170 4:=⟨by kernel_rfl⟩
instance:StructT Tryz.prog 170 [(.string ⟨#[]⟩),(.int .i64 0),(.int .u64 0),(.int .u64 0)] [(0,1),(1,1),(2,1),(3,1)]:=⟨by kernel_rfl⟩
instance:OneT Tryz.prog 176:=⟨by kernel_rfl⟩
instance:FieldT Tryz.prog 178 0 0 0:=⟨by kernel_rfl⟩
instance:FieldT Tryz.prog 178 1 1 0:=⟨by kernel_rfl⟩
instance:StructT Tryz.prog 178 [(.pointer none),(.int .i64 0)] [(0,1),(1,1)]:=⟨by kernel_rfl⟩
instance:ZeroT Tryz.prog 190 [(.val (.int .i64 0)),(.val (.int .i64 0)),(.val (.int .i64 0)),(.val (.int .i64 0)),(.val (.int .i64 0)),(.val (.int .i64 0)),(.val (.int .i64 0)),(.val (.int .i64 0)),(.val (.int .i64 0)),(.val (.int .i64 0)),(.val (.int .i64 0))]:=⟨by kernel_rfl⟩
instance:AggT Tryz.prog 190 11:=⟨by kernel_rfl⟩
instance:ArrT Tryz.prog 190 11 1:=⟨by kernel_rfl⟩
instance:FieldT Tryz.prog 198 0 0 0:=⟨by kernel_rfl⟩
instance:StructT Tryz.prog 198 [(.slice none 0 0)] [(0,1)]:=⟨by kernel_rfl⟩
instance:ZeroT Tryz.prog 204 [(.val (.int .u64 0)),(.val (.int .u64 0)),(.val (.int .u64 0)),(.val (.int .u64 0)),(.val (.int .u64 0)),(.val (.int .u64 0)),(.val (.int .u64 0)),(.val (.int .u64 0)),(.val (.int .u64 0)),(.val (.int .u64 0)),(.val (.int .u64 0))]:=⟨by kernel_rfl⟩
instance:AggT Tryz.prog 204 11:=⟨by kernel_rfl⟩
instance:ArrT Tryz.prog 204 11 1:=⟨by kernel_rfl⟩
instance:ArrT Tryz.prog 206 40 1:=⟨by kernel_rfl⟩
instance:ZeroT Tryz.prog 208 ([(.val (.bool false))]++List.replicate 40 (.val (.int .i64 0))):=⟨by kernel_rfl⟩
instance:AggT Tryz.prog 208 41:=⟨by kernel_rfl⟩
instance:FieldT Tryz.prog 208 1 1 39:=⟨by kernel_rfl⟩
instance:StructT Tryz.prog 208 ([(.bool false)]++List.replicate 40 (.int .i64 0)) [(0,1),(1,40)]:=⟨by kernel_rfl⟩
instance:FieldT Tryz.prog 213 0 0 0:=⟨by kernel_rfl⟩
instance:FieldT Tryz.prog 213 1 1 0:=⟨by kernel_rfl⟩
instance:StructT Tryz.prog 213 [(.string ⟨#[]⟩),(.bool false)] [(0,1),(1,1)]:=⟨by kernel_rfl⟩
instance:ZeroT Tryz.prog 225 [(.val (.int .u64 0)),(.val (.int .u64 0))]:=⟨by kernel_rfl⟩
instance:AggT Tryz.prog 225 2:=⟨by kernel_rfl⟩
instance:FieldT Tryz.prog 225 0 0 0:=⟨by kernel_rfl⟩
instance:FieldT Tryz.prog 225 1 1 0:=⟨by kernel_rfl⟩
instance:StructT Tryz.prog 225 [(.int .u64 0),(.int .u64 0)] [(0,1),(1,1)]:=⟨by kernel_rfl⟩
end Go.Proofs.YtbpdbclndfmcgaaGreatDoor
end
section
set_option maxHeartbeats 12800000
set_option maxRecDepth 100000
namespace Go.Lg
open Go Go.RowKit
theorem strs_eq {p q:ByteArray} {r:Bool} (h:(p.data.toList==q.data.toList)=r):(p.toList==q.toList)=r:=by rw [ByteArray.toList_eq,ByteArray.toList_eq,h]
theorem strs_ne {p q:ByteArray} {r:Bool} (h:(!(p.data.toList==q.data.toList))=r):(!(p.toList==q.toList))=r:=by rw [ByteArray.toList_eq,ByteArray.toList_eq,h]
theorem str_at {l:List UInt8} {i:Nat} {b:UInt8} (h:l[i]? = some b):(⟨l.toArray⟩:ByteArray)[i]? = some b:=by
 obtain ⟨hi,h⟩:=List.getElem?_eq_some_iff.1 h
 have hs:i<(⟨l.toArray⟩:ByteArray).size:=by simpa [ByteArray.size] using hi
 rw [getElem?_pos _ i hs]
 exact congrArg some h
theorem str_cut (l:List UInt8) (a b:Nat):(⟨l.toArray⟩:ByteArray).extract a b=⟨((l.drop a).take (b-a)).toArray⟩:=by
 apply ByteArray.ext
 apply Array.ext'
 rw [Lib.extract_data]
theorem ev_bool {b c:Bool} (h:b=c):some (LV.sv (.one (.val (.bool b))))=some (LV.sv (.one (.val (.bool c)))):=by rw [h]
end Go.Lg
namespace Go.Proofs.YtbpdbclndfmcgaaGreatDoor
open Go Go.Lg
abbrev Lb (b:Bool):LV:=.sv (.one (.val (.bool b)))
abbrev Ln (k:IntKind) (n:Int):LV:=.sv (.one (.val (.int k n)))
abbrev Ls (l:List UInt8):LV:=.sv (.one (.val (.string ⟨l.toArray⟩)))
abbrev Sb (b:Bool):SV:=.one (.val (.bool b))
abbrev Sn (k:IntKind) (n:Int):SV:=.one (.val (.int k n))
abbrev Ss (l:List UInt8):SV:=.one (.val (.string ⟨l.toArray⟩))
abbrev Lp (k:Nat):LV:=.sv (.one (.ptr k 0))
abbrev vs (l:List UInt8):CV:=.val (.string ⟨l.toArray⟩)
end Go.Proofs.YtbpdbclndfmcgaaGreatDoor
end
section
set_option maxHeartbeats 12800000
set_option maxRecDepth 100000
namespace Go.Proofs.YtbpdbclndfmcgaaGreatDoor
open Go Go.Lg
abbrev Li (b:Bool) (h l:Int):LV:=.sv (.agg [.val (.bool b),.val (.int .u64 h),.val (.int .u64 l)])
abbrev Lz (h l:Int):LV:=.sv (.agg [.val (.int .u64 h),.val (.int .u64 l)])
abbrev LI (b:Bool) (N:Int):LV:=Li b (N/18446744073709551616) (N%18446744073709551616)
abbrev LZ (N:Int):LV:=Lz (N/18446744073709551616) (N%18446744073709551616)
abbrev SI (b:Bool) (N:Int):SV:=.agg [.val (.bool b),.val (.int .u64 (N/18446744073709551616)),.val (.int .u64 (N%18446744073709551616))]
def In2 (N:Int):Prop:=0≤N∧N<340282366920938463463374607431768211456
variable (X:Nat→Option Obj)
theorem sizeOf_spec (b:Bool) (h l:Int):PSpec Tryz.prog X 149 [Li b h l] (Lz h l):=by
 refine cD Tryz.func149 rfl V5 rfl rfl ?_
 intro C
 (refine U11 ?_;refine aT O O V2 V1C dO ?_;refine U3 ?_)
 exact V10
theorem zero_spec (N:Int) (hN:In2 N) (r:Bool) (hr:(N==0)=r):PSpec Tryz.prog X 151 [LZ N] (Lb r):=by
 subst hr
 obtain ⟨h0,h1⟩:=hN
 refine cD Tryz.func151 rfl V5 rfl rfl ?_
 intro C
 by_cases ha:N/18446744073709551616=0
 ·by_cases hb:N%18446744073709551616=0
  ·(refine U9 ?_;refine keq O O (cS V3) ?_;refine U3 ?_;refine bC O O (cS V3) (dP O O) ?_;refine U4 ?_)
   exact ⟨[_],⟨rfl,trivial⟩,by rw [show (N==0)=true from cS V3];rfl⟩
  ·(refine U9 ?_;refine keq O O (cS V3) ?_;refine U3 ?_;refine bC O O (cO V3) (dP O O) ?_;refine U4 ?_)
   exact ⟨[_],⟨rfl,trivial⟩,by rw [show (N==0)=false from cO V3];rfl⟩
 ·refine U18 ?_
  exact ⟨[_],⟨rfl,trivial⟩,by rw [show (N==0)=false from cO V3];rfl⟩
theorem fits_spec (N:Int) (hN:In2 N) (r:Bool) (hr:decide (N<170141183460469231731687303715884105728)=r):PSpec Tryz.prog X 150 [LZ N] (Lb r):=by
 subst hr
 obtain ⟨h0,h1⟩:=hN
 refine cD Tryz.func150 rfl V5 rfl rfl ?_
 intro C
 (refine U9 ?_;refine klt rfl rfl rfl ?_;refine U3 ?_)
 exact ⟨[_],⟨rfl,trivial⟩,by rw [decide_eq_decide.2 (show (N/18446744073709551616<9223372036854775808)↔N<170141183460469231731687303715884105728 by omega)];rfl⟩
def formB (b:Bool) (N:Int):Bool:=decide (N<170141183460469231731687303715884105728) && !(b&&N==0)
theorem Form_spec (b:Bool) (N:Int) (hN:In2 N) (r:Bool) (hr:formB b N=r):PSpec Tryz.prog X 135 [LI b N] (Lb r):=by
 subst hr
 refine cD Tryz.func135 rfl V5 rfl rfl ?_
 intro C
 cases b
 ·(refine U16 ?_;refine kca rfl rfl (sizeOf_spec _ _ _ _)<|kca rfl rfl (fits_spec _ _ hN _ rfl) ?_;refine U3 ?_)
  exact ⟨[_],⟨rfl,trivial⟩,by simp [formB,resOf]⟩
 ·by_cases hf:N<170141183460469231731687303715884105728
  ·(refine U15 ?_;refine kca rfl rfl (sizeOf_spec _ _ _ _)<|kca rfl rfl (fits_spec _ _ hN true (cM hf)) ?_;refine U2 ?_;refine gca rfl rfl (sizeOf_spec _ _ _ _) rfl rfl<|gca rfl rfl (zero_spec _ _ hN _ rfl) rfl rfl ?_;refine U5 ?_)
   exact ⟨[_],⟨rfl,trivial⟩,by simp [formB,resOf,hf]⟩
  ·(refine U15 ?_;refine kca rfl rfl (sizeOf_spec _ _ _ _)<|kca rfl rfl (fits_spec _ _ hN false (cL hf)) ?_;refine U9 ?_)
   exact ⟨[_],⟨rfl,trivial⟩,by simp [formB,resOf,hf]⟩
end Go.Proofs.YtbpdbclndfmcgaaGreatDoor
end
section
set_option maxHeartbeats 12800000
set_option maxRecDepth 100000
namespace Go.Proofs.YtbpdbclndfmcgaaGreatDoor
open Go Go.Lg
variable (X:Nat→Option Obj)
theorem bothForm_spec (b c:Bool) (M N:Int) (hM:In2 M) (hN:In2 N) (r:Bool) (hr:(formB b M&&formB c N)=r):PSpec Tryz.prog X 152 [LI b M,LI c N] (Lb r):=by
 subst hr
 refine cD Tryz.func152 rfl V5 rfl rfl ?_
 intro C
 cases h1:formB b M
 ·(refine U9 ?_;refine kca rfl rfl (Form_spec _ _ _ hM _ h1) ?_;refine U7 ?_)
  exact ⟨[_],⟨rfl,trivial⟩,by simp [resOf]⟩
 ·(refine U9 ?_;refine kca rfl rfl (Form_spec _ _ _ hM _ h1) ?_;refine U2 ?_;refine gca rfl rfl (Form_spec _ _ _ hN _ rfl) rfl rfl ?_;refine U4 ?_)
  exact ⟨[_],⟨rfl,trivial⟩,by simp [resOf]⟩
def sg (b:Bool) (N:Int):Bool:=b && !(N==0)
theorem number_spec (b:Bool) (N:Int) (hN:In2 N) (r:Bool) (hr:sg b N=r):PSpec Tryz.prog X 154 [Lb b,LZ N] (LI r N):=by
 subst hr
 refine cD Tryz.func154 rfl V5 rfl rfl ?_
 intro C
 cases b
 ·(refine U6 ?_;refine rgD mixed ?_;refine U10 ?_;refine aT O O V2 V20 dO ?_;refine U4 ?_)
  exact V10
 ·(refine U6 ?_;refine rgD mixed ?_;refine U3 ?_;refine gca O O (zero_spec _ _ hN _ O) O O ?_;refine U6 ?_;refine aT O O V2 V20 dO ?_;refine U4 ?_)
  exact V10
end Go.Proofs.YtbpdbclndfmcgaaGreatDoor
end
section
set_option maxHeartbeats 12800000
set_option maxRecDepth 100000
namespace Go.Proofs.YtbpdbclndfmcgaaGreatDoor
open Go Go.Lg
variable (X:Nat→Option Obj)
theorem isNaN_spec (a:Int):PSpec Tryz.prog X 164 [Ln .u64 a] (Lb false):=by
 refine cD Tryz.func164 rfl V5 rfl rfl ?_
 intro C
 refine U12 ?_
 exact V6
def cmpI (a b:Int):Int:=if a<b then -1 else if b<a then 1 else 0
theorem Compare_spec (a b:Int) (r:Int) (hr:cmpI a b=r):PSpec Tryz.prog X 160 [Ln .u64 a,Ln .u64 b] (Ln .i64 r):=by
 subst hr
 refine cD Tryz.func160 rfl V5 rfl rfl ?_
 intro C
 by_cases h:a<b
 ·(refine U7 ?_;refine kca rfl rfl (isNaN_spec _ _) ?_;refine U5 ?_;refine kca rfl rfl (isNaN_spec _ _) ?_;refine U29 ?_)
  exact ⟨[_],⟨rfl,trivial⟩,by simp [cmpI,h,resOf]⟩
 ·by_cases h':b<a
  ·(refine U7 ?_;refine kca O O (isNaN_spec _ _) ?_;refine U5 ?_;refine kca O O (isNaN_spec _ _) ?_;refine U30 ?_;refine aS O O (cM V3) dO ?_;refine U7 ?_)
   exact ⟨[_],⟨rfl,trivial⟩,by simp [cmpI,h,h',resOf]⟩
  ·(refine U7 ?_;refine kca rfl rfl (isNaN_spec _ _) ?_;refine U5 ?_;refine kca rfl rfl (isNaN_spec _ _) ?_;refine U39 ?_)
   exact ⟨[_],⟨rfl,trivial⟩,by simp [cmpI,h,h',resOf]⟩
theorem compare_spec (M N:Int) (r:Int) (hr:cmpI M N=r):PSpec Tryz.prog X 153 [LZ M,LZ N] (Ln .i64 r):=by
 refine cD Tryz.func153 rfl V5 rfl rfl ?_
 intro C
 by_cases h:M/18446744073709551616=N/18446744073709551616
 ·(refine U23 ?_;refine kca rfl rfl (Compare_spec _ _ _ r (by subst hr;unfold cmpI;(repeat' split)<;>omega)) ?_;refine U3 ?_)
  exact V6
 ·(refine U22 ?_;refine kca rfl rfl (Compare_spec _ _ _ r (by subst hr;unfold cmpI;(repeat' split)<;>omega)) ?_;refine U3 ?_)
  exact V6
abbrev S0:SV:=.agg [.val (.bool false),.val (.int .u64 0),.val (.int .u64 0)]
def Lim (N:Int):Prop:=0≤N∧N<170141183460469231731687303715884105728
theorem formB_lim {b:Bool} {N:Int} (hN:In2 N) (h:formB b N=true):Lim N∧(b=true→N≠0):=by
 simp only [formB,Bool.and_eq_true,decide_eq_true_eq,Bool.not_eq_true',Bool.and_eq_false_iff,beq_eq_false_iff_ne] at h
 refine ⟨⟨hN.1,h.1⟩,fun hb => ?_⟩
 rcases h.2 with h2|h2
 ·rw [hb] at h2;simp at h2
 ·exact h2
end Go.Proofs.YtbpdbclndfmcgaaGreatDoor
end
section
set_option maxHeartbeats 12800000
set_option maxRecDepth 100000
namespace Go.Proofs.YtbpdbclndfmcgaaGreatDoor
open Go Go.Lg
variable (X:Nat→Option Obj)
def mg (z:Int):Int:=if z<0 then -z else z
def R127 (z:Int):Prop := -170141183460469231731687303715884105728<z∧z<170141183460469231731687303715884105728
abbrev LQ (z:Int):LV:=LI (decide (z<0)) (mg z)
abbrev SQ (z:Int):SV:=SI (decide (z<0)) (mg z)
theorem mg_neg {z:Int} (h:z<0):mg z = -z:=if_pos h
theorem mg_pos {z:Int} (h:0≤z):mg z=z:=if_neg V3
theorem mg_in2 {z:Int} (h:R127 z):In2 (mg z):=by unfold mg In2 R127 at *;split<;>omega
theorem mg_lim {z:Int} (h:R127 z):mg z<170141183460469231731687303715884105728:=by unfold mg R127 at *;split<;>omega
theorem formB_q {z:Int} (h:R127 z):formB (decide (z<0)) (mg z)=true:=by
 have:=mg_lim h
 simp only [formB,cM this,Bool.true_and,Bool.not_eq_true',Bool.and_eq_false_iff,decide_eq_false_iff_not,beq_eq_false_iff_ne]
 unfold mg
 split<;>omega
theorem both_q {x y:Int} (hx:R127 x) (hy:R127 y):(formB (decide (x<0)) (mg x)&&formB (decide (y<0)) (mg y))=true:=by rw [formB_q hx,formB_q hy];rfl
def zv (b:Bool) (N:Int):Int:=if b=true then -N else N
theorem zv_in {b:Bool} {N:Int} (hN:In2 N) (h:formB b N=true):R127 (zv b N)∧decide (zv b N<0)=b∧mg (zv b N)=N:=by
 obtain ⟨⟨h0,h1⟩,h2⟩:=formB_lim hN h
 cases b
 ·refine ⟨?_,?_,?_⟩<;>simp only [zv,Bool.false_eq_true,if_false,R127,mg,decide_eq_false_iff_not]
  ·omega
  ·omega
  ·exact if_neg V3
 ·have:=h2 rfl
  refine ⟨?_,?_,?_⟩<;>simp only [zv,if_true,R127,mg,decide_eq_true_eq]
  ·omega
  ·omega
  ·rw [if_pos V3];omega
theorem LI_q {b:Bool} {N:Int} (hN:In2 N) (h:formB b N=true):LI b N=LQ (zv b N):=by
 obtain ⟨_,h1,h2⟩:=zv_in hN h
 unfold LQ
 rw [h1,h2]
theorem sg_q {b:Bool} {N z:Int} (hN:0≤N) (h:zv b N=z):sg b N=decide (z<0)∧N=mg z:=by
 subst h
 cases b
 ·simp only [zv,sg,Bool.false_and,Bool.false_eq_true,if_false,mg]
  exact ⟨(cL V3).symm,(if_neg V3).symm⟩
 ·simp only [zv,sg,Bool.true_and,if_true,mg]
  refine ⟨?_,by split<;>omega⟩
  by_cases h0:N=0
  ·subst h0;rfl
  ·rw [show (N==0)=false from cO h0,cM V3];rfl
theorem Neg_q (x:Int) (hx:R127 x):PSpec Tryz.prog X 137 [LQ x] (LQ (-x)):=by
 have h1:=mg_in2 hx
 have hn:=number_spec X (!decide (x<0)) (mg x) h1 (decide (-x<0)) (by
  have:=sg_q (b := !decide (x<0)) (N:=mg x) (z := -x) h1.1 (by unfold zv mg;by_cases c:x<0<;>simp [c])
  exact this.1)
 have e:mg (-x)=mg x:=by unfold mg;(repeat' split)<;>omega
 refine cD Tryz.func137 rfl V5 rfl rfl ?_
 intro C
 (refine U9 ?_;refine kca rfl rfl (Form_spec _ _ _ h1 true (formB_q hx)) ?_;refine U5 ?_;refine rgD mixed ?_;refine U4 ?_;refine kca rfl rfl (sizeOf_spec _ _ _ _) ?_;refine U5 ?_)
 unfold LQ
 rw [e]
 exact V10
theorem Cmp_q (x y:Int) (hx:R127 x) (hy:R127 y) (r:Int) (hr:cmpI x y=r):PSpec Tryz.prog X 136 [LQ x,LQ y] (Ln .i64 r):=by
 have hB:=bothForm_spec X _ _ _ _ (mg_in2 hx) (mg_in2 hy) true (both_q hx hy)
 refine cD Tryz.func136 rfl V5 rfl rfl ?_
 intro C
 by_cases cx:x<0<;>by_cases cy:y<0
 all_goals
  unfold LQ at hB ⊢
  simp only [cx,cy,decide_true,decide_false] at hB ⊢
 ·have e:cmpI (mg y) (mg x)=r:=by rw [mg_neg cx,mg_neg cy,← hr];unfold cmpI;(repeat' split)<;>omega
  (refine U29 ?_;refine rgD mixed ?_;refine U1 ?_;refine kca rfl rfl (sizeOf_spec _ _ _ _) ?_;refine U1 ?_;refine kca rfl rfl (sizeOf_spec _ _ _ _)<|kca rfl rfl (compare_spec _ _ _ r e) ?_;refine U4 ?_)
  exact V6
 ·have e:r = -1:=by rw [← hr];unfold cmpI;rw [if_pos V3]
  subst e
  refine U40 ?_
  exact V6
 ·have e:r=1:=by rw [← hr];unfold cmpI;rw [if_neg V3,if_pos V3]
  subst e
  refine U47 ?_
  exact V6
 ·have e:cmpI (mg x) (mg y)=r:=by rw [mg_pos (Int.not_lt.1 cx),mg_pos (Int.not_lt.1 cy),← hr]
  (refine U44 ?_;refine rgD mixed ?_;refine U1 ?_;refine kca rfl rfl (sizeOf_spec _ _ _ _) ?_;refine U1 ?_;refine kca rfl rfl (sizeOf_spec _ _ _ _)<|kca rfl rfl (compare_spec _ _ _ r e) ?_;refine U4 ?_)
  exact V6
end Go.Proofs.YtbpdbclndfmcgaaGreatDoor
end
section
set_option maxHeartbeats 12800000
set_option maxRecDepth 100000
namespace Go.Proofs.YtbpdbclndfmcgaaGreatDoor
open Go Go.Lg Go.Lg.Arith Go.RowKit
variable (X:Nat→Option Obj)
theorem mg_nonneg (z:Int):0≤mg z:=by unfold mg;split<;>omega
theorem OfWord_spec (n:Int):PSpec Tryz.prog X 63 [Ln .u64 n] (.sv (.agg [.val (.bool false),.val (.int .u64 0),.val (.int .u64 n)])):=by
 refine cD Tryz.func63 rfl V5 rfl rfl ?_
 intro C
 (refine U7 ?_;refine aT O O V2 V20 dO ?_;refine U3 ?_)
 exact V10
theorem Of_spec (n:Int) (hn : -9223372036854775808≤n∧n<9223372036854775808):PSpec Tryz.prog X 35 [Ln .i64 n] (LQ n):=by
 refine cD Tryz.func35 rfl V5 rfl rfl ?_
 intro C
 by_cases c:n<0
 ·have w1:IntKind.u64.wrap n=n+18446744073709551616:=by rw [IntKind.wrap_u64];omega
  have w2:IntKind.u64.wrap (0-(n+18446744073709551616)) = -n:=by rw [IntKind.wrap_u64];omega
  (refine U14 ?_;refine kcv O w1 ?_;refine K.neg O w2 dO<|aT O O V2 V20 dO ?_;refine U3 ?_)
  refine ⟨[_],⟨⟨_,_,O,O,O,.inl ⟨AggT.h,O⟩⟩,trivial⟩,?_⟩
  unfold LQ LI
  rw [mg_neg c,cM c,show -n/18446744073709551616=0 by omega,show -n%18446744073709551616 = -n by omega]
  rfl
 ·(refine U15 ?_;refine kcv rfl (by exact wrap_u64 V3) ?_;refine kca rfl rfl (OfWord_spec _ _) ?_;refine U3 ?_)
  refine ⟨[_],⟨⟨_,_,O,O,O,.inl ⟨AggT.h,O⟩⟩,trivial⟩,?_⟩
  unfold LQ LI
  rw [mg_pos (by omega),cL c,show n/18446744073709551616=0 by omega,show n%18446744073709551616=n by omega]
  rfl
theorem eqI {b b':Bool} {h l h' l':Int} (r:Bool) (hr:(b==b'&&(h==h'&&l==l'))=r) (w:World):
  (Op.equalIn 10000 82 (.agg [.bool b,.int .u64 h,.int .u64 l].toArray) (.agg [.bool b',.int .u64 h',.int .u64 l'].toArray)).run Tryz.prog w = .ok r w:=by
 subst hr
 rw [show (10000:Nat)=9999+1 from rfl,run_equalIn_agg w 9999 82 _ _ (by kernel_rfl) (by kernel_rfl)]
 simp only [Program.fieldsOf,Tryz.underlying82]
 go_simp
 cases b<;>cases b'<;>by_cases h1:h=h'<;>by_cases h2:l=l'<;>simp [h1,h2]
theorem eqQ (x y:Int) (r:Bool) (hr:decide (x=y)=r) (w:World):
  (Op.equalIn 10000 82 (.agg [.bool (decide (x<0)),.int .u64 (mg x/18446744073709551616),.int .u64 (mg x%18446744073709551616)].toArray)
   (.agg [.bool (decide (y<0)),.int .u64 (mg y/18446744073709551616),.int .u64 (mg y%18446744073709551616)].toArray)).run Tryz.prog w = .ok r w:=by
 refine eqI r ?_ w
 rw [← hr]
 by_cases e:x=y
 ·subst e;simp
 ·rw [cL e]
  have h:¬ ((decide (x<0)=decide (y<0))∧mg x/18446744073709551616=mg y/18446744073709551616∧mg x%18446744073709551616=mg y%18446744073709551616):=by
   rintro ⟨h1,h2,h3⟩
   have:mg x=mg y:=by omega
   unfold mg at this
   by_cases cx:x<0<;>by_cases cy:y<0<;>simp only [cx,cy,decide_true,decide_false,if_true,if_false] at h1 this<;>first|omega|cases h1
  cases hc:(decide (x<0)==decide (y<0)&&(mg x/18446744073709551616==mg y/18446744073709551616&&mg x%18446744073709551616==mg y%18446744073709551616)) with
  | false=>rfl
  | true =>
   simp only [Bool.and_eq_true,beq_iff_eq] at hc
   exact absurd hc h
end Go.Proofs.YtbpdbclndfmcgaaGreatDoor
end
section
set_option maxHeartbeats 12800000
set_option maxRecDepth 100000
namespace Go.Proofs.YtbpdbclndfmcgaaGreatDoor
open Go Go.Lg
abbrev rd (k:Nat) (l:List UInt8) (b:Bool):List (Nat×Option Box):=[(k,some ⟨213,[vs l,.val (.bool b)],false⟩)]
variable (X:Nat→Option Obj)
def isW (n:Int):Bool:=decide (n=1)||(decide (n=2)||(decide (n=4)||decide (n=8)))
theorem isWidth_spec (n:Int) (r:Bool) (hr:isW n=r):PSpec Tryz.prog X 120 [Ln .i64 n] (Lb r):=by
 refine cD Tryz.func120 rfl V5 rfl rfl ?_
 intro C
 subst hr
 by_cases h1:n=1
 ·(refine U7 ?_;refine keq rfl rfl (cS V3) ?_;refine U15 ?_)
  exact ⟨[_],⟨rfl,trivial⟩,by unfold isW;rw [cM h1];rfl⟩
 ·by_cases h2:n=2
  ·(refine U10 ?_;refine bC O O (cS V3) (dP O O) ?_;refine U12 ?_)
   exact ⟨[_],⟨rfl,trivial⟩,by unfold isW;rw [cL h1,cM h2];rfl⟩
  ·by_cases h4:n=4
   ·(refine U10 ?_;refine bC O O (cO V3) (dP O O) ?_;refine U3 ?_;refine bC O O (cS V3) (dP O O) ?_;refine U8 ?_)
    exact ⟨[_],⟨rfl,trivial⟩,by unfold isW;rw [cL h1,cL h2,cM h4];rfl⟩
   ·by_cases h8:n=8
    ·(refine U10 ?_;refine bC O O (cO V3) (dP O O) ?_;refine U3 ?_;refine bC O O (cO V3) (dP O O) ?_;refine U3 ?_;refine bC O O (cS V3) (dP O O) ?_;refine U4 ?_)
     exact ⟨[_],⟨rfl,trivial⟩,by unfold isW;rw [cL h1,cL h2,cL h4,cM h8];rfl⟩
    ·(refine U10 ?_;refine bC O O (cO V3) (dP O O) ?_;refine U3 ?_;refine bC O O (cO V3) (dP O O) ?_;refine U3 ?_;refine bC O O (cO V3) (dP O O) ?_;refine U4 ?_)
     exact ⟨[_],⟨rfl,trivial⟩,by unfold isW;rw [cL h1,cL h2,cL h4,cL h8];rfl⟩
theorem Read_spec (l:List UInt8):MSpec Tryz.prog X 124 [Ls l] [] (Lp 1000001) (rd 1000001 l false):=by
 refine cE Tryz.func124 rfl V5 rfl rfl rfl rfl rfl ?_
 intro C
 (refine U7 ?_;refine aT O O V2 V1C dO ?_;refine U4 ?_)
 exact ⟨[(1000001,5)],⟨[_],⟨O,trivial⟩,O⟩,⟨⟨_,O,O⟩,trivial⟩,O,O⟩
theorem Bad_spec (l:List UInt8) (b:Bool):MSpec Tryz.prog X 141 [Lp 1000000] (rd 1000000 l b) (Lb b) (rd 1000000 l b):=by
 refine cE Tryz.func141 rfl V5 rfl rfl rfl rfl rfl ?_
 intro C
 (refine U7 ?_;refine K.ptrNil O V5 (.inl ⟨O,O⟩) dO ?_;refine U2 ?_;refine bI O (dP O O) ?_;refine U6 ?_)
 exact V1E
end Go.Proofs.YtbpdbclndfmcgaaGreatDoor
end
section
set_option maxHeartbeats 12800000
set_option maxRecDepth 100000
namespace Go.Lg
open Go
def le:List UInt8→Nat
 | []=>0
 | c::t=>c.toNat+256*le t
theorem le_lt:∀ (l:List UInt8),le l<256^l.length
 | []=>by simp [le]
 | c::t=>by
  have:=le_lt t
  have hc:=c.toNat_lt
  simp only [le,dF,Nat.pow_succ]
  omega
theorem le_snoc:∀ (l:List UInt8) (c:UInt8),le (l++[c])=le l+c.toNat*256^l.length
 | [],c=>by simp [le]
 | d::t,c=>by
  have e:256*(c.toNat*256^t.length)=c.toNat*(256^t.length*256):=by rw [Nat.mul_left_comm,Nat.mul_comm 256]
  simp only [List.cons_append,le,le_snoc t c,dF,Nat.pow_succ,Nat.mul_add]
  omega
theorem le_take {l:List UInt8} {i:Nat} {c:UInt8} (h:l[i]? = some c):le (l.take (i+1))=le (l.take i)+c.toNat*256^i:=by
 have hi:=(wl h)
 rw [List.take_add_one,h]
 have:=le_snoc (l.take i) c
 rw [cX,Nat.min_eq_left (by omega)] at this
 exact this
def leB:Nat→Nat→List UInt8
 | 0,_=>[]
 | k+1,n=>UInt8.ofNat (n%256)::leB k (n/256)
theorem leB_length:∀ (k n:Nat),(leB k n).length=k
 | 0,_=>rfl
 | k+1,n=>by simp [leB,leB_length k]
theorem leB_get:∀ (k n i:Nat),i<k→(leB k n)[i]? = some (UInt8.ofNat (n/256^i%256))
 | 0,_,_,h=>by omega
 | k+1,n,0,_=>by simp [leB]
 | k+1,n,i+1,h=>by
  simp only [leB,List.getElem?_cons_succ]
  rw [leB_get k (n/256) i (by omega),Nat.pow_succ,Nat.mul_comm,Nat.div_div_eq_div_mul]
theorem le_leB:∀ (k n:Nat),n<256^k→le (leB k n)=n
 | 0,n,h=>by simp at h;subst h;rfl
 | k+1,n,h=>by
  have e:(UInt8.ofNat (n%256)).toNat=n%256:=by rw [UInt8.toNat_ofNat'];exact Nat.mod_eq_of_lt V3
  simp only [leB,le,e,le_leB k (n/256) (by rw [Nat.pow_succ] at h;omega)]
  omega
theorem take_next {w n i:Nat} (h:i<w):((leB w n).take i).map bc++[bc (UInt8.ofNat (n/256^i%256))]=((leB w n).take (i+1)).map bc:=by
 rw [List.take_add_one,leB_get w n i h,dE]
 rfl
def lo (w n i:Nat):List UInt8:=(leB w n).take i++List.replicate (w-i) 0
theorem lo_set {w n i:Nat} (h:i<w):(((lo w n i).map bc).set (0+i*1) (bc (UInt8.ofNat (n/256^i%256))))=(lo w n (i+1)).map bc:=by
 rw [Nat.zero_add,Nat.mul_one,← List.map_set]
 congr 1
 unfold lo
 have hl:((leB w n).take i).length=i:=by rw [cX,leB_length];omega
 rw [List.set_append_right _ _ (by omega),hl,Nat.sub_self,List.take_add_one,leB_get w n i h]
 have:w-i=(w-(i+1))+1:=by omega
 rw [this,List.replicate_succ]
 simp
theorem lo_len (w n i:Nat) (h:i≤w):((lo w n i).map bc).length=w:=by
 unfold lo
 rw [cU,cT,cX,leB_length,dB]
 omega
theorem lo_all (w n:Nat):lo w n w=leB w n:=by
 unfold lo
 rw [Nat.sub_self,List.take_of_length_le (by rw [leB_length];exact dK _)]
 simp
theorem or_low {x y c:Int} {s:Nat} (hs:s≤64) (hx:0≤x∧x*2^s<18446744073709551616) (hy:0≤y∧y<2^s) (hc:y+x*2^s=c):bits .or .u64 y (x*2^s)=c:=by
 have h:=or_apart hs hx hy
 obtain ⟨A,rfl⟩:=Int.eq_ofNat_of_zero_le hx.1
 obtain ⟨B,rfl⟩:=Int.eq_ofNat_of_zero_le hy.1
 have e:((A:Int)*2^s)=((A*2^s:Nat):Int):=by rw [Int.natCast_mul,Int.natCast_pow];rfl
 have e':((2:Int)^s)=((2^s:Nat):Int):=by rw [Int.natCast_pow];rfl
 have h1:A*2^s<18446744073709551616:=by have:=hx.2;rw [e] at this;omega
 have h3:2^s≤18446744073709551616:=by
  have:2^s≤2^64:=Nat.pow_le_pow_right V11 hs
  exact this
 have h2:B<18446744073709551616:=by have:=hy.2;rw [e'] at this;omega
 have hcomm:bits .or .u64 (B:Int) ((A:Int)*2^s)=bits .or .u64 ((A:Int)*2^s) B:=by
  rw [e,u64_or_nat _ _ h2 h1,u64_or_nat _ _ h1 h2,Nat.or_comm]
 rw [hcomm,h]
 omega
end Go.Lg
namespace Go.Proofs.YtbpdbclndfmcgaaGreatDoor
open Go Go.Lg
variable (X:Nat→Option Obj)
theorem p256 (i:Nat):(256:Nat)^i=2^(8*i):=by rw [Nat.pow_mul]
theorem onumber_spec (l:List UInt8) (hl:l.length≤8):PSpec Tryz.prog X 139 [Ls l] (Ln .u64 (le l:Nat)):=by
 refine cD Tryz.func139 rfl V5 rfl rfl ?_
 intro C
 refine U16 ?_
 refine cH (fun m σ=>∃ i:Nat,i≤l.length∧m=l.length-i∧σ=⟨[(0,Ls l),(3,Ln .u64 (le (l.take i):Nat)),(6,Ln .i64 (l.length:Nat)),(7,Ln .i64 (i:Nat))],[],X⟩) l.length
  ⟨_,Le.of VD V15 V2 V2 V2,0,Nat.zero_le _,rfl,rfl⟩ ?_
 rintro m σ ⟨i,hi,rfl,rfl⟩
 by_cases hlt:i<l.length
 ·obtain ⟨b,hb⟩:=wg hlt
  have hb':(⟨l.toArray⟩:ByteArray)[Int.toNat (i:Int)]? = some b:=str_at hb
  have hnx:=le_take hb
  have h8:8*i≤56:=by omega
  have w8:IntKind.i64.wrap (8*(i:Int))=((8*i:Nat):Int):=by rw [cF V3];omega
  have hc:=b.toNat_lt
  have hlo:=le_lt (l.take i)
  rw [cX,Nat.min_eq_left hi,p256] at hlo
  have hp:2^(8*i)≤2^56:=Nat.pow_le_pow_right V11 h8
  have hbb:b.toNat*2^(8*i)≤255*2^56:=Nat.mul_le_mul V3 hp
  have ec:((b.toNat:Int))*2^(8*i)=((b.toNat*2^(8*i):Nat):Int):=by rw [Int.natCast_mul,Int.natCast_pow];rfl
  have ep:((2:Int)^(8*i))=((2^(8*i):Nat):Int):=by rw [Int.natCast_pow];rfl
  have hs:=shl_s (a:=(b.toNat:Int)) (s:=8*i) (c:=(b.toNat:Int)*2^(8*i)) V3 rfl (by rw [ec];omega)
  have ho:=or_low (x:=(b.toNat:Int)) (y:=(le (l.take i):Nat)) (s:=8*i) (c:=(le (l.take (i+1)):Nat)) V3 (by rw [ec];omega) (by rw [ep];omega) (by rw [ec,hnx,p256];omega)
  (refine U18 ?_;refine bB O O V3 hb' dO<|kcv O (by exact wrap_u64 V3) ?_;refine kmv O<|bL O O w8 dO<|K.shl O O V3 hs dO<|K.bitop V24 O O ho dO ?_;refine U6 ?_)
  exact ⟨_,_,by omega,Le.of VD V15 V2 V2 V2,i+1,by omega,O,O⟩
 ·have e:i=l.length:=by omega
  subst e
  rw [dC]
  refine U13 ?_
  exact V6
end Go.Proofs.YtbpdbclndfmcgaaGreatDoor
end
section
set_option maxHeartbeats 12800000
set_option maxRecDepth 100000
namespace Go.Proofs.YtbpdbclndfmcgaaGreatDoor
open Go Go.Lg
variable (X:Nat→Option Obj)
theorem low_1 (n:Nat) (hn:n<18446744073709551616):PSpec Tryz.prog X 122 [Ln .i64 1,Ln .u64 (n:Nat)] (Ls (leB 1 n)):=by
 refine cD Tryz.func122 rfl V5 rfl rfl ?_
 intro C
 (refine U7 ?_;refine K.makeSlc (m:=1) (zs:=List.replicate 1 (.int .u8 0)) (sz:=1) (e:=5) (bytes:=1) (zc:=(lo 1 n 0).map bc) O O V5 V5 V11 O O dO ?_;refine U10 ?_)
 refine cH (fun m σ=>∃ i:Nat,i≤1∧m=1-i∧σ=⟨[(1,Ln .u64 (n:Nat)),(5,.sv (.one (.slc 8 0 1))),(10,Ln .i64 1),(11,Ln .i64 (i:Nat))],[(8,some ⟨5,(lo 1 n i).map bc,false⟩)],X⟩) 1
  ⟨_,Le.of VD VF V2 V2 V0,0,Nat.zero_le _,rfl,rfl⟩ ?_
 rintro m σ ⟨i,hi,rfl,rfl⟩
 by_cases hlt:i<1
 ·have w8:IntKind.i64.wrap (8*(i:Int))=((8*i:Nat):Int):=by rw [cF V3];omega
  have ed:((n:Nat):Int)/2^(8*i)=((n/256^i:Nat):Int):=by rw [p256,Int.natCast_ediv,Int.natCast_pow];rfl
  have hs:=(shr_s (a:=((n:Nat):Int)) (s:=8*i) V3).trans ed
  have hv:IntKind.u8.wrap ((n/256^i:Nat):Int)=((UInt8.ofNat (n/256^i%256)).toNat:Nat):=by
   rw [UInt8.toNat_ofNat',Nat.mod_eq_of_lt (Nat.mod_lt _ (by decide)),IntKind.wrap_u8]
   omega
  have hbl:Nat.blt (0+i*1) ((lo 1 n i).map bc).length=true:=by rw [lo_len _ _ _ hi,Nat.blt_eq];omega
  (refine U19 ?_;refine bL O O w8 dO<|bN O O V3 hs dO ?_;refine kcv O hv ?_;refine K.indexSlc O O V3 O dO ?_;refine bG O O O O hbl (lo_set hlt) dO ?_;refine U5 ?_)
  exact ⟨_,_,by omega,Le.of VD VF V2 V2 V0,i+1,by omega,O,O⟩
 ·have e:i=1:=by omega
  subst e
  have hlen:0+1≤((lo 1 n 1).map bc).length:=by rw [lo_len _ _ _ (dK _)];omega
  have hcut:(((lo 1 n 1).map bc).drop 0).take 1=(leB 1 n).map bc:=by
   rw [List.drop_zero,List.take_of_length_le (by rw [lo_len _ _ _ (dK _)];exact dK _),lo_all]
  (refine U10 ?_;refine bR O O V5 StrT.u hlen hcut dO ?_;refine U3 ?_)
  exact V6
theorem low_2 (n:Nat) (hn:n<18446744073709551616):PSpec Tryz.prog X 122 [Ln .i64 2,Ln .u64 (n:Nat)] (Ls (leB 2 n)):=by
 refine cD Tryz.func122 rfl V5 rfl rfl ?_
 intro C
 (refine U7 ?_;refine K.makeSlc (m:=2) (zs:=List.replicate 2 (.int .u8 0)) (sz:=1) (e:=5) (bytes:=1) (zc:=(lo 2 n 0).map bc) O O V5 V5 V11 O O dO ?_;refine U10 ?_)
 refine cH (fun m σ=>∃ i:Nat,i≤2∧m=2-i∧σ=⟨[(1,Ln .u64 (n:Nat)),(5,.sv (.one (.slc 8 0 2))),(10,Ln .i64 2),(11,Ln .i64 (i:Nat))],[(8,some ⟨5,(lo 2 n i).map bc,false⟩)],X⟩) 2
  ⟨_,Le.of VD VF V2 V2 V0,0,Nat.zero_le _,rfl,rfl⟩ ?_
 rintro m σ ⟨i,hi,rfl,rfl⟩
 by_cases hlt:i<2
 ·have w8:IntKind.i64.wrap (8*(i:Int))=((8*i:Nat):Int):=by rw [cF V3];omega
  have ed:((n:Nat):Int)/2^(8*i)=((n/256^i:Nat):Int):=by rw [p256,Int.natCast_ediv,Int.natCast_pow];rfl
  have hs:=(shr_s (a:=((n:Nat):Int)) (s:=8*i) V3).trans ed
  have hv:IntKind.u8.wrap ((n/256^i:Nat):Int)=((UInt8.ofNat (n/256^i%256)).toNat:Nat):=by
   rw [UInt8.toNat_ofNat',Nat.mod_eq_of_lt (Nat.mod_lt _ (by decide)),IntKind.wrap_u8]
   omega
  have hbl:Nat.blt (0+i*1) ((lo 2 n i).map bc).length=true:=by rw [lo_len _ _ _ hi,Nat.blt_eq];omega
  (refine U19 ?_;refine bL O O w8 dO<|bN O O V3 hs dO ?_;refine kcv O hv ?_;refine K.indexSlc O O V3 O dO ?_;refine bG O O O O hbl (lo_set hlt) dO ?_;refine U5 ?_)
  exact ⟨_,_,by omega,Le.of VD VF V2 V2 V0,i+1,by omega,O,O⟩
 ·have e:i=2:=by omega
  subst e
  have hlen:0+2≤((lo 2 n 2).map bc).length:=by rw [lo_len _ _ _ (dK _)];omega
  have hcut:(((lo 2 n 2).map bc).drop 0).take 2=(leB 2 n).map bc:=by
   rw [List.drop_zero,List.take_of_length_le (by rw [lo_len _ _ _ (dK _)];exact dK _),lo_all]
  (refine U10 ?_;refine bR O O V5 StrT.u hlen hcut dO ?_;refine U3 ?_)
  exact V6
theorem low_4 (n:Nat) (hn:n<18446744073709551616):PSpec Tryz.prog X 122 [Ln .i64 4,Ln .u64 (n:Nat)] (Ls (leB 4 n)):=by
 refine cD Tryz.func122 rfl V5 rfl rfl ?_
 intro C
 (refine U7 ?_;refine K.makeSlc (m:=4) (zs:=List.replicate 4 (.int .u8 0)) (sz:=1) (e:=5) (bytes:=1) (zc:=(lo 4 n 0).map bc) O O V5 V5 V11 O O dO ?_;refine U10 ?_)
 refine cH (fun m σ=>∃ i:Nat,i≤4∧m=4-i∧σ=⟨[(1,Ln .u64 (n:Nat)),(5,.sv (.one (.slc 8 0 4))),(10,Ln .i64 4),(11,Ln .i64 (i:Nat))],[(8,some ⟨5,(lo 4 n i).map bc,false⟩)],X⟩) 4
  ⟨_,Le.of VD VF V2 V2 V0,0,Nat.zero_le _,rfl,rfl⟩ ?_
 rintro m σ ⟨i,hi,rfl,rfl⟩
 by_cases hlt:i<4
 ·have w8:IntKind.i64.wrap (8*(i:Int))=((8*i:Nat):Int):=by rw [cF V3];omega
  have ed:((n:Nat):Int)/2^(8*i)=((n/256^i:Nat):Int):=by rw [p256,Int.natCast_ediv,Int.natCast_pow];rfl
  have hs:=(shr_s (a:=((n:Nat):Int)) (s:=8*i) V3).trans ed
  have hv:IntKind.u8.wrap ((n/256^i:Nat):Int)=((UInt8.ofNat (n/256^i%256)).toNat:Nat):=by
   rw [UInt8.toNat_ofNat',Nat.mod_eq_of_lt (Nat.mod_lt _ (by decide)),IntKind.wrap_u8]
   omega
  have hbl:Nat.blt (0+i*1) ((lo 4 n i).map bc).length=true:=by rw [lo_len _ _ _ hi,Nat.blt_eq];omega
  (refine U19 ?_;refine bL O O w8 dO<|bN O O V3 hs dO ?_;refine kcv O hv ?_;refine K.indexSlc O O V3 O dO ?_;refine bG O O O O hbl (lo_set hlt) dO ?_;refine U5 ?_)
  exact ⟨_,_,by omega,Le.of VD VF V2 V2 V0,i+1,by omega,O,O⟩
 ·have e:i=4:=by omega
  subst e
  have hlen:0+4≤((lo 4 n 4).map bc).length:=by rw [lo_len _ _ _ (dK _)];omega
  have hcut:(((lo 4 n 4).map bc).drop 0).take 4=(leB 4 n).map bc:=by
   rw [List.drop_zero,List.take_of_length_le (by rw [lo_len _ _ _ (dK _)];exact dK _),lo_all]
  (refine U10 ?_;refine bR O O V5 StrT.u hlen hcut dO ?_;refine U3 ?_)
  exact V6
theorem low_8 (n:Nat) (hn:n<18446744073709551616):PSpec Tryz.prog X 122 [Ln .i64 8,Ln .u64 (n:Nat)] (Ls (leB 8 n)):=by
 refine cD Tryz.func122 rfl V5 rfl rfl ?_
 intro C
 (refine U7 ?_;refine K.makeSlc (m:=8) (zs:=List.replicate 8 (.int .u8 0)) (sz:=1) (e:=5) (bytes:=1) (zc:=(lo 8 n 0).map bc) O O V5 V5 V11 O O dO ?_;refine U10 ?_)
 refine cH (fun m σ=>∃ i:Nat,i≤8∧m=8-i∧σ=⟨[(1,Ln .u64 (n:Nat)),(5,.sv (.one (.slc 8 0 8))),(10,Ln .i64 8),(11,Ln .i64 (i:Nat))],[(8,some ⟨5,(lo 8 n i).map bc,false⟩)],X⟩) 8
  ⟨_,Le.of VD VF V2 V2 V0,0,Nat.zero_le _,rfl,rfl⟩ ?_
 rintro m σ ⟨i,hi,rfl,rfl⟩
 by_cases hlt:i<8
 ·have w8:IntKind.i64.wrap (8*(i:Int))=((8*i:Nat):Int):=by rw [cF V3];omega
  have ed:((n:Nat):Int)/2^(8*i)=((n/256^i:Nat):Int):=by rw [p256,Int.natCast_ediv,Int.natCast_pow];rfl
  have hs:=(shr_s (a:=((n:Nat):Int)) (s:=8*i) V3).trans ed
  have hv:IntKind.u8.wrap ((n/256^i:Nat):Int)=((UInt8.ofNat (n/256^i%256)).toNat:Nat):=by
   rw [UInt8.toNat_ofNat',Nat.mod_eq_of_lt (Nat.mod_lt _ (by decide)),IntKind.wrap_u8]
   omega
  have hbl:Nat.blt (0+i*1) ((lo 8 n i).map bc).length=true:=by rw [lo_len _ _ _ hi,Nat.blt_eq];omega
  (refine U19 ?_;refine bL O O w8 dO<|bN O O V3 hs dO ?_;refine kcv O hv ?_;refine K.indexSlc O O V3 O dO ?_;refine bG O O O O hbl (lo_set hlt) dO ?_;refine U5 ?_)
  exact ⟨_,_,by omega,Le.of VD VF V2 V2 V0,i+1,by omega,O,O⟩
 ·have e:i=8:=by omega
  subst e
  have hlen:0+8≤((lo 8 n 8).map bc).length:=by rw [lo_len _ _ _ (dK _)];omega
  have hcut:(((lo 8 n 8).map bc).drop 0).take 8=(leB 8 n).map bc:=by
   rw [List.drop_zero,List.take_of_length_le (by rw [lo_len _ _ _ (dK _)];exact dK _),lo_all]
  (refine U10 ?_;refine bR O O V5 StrT.u hlen hcut dO ?_;refine U3 ?_)
  exact V6
end Go.Proofs.YtbpdbclndfmcgaaGreatDoor
end
section
set_option maxHeartbeats 12800000
set_option maxRecDepth 100000
namespace Go.Proofs.YtbpdbclndfmcgaaGreatDoor
open Go Go.Lg
variable (X:Nat→Option Obj)
abbrev w0 (k:Nat):List (Nat×Option Box):=[(k,some ⟨178,[.val (.pointer none),.val (.int .i64 0)],false⟩)]
abbrev w1 (k ks kb:Nat) (l:List UInt8):List (Nat×Option Box):=
 [(k,some ⟨178,[.ptr ks 0,.val (.int .i64 (l.length:Nat))],false⟩),(ks,some ⟨198,[.slc kb 0 l.length],false⟩),(kb,some ⟨5,l.map bc,true⟩)]
theorem String_0:MSpec Tryz.prog X 107 [Lp 1000000] (w0 1000000) (Ls []) (w0 1000000):=by
 refine cE Tryz.func107 rfl V5 rfl rfl rfl rfl rfl ?_
 intro C
 (refine U8 ?_;refine K.ptrNil O V5 (.inl ⟨O,O⟩) dO ?_;refine U2 ?_;refine bI O (dP O O) ?_;refine U2 ?_;refine K.nilNil O V5 (.inl ⟨O,O⟩) (dP O O) ?_;refine U8 ?_)
 exact V1E
theorem String_1 (l:List UInt8):MSpec Tryz.prog X 107 [Lp 1000000] (w1 1000000 1000001 1000002 l) (Ls l) (w1 1000000 1000001 1000002 l):=by
 refine cE Tryz.func107 rfl V5 rfl rfl V0 rfl rfl ?_
 intro C
 have hlen:0+l.length≤(l.map bc).length:=by rw [cU];omega
 have hcut:((l.map bc).drop 0).take l.length=l.map bc:=by rw [List.drop_zero,List.take_of_length_le (by rw [cU];exact dK _)]
 (refine U8 ?_;refine K.ptrNil O V5 (.inl ⟨O,O⟩) dO ?_;refine U2 ?_;refine bI O (dP O O) ?_;refine U2 ?_;refine K.ptrNil O V5 (.inl ⟨O,O⟩) (dP O O) ?_;refine U5 ?_;refine rgD mixed ?_;refine U11 ?_;refine K.cutSlc O O bZ (dK _) dO<|bR O O V5 StrT.u hlen hcut dO ?_;refine U4 ?_)
 exact ⟨[],⟨[_],⟨O,trivial⟩,O⟩,V1,O,O⟩
theorem WRaw_0 (s:List UInt8) (hs:s.length<1000000000):MSpec Tryz.prog X 121 [Lp 1000000,Ls s] (w0 1000000) (Lb true) (w1 1000000 1000001 1000002 s):=by
 refine cE Tryz.func121 rfl V5 rfl rfl V0 rfl rfl ?_
 intro C
 (refine U8 ?_;refine K.ptrNil O V5 (.inl ⟨O,O⟩) dO ?_;refine U5 ?_;refine rgD mixed ?_;refine U4 ?_;refine K.nilNil O V5 (.inl ⟨O,O⟩) dO ?_;refine U21 ?_;refine aU [] (w0 1000000) (String_0 X) O O V7 V13 O O O O VB dO<|K.strBytes (e:=5) O StrT.u V5 V5 O dO<|aT O O V2 (by exact nl1 O O) dO ?_;refine U3 ?_;refine bG O O O O O (nl2 O O O) dO ?_;refine U2 ?_;refine rgD mixed ?_;refine U12 ?_;refine K.appendStr (by_:=1) O O O O V5 StrT.u (by simp only [dL];omega) (by simp only [dL];omega) O (Nat.zero_add _) (List.nil_append _) dO ?_;refine U2 ?_;refine bG O O O O O (nl1 O O) dO ?_;refine U15 ?_;refine bG O O O O O (nl2 O O O) dO ?_;refine U6 ?_)
 exact ⟨[(1000001,32),(1000002,47)],⟨[_],⟨O,trivial⟩,O⟩,V1,O,O⟩
end Go.Proofs.YtbpdbclndfmcgaaGreatDoor
end
section
set_option maxHeartbeats 12800000
set_option maxRecDepth 100000
namespace Go.Proofs.YtbpdbclndfmcgaaGreatDoor
open Go Go.Lg
variable (X:Nat→Option Obj)
theorem oshr_1 (n:Nat):((n:Nat):Int).fdiv (2^(min (((8*1:Nat):Int)).toNat IntKind.u64.bits))=((n/256^1:Nat):Int):=by
 have ed:((n:Nat):Int)/2^(8*1)=((n/256^1:Nat):Int):=by rw [p256,Int.natCast_ediv,Int.natCast_pow];rfl
 exact (shr_s (a:=((n:Nat):Int)) (s:=8*1) V3).trans ed
theorem WNum_0_1 (n:Nat) (hn:n<18446744073709551616) (h:n<256^1):MSpec Tryz.prog X 105 [Lp 1000000,Ln .i64 1,Ln .u64 (n:Nat)] (w0 1000000) (Lb true) (w1 1000000 1000001 1000002 (leB 1 n)):=by
 refine cE Tryz.func105 rfl V5 rfl rfl V0 rfl rfl ?_
 intro C
 have hz:((n/256^1:Nat):Int)=0:=by rw [Nat.div_eq_of_lt h];rfl
 have hs:=(oshr_1 n).trans hz
 (refine U8 ?_;refine kca O O (isWidth_spec X _ true O) ?_;refine U4 ?_;refine bL O O (c:=((8*1:Nat):Int)) O (dP O O) ?_;refine bN O O V11 hs (dP O O) ?_;refine aX O O ((cP V3)) (dP O O) ?_;refine U9 ?_;refine kca O O (low_1 X n hn)<|aU [(1000001,501),(1000002,502)] (w1 1000000 501 502 (leB 1 n)) (WRaw_0 X _ (by rw [leB_length];decide)) O O V7 V13 O O O O (by exact (.box O O (.box O O (.box O O .nil)))) dO ?_;refine U3 ?_)
 exact ⟨[(1000001,501),(1000002,502)],⟨[_],⟨O,trivial⟩,O⟩,V1,O,O⟩
theorem oshr_2 (n:Nat):((n:Nat):Int).fdiv (2^(min (((8*2:Nat):Int)).toNat IntKind.u64.bits))=((n/256^2:Nat):Int):=by
 have ed:((n:Nat):Int)/2^(8*2)=((n/256^2:Nat):Int):=by rw [p256,Int.natCast_ediv,Int.natCast_pow];rfl
 exact (shr_s (a:=((n:Nat):Int)) (s:=8*2) V3).trans ed
theorem WNum_0_2 (n:Nat) (hn:n<18446744073709551616) (h:n<256^2):MSpec Tryz.prog X 105 [Lp 1000000,Ln .i64 2,Ln .u64 (n:Nat)] (w0 1000000) (Lb true) (w1 1000000 1000001 1000002 (leB 2 n)):=by
 refine cE Tryz.func105 rfl V5 rfl rfl V0 rfl rfl ?_
 intro C
 have hz:((n/256^2:Nat):Int)=0:=by rw [Nat.div_eq_of_lt h];rfl
 have hs:=(oshr_2 n).trans hz
 (refine U8 ?_;refine kca O O (isWidth_spec X _ true O) ?_;refine U4 ?_;refine bL O O (c:=((8*2:Nat):Int)) O (dP O O) ?_;refine bN O O V11 hs (dP O O) ?_;refine aX O O ((cP V3)) (dP O O) ?_;refine U9 ?_;refine kca O O (low_2 X n hn)<|aU [(1000001,501),(1000002,502)] (w1 1000000 501 502 (leB 2 n)) (WRaw_0 X _ (by rw [leB_length];decide)) O O V7 V13 O O O O (by exact (.box O O (.box O O (.box O O .nil)))) dO ?_;refine U3 ?_)
 exact ⟨[(1000001,501),(1000002,502)],⟨[_],⟨O,trivial⟩,O⟩,V1,O,O⟩
theorem oshr_4 (n:Nat):((n:Nat):Int).fdiv (2^(min (((8*4:Nat):Int)).toNat IntKind.u64.bits))=((n/256^4:Nat):Int):=by
 have ed:((n:Nat):Int)/2^(8*4)=((n/256^4:Nat):Int):=by rw [p256,Int.natCast_ediv,Int.natCast_pow];rfl
 exact (shr_s (a:=((n:Nat):Int)) (s:=8*4) V3).trans ed
theorem WNum_0_4 (n:Nat) (hn:n<18446744073709551616) (h:n<256^4):MSpec Tryz.prog X 105 [Lp 1000000,Ln .i64 4,Ln .u64 (n:Nat)] (w0 1000000) (Lb true) (w1 1000000 1000001 1000002 (leB 4 n)):=by
 refine cE Tryz.func105 rfl V5 rfl rfl V0 rfl rfl ?_
 intro C
 have hz:((n/256^4:Nat):Int)=0:=by rw [Nat.div_eq_of_lt h];rfl
 have hs:=(oshr_4 n).trans hz
 (refine U8 ?_;refine kca O O (isWidth_spec X _ true O) ?_;refine U4 ?_;refine bL O O (c:=((8*4:Nat):Int)) O (dP O O) ?_;refine bN O O V11 hs (dP O O) ?_;refine aX O O ((cP V3)) (dP O O) ?_;refine U9 ?_;refine kca O O (low_4 X n hn)<|aU [(1000001,501),(1000002,502)] (w1 1000000 501 502 (leB 4 n)) (WRaw_0 X _ (by rw [leB_length];decide)) O O V7 V13 O O O O (by exact (.box O O (.box O O (.box O O .nil)))) dO ?_;refine U3 ?_)
 exact ⟨[(1000001,501),(1000002,502)],⟨[_],⟨O,trivial⟩,O⟩,V1,O,O⟩
theorem oshr_8 (n:Nat):((n:Nat):Int).fdiv (2^(min (((8*8:Nat):Int)).toNat IntKind.u64.bits))=((n/256^8:Nat):Int):=by
 have ed:((n:Nat):Int)/2^(8*8)=((n/256^8:Nat):Int):=by rw [p256,Int.natCast_ediv,Int.natCast_pow];rfl
 exact (shr_s (a:=((n:Nat):Int)) (s:=8*8) V3).trans ed
theorem WNum_0_8 (n:Nat) (hn:n<18446744073709551616) (h:n<256^8):MSpec Tryz.prog X 105 [Lp 1000000,Ln .i64 8,Ln .u64 (n:Nat)] (w0 1000000) (Lb true) (w1 1000000 1000001 1000002 (leB 8 n)):=by
 refine cE Tryz.func105 rfl V5 rfl rfl V0 rfl rfl ?_
 intro C
 have hz:((n/256^8:Nat):Int)=0:=by rw [Nat.div_eq_of_lt h];rfl
 have hs:=(oshr_8 n).trans hz
 (refine U8 ?_;refine kca O O (isWidth_spec X _ true O) ?_;refine U4 ?_;refine bL O O (c:=((8*8:Nat):Int)) O (dP O O) ?_;refine bN O O V11 hs (dP O O) ?_;refine aX O O ((cP V3)) (dP O O) ?_;refine U9 ?_;refine kca O O (low_8 X n hn)<|aU [(1000001,501),(1000002,502)] (w1 1000000 501 502 (leB 8 n)) (WRaw_0 X _ (by rw [leB_length];decide)) O O V7 V13 O O O O (by exact (.box O O (.box O O (.box O O .nil)))) dO ?_;refine U3 ?_)
 exact ⟨[(1000001,501),(1000002,502)],⟨[_],⟨O,trivial⟩,O⟩,V1,O,O⟩
end Go.Proofs.YtbpdbclndfmcgaaGreatDoor
end
section
set_option maxHeartbeats 12800000
set_option maxRecDepth 100000
namespace Go.Proofs.YtbpdbclndfmcgaaGreatDoor
open Go Go.Lg
variable (X:Nat→Option Obj)
theorem rlen (l:List UInt8):(⟨l.toArray⟩:ByteArray).size=l.length:=rfl
theorem Left_spec (l:List UInt8) (b:Bool):MSpec Tryz.prog X 155 [Lp 1000000] (rd 1000000 l b) (Ln .i64 (if b=true then 0 else (l.length:Nat))) (rd 1000000 l b):=by
 refine cE Tryz.func155 rfl V5 rfl rfl rfl rfl rfl ?_
 intro C
 cases b with
 | false =>
  (refine U8 ?_;refine aU [] (rd 1000000 l false) (Bad_spec X l false) O O V7 V13 O O O O VB dO ?_;refine U13 ?_)
  exact V1E
 | true =>
  (refine U8 ?_;refine aU [] (rd 1000000 l true) (Bad_spec X l true) O O V7 V13 O O O O VB dO ?_;refine U7 ?_)
  exact V1E
theorem Done_spec (l:List UInt8) (b:Bool) (e:Bool) (he:(l==[])=e):MSpec Tryz.prog X 127 [Lp 1000000] (rd 1000000 l b) (Lb (!b&&e)) (rd 1000000 l b):=by
 refine cE Tryz.func127 rfl V5 rfl rfl rfl rfl rfl ?_
 intro C
 cases b with
 | false =>
  (refine U7 ?_;refine aU [] (rd 1000000 l false) (Bad_spec X l false) O O V7 V13 O O O O VB dO ?_;refine U3 ?_;refine bI O (dP O O) ?_;refine U2 ?_;refine K.strEq O O (strs_eq he) (dP O O) ?_;refine U4 ?_)
  exact V1E
 | true =>
  (refine U7 ?_;refine aU [] (rd 1000000 l true) (Bad_spec X l true) O O V7 V13 O O O O VB dO ?_;refine U11 ?_)
  exact V1E
theorem Raw_ok (l:List UInt8) (n:Nat) (hn:n≤l.length) (hl:l.length<4611686018427387904):MSpec Tryz.prog X 140 [Lp 1000000,Ln .i64 (n:Nat)] (rd 1000000 l false) (Ls (l.take n)) (rd 1000000 (l.drop n) false):=by
 refine cE Tryz.func140 rfl V5 rfl rfl rfl rfl rfl ?_
 intro C
 have hz:=rlen l
 have c1:(⟨l.toArray⟩:ByteArray).extract 0 n=⟨(l.take n).toArray⟩:=by rw [str_cut,List.drop_zero,Nat.sub_zero]
 have c2:(⟨l.toArray⟩:ByteArray).extract n (⟨l.toArray⟩:ByteArray).size=⟨(l.drop n).toArray⟩:=by
  rw [str_cut,hz,List.take_of_length_le (by rw [cY];exact dK _)]
 have hL:=Left_spec X l false
 rw [if_neg (by simp)] at hL
 (refine U12 ?_;refine aU [] (rd 1000000 l false) (hL) O O V7 V13 O O O O VB (dP O O) ?_;refine aS O O (cL V3) (dP O O) ?_;refine U8 ?_;refine aU [] (rd 1000000 l false) (Bad_spec X l false) O O V7 V13 O O O O VB dO ?_;refine U10 ?_;refine bM (l:=0) (h:=n) (kl:=.i64) (kh:=.i64) O StrT.u O O ⟨V3,V3⟩ c1 dO ?_;refine U10 ?_;refine bM (l:=n) (h:=(⟨l.toArray⟩:ByteArray).size) (kl:=.i64) (kh:=.i64) O StrT.u O O ⟨V3,V3⟩ c2 dO ?_;refine U2 ?_;refine bG O O O O O (nl2 O O O) dO ?_;refine U7 ?_)
 exact V1E
end Go.Proofs.YtbpdbclndfmcgaaGreatDoor
end
section
set_option maxHeartbeats 12800000
set_option maxRecDepth 100000
namespace Go.Proofs.YtbpdbclndfmcgaaGreatDoor
open Go Go.Lg
variable (X:Nat→Option Obj)
theorem isW_bound {n:Int} (h:isW n=true):1≤n∧n≤8:=by
 unfold isW at h
 simp only [Bool.or_eq_true,decide_eq_true_eq] at h
 omega
theorem Num_ok (l:List UInt8) (w:Nat) (hw:isW (w:Int)=true) (hn:w≤l.length) (hl:l.length<4611686018427387904):MSpec Tryz.prog X 126 [Lp 1000000,Ln .i64 (w:Nat)] (rd 1000000 l false) (Ln .u64 (le (l.take w):Nat)) (rd 1000000 (l.drop w) false):=by
 have hb:=isW_bound hw
 refine cE Tryz.func126 rfl V5 rfl rfl rfl rfl rfl ?_
 intro C
 (refine U8 ?_;refine kca O O (isWidth_spec X _ true hw) ?_;refine U8 ?_;refine aU [] (rd 1000000 (l.drop w) false) (Raw_ok X l w hn hl) O O V7 V13 O O O O VB dO<|kca O O (onumber_spec X _ V25) ?_;refine U3 ?_)
 exact V1E
end Go.Proofs.YtbpdbclndfmcgaaGreatDoor
end
section
set_option maxHeartbeats 12800000
set_option maxRecDepth 100000
namespace Go.Lg.Fld
open Go Go.Lg
def kN (k:Int):List UInt8:=if k=1 then [98,111,111,108] else if k=2 then [105,56] else if k=3 then [105,49,54] else if k=4 then [105,51,50] else if k=5 then [105,54,52] else if k=6 then [117,56] else if k=7 then [117,49,54] else if k=8 then [117,51,50] else if k=9 then [117,54,52] else if k=10 then [114,101,102] else []
def kW (k:Int):Nat:=if k=1 then 1 else if k=2 then 1 else if k=3 then 2 else if k=4 then 4 else if k=5 then 8 else if k=6 then 1 else if k=7 then 2 else if k=8 then 4 else if k=9 then 8 else if k=10 then 8 else 0
def kB (k:Int):Int:=if k=1 then 0 else if k=2 then 128 else if k=3 then 32768 else if k=4 then 2147483648 else if k=5 then 9223372036854775808 else if k=6 then 0 else if k=7 then 0 else if k=8 then 0 else if k=9 then 0 else if k=10 then 0 else 0
def kA (k:Int):Int:=if k=1 then 1 else if k=2 then 127 else if k=3 then 32767 else if k=4 then 2147483647 else if k=5 then 9223372036854775807 else if k=6 then 255 else if k=7 then 65535 else if k=8 then 4294967295 else if k=9 then 18446744073709551615 else if k=10 then 18446744073709551615 else 0
def kK (k:Int):Bool:=decide (1≤k)&&decide (k≤10)
theorem kcases (k:Int):k=1∨k=2∨k=3∨k=4∨k=5∨k=6∨k=7∨k=8∨k=9∨k=10∨(k<1∨10<k):=by omega
theorem kin {k:Int} (h:kK k=true):k=1∨k=2∨k=3∨k=4∨k=5∨k=6∨k=7∨k=8∨k=9∨k=10:=by
 simp only [kK,Bool.and_eq_true,decide_eq_true_eq] at h;omega
theorem knot {k:Int} (h:kK k=false):k<1∨10<k:=by
 by_cases h1:1≤k<;>by_cases h2:k≤10<;>first|omega|(rw [kK,cM h1,cM h2] at h;cases h)
theorem kK_iff (k:Int):kK k=true↔1≤k∧k≤10:=by simp only [kK,Bool.and_eq_true,decide_eq_true_eq]
theorem kN_no {k:Int} (h:k<1∨10<k):kN k=[]:=by
 unfold kN
 rw [if_neg (show ¬ k=1 by omega),if_neg (show ¬ k=2 by omega),if_neg (show ¬ k=3 by omega),if_neg (show ¬ k=4 by omega),if_neg (show ¬ k=5 by omega),if_neg (show ¬ k=6 by omega),if_neg (show ¬ k=7 by omega),if_neg (show ¬ k=8 by omega),if_neg (show ¬ k=9 by omega),if_neg (show ¬ k=10 by omega)]
theorem kW_no {k:Int} (h:k<1∨10<k):kW k=0:=by
 unfold kW
 rw [if_neg (show ¬ k=1 by omega),if_neg (show ¬ k=2 by omega),if_neg (show ¬ k=3 by omega),if_neg (show ¬ k=4 by omega),if_neg (show ¬ k=5 by omega),if_neg (show ¬ k=6 by omega),if_neg (show ¬ k=7 by omega),if_neg (show ¬ k=8 by omega),if_neg (show ¬ k=9 by omega),if_neg (show ¬ k=10 by omega)]
theorem kB_no {k:Int} (h:k<1∨10<k):kB k=0:=by
 unfold kB
 rw [if_neg (show ¬ k=1 by omega),if_neg (show ¬ k=2 by omega),if_neg (show ¬ k=3 by omega),if_neg (show ¬ k=4 by omega),if_neg (show ¬ k=5 by omega),if_neg (show ¬ k=6 by omega),if_neg (show ¬ k=7 by omega),if_neg (show ¬ k=8 by omega),if_neg (show ¬ k=9 by omega),if_neg (show ¬ k=10 by omega)]
theorem kA_no {k:Int} (h:k<1∨10<k):kA k=0:=by
 unfold kA
 rw [if_neg (show ¬ k=1 by omega),if_neg (show ¬ k=2 by omega),if_neg (show ¬ k=3 by omega),if_neg (show ¬ k=4 by omega),if_neg (show ¬ k=5 by omega),if_neg (show ¬ k=6 by omega),if_neg (show ¬ k=7 by omega),if_neg (show ¬ k=8 by omega),if_neg (show ¬ k=9 by omega),if_neg (show ¬ k=10 by omega)]
theorem kfacts (k:Int):0≤kB k∧kB k≤9223372036854775808∧0≤kA k∧kA k<18446744073709551616∧kW k≤8:=by
 rcases kcases k with rfl|rfl|rfl|rfl|rfl|rfl|rfl|rfl|rfl|rfl|h
 all_goals first|(rw [kW_no h,kB_no h,kA_no h];omega)|decide
theorem kW_in {k:Int} (h:kK k=true):kW k=1∨kW k=2∨kW k=4∨kW k=8:=by
 rcases kin h with rfl|rfl|rfl|rfl|rfl|rfl|rfl|rfl|rfl|rfl<;>decide
theorem kW_zero (k:Int):kW k=0↔kK k=false:=by
 cases h:kK k with
 | false=>simp [kW_no (knot h)]
 | true=>rcases kW_in h with e|e|e|e<;>simp [e]
end Go.Lg.Fld
namespace Go.Proofs.YtbpdbclndfmcgaaGreatDoor
open Go Go.Lg Go.Lg.Fld
set_option maxRecDepth 100000
variable (X:Nat→Option Obj)
theorem shapeOf_spec (k:Int):PSpec Tryz.prog X 99 [Ln .i64 k] (.sv (.agg [.val (.string ⟨(kN k).toArray⟩),.val (.int .i64 (kW k:Nat)),.val (.int .u64 (kB k)),.val (.int .u64 (kA k))])):=by
 refine cD Tryz.func99 rfl V5 rfl rfl ?_
 intro C
 rcases kcases k with rfl|rfl|rfl|rfl|rfl|rfl|rfl|rfl|rfl|rfl|h
 ·(refine U12 ?_;refine keq O O (cS V3) ?_;refine U5 ?_;refine aT O O V2 V23 dO ?_;refine U3 ?_)
  exact V10
 ·(refine U18 ?_;refine keq O O (cS V3) ?_;refine U5 ?_;refine aT O O V2 V23 dO ?_;refine U3 ?_)
  exact V10
 ·(refine U24 ?_;refine keq O O (cS V3) ?_;refine U5 ?_;refine aT O O V2 V23 dO ?_;refine U3 ?_)
  exact V10
 ·(refine U30 ?_;refine keq O O (cS V3) ?_;refine U5 ?_;refine aT O O V2 V23 dO ?_;refine U3 ?_)
  exact V10
 ·(refine U36 ?_;refine keq O O (cS V3) ?_;refine U5 ?_;refine aT O O V2 V23 dO ?_;refine U3 ?_)
  exact V10
 ·(refine U42 ?_;refine keq O O (cS V3) ?_;refine U5 ?_;refine aT O O V2 V23 dO ?_;refine U3 ?_)
  exact V10
 ·(refine U48 ?_;refine keq O O (cS V3) ?_;refine U5 ?_;refine aT O O V2 V23 dO ?_;refine U3 ?_)
  exact V10
 ·(refine U54 ?_;refine keq O O (cS V3) ?_;refine U5 ?_;refine aT O O V2 V23 dO ?_;refine U3 ?_)
  exact V10
 ·(refine U60 ?_;refine keq O O (cS V3) ?_;refine U5 ?_;refine aT O O V2 V23 dO ?_;refine U3 ?_)
  exact V10
 ·(refine U60 ?_;refine U6 ?_;refine keq O O (cS V3) ?_;refine U5 ?_;refine aT O O V2 V23 dO ?_;refine U3 ?_)
  exact V10
 ·rw [kN_no h,kW_no h,kB_no h,kA_no h]
  (refine U60 ?_;refine U13 ?_;refine aT O O V2 V23 dO ?_;refine U3 ?_)
  exact V10
theorem fSize_spec (k:Int):PSpec Tryz.prog X 74 [Ln .i64 k] (Ln .i64 (kW k:Nat)):=by
 refine cD Tryz.func74 rfl V5 rfl rfl ?_
 intro C
 (refine U7 ?_;refine kca O O (shapeOf_spec X k)<|K.fieldOne O Tryz.underlying170 O V5 O dO ?_;refine U3 ?_)
 exact V6
theorem OfWord_q (n:Int) (hn:0≤n∧n<18446744073709551616):PSpec Tryz.prog X 63 [Ln .u64 n] (LQ n):=by
 have h:=OfWord_spec X n
 unfold LQ LI
 rw [mg_pos hn.1,cL (by omega),show n/18446744073709551616=0 by omega,show n%18446744073709551616=n by omega]
 exact h
theorem Greatest_spec (k:Int):PSpec Tryz.prog X 134 [Ln .i64 k] (LQ (kA k)):=by
 obtain ⟨_,_,h2,h3,_⟩:=kfacts k
 refine cD Tryz.func134 rfl V5 rfl rfl ?_
 intro C
 (refine U7 ?_;refine kca O O (shapeOf_spec X k)<|K.fieldOne O Tryz.underlying170 O V5 O dO<|kca O O (OfWord_q X (kA k) ⟨h2,h3⟩) ?_;refine U3 ?_)
 exact V10
theorem kB_R (k:Int):R127 (kB k):=by
 have:=kfacts k
 unfold R127;omega
theorem kBn_R (k:Int):R127 (-kB k):=by
 have:=kfacts k
 unfold R127;omega
theorem kA_R (k:Int):R127 (kA k):=by
 have:=kfacts k
 unfold R127;omega
theorem Least_spec (k:Int):PSpec Tryz.prog X 133 [Ln .i64 k] (LQ (-kB k)):=by
 obtain ⟨h0,h1,_⟩:=kfacts k
 refine cD Tryz.func133 rfl V5 rfl rfl ?_
 intro C
 (refine U7 ?_;refine kca O O (shapeOf_spec X k)<|K.fieldOne O Tryz.underlying170 O V5 O dO<|kca O O (OfWord_q X (kB k) ⟨h0,by omega⟩)<|kca O O (Neg_q X (kB k) (kB_R k)) ?_;refine U3 ?_)
 exact V10
theorem isKind_spec (k:Int) (r:Bool) (hr:kK k=r):PSpec Tryz.prog X 104 [Ln .i64 k] (Lb r):=by
 subst hr
 refine cD Tryz.func104 rfl V5 rfl rfl ?_
 intro C
 by_cases h1:1≤k
 ·(refine U7 ?_;refine K.leq O O (cM V3) dO ?_;refine U2 ?_;refine K.leq O O O (dP O O) ?_;refine U4 ?_)
  exact ⟨[_],⟨rfl,trivial⟩,by unfold kK;rw [cM h1];rfl⟩
 ·(refine U7 ?_;refine K.leq O O (cL V3) dO ?_;refine U7 ?_)
  exact ⟨[_],⟨rfl,trivial⟩,by unfold kK;rw [cL h1];rfl⟩
end Go.Proofs.YtbpdbclndfmcgaaGreatDoor
end
section
set_option maxHeartbeats 12800000
set_option maxRecDepth 100000
namespace Go.Lg.Fld
open Go Go.Lg
def clampK (k x:Int):Int:=if x < -kB k then -kB k else if kA k<x then kA k else x
def fitZ (k x:Int):Bool:=decide (-kB k≤x)&&decide (x≤kA k)
theorem fitZ_iff (k x:Int):fitZ k x=true ↔ -kB k≤x∧x≤kA k:=by simp only [fitZ,Bool.and_eq_true,decide_eq_true_eq]
theorem clamp_same (k x:Int):decide (clampK k x=x)=fitZ k x:=by
 obtain ⟨h0,_,h2,_,_⟩:=kfacts k
 rw [Bool.eq_iff_iff,decide_eq_true_eq,fitZ_iff]
 unfold clampK
 (repeat' split)<;>omega
end Go.Lg.Fld
namespace Go.Proofs.YtbpdbclndfmcgaaGreatDoor
open Go Go.Lg Go.Lg.Fld
set_option maxRecDepth 100000
variable (X:Nat→Option Obj)
theorem Clamp_bad (k:Int) (b:Bool) (N:Int) (hN:In2 N) (hf:formB b N=false):PSpec Tryz.prog X 119 [Ln .i64 k,LI b N] (.sv S0):=by
 refine cD Tryz.func119 rfl V5 rfl rfl ?_
 intro C
 (refine U8 ?_;refine kca O O (Least_spec X k)<|kmv O<|kca O O (Greatest_spec X k) ?_;refine U10 ?_;refine kca O O (Form_spec X b N hN false hf) ?_;refine U6 ?_;refine aT O O V2 V20 dO ?_;refine U3 ?_)
 exact V10
theorem Clamp_spec (k x:Int) (hx:R127 x):PSpec Tryz.prog X 119 [Ln .i64 k,LQ x] (LQ (clampK k x)):=by
 have hF:=Form_spec X (decide (x<0)) (mg x) (mg_in2 hx) true (formB_q hx)
 have c1:=Cmp_q X x (-kB k) hx (kBn_R k)
 have c2:=Cmp_q X x (kA k) hx (kA_R k)
 have hL:=Least_spec X k
 have hG:=Greatest_spec X k
 have hk:=kfacts k
 refine cD Tryz.func119 rfl V5 rfl rfl ?_
 intro C
 by_cases h1:x < -kB k
 ·have e:clampK k x = -kB k:=if_pos h1
  rw [e]
  have c1':=c1 (-1) (by unfold cmpI;rw [if_pos h1])
  refine U41 ?_
  exact V10
 ·have c1':∃ r:Int,0≤r∧cmpI x (-kB k)=r:=⟨_,(by unfold cmpI;rw [if_neg h1];split<;>decide),rfl⟩
  obtain ⟨r,hr0,hr⟩:=c1'
  have c1':=c1 r hr
  by_cases h2:kA k<x
  ·have e:clampK k x=kA k:=by unfold clampK;rw [if_neg h1,if_pos h2]
   rw [e]
   have c2':=c2 1 (by unfold cmpI;rw [if_neg (show ¬ x<kA k by omega),if_pos h2])
   (refine U40 ?_;refine aS O O (cM V3) dO ?_;refine U9 ?_)
   exact V10
  ·have e:clampK k x=x:=by unfold clampK;rw [if_neg h1,if_neg h2]
   rw [e]
   obtain ⟨s,hs0,hs⟩:∃ s:Int,s≤0∧cmpI x (kA k)=s:=⟨_,(by unfold cmpI;rw [if_neg h2];split<;>decide),rfl⟩
   have c2':=c2 s hs
   refine U51 ?_
   exact V10
def fitB (k:Int) (b:Bool) (N:Int):Bool:=kK k&&(formB b N&&fitZ k (zv b N))
theorem Fits_no (k:Int) (b:Bool) (N:Int) (hk:kK k=false):PSpec Tryz.prog X 103 [Ln .i64 k,LI b N] (Lb false):=by
 refine cD Tryz.func103 rfl V5 rfl rfl ?_
 intro C
 (refine U6 ?_;refine rgD mixed<|kmv O<|kca O O (isKind_spec X k false hk) ?_;refine U11 ?_)
 exact V6
theorem Fits_bad (k:Int) (b:Bool) (N:Int) (hk:kK k=true) (hN:In2 N) (hf:formB b N=false):PSpec Tryz.prog X 103 [Ln .i64 k,LI b N] (Lb false):=by
 have hC:=Clamp_bad X k b N hN hf
 have hq:(false==b&&((0:Int)==N/18446744073709551616&&(0:Int)==N%18446744073709551616))=false:=by
  cases hb:(false==b&&((0:Int)==N/18446744073709551616&&(0:Int)==N%18446744073709551616)) with
  | false=>rfl
  | true =>
   simp only [Bool.and_eq_true,beq_iff_eq] at hb
   obtain ⟨rfl,h1,h2⟩:=hb
   have:N=0:=by omega
   subst this
   cases hf
 refine cD Tryz.func103 rfl V5 rfl rfl ?_
 intro C
 (refine U6 ?_;refine rgD mixed<|kmv O<|kca O O (isKind_spec X k true hk) ?_;refine U5 ?_;refine K.aggEq O O O O V5 (eqI false hq) (.inl ⟨O,O⟩) (dP O O) ?_;refine U5 ?_)
 exact V6
theorem Fits_q (k x:Int) (hk:kK k=true) (hx:R127 x) (r:Bool) (hr:fitZ k x=r):PSpec Tryz.prog X 103 [Ln .i64 k,LQ x] (Lb r):=by
 have hC:=Clamp_spec X k x hx
 have hq:=clamp_same k x
 rw [hr] at hq
 refine cD Tryz.func103 rfl V5 rfl rfl ?_
 intro C
 (refine U6 ?_;refine rgD mixed<|kmv O<|kca O O (isKind_spec X k true hk) ?_;refine U5 ?_;refine K.aggEq O O O O V5 (eqQ _ _ r hq) (.inl ⟨O,O⟩) (dP O O) ?_;refine U5 ?_)
 exact V6
theorem Fits_spec (k:Int) (b:Bool) (N:Int) (hN:In2 N) (r:Bool) (hr:fitB k b N=r):PSpec Tryz.prog X 103 [Ln .i64 k,LI b N] (Lb r):=by
 subst hr
 unfold fitB
 cases hk:kK k with
 | false=>exact Fits_no X k b N hk
 | true =>
  cases hf:formB b N with
  | false=>exact Fits_bad X k b N hk hN hf
  | true =>
   rw [LI_q hN hf]
   exact Fits_q X k (zv b N) hk (zv_in hN hf).1 _ O
end Go.Proofs.YtbpdbclndfmcgaaGreatDoor
end
section
set_option maxHeartbeats 12800000
set_option maxRecDepth 100000
namespace Go.Lg.Fld
open Go Go.Lg
def kM (k:Int):Nat:=256^kW k
def wdK (k x:Int):Nat:=(x%(kM k:Int)).toNat
def nbK (k:Int) (v:Nat):Int:=if kA k<v then (v:Int)-(kM k:Int) else v
theorem kM_facts {k:Int} (h:kK k=true):kB k+kA k<(kM k:Int)∧(kM k:Int)≤18446744073709551616∧0<kM k:=by
 rcases kin h with rfl|rfl|rfl|rfl|rfl|rfl|rfl|rfl|rfl|rfl<;>decide
theorem wd_lt {k:Int} (h:kK k=true) (x:Int):wdK k x<256^kW k:=by
 have:=kM_facts h
 have h1:=Int.emod_nonneg x (show (kM k:Int)≠0 by omega)
 have h2:=Int.emod_lt_of_pos x (show 0<(kM k:Int) by omega)
 show wdK k x<kM k
 unfold wdK
 omega
theorem wd_of {k x:Int} (h:kK k=true) (hx:fitZ k x=true):(wdK k x:Int)=if x<0 then x+kM k else x:=by
 obtain ⟨h1,h2,h3⟩:=kM_facts h
 obtain ⟨f1,f2,f3,f4,_⟩:=kfacts k
 obtain ⟨x1,x2⟩:=(fitZ_iff k x).1 hx
 unfold wdK
 by_cases c:x<0
 ·rw [if_pos c]
  have e:x%(kM k:Int)=x+kM k:=by
   rw [← Int.add_emod_right]
   exact Int.emod_eq_of_lt V3 V3
  rw [e];omega
 ·rw [if_neg c,Int.emod_eq_of_lt V3 V3];omega
theorem nb_wd {k x:Int} (h:kK k=true) (hx:fitZ k x=true):nbK k (wdK k x)=x:=by
 obtain ⟨h1,h2,h3⟩:=kM_facts h
 obtain ⟨f1,f2,f3,f4,_⟩:=kfacts k
 obtain ⟨x1,x2⟩:=(fitZ_iff k x).1 hx
 have e:=wd_of h hx
 unfold nbK
 by_cases c:x<0
 ·rw [if_pos c] at e
  rw [if_pos (by omega)];omega
 ·rw [if_neg c] at e
  rw [if_neg (by omega)];omega
end Go.Lg.Fld
namespace Go.Proofs.YtbpdbclndfmcgaaGreatDoor
open Go Go.Lg Go.Lg.Fld
set_option maxRecDepth 100000
variable (X:Nat→Option Obj)
theorem fit_R {k x:Int} (h:fitZ k x=true):R127 x:=by
 have:=kfacts k
 rw [fitZ_iff] at h
 unfold R127;omega
theorem nb_R {k:Int} {v:Nat} (h:kK k=true) (hv:v<256^kW k):R127 (nbK k v):=by
 have:=kM_facts h
 have hv:v<kM k:=hv
 unfold R127 nbK
 split<;>omega
theorem opposite_1 (k:Int) (hk:kW k=1) (v:Int) (hv:0≤v∧v<18446744073709551616):PSpec Tryz.prog X 123 [Ln .i64 k,Ln .u64 v] (Ln .u64 ((-v)%((256^1:Nat):Int))):=by
 have hS:=fSize_spec X k
 rw [hk] at hS
 have p1:((2:Int)^(min (Int.toNat 56) IntKind.u64.bits))=72057594037927936:=by decide
 have p2:((256^1:Nat):Int)=256:=by decide
 rw [p2]
 have n1:IntKind.u64.wrap (0-v)=(0-v)%18446744073709551616:=by rw [IntKind.wrap_u64]
 have s1:IntKind.u64.wrap ((0-v)%18446744073709551616*(2:Int)^(min (Int.toNat 56) IntKind.u64.bits))=(0-v)%18446744073709551616*72057594037927936%18446744073709551616:=by rw [p1,IntKind.wrap_u64]
 have s2:((0-v)%18446744073709551616*72057594037927936%18446744073709551616).fdiv ((2:Int)^(min (Int.toNat 56) IntKind.u64.bits))=(-v)%256:=by
  rw [p1,Int.fdiv_eq_ediv_of_nonneg _ (by decide)]
  omega
 refine cD Tryz.func123 rfl V5 rfl rfl ?_
 intro C
 (refine U8 ?_;refine bL O O (c:=8) O dO<|K.sub O O (c:=56) O dO ?_;refine U5 ?_;refine K.neg O n1 dO<|kmv O<|K.shl O O V11 s1 dO<|kmv O<|bN O O V11 s2 dO ?_;refine U3 ?_)
 exact V6
theorem opposite_2 (k:Int) (hk:kW k=2) (v:Int) (hv:0≤v∧v<18446744073709551616):PSpec Tryz.prog X 123 [Ln .i64 k,Ln .u64 v] (Ln .u64 ((-v)%((256^2:Nat):Int))):=by
 have hS:=fSize_spec X k
 rw [hk] at hS
 have p1:((2:Int)^(min (Int.toNat 48) IntKind.u64.bits))=281474976710656:=by decide
 have p2:((256^2:Nat):Int)=65536:=by decide
 rw [p2]
 have n1:IntKind.u64.wrap (0-v)=(0-v)%18446744073709551616:=by rw [IntKind.wrap_u64]
 have s1:IntKind.u64.wrap ((0-v)%18446744073709551616*(2:Int)^(min (Int.toNat 48) IntKind.u64.bits))=(0-v)%18446744073709551616*281474976710656%18446744073709551616:=by rw [p1,IntKind.wrap_u64]
 have s2:((0-v)%18446744073709551616*281474976710656%18446744073709551616).fdiv ((2:Int)^(min (Int.toNat 48) IntKind.u64.bits))=(-v)%65536:=by
  rw [p1,Int.fdiv_eq_ediv_of_nonneg _ (by decide)]
  omega
 refine cD Tryz.func123 rfl V5 rfl rfl ?_
 intro C
 (refine U8 ?_;refine bL O O (c:=16) O dO<|K.sub O O (c:=48) O dO ?_;refine U5 ?_;refine K.neg O n1 dO<|kmv O<|K.shl O O V11 s1 dO<|kmv O<|bN O O V11 s2 dO ?_;refine U3 ?_)
 exact V6
theorem opposite_4 (k:Int) (hk:kW k=4) (v:Int) (hv:0≤v∧v<18446744073709551616):PSpec Tryz.prog X 123 [Ln .i64 k,Ln .u64 v] (Ln .u64 ((-v)%((256^4:Nat):Int))):=by
 have hS:=fSize_spec X k
 rw [hk] at hS
 have p1:((2:Int)^(min (Int.toNat 32) IntKind.u64.bits))=4294967296:=by decide
 have p2:((256^4:Nat):Int)=4294967296:=by decide
 rw [p2]
 have n1:IntKind.u64.wrap (0-v)=(0-v)%18446744073709551616:=by rw [IntKind.wrap_u64]
 have s1:IntKind.u64.wrap ((0-v)%18446744073709551616*(2:Int)^(min (Int.toNat 32) IntKind.u64.bits))=(0-v)%18446744073709551616*4294967296%18446744073709551616:=by rw [p1,IntKind.wrap_u64]
 have s2:((0-v)%18446744073709551616*4294967296%18446744073709551616).fdiv ((2:Int)^(min (Int.toNat 32) IntKind.u64.bits))=(-v)%4294967296:=by
  rw [p1,Int.fdiv_eq_ediv_of_nonneg _ (by decide)]
  omega
 refine cD Tryz.func123 rfl V5 rfl rfl ?_
 intro C
 (refine U8 ?_;refine bL O O (c:=32) O dO<|K.sub O O (c:=32) O dO ?_;refine U5 ?_;refine K.neg O n1 dO<|kmv O<|K.shl O O V11 s1 dO<|kmv O<|bN O O V11 s2 dO ?_;refine U3 ?_)
 exact V6
theorem opposite_8 (k:Int) (hk:kW k=8) (v:Int) (hv:0≤v∧v<18446744073709551616):PSpec Tryz.prog X 123 [Ln .i64 k,Ln .u64 v] (Ln .u64 ((-v)%((256^8:Nat):Int))):=by
 have hS:=fSize_spec X k
 rw [hk] at hS
 have p1:((2:Int)^(min (Int.toNat 0) IntKind.u64.bits))=1:=by decide
 have p2:((256^8:Nat):Int)=18446744073709551616:=by decide
 rw [p2]
 have n1:IntKind.u64.wrap (0-v)=(0-v)%18446744073709551616:=by rw [IntKind.wrap_u64]
 have s1:IntKind.u64.wrap ((0-v)%18446744073709551616*(2:Int)^(min (Int.toNat 0) IntKind.u64.bits))=(0-v)%18446744073709551616*1%18446744073709551616:=by rw [p1,IntKind.wrap_u64]
 have s2:((0-v)%18446744073709551616*1%18446744073709551616).fdiv ((2:Int)^(min (Int.toNat 0) IntKind.u64.bits))=(-v)%18446744073709551616:=by
  rw [p1,Int.fdiv_eq_ediv_of_nonneg _ (by decide)]
  omega
 refine cD Tryz.func123 rfl V5 rfl rfl ?_
 intro C
 (refine U8 ?_;refine bL O O (c:=64) O dO<|K.sub O O (c:=0) O dO ?_;refine U5 ?_;refine K.neg O n1 dO<|kmv O<|K.shl O O V11 s1 dO<|kmv O<|bN O O V11 s2 dO ?_;refine U3 ?_)
 exact V6
theorem opposite_spec (k:Int) (hk:kK k=true) (v:Int) (hv:0≤v∧v<18446744073709551616) (r:Int) (hr:(-v)%(kM k:Int)=r):PSpec Tryz.prog X 123 [Ln .i64 k,Ln .u64 v] (Ln .u64 r):=by
 subst hr
 unfold kM
 rcases kW_in hk with e|e|e|e
 ·rw [e];exact opposite_1 X k e v hv
 ·rw [e];exact opposite_2 X k e v hv
 ·rw [e];exact opposite_4 X k e v hv
 ·rw [e];exact opposite_8 X k e v hv
theorem wordOf_spec (k x:Int) (hk:kK k=true) (hx:fitZ k x=true):PSpec Tryz.prog X 106 [Ln .i64 k,LQ x] (Ln .u64 (wdK k x:Nat)):=by
 obtain ⟨h1,h2,h3⟩:=kM_facts hk
 obtain ⟨f1,f2,f3,f4,_⟩:=kfacts k
 obtain ⟨x1,x2⟩:=(fitZ_iff k x).1 hx
 have e:=wd_of hk hx
 refine cD Tryz.func106 rfl V5 rfl rfl ?_
 intro C
 by_cases c:x<0
 ·have hm:mg x%18446744073709551616 = -x:=by rw [mg_neg c];omega
  have hO:=opposite_spec X k hk (-x) V3 (wdK k x:Nat) (by
   rw [if_pos c] at e
   rw [e,Int.neg_neg,← Int.add_emod_right]
   exact Int.emod_eq_of_lt V3 V3)
  unfold LQ LI
  rw [hm,cM c]
  refine U21 ?_
  exact V6
 ·have hm:mg x%18446744073709551616=x:=by rw [mg_pos V3];omega
  rw [if_neg c] at e
  rw [e]
  unfold LQ LI
  rw [hm,cL c]
  refine U20 ?_
  exact V6
theorem numberOf_spec (k:Int) (v:Nat) (hk:kK k=true) (hv:v<256^kW k):PSpec Tryz.prog X 125 [Ln .i64 k,Ln .u64 (v:Nat)] (LQ (nbK k v)):=by
 obtain ⟨h1,h2,h3⟩:=kM_facts hk
 obtain ⟨f1,f2,f3,f4,_⟩:=kfacts k
 have hv':v<kM k:=hv
 refine cD Tryz.func125 rfl V5 rfl rfl ?_
 intro C
 by_cases c:kA k<v
 ·have hO:=opposite_spec X k hk v V3 ((kM k:Int)-v) (by
   rw [← Int.add_emod_right]
   rw [Int.emod_eq_of_lt (by omega) (by omega)];omega)
  have hW:=OfWord_q X ((kM k:Int)-v) V3
  have hN:=Neg_q X ((kM k:Int)-v) (by unfold R127;omega)
  have e:nbK k v = -((kM k:Int)-v):=by unfold nbK;rw [if_pos c];omega
  rw [e]
  (refine U9 ?_;refine kca O O (shapeOf_spec X k)<|K.fieldOne O Tryz.underlying170 O V5 O dO<|aS O O (cM V3) dO ?_;refine U12 ?_)
  exact V10
 ·have hW:=OfWord_q X (v:Int) V3
  have e:nbK k v=v:=by unfold nbK;rw [if_neg c]
  rw [e]
  (refine U9 ?_;refine kca O O (shapeOf_spec X k)<|K.fieldOne O Tryz.underlying170 O V5 O dO ?_;refine U11 ?_)
  exact V10
theorem WNum_k (k:Int) (hk:kK k=true) (n:Nat) (h:n<256^kW k):MSpec Tryz.prog X 105 [Lp 1000000,Ln .i64 (kW k:Nat),Ln .u64 (n:Nat)] (w0 1000000) (Lb true) (w1 1000000 1000001 1000002 (leB (kW k) n)):=by
 have hn:n<18446744073709551616:=by
  have:=(kM_facts hk).2.1
  have h:n<kM k:=h
  omega
 rcases kW_in hk with e|e|e|e<;>rw [e] at h ⊢
 ·exact WNum_0_1 X n hn h
 ·exact WNum_0_2 X n hn h
 ·exact WNum_0_4 X n hn h
 ·exact WNum_0_8 X n hn h
theorem Put_q (k x:Int) (hk:kK k=true) (hx:fitZ k x=true):PSpec Tryz.prog X 84 [Ln .i64 k,LQ x] (.tup [Ss (leB (kW k) (wdK k x)),Sn .i64 0]):=by
 have hF:=Fits_q X k x hk (fit_R hx) true hx
 have hW:=wordOf_spec X k x hk hx
 have hN:=WNum_k X k hk (wdK k x) (wd_lt hk x)
 have hS:=fSize_spec X k
 refine cD Tryz.func84 rfl V5 rfl rfl ?_
 intro C
 (refine U10 ?_;refine kca O O (isKind_spec X k true hk) ?_;refine U16 ?_;refine aT O O V2 V1C dO ?_;refine U4 ?_;refine rgD mixed ?_;refine U6 ?_;refine aU [(1000000,15),(1000001,501),(1000002,502)] (w1 15 501 502 (leB (kW k) (wdK k x))) (hN) O O V7 V13 O O O O (by exact (.box O O (.box O O (.box O (bW _ _ _ _) .nil)))) dO ?_;refine U5 ?_;refine K.callR [(1000000,15),(1000001,501),(1000002,502)] (String_1 X (leB (kW k) (wdK k x))) O O (by exact (cN ⟨_,O,O⟩ (cN ⟨_,O,O⟩ (cN ⟨_,O,(bW _ _ _ _)⟩ trivial)))) (by exact (bS (bS O (bS O O)) (bS (bS O O) (bS bytes_inUse O)))) O O O O dO ?_;refine U4 ?_)
 exact V1A
end Go.Proofs.YtbpdbclndfmcgaaGreatDoor
end
section
set_option maxHeartbeats 12800000
set_option maxRecDepth 100000
namespace Go.Lg.Fld
open Go Go.Lg
end Go.Lg.Fld
namespace Go.Proofs.YtbpdbclndfmcgaaGreatDoor
open Go Go.Lg Go.Lg.Fld
set_option maxRecDepth 100000
variable (X:Nat→Option Obj)
theorem isW_k {k:Int} (h:kK k=true):isW (kW k:Nat)=true:=by
 rcases kW_in h with e|e|e|e<;>rw [e]<;>rfl
theorem Get_q (k:Int) (l:List UInt8) (hk:kK k=true) (hn:l.length=kW k):PSpec Tryz.prog X 108 [Ln .i64 k,Ls l] (if fitZ k (nbK k (le l))=true then .tup [SQ (nbK k (le l)),Sn .i64 0] else .tup [S0,Sn .i64 4]):=by
 have hS:=fSize_spec X k
 have hw:=isW_k hk
 have hR:=Read_spec X l
 have hk8:=(kfacts k).2.2.2.2
 have hN:=Num_ok X l (kW k) hw V3 V3
 rw [List.take_of_length_le (by omega),List.drop_of_length_le (by omega)] at hN
 have hb:=le_lt l
 rw [hn] at hb
 have hO:=numberOf_spec X k (le l) hk hb
 have hR':=nb_R hk hb
 have hD:MSpec Tryz.prog X 127 [Lp 1000000] (rd 1000000 [] false) (Lb true) (rd 1000000 [] false):=Done_spec X [] false true rfl
 have hF:=Fits_q X k (nbK k (le l)) hk hR' _ rfl
 generalize nbK k (le l)=z at *
 generalize le l=n at *
 cases hf:fitZ k z with
 | true =>
  rw [hf] at hF
  rw [if_pos rfl]
  refine cD Tryz.func108 rfl V5 rfl rfl ?_
  intro C
  (refine U9 ?_;refine kca O O (isKind_spec X k true hk) ?_;refine U7 ?_;refine bE [(1000001,501)] (Lp 501) (rd 501 l false) (hR) O O V15 O O O O O VB dO ?_;refine U8 ?_;refine aU [(1000000,501)] (rd 501 [] false) (hN) O O V7 V13 O O O O VB dO ?_;refine U8 ?_;refine K.callR [(1000000,501)] (hD) O O V7 V13 O O O O dO ?_;refine U17 ?_)
  exact V17
 | false =>
  rw [hf] at hF
  rw [if_neg (by simp)]
  refine cD Tryz.func108 rfl V5 rfl rfl ?_
  intro C
  (refine U9 ?_;refine kca O O (isKind_spec X k true hk) ?_;refine U7 ?_;refine bE [(1000001,501)] (Lp 501) (rd 501 l false) (hR) O O V15 O O O O O VB dO ?_;refine U8 ?_;refine aU [(1000000,501)] (rd 501 [] false) (hN) O O V7 V13 O O O O VB dO ?_;refine U8 ?_;refine K.callR [(1000000,501)] (hD) O O V7 V13 O O O O dO ?_;refine U11 ?_;refine aT O O V2 V20 dO ?_;refine U4 ?_)
  exact V17
end Go.Proofs.YtbpdbclndfmcgaaGreatDoor
end
section
set_option maxHeartbeats 12800000
set_option maxRecDepth 100000
namespace Go.Proofs.YtbpdbclndfmcgaaGreatDoor
open Go Go.Lg Go.Lg.Fld
set_option maxRecDepth 100000
variable (X:Nat→Option Obj)
abbrev cI (b:Bool) (n:Int):List CV:=[.val (.bool b),.val (.int .u64 (n/18446744073709551616)),.val (.int .u64 (n%18446744073709551616))]
abbrev cQ (z:Int):List CV:=[.val (.bool (decide (z<0))),.val (.int .u64 (mg z/18446744073709551616)),.val (.int .u64 (mg z%18446744073709551616))]
end Go.Proofs.YtbpdbclndfmcgaaGreatDoor
end
section
namespace Go.Lg.Dig
open Go Go.Lg
def dg (n j:Nat):Nat:=n/256^j%256
def dv (d:Nat):CV:=.val (.int .i64 (d:Nat))
def dlf (f:Nat→Nat):List Nat:=(List.range 40).map f
def num (b:Bool) (f:Nat→Nat):List CV:=.val (.bool b)::(dlf f).map dv
theorem dlf_congr {f g:Nat→Nat} (h:∀ j,j<40→f j=g j):dlf f=dlf g:=by
 unfold dlf
 exact List.map_congr_left fun j hj=>h j (List.mem_range.1 hj)
theorem num_congr {b:Bool} {f g:Nat→Nat} (h:∀ j,j<40→f j=g j):num b f=num b g:=by
 unfold num
 rw [dlf_congr h]
theorem num_at {b:Bool} {f:Nat→Nat} {i:Nat} (hi:i<40):(num b f)[1+i*1]? = some (dv (f i)):=by
 rw [Nat.mul_one,Nat.add_comm]
 simp [num,dlf,hi]
theorem num_set {b:Bool} {f:Nat→Nat} {i d:Nat} (hi:i<40):(num b f).set (1+i*1) (dv d)=num b (fun j=>if j=i then d else f j):=by
 rw [Nat.mul_one,Nat.add_comm]
 unfold num
 rw [List.set_cons_succ]
 congr 1
 apply List.ext_getElem?
 intro j
 rw [List.getElem?_set]
 by_cases h:i=j
 ·subst h
  simp [dlf,hi]
 ·rw [if_neg h]
  by_cases hj:j<40
  ·simp [dlf,hj,show ¬ j=i from fun e=>h e.symm]
  ·simp [dlf,hj]
theorem pow_pos (j:Nat):0<256^j:=Nat.pow_pos (by decide)
theorem div_next (n i:Nat):n/256^i=n/256^(i+1)*256+dg n i:=by
 unfold dg
 rw [Nat.pow_succ,← Nat.div_div_eq_div_mul]
 omega
theorem pow40:256^40=2135987035920910082395021706169552114602704522356652769947041607822219725780640550022962086936576:=by decide
end Go.Lg.Dig
namespace Go.Lg.Dig
open Go Go.Lg
theorem num_length {b:Bool} {f:Nat→Nat}:(num b f).length=41:=by simp [num,dlf]
theorem num_blt {b:Bool} {f:Nat→Nat} {i:Nat} (hi:i<40):Nat.blt (1+i*1) (num b f).length=true:=by
 rw [num_length,Nat.blt_eq]
 omega
theorem div_div (n i:Nat):n/256^i/256=n/256^(i+1):=by rw [Nat.pow_succ,Nat.div_div_eq_div_mul]
end Go.Lg.Dig
namespace Go.Lg.Dig
theorem lt_digit {M N i:Nat} (h:M/256^(i+1)=N/256^(i+1)) (hd:dg M i<dg N i):M<N:=by
 have d1:=div_next M i
 have d2:=div_next N i
 rcases Nat.lt_or_ge M N with c|c
 ·exact c
 ·have:=Nat.div_le_div_right (c:=256^i) c
  omega
end Go.Lg.Dig
namespace Go.Lg.Dig
end Go.Lg.Dig
namespace Go.Lg.Dig
open Go Go.Lg
end Go.Lg.Dig
namespace Go.Lg.Dig
open Go Go.Lg
end Go.Lg.Dig
end
section
set_option maxHeartbeats 12800000
set_option maxRecDepth 100000
namespace Go.Proofs.YtbpdbclndfmcgaaGreatDoor
open Go Go.Lg Go.Lg.Arith Go.Lg.Dig Go.RowKit
variable (X:Nat→Option Obj)
abbrev LN (b:Bool) (f:Nat→Nat):LV:=.sv (.agg (num b f))
def two (l h i:Nat) (j:Nat):Nat:=if j<i then dg l j else if 8≤j∧j<8+i then dg h (j-8) else 0
theorem two_dg {l h:Nat} (hl:l<18446744073709551616) (hh:h<18446744073709551616) (j:Nat):two l h 8 j=dg (h*18446744073709551616+l) j:=by
 have e64:18446744073709551616=256^8:=by decide
 unfold two dg
 by_cases h1:j<8
 ·rw [if_pos h1]
  obtain ⟨k,hk⟩:∃ k,8=j+1+k:=⟨7-j,by omega⟩
  have hp:=pow_pos j
  rw [e64,hk,Nat.pow_add,Nat.pow_succ]
  generalize 256^k=q
  generalize 256^j=p at *
  rw [show h*(p*256*q)+l=l+p*(256*(q*h)) by rw [Nat.mul_comm h,Nat.mul_assoc,Nat.mul_assoc,Nat.add_comm],Nat.add_mul_div_left _ _ hp]
  omega
 ·rw [if_neg h1]
  obtain ⟨k,rfl⟩:∃ k,j=8+k:=⟨j-8,by omega⟩
  have e:(h*18446744073709551616+l)/256^(8+k)=h/256^k:=by
   rw [Nat.pow_add,← e64,← Nat.div_div_eq_div_mul]
   congr 1
   omega
  rw [e]
  by_cases h2:8+k<16
  ·rw [if_pos ⟨by omega,by omega⟩,show 8+k-8=k by omega]
  ·rw [if_neg V3]
   have:h<256^k:=Nat.lt_of_lt_of_le hh (by rw [e64];exact Nat.pow_le_pow_right V11 V3)
   rw [Nat.div_eq_of_lt this]
theorem From_raw (b:Bool) (h l:Nat) (hh:h<18446744073709551616) (hl:l<18446744073709551616):
  PSpec Tryz.prog X 130 [Li b (h:Nat) (l:Nat)] (LN b (two l h 8)):=by
 refine cD Tryz.func130 rfl V5 rfl V5 ?_
 intro C
 (refine U9 ?_;refine aT O O V2 V2 dO ?_;refine U21 ?_)
 refine cH (fun m σ=>∃ i:Nat,i≤8∧m=8-i∧σ=⟨[(2,.sv (.one (.ptr 2 0))),(3,.sv (.one (.ptr 3 0))),(4,Ln .u64 ((h/256^i:Nat):Int)),(5,Ln .u64 ((l/256^i:Nat):Int)),(6,Ln .i64 (i:Nat))],[(2,some { elem:=208,cells:=num false (fun _=>0) }),(3,some { elem:=208,cells:=num b (two l h i) })],X⟩) 8
  ⟨_,Le.of (by exact ⟨rfl,rfl,by rw [Nat.pow_zero,Nat.div_one];rfl,by rw [Nat.pow_zero,Nat.div_one];rfl,rfl,trivial⟩) VA V2 V2 V2,0,by omega,rfl,rfl⟩ ?_
 rintro m σ ⟨i,hi,rfl,rfl⟩
 by_cases h8:i<8
 ·have bl:l/256^i≤l:=Nat.div_le_self _ _
  have bh:h/256^i≤h:=Nat.div_le_self _ _
  have el:dg l i=l/256^i%256:=rfl
  have eh:dg h i=h/256^i%256:=rfl
  have nl:=div_div l i
  have nh:=div_div h i
  have step:num b (fun j=>if j=8+i then dg h i else if j=i then dg l i else two l h i j)=num b (two l h (i+1)):=by
   refine num_congr fun j _ => ?_
   unfold two
   by_cases c1:j=i
   ·subst c1
    rw [if_neg (by omega),if_pos rfl,if_pos (by omega)]
   ·by_cases c2:j=8+i
    ·subst c2
     rw [if_pos rfl,if_neg (by omega),if_pos ⟨by omega,by omega⟩,show 8+i-8=i by omega]
    ·rw [if_neg c2,if_neg c1]
     simp only [show (j<i+1↔j<i) by omega,show (8≤j∧j<8+(i+1)↔8≤j∧j<8+i) by omega]
  generalize hu':l/256^(i+1)=u' at *
  generalize hv':h/256^(i+1)=v' at *
  generalize l/256^i=u at *
  generalize h/256^i=v at *
  have wl:IntKind.i64.wrap ((u:Int)%256)=((dg l i:Nat):Int):=by rw [cF V3];omega
  have wh:IntKind.i64.wrap ((v:Int)%256)=((dg h i:Nat):Int):=by rw [cF V3];omega
  have ql:IntKind.u64.wrap ((u:Int).tdiv 256)=(u':Int):=by rw [quo_u64 V3 V3];omega
  have qh:IntKind.u64.wrap ((v:Int).tdiv 256)=(v':Int):=by rw [quo_u64 V3 V3];omega
  (refine U14 ?_;refine K.rem O O V3 (rem_pos V3) dO<|kcv O wl ?_;refine U1 ?_;refine K.indexArr O O V3 O dO ?_;refine bG O O O O (num_blt (i:=i) V3) (num_set (i:=i) (d:=dg l i) V3) dO ?_;refine U6 ?_;refine K.rem O O V3 (rem_pos V3) dO<|kcv O wh ?_;refine U1 ?_;refine K.indexArr O O V3 O dO ?_;refine bG O O O O (num_blt (i:=8+i) V3) (num_set (i:=8+i) (d:=dg h i) V3) dO ?_;refine U4 ?_;refine K.quo O O V3 ql dO ?_;refine U4 ?_;refine K.quo O O V3 qh dO ?_;refine U7 ?_)
  exact ⟨_,_,by omega,Le.of (by exact ⟨rfl,rfl,by rw [hv'];rfl,by rw [hu'];rfl,rfl,trivial⟩) (by exact ⟨rfl,by rw [← step];rfl,trivial⟩) V2 V2 V2,i+1,by omega,rfl,rfl⟩
 ·have e:i=8:=by omega
  subst e
  refine U14 ?_
  exact V10
end Go.Proofs.YtbpdbclndfmcgaaGreatDoor
end
section
set_option maxHeartbeats 12800000
set_option maxRecDepth 100000
namespace Go.Proofs.YtbpdbclndfmcgaaGreatDoor
open Go Go.Lg Go.Lg.Arith Go.Lg.Dig Go.RowKit
variable (X:Nat→Option Obj)
theorem From_spec (b:Bool) (n:Nat) (hn:n<340282366920938463463374607431768211456):PSpec Tryz.prog X 130 [LI b (n:Nat)] (LN b (dg n)):=by
 have h:=From_raw X b (n/18446744073709551616) (n%18446744073709551616) V3 V3
 have e:num b (two (n%18446744073709551616) (n/18446744073709551616) 8)=num b (dg n):=num_congr fun j _=>by
  rw [two_dg (by omega) (by omega),show n/18446744073709551616*18446744073709551616+n%18446744073709551616=n by omega]
 unfold LN at h ⊢
 rw [e] at h
 exact h
abbrev T40:Nat:=256^40
theorem cmp_facts_0 (x y:Int):∃ r,cmpI x y=r∧(x<y→r = -1)∧(x=y→r=0)∧(y<x→r=1):=by
 refine ⟨_,rfl,?_,?_,?_⟩<;>intro h<;>unfold cmpI
 ·rw [if_pos h]
 ·rw [if_neg V3,if_neg V3]
 ·rw [if_neg V3,if_pos h]
theorem Size_spec (a b:Bool) (M N:Nat) (hM:M<T40) (hN:N<T40) (r:Int) (hr:cmpI M N=r):
  PSpec Tryz.prog X 129 [LN a (dg M),LN b (dg N)] (Ln .i64 r):=by
 refine cD Tryz.func129 rfl V5 rfl rfl ?_
 intro C
 refine U12 ?_
 refine cH (fun m σ=>∃ z:Int,m≤40∧z=(m:Int)-1∧M/256^m=N/256^m∧σ=⟨[(2,.sv (.one (.ptr 2 0))),(3,.sv (.one (.ptr 3 0))),(5,Ln .i64 z)],[(2,some { elem:=208,cells:=num a (dg M) }),(3,some { elem:=208,cells:=num b (dg N) })],X⟩) 40
  ⟨_,Le.of V9 VA V2 V2 V2,39,by omega,rfl,by rw [Nat.div_eq_of_lt hM,Nat.div_eq_of_lt hN],rfl⟩ ?_
 rintro m σ ⟨z,hm,rfl,hq,rfl⟩
 cases m with
 | zero =>
  have e:M=N:=by simpa using hq
  have hr':r=0:=by rw [← hr,e];unfold cmpI;rw [if_neg V3,if_neg V3]
  (refine U4 ?_;refine bD O O (cL V3) dO ?_;refine U8 ?_)
  exact ⟨[_],⟨rfl,trivial⟩,by rw [hr'];rfl⟩
 | succ i =>
  rw [show (((i+1:Nat):Int)-1)=(i:Int) by omega]
  have hi:i<40:=by omega
  rcases Nat.lt_trichotomy (dg M i) (dg N i) with h|h|h
  ·have hlt:=lt_digit hq h
   have hr':r = -1:=by rw [← hr];unfold cmpI;rw [if_pos V3]
   (refine U4 ?_;refine bD O O (cM V3) dO ?_;refine U7 ?_;refine rgD mixed ?_;refine U2 ?_;refine K.indexArr O O V3 O dO ?_;refine kl1 O O (num_at (i:=i) hi) ?_;refine U2 ?_;refine K.indexArr O O V3 O dO ?_;refine kl1 O O (num_at (i:=i) hi) ?_;refine U6 ?_;refine rgD mixed ?_;refine U2 ?_;refine K.indexArr O O V3 O dO ?_;refine kl1 O O (num_at (i:=i) hi) ?_;refine U2 ?_;refine K.indexArr O O V3 O dO ?_;refine kl1 O O (num_at (i:=i) hi) ?_;refine U9 ?_)
   exact ⟨[_],⟨rfl,trivial⟩,by rw [hr'];rfl⟩
  ·have hq':M/256^i=N/256^i:=by rw [div_next M i,div_next N i,hq,h]
   (refine U4 ?_;refine bD O O (cM V3) dO ?_;refine U7 ?_;refine rgD mixed ?_;refine U2 ?_;refine K.indexArr O O V3 O dO ?_;refine kl1 O O (num_at (i:=i) hi) ?_;refine U2 ?_;refine K.indexArr O O V3 O dO ?_;refine kl1 O O (num_at (i:=i) hi) ?_;refine U6 ?_;refine rgD mixed ?_;refine U2 ?_;refine K.indexArr O O V3 O dO ?_;refine kl1 O O (num_at (i:=i) hi) ?_;refine U2 ?_;refine K.indexArr O O V3 O dO ?_;refine kl1 O O (num_at (i:=i) hi) ?_;refine U7 ?_;refine K.sub O O (cF V3) dO ?_;refine U2 ?_)
   exact ⟨i,_,by omega,Le.of V9 VA V2 V2 V2,_,by omega,O,hq',O⟩
  ·have hlt:=lt_digit hq.symm h
   have hr':r=1:=by rw [← hr];unfold cmpI;rw [if_neg V3,if_pos V3]
   (refine U4 ?_;refine bD O O (cM V3) dO ?_;refine U7 ?_;refine rgD mixed ?_;refine U2 ?_;refine K.indexArr O O V3 O dO ?_;refine kl1 O O (num_at (i:=i) hi) ?_;refine U2 ?_;refine K.indexArr O O V3 O dO ?_;refine kl1 O O (num_at (i:=i) hi)<|aS O O (cM V3) dO ?_;refine U8 ?_)
   exact ⟨[_],⟨rfl,trivial⟩,by rw [hr'];rfl⟩
end Go.Proofs.YtbpdbclndfmcgaaGreatDoor
end
section
set_option maxHeartbeats 12800000
set_option maxRecDepth 100000
namespace Go.Proofs.YtbpdbclndfmcgaaGreatDoor
open Go Go.Lg Go.Lg.Arith Go.Lg.Dig Go.RowKit
variable (X:Nat→Option Obj)
theorem Good_spec (b:Bool) (N:Int) (hN:In2 N) (r:Bool) (hr:formB b N=r):PSpec Tryz.prog X 112 [LI b N] (Lb r):=by
 obtain ⟨h0,h1⟩:=hN
 refine cD Tryz.func112 rfl V5 rfl rfl ?_
 intro C
 by_cases ha:N<170141183460469231731687303715884105728
 ·cases b with
  | false =>
   have e:r=true:=by rw [← hr];simp [formB,ha]
   (refine U17 ?_;refine bO O O (dP O O) ?_;refine U4 ?_;refine bO O O (dP O O) ?_;refine U5 ?_)
   exact ⟨[_],⟨rfl,trivial⟩,by rw [e];rfl⟩
  | true =>
   by_cases hh:N/18446744073709551616=0
   ·by_cases hl:N%18446744073709551616=0
    ·have e:r=false:=by rw [← hr];unfold formB;rw [show (N==0)=true from cS V3];simp
     (refine U16 ?_;refine bC O O (cS V3) (dP O O) ?_;refine bF O O (dP O O) ?_;refine U3 ?_;refine bC O O (cS V3) (dP O O) ?_;refine bF O O (dP O O) ?_;refine U5 ?_)
     exact ⟨[_],⟨rfl,trivial⟩,by rw [e];rfl⟩
    ·have e:r=true:=by rw [← hr];unfold formB;rw [show (N==0)=false from cO V3];simp [ha]
     (refine U16 ?_;refine bC O O (cS V3) (dP O O) ?_;refine bF O O (dP O O) ?_;refine U3 ?_;refine bC O O (cO V3) (dP O O) ?_;refine bF O O (dP O O) ?_;refine U5 ?_)
     exact ⟨[_],⟨rfl,trivial⟩,by rw [e];rfl⟩
   ·have e:r=true:=by rw [← hr];unfold formB;rw [show (N==0)=false from cO V3];simp [ha]
    (refine U16 ?_;refine bC O O (cO V3) (dP O O) ?_;refine bF O O (dP O O) ?_;refine U4 ?_;refine bO O O (dP O O) ?_;refine U5 ?_)
    exact ⟨[_],⟨rfl,trivial⟩,by rw [e];rfl⟩
 ·have e:r=false:=by rw [← hr];simp [formB,ha]
  refine U28 ?_
  exact ⟨[_],⟨rfl,trivial⟩,by rw [e];rfl⟩
theorem mg_nat (x:Int):(((mg x).toNat:Nat):Int)=mg x:=by have:=mg_nonneg x;omega
theorem From_q (x:Int) (hx:R127 x):PSpec Tryz.prog X 130 [LQ x] (LN (decide (x<0)) (dg (mg x).toNat)):=by
 have h:=From_spec X (decide (x<0)) (mg x).toNat (by have:=mg_lim hx;have:=mg_nonneg x;omega)
 rw [mg_nat] at h
 exact h
theorem lim40 {n:Nat} (h:n<340282366920938463463374607431768211456):n<T40:=by
 unfold T40
 rw [pow40]
 omega
theorem RCmp_spec (x y:Int) (hx:R127 x) (hy:R127 y) (r:Int) (hr:cmpI x y=r):PSpec Tryz.prog X 114 [LQ x,LQ y] (Ln .i64 r):=by
 have f1:=From_q X x hx
 have f2:=From_q X y hy
 have n1:=mg_nonneg x
 have n2:=mg_nonneg y
 have m1:=mg_lim hx
 have m2:=mg_lim hy
 obtain ⟨s,hs,c1,c2,c3⟩:=cmp_facts_0 ((mg x).toNat:Nat) ((mg y).toNat:Nat)
 have hS:=Size_spec X (decide (x<0)) (decide (y<0)) (mg x).toNat (mg y).toNat (lim40 V3) (lim40 V3) s hs
 rw [mg_nat,mg_nat] at c1 c2 c3
 refine cD Tryz.func114 rfl V5 rfl rfl ?_
 intro C
 by_cases cx:x<0
 ·by_cases cy:y<0
  ·have hb:(decide (x<0) != decide (y<0))=false:=by rw [cM cx,cM cy];rfl
   have e:r=0-s:=by
    rw [mg_neg cx,mg_neg cy] at c1 c2 c3
    rw [← hr]
    unfold cmpI
    rcases Int.lt_trichotomy x y with h|h|h
    ·rw [if_pos h];omega
    ·rw [if_neg V3,if_neg V3];omega
    ·rw [if_neg V3,if_pos h];omega
   have sb : -1≤s∧s≤1:=by rcases Int.lt_trichotomy (mg x) (mg y) with h|h|h<;>omega
   (refine U13 ?_;refine K.neqB O O hb dO ?_;refine U4 ?_;refine rgD mixed ?_;refine U14 ?_;refine LWP.condT (ev_bool (cM cx)) ?_;refine U3 ?_;refine K.neg O (cF V3) dO ?_;refine U3 ?_)
   exact ⟨[_],⟨rfl,trivial⟩,by rw [e];rfl⟩
  ·have hb:(decide (x<0) != decide (y<0))=true:=by rw [cM cx,cL cy];rfl
   have e:r = -1:=by rw [← hr];unfold cmpI;rw [if_pos V3]
   (refine U13 ?_;refine K.neqB O O hb dO ?_;refine U8 ?_;refine LWP.condT (ev_bool (cM cx)) ?_;refine U5 ?_)
   exact ⟨[_],⟨rfl,trivial⟩,by rw [e];rfl⟩
 ·by_cases cy:y<0
  ·have hb:(decide (x<0) != decide (y<0))=true:=by rw [cL cx,cM cy];rfl
   have e:r=1:=by rw [← hr];unfold cmpI;rw [if_neg V3,if_pos V3]
   (refine U13 ?_;refine K.neqB O O hb dO ?_;refine U8 ?_;refine LWP.condF (ev_bool (cL cx)) ?_;refine U6 ?_)
   exact ⟨[_],⟨rfl,trivial⟩,by rw [e];rfl⟩
  ·have hb:(decide (x<0) != decide (y<0))=false:=by rw [cL cx,cL cy];rfl
   have e:r=s:=by
    rw [mg_pos (Int.not_lt.1 cx),mg_pos (Int.not_lt.1 cy)] at c1 c2 c3
    rw [← hr]
    unfold cmpI
    rcases Int.lt_trichotomy x y with h|h|h
    ·rw [if_pos h];omega
    ·rw [if_neg V3,if_neg V3];omega
    ·rw [if_neg V3,if_pos h];omega
   (refine U13 ?_;refine K.neqB O O hb dO ?_;refine U4 ?_;refine rgD mixed ?_;refine U14 ?_;refine LWP.condF (ev_bool (cL cx)) ?_;refine U7 ?_)
   exact ⟨[_],⟨rfl,trivial⟩,by rw [e];rfl⟩
end Go.Proofs.YtbpdbclndfmcgaaGreatDoor
end
section
set_option maxHeartbeats 12800000
set_option maxRecDepth 100000
namespace Go.Lg.Fld
open Go Go.Lg
abbrev tabW:List CV:=[.val (.int .i64 0),.val (.int .i64 1),.val (.int .i64 1),.val (.int .i64 2),.val (.int .i64 4),.val (.int .i64 8),.val (.int .i64 1),.val (.int .i64 2),.val (.int .i64 4),.val (.int .i64 8),.val (.int .i64 8)]
abbrev tabB:List CV:=[.val (.int .u64 0),.val (.int .u64 0),.val (.int .u64 128),.val (.int .u64 32768),.val (.int .u64 2147483648),.val (.int .u64 9223372036854775808),.val (.int .u64 0),.val (.int .u64 0),.val (.int .u64 0),.val (.int .u64 0),.val (.int .u64 0)]
abbrev tabA:List CV:=[.val (.int .u64 0),.val (.int .u64 1),.val (.int .u64 127),.val (.int .u64 32767),.val (.int .u64 2147483647),.val (.int .u64 9223372036854775807),.val (.int .u64 255),.val (.int .u64 65535),.val (.int .u64 4294967295),.val (.int .u64 18446744073709551615),.val (.int .u64 18446744073709551615)]
theorem tabW_at {k:Int} (h:kK k=true):tabW[0+k.toNat*1]? = some (.val (.int .i64 (kW k:Nat))):=by
 rcases kin h with rfl|rfl|rfl|rfl|rfl|rfl|rfl|rfl|rfl|rfl<;>rfl
theorem tabB_at {k:Int} (h:kK k=true):tabB[0+k.toNat*1]? = some (.val (.int .u64 (kB k))):=by
 rcases kin h with rfl|rfl|rfl|rfl|rfl|rfl|rfl|rfl|rfl|rfl<;>rfl
theorem tabA_at {k:Int} (h:kK k=true):tabA[0+k.toNat*1]? = some (.val (.int .u64 (kA k))):=by
 rcases kin h with rfl|rfl|rfl|rfl|rfl|rfl|rfl|rfl|rfl|rfl<;>rfl
end Go.Lg.Fld
namespace Go.Proofs.YtbpdbclndfmcgaaGreatDoor
open Go Go.Lg Go.Lg.Fld
set_option maxRecDepth 100000
variable (X:Nat→Option Obj)
instance:ArrB Tryz.prog 190 (List.replicate 11 (.int .i64 0)) 1:=⟨by kernel_rfl⟩
instance:ArrB Tryz.prog 204 (List.replicate 11 (.int .u64 0)) 1:=⟨by kernel_rfl⟩
theorem refBytes_spec (k:Int):PSpec Tryz.prog X 100 [Ln .i64 k] (Ln .i64 (kW k:Nat)):=by
 refine cD Tryz.func100 rfl V5 rfl rfl ?_
 intro C
 cases hk:kK k with
 | false =>
  rcases knot hk with h|h
  ·rw [kW_no (.inl h)]
   refine U20 ?_
   exact V6
  ·rw [kW_no (.inr h)]
   (refine U11 ?_;refine aS O O (cM V3) (dP O O) ?_;refine U8 ?_)
   exact V6
 | true =>
  have hb:=(kK_iff k).1 hk
  (refine U11 ?_;refine aS O O (cL V3) (dP O O) ?_;refine U6 ?_;refine K.buildArr (cs':=tabW) O O V2 O dO ?_;refine U6 ?_;refine K.indexArr O O V3 O dO ?_;refine kl1 O O (tabW_at hk) ?_;refine U3 ?_)
  exact V6
theorem SQ_pos {p:Int} (h:0≤p∧p<18446744073709551616):SQ p = .agg [.val (.bool false),.val (.int .u64 0),.val (.int .u64 p)]:=by
 unfold SQ SI
 rw [mg_pos h.1,cL (by omega),show p/18446744073709551616=0 by omega,show p%18446744073709551616=p by omega]
theorem SQ_neg {p:Int} (h:0<p∧p<18446744073709551616):SQ (-p) = .agg [.val (.bool true),.val (.int .u64 0),.val (.int .u64 p)]:=by
 unfold SQ SI
 rw [mg_neg (by omega),cM (by omega),Int.neg_neg,show p/18446744073709551616=0 by omega,show p%18446744073709551616=p by omega]
theorem SQ_low (k:Int):SQ (-kB k) = .agg [.val (.bool (decide (0<kB k))),.val (.int .u64 0),.val (.int .u64 (kB k))]:=by
 have hb:=kfacts k
 by_cases h:0<kB k
 ·rw [SQ_neg ⟨h,by omega⟩,cM h]
 ·rw [cL h,show -kB k=kB k by omega,SQ_pos ⟨by omega,by omega⟩]
theorem Bounds_spec (k:Int):PSpec Tryz.prog X 113 [Ln .i64 k] (.tup [SQ (-kB k),SQ (kA k)]):=by
 have hf:=kfacts k
 rw [SQ_low k,SQ_pos ⟨hf.2.2.1,hf.2.2.2.1⟩]
 refine cD Tryz.func113 rfl V5 rfl rfl ?_
 intro C
 cases hk:kK k with
 | false =>
  rw [kB_no (knot hk),kA_no (knot hk)]
  rcases knot hk with h|h
  ·(refine U18 ?_;refine aT O O V2 V20 dO ?_;refine aT O O V2 V20 dO ?_;refine U4 ?_)
   exact ⟨[_,_],⟨⟨_,_,O,O,O,.inl ⟨AggT.h,O⟩⟩,⟨_,_,O,O,O,.inl ⟨AggT.h,O⟩⟩,trivial⟩,O⟩
  ·(refine U12 ?_;refine aS O O (cM V3) (dP O O) ?_;refine U5 ?_;refine aT O O V2 V20 dO ?_;refine aT O O V2 V20 dO ?_;refine U4 ?_)
   exact ⟨[_,_],⟨⟨_,_,O,O,O,.inl ⟨AggT.h,O⟩⟩,⟨_,_,O,O,O,.inl ⟨AggT.h,O⟩⟩,trivial⟩,O⟩
 | true =>
  have hb:=(kK_iff k).1 hk
  (refine U12 ?_;refine aS O O (cL V3) (dP O O) ?_;refine U6 ?_;refine K.buildArr (cs':=tabB) O O V2 O dO ?_;refine U5 ?_;refine K.buildArr (cs':=tabA) O O V2 O dO ?_;refine U4 ?_;refine rgD mixed<|kmv O<|K.indexArr O O V3 O dO ?_;refine kl1 O O (tabB_at hk)<|aS O O O dO<|kmv O<|K.indexArr O O V3 O dO ?_;refine kl1 O O (tabB_at hk)<|aT O O V2 V20 dO ?_;refine kmv O<|K.indexArr O O V3 O dO ?_;refine kl1 O O (tabA_at hk)<|aT O O V2 V20 dO ?_;refine U5 ?_)
  exact ⟨[_,_],⟨⟨_,_,O,O,O,.inl ⟨AggT.h,O⟩⟩,⟨_,_,O,O,O,.inl ⟨AggT.h,O⟩⟩,trivial⟩,O⟩
theorem cmp_le (x y:Int) (h:x≤y):∃ r,cmpI x y=r∧r≤0:=⟨_,rfl,by unfold cmpI;rw [if_neg (Int.not_lt.2 h)];split<;>decide⟩
theorem cmp_ge (x y:Int) (h:y≤x):∃ r,cmpI x y=r∧0≤r:=⟨_,rfl,by unfold cmpI;rw [if_neg (Int.not_lt.2 h)];split<;>decide⟩
theorem cmp_lt (x y:Int) (h:x<y):cmpI x y = -1:=by unfold cmpI;rw [if_pos h]
theorem cmp_gt (x y:Int) (h:y<x):cmpI x y=1:=by unfold cmpI;rw [if_neg (Int.not_lt.2 (Int.le_of_lt h)),if_pos h]
theorem refFits_spec (k:Int) (b:Bool) (N:Int) (hN:In2 N) (r:Bool) (hr:fitB k b N=r):PSpec Tryz.prog X 92 [Ln .i64 k,LI b N] (Lb r):=by
 subst hr
 have hB:=refBytes_spec X k
 have hBd:=Bounds_spec X k
 have hG:=Good_spec X b N hN _ rfl
 unfold fitB
 refine cD Tryz.func92 rfl V5 rfl rfl ?_
 intro C
 cases hk:kK k with
 | false =>
  rw [kW_no (knot hk)] at hB
  (refine U10 ?_;refine keq rfl rfl (cS V3) ?_;refine U12 ?_)
  exact V6
 | true =>
  have hk0:kW k≠0:=fun e=>by rw [kW_zero] at e;rw [hk] at e;cases e
  cases hf:formB b N with
  | false =>
   rw [hf] at hG
   refine U23 ?_
   exact V6
  | true =>
   rw [hf] at hG
   have hR:=(zv_in hN hf).1
   rw [LI_q hN hf] at hG ⊢
   generalize zv b N=x at *
   have c1:=RCmp_spec X x (-kB k) hR (kBn_R k)
   have c2:=RCmp_spec X x (kA k) hR (kA_R k)
   by_cases h1 : -kB k≤x
   ·obtain ⟨r,hr,hr0⟩:=cmp_ge x (-kB k) h1
    have c1':=c1 r hr
    by_cases h2:x≤kA k
    ·obtain ⟨s,hs,hs0⟩:=cmp_le x (kA k) h2
     have c2':=c2 s hs
     rw [(fitZ_iff k x).2 ⟨h1,h2⟩]
     (refine U36 ?_;refine bD O O (cM V3) dO ?_;refine U4 ?_;refine K.leq O O (cM V3) (dP O O) ?_;refine U4 ?_)
     exact V6
    ·have c2':=c2 1 (cmp_gt x (kA k) V3)
     rw [show fitZ k x=false by rw [fitZ,cL h2,Bool.and_false]]
     (refine U36 ?_;refine bD O O (cM V3) dO ?_;refine U4 ?_;refine K.leq O O (cL V3) (dP O O) ?_;refine U4 ?_)
     exact V6
   ·have c1':=c1 (-1) (cmp_lt x (-kB k) V3)
    rw [show fitZ k x=false by rw [fitZ,cL h1,Bool.false_and]]
    (refine U36 ?_;refine bD O O (cL V3) dO ?_;refine U9 ?_)
    exact V6
end Go.Proofs.YtbpdbclndfmcgaaGreatDoor
end
section
set_option maxHeartbeats 12800000
set_option maxRecDepth 100000
namespace Go.Lg.Fld
open Go Go.Lg
theorem leB_mod:∀ (w n m:Nat),n%256^w=m%256^w→leB w n=leB w m
 | 0,_,_,_=>rfl
 | w+1,n,m,h=>by
  rw [Nat.pow_succ,Nat.mul_comm] at h
  have h1:n%256=m%256:=by
   rw [← Nat.mod_mul_right_mod n 256 (256^w),h,Nat.mod_mul_right_mod]
  have h2:n/256%256^w=m/256%256^w:=by
   rw [← Nat.mod_mul_right_div_self,h,Nat.mod_mul_right_div_self]
  show UInt8.ofNat (n%256)::leB w (n/256)=UInt8.ofNat (m%256)::leB w (m/256)
  rw [h1,leB_mod w _ _ h2]
def w64 (x:Int):Nat:=(x%18446744073709551616).toNat
theorem leB_w64 {k x:Int} (h:kK k=true) (hx:fitZ k x=true):leB (kW k) (w64 x)=leB (kW k) (wdK k x):=by
 refine leB_mod _ _ _ ?_
 have h1:=kM_facts h
 have hf:=kfacts k
 have hx2:=(fitZ_iff k x).1 hx
 have e:(w64 x:Int)%(kM k:Int)=(wdK k x:Int)%(kM k:Int):=by
  unfold w64 wdK
  rw [Int.toNat_of_nonneg (Int.emod_nonneg x (by decide)),Int.toNat_of_nonneg (Int.emod_nonneg x (by omega)),Int.emod_emod]
  refine Int.emod_emod_of_dvd x ?_
  unfold kM
  rcases kW_in h with e|e|e|e<;>rw [e]<;>decide
 have e2:w64 x%kM k=wdK k x%kM k:=by omega
 exact e2
end Go.Lg.Fld
namespace Go.Proofs.YtbpdbclndfmcgaaGreatDoor
open Go Go.Lg Go.Lg.Fld
set_option maxRecDepth 100000
variable (X:Nat→Option Obj)
set_option maxHeartbeats 1600000 in
theorem refPut_spec (k x:Int) (hk:kK k=true) (hx:fitZ k x=true):PSpec Tryz.prog X 93 [Ln .i64 k,LQ x] (Ls (leB (kW k) (wdK k x))):=by
 have hB:=refBytes_spec X k
 have hf:=kfacts k
 have hx2:=(fitZ_iff k x).1 hx
 rw [← leB_w64 hk hx]
 have hn:w64 x<18446744073709551616:=by unfold w64;omega
 refine cD Tryz.func93 rfl V5 rfl rfl ?_
 intro C
 have hcut:∀ n:Nat,n=w64 x→(x<0→(n:Int)=x+18446744073709551616)∧(0≤x→(n:Int)=x):=fun n e=>by
  subst e;unfold w64;exact ⟨fun h=>by omega,fun h=>by omega⟩
 obtain ⟨g1,g2⟩:=hcut _ rfl
 generalize w64 x=n at *
 obtain ⟨w,hw,hw8⟩:∃ w,kW k=w∧w≤8:=⟨_,rfl,hf.2.2.2.2⟩
 rw [hw] at hB ⊢
 by_cases c:x<0
 ·have hm:mg x%18446744073709551616 = -x:=by rw [mg_neg c];omega
  have hs:IntKind.u64.wrap (0-(-x))=(n:Int):=by rw [IntKind.wrap_u64];have:=g1 c;omega
  unfold LQ LI
  rw [hm,cM c]
  refine U13 ?_
  refine LWP.cut (fun σ=>σ=⟨[(0,Ln .i64 k),(5,Ln .u64 (n:Nat))],[],X⟩) ?_ ?_
  ·refine U11 ?_
   exact ⟨_,Le.of VA V15 V2 V2 V2,O⟩
  rintro σ rfl
  (refine U2 ?_;refine aZ (zs:=[]) (sz:=1) (e:=5) V5 O O O O O O dO ?_;refine U8 ?_)
  refine cH (fun m σ=>∃ (i:Nat) (row:Bool),i≤w∧m=w-i∧σ=⟨[(0,Ln .i64 k),(5,Ln .u64 (n/256^i:Nat)),(6,.sv (.one (.slc 500 0 i))),(7,Ln .i64 (i:Nat))],[(500,some ⟨5,((leB w n).take i).map bc,row⟩)],X⟩) w
   ⟨_,Le.ofR [(500,15)] (by exact ⟨rfl,by rw [Nat.pow_zero,Nat.div_one];rfl,rfl,rfl,trivial⟩) V1 V2 V2 V0 V2 V2,0,false,Nat.zero_le _,rfl,rfl⟩ ?_
  rintro m σ ⟨i,row,hi,rfl,rfl⟩
  by_cases hlt:i<w
  ·have hle:n/256^i≤n:=Nat.div_le_self _ _
   have hd:n/256^i/256=n/256^(i+1):=by rw [Nat.pow_succ,Nat.div_div_eq_div_mul]
   have hnc:=take_next (n:=n) hlt
   have hcl:(((leB w n).take i).map bc).length=i*1:=by rw [cU,cX,leB_length];omega
   have hv:IntKind.u8.wrap (((n/256^i:Nat):Int)%256)=((UInt8.ofNat (n/256^i%256)).toNat:Nat):=by
    rw [UInt8.toNat_ofNat',Nat.mod_eq_of_lt (Nat.mod_lt _ (by decide)),IntKind.wrap_u8]
    omega
   have hq:IntKind.u64.wrap (((n/256^i:Nat):Int).tdiv 256)=((n/256^(i+1):Nat):Int):=by
    rw [← hd]
    clear hv hnc hd
    generalize n/256^i=q at *
    rw [quo_u64 (by omega) (by omega)];omega
   (refine U16 ?_;refine K.rem O O V3 O dO<|kcv O hv ?_;refine aZ (zs:=[.int .u8 0]) (sz:=1) (e:=5) V5 O O O O O O dO<|bP (by_:=1) (e2:=5) (l2:=[bc (UInt8.ofNat (n/256^i%256))]) O O hcl O O (dK _) O O V5 V5 V3 V3 O O hnc dO ?_;refine U4 ?_;refine K.quo O O V3 hq dO ?_;refine U7 ?_)
   exact ⟨_,_,by omega,Le.ofR [(500,27)] VD V1 V2 V2 V0 V2 V2,i+1,true,by omega,O,O⟩
  ·have e:i=w:=by omega
   subst e
   have hta:(leB i n).take i=leB i n:=List.take_of_length_le (by rw [leB_length];exact dK _)
   rw [hta]
   have hlen:0+i≤((leB i n).map bc).length:=by rw [cU,leB_length];omega
   have hend:(((leB i n).map bc).drop 0).take i=(leB i n).map bc:=by rw [List.drop_zero,List.take_of_length_le (by rw [cU,leB_length];exact dK _)]
   (refine U13 ?_;refine bR O O V5 StrT.u hlen hend dO ?_;refine U3 ?_)
   exact V6
 ·have hm:mg x%18446744073709551616=(n:Int):=by rw [mg_pos V3];have:=g2 V3;omega
  unfold LQ LI
  rw [hm,cL c]
  refine U13 ?_
  refine LWP.cut (fun σ=>σ=⟨[(0,Ln .i64 k),(5,Ln .u64 (n:Nat))],[],X⟩) ?_ ?_
  ·refine U6 ?_
   exact ⟨_,Le.of VA V15 V2 V2 V2,O⟩
  rintro σ rfl
  (refine U2 ?_;refine aZ (zs:=[]) (sz:=1) (e:=5) V5 O O O O O O dO ?_;refine U8 ?_)
  refine cH (fun m σ=>∃ (i:Nat) (row:Bool),i≤w∧m=w-i∧σ=⟨[(0,Ln .i64 k),(5,Ln .u64 (n/256^i:Nat)),(6,.sv (.one (.slc 500 0 i))),(7,Ln .i64 (i:Nat))],[(500,some ⟨5,((leB w n).take i).map bc,row⟩)],X⟩) w
   ⟨_,Le.ofR [(500,15)] (by exact ⟨rfl,by rw [Nat.pow_zero,Nat.div_one];rfl,rfl,rfl,trivial⟩) V1 V2 V2 V0 V2 V2,0,false,Nat.zero_le _,rfl,rfl⟩ ?_
  rintro m σ ⟨i,row,hi,rfl,rfl⟩
  by_cases hlt:i<w
  ·have hle:n/256^i≤n:=Nat.div_le_self _ _
   have hd:n/256^i/256=n/256^(i+1):=by rw [Nat.pow_succ,Nat.div_div_eq_div_mul]
   have hnc:=take_next (n:=n) hlt
   have hcl:(((leB w n).take i).map bc).length=i*1:=by rw [cU,cX,leB_length];omega
   have hv:IntKind.u8.wrap (((n/256^i:Nat):Int)%256)=((UInt8.ofNat (n/256^i%256)).toNat:Nat):=by
    rw [UInt8.toNat_ofNat',Nat.mod_eq_of_lt (Nat.mod_lt _ (by decide)),IntKind.wrap_u8]
    omega
   have hq:IntKind.u64.wrap (((n/256^i:Nat):Int).tdiv 256)=((n/256^(i+1):Nat):Int):=by
    rw [← hd]
    clear hv hnc hd
    generalize n/256^i=q at *
    rw [quo_u64 (by omega) (by omega)];omega
   (refine U16 ?_;refine K.rem O O V3 O dO<|kcv O hv ?_;refine aZ (zs:=[.int .u8 0]) (sz:=1) (e:=5) V5 O O O O O O dO<|bP (by_:=1) (e2:=5) (l2:=[bc (UInt8.ofNat (n/256^i%256))]) O O hcl O O (dK _) O O V5 V5 V3 V3 O O hnc dO ?_;refine U4 ?_;refine K.quo O O V3 hq dO ?_;refine U7 ?_)
   exact ⟨_,_,by omega,Le.ofR [(500,27)] VD V1 V2 V2 V0 V2 V2,i+1,true,by omega,O,O⟩
  ·have e:i=w:=by omega
   subst e
   have hta:(leB i n).take i=leB i n:=List.take_of_length_le (by rw [leB_length];exact dK _)
   rw [hta]
   have hlen:0+i≤((leB i n).map bc).length:=by rw [cU,leB_length];omega
   have hend:(((leB i n).map bc).drop 0).take i=(leB i n).map bc:=by rw [List.drop_zero,List.take_of_length_le (by rw [cU,leB_length];exact dK _)]
   (refine U13 ?_;refine bR O O V5 StrT.u hlen hend dO ?_;refine U3 ?_)
   exact V6
end Go.Proofs.YtbpdbclndfmcgaaGreatDoor
end
section
set_option maxHeartbeats 12800000
set_option maxRecDepth 100000
namespace Go.Lg.Fld
open Go Go.Lg
structure Fl where
 nm:List UInt8
 kind:Int
 count:Int
def Fl.vals (f:Fl):List Value:=[.string ⟨f.nm.toArray⟩,.int .i64 f.kind,.int .i64 f.count]
def Fl.w (f:Fl):Nat:=kW f.kind
def Fl.n (f:Fl):Nat:=f.count.toNat
def Fl.ok (f:Fl):Bool:=kK f.kind&&(decide (1≤f.count)&&decide (f.count≤8))
def roundUp (a n:Nat):Nat:=a+(n-a%n)%n
def startsAt:Nat→List Fl→List Nat
 | _,[]=>[]
 | a,f::t=>roundUp a f.w::startsAt (roundUp a f.w+f.w*f.n) t
def endAt:Nat→List Fl→Nat
 | a,[]=>a
 | a,f::t=>endAt (roundUp a f.w+f.w*f.n) t
def elemsAt:Nat→List Fl→List (Int×Nat)
 | _,[]=>[]
 | a,f::t=>(List.range f.n).map (fun i=>(f.kind,roundUp a f.w+f.w*i))++elemsAt (roundUp a f.w+f.w*f.n) t
def greatW (l:List Fl):Nat:=l.foldl (fun g f=>max g f.w) 1
def rowSize (l:List Fl):Nat:=roundUp (endAt 0 l) (greatW l)
def layErr (l:List Fl):Int:=if 8<l.length then 1 else if l.all Fl.ok=true then (if 256<rowSize l then 5 else 0) else 1
theorem starts_snoc (f:Fl):∀ (l:List Fl) (a:Nat),startsAt a (l++[f])=startsAt a l++[roundUp (endAt a l) f.w]
 | [],_=>rfl
 | g::t,a=>by simp only [List.cons_append,startsAt,endAt,starts_snoc f t]
theorem end_snoc (f:Fl):∀ (l:List Fl) (a:Nat),endAt a (l++[f])=roundUp (endAt a l) f.w+f.w*f.n
 | [],_=>rfl
 | g::t,a=>by simp only [List.cons_append,endAt,end_snoc f t]
theorem elems_snoc (f:Fl):∀ (l:List Fl) (a:Nat),elemsAt a (l++[f])=elemsAt a l++(List.range f.n).map (fun i=>(f.kind,roundUp (endAt a l) f.w+f.w*i))
 | [],_=>by simp [elemsAt,endAt]
 | g::t,a=>by simp only [List.cons_append,elemsAt,endAt,elems_snoc f t,dJ]
theorem great_snoc (f:Fl) (l:List Fl):greatW (l++[f])=max (greatW l) f.w:=by simp [greatW,List.foldl_append]
theorem take_snoc {α:Type} {l:List α} {i:Nat} {f:α} (h:l[i]? = some f):l.take (i+1)=l.take i++[f]:=by
 rw [List.take_add_one,h];rfl
theorem ok_w {f:Fl} (h:f.ok=true):(f.w=1∨f.w=2∨f.w=4∨f.w=8)∧1≤f.n∧f.n≤8∧(f.n:Int)=f.count:=by
 simp only [Fl.ok,Bool.and_eq_true,decide_eq_true_eq] at h
 refine ⟨kW_in h.1,?_,?_,?_⟩<;>unfold Fl.n<;>omega
def isWd (n:Nat):Prop:=n=1∨n=2∨n=4∨n=8
theorem round_facts {n:Nat} (h:isWd n) (a:Nat):roundUp a n%n=0∧a≤roundUp a n∧roundUp a n<a+n∧∀ b,a≤b→b≤roundUp a n→b%n=0→b=roundUp a n:=by
 unfold roundUp
 rcases h with rfl|rfl|rfl|rfl<;>refine ⟨by omega,by omega,by omega,fun b h1 h2 h3=>by omega⟩
theorem great_wd:∀ (l:List Fl),l.all Fl.ok=true→isWd (greatW l):=by
 have key:∀ (l:List Fl) (g:Nat),isWd g→l.all Fl.ok=true→isWd (l.foldl (fun g f=>max g f.w) g):=by
  intro l
  induction l with
  | nil=>intro g hg _;exact hg
  | cons f t ih =>
   intro g hg h
   simp only [List.all_cons,Bool.and_eq_true] at h
   refine ih _ ?_ h.2
   have hf:isWd f.w:=(ok_w h.1).1
   show isWd (max g f.w)
   rcases Nat.le_total g f.w with h3|h3
   ·rw [Nat.max_eq_right h3];exact hf
   ·rw [Nat.max_eq_left h3];exact hg
 exact fun l h=>key l 1 (.inl O) h
theorem end_le:∀ (l:List Fl) (a:Nat),l.all Fl.ok=true→a≤endAt a l∧endAt a l≤a+72*l.length
 | [],a,_=>by simp [endAt]
 | f::t,a,h=>by
  simp only [List.all_cons,Bool.and_eq_true] at h
  obtain ⟨hw,h1,h8,_⟩:=ok_w h.1
  have hr:=round_facts hw a
  have hi:=end_le t (roundUp a f.w+f.w*f.n) h.2
  have hm:f.w*f.n≤64:=by rcases hw with e|e|e|e<;>rw [e]<;>omega
  have hw8:f.w≤8:=by rcases hw with e|e|e|e<;>omega
  simp only [endAt,dF]
  omega
theorem elems_len:∀ (l:List Fl) (a:Nat),l.all Fl.ok=true→l.length≤(elemsAt a l).length∧(elemsAt a l).length≤8*l.length
 | [],a,_=>by simp [elemsAt]
 | f::t,a,h=>by
  simp only [List.all_cons,Bool.and_eq_true] at h
  obtain ⟨hw,h1,h8,_⟩:=ok_w h.1
  have hi:=elems_len t (roundUp a f.w+f.w*f.n) h.2
  simp only [elemsAt,cT,cU,List.length_range,dF]
  omega
theorem starts_len:∀ (l:List Fl) (a:Nat),(startsAt a l).length=l.length
 | [],_=>rfl
 | f::t,a=>by simp [startsAt,starts_len t]
def elV (e:Int×Nat):List Value:=[.int .i64 e.1,.int .i64 (e.2:Nat)]
def elVs (l:List (Int×Nat)):List Value:=(l.map elV).flatten
theorem elVs_len (l:List (Int×Nat)):(elVs l).length=l.length*2:=by
 induction l with
 | nil=>rfl
 | cons e t ih=>simp only [elVs,List.map_cons,List.flatten_cons,cT] at ih ⊢;rw [ih];simp [elV];omega
theorem elVs_app (l m:List (Int×Nat)):elVs (l++m)=elVs l++elVs m:=by simp [elVs]
def ntV (l:List Nat):List Value:=l.map fun n=>.int .i64 (n:Nat)
structure FieldsIn (X:Nat→Option Obj) (ad:Option Addr) (fs:List Fl):Prop where
 rows:RowsIn X ad 3 (fs.map Fl.vals)
 small:∀ f∈fs,(-9223372036854775808≤f.kind∧f.kind<9223372036854775808)∧(-9223372036854775808≤f.count∧f.count<9223372036854775808)
theorem FieldsIn.at {X:Nat→Option Obj} {ad:Option Addr} {fs:List Fl} (h:FieldsIn X ad fs) {i:Nat} {f:Fl} (hf:fs[i]? = some f):
  ∃ (blk off:Nat) (arr:Array Value) (el:TypeId) (fr:Nat×Nat),ad=some ⟨blk,off,none⟩∧X blk=some (.cells arr el fr)∧off+i*3+3≤arr.size∧((arr.toList.drop (off+i*3)).take 3).map CV.val=f.vals.map CV.val:=by
 obtain ⟨blk,off,arr,el,fr,h1,h2,h3,h4⟩:=h.rows i f.vals (by rw [dI,hf];rfl)
 exact ⟨blk,off,arr,el,fr,h1,h2,h3,by rw [h4]⟩
end Go.Lg.Fld
end
section
set_option maxHeartbeats 12800000
set_option maxRecDepth 100000
namespace Go.Proofs.YtbpdbclndfmcgaaGreatDoor
open Go Go.Lg Go.Lg.Fld
set_option maxRecDepth 100000
variable (X:Nat→Option Obj)
abbrev Lx (ad:Option Addr) (n cap:Nat):LV:=.sv (.one (.val (.slice ad n cap)))
abbrev Vnil:SV:=.one (.val (.slice none 0 0))
def layR (fs:List Fl):LV:=if layErr fs=0 then .tup [.one (.slc 1000001 0 (elemsAt 0 fs).length 2),Sn .i64 (rowSize fs:Nat),.one (.slc 1000002 0 fs.length 1),Sn .i64 0] else .tup [Vnil,Sn .i64 0,Vnil,Sn .i64 (layErr fs)]
def layBx (fs:List Fl):List (Nat×Option Box):=if layErr fs=0 then [(1000001,some ⟨164,(elVs (elemsAt 0 fs)).map .val,Nat.blt 0 (elemsAt 0 fs).length⟩),(1000002,some ⟨3,(ntV (startsAt 0 fs)).map .val,Nat.blt 0 fs.length⟩)] else []
theorem layErr_long {fs:List Fl} (h:8<fs.length):layErr fs=1:=if_pos h
theorem layErr_bad {fs:List Fl} (h:fs.length≤8) {f:Fl} (hf:f∈fs) (hb:f.ok=false):layErr fs=1:=by
 unfold layErr
 rw [if_neg (by omega),if_neg]
 intro ha
 rw [List.all_eq_true.1 ha f hf] at hb
 cases hb
theorem layErr_all {fs:List Fl} (h:fs.length≤8) (ha:fs.all Fl.ok=true):layErr fs=if 256<rowSize fs then 5 else 0:=by
 unfold layErr
 rw [if_neg (by omega),if_pos ha]
theorem take_all {fs:List Fl} {i:Nat} {f:Fl} (h:(fs.take i).all Fl.ok=true) (hf:fs[i]? = some f) (hk:f.ok=true):(fs.take (i+1)).all Fl.ok=true:=by
 rw [take_snoc hf,List.all_append,h]
 simp [hk]
set_option maxHeartbeats 3200000 in
theorem Lay_spec (ad:Option Addr) (cap:Nat) (fs:List Fl) (hin:FieldsIn X ad fs) (hbig:fs.length<4611686018427387904):MSpec Tryz.prog X 77 [Lx ad fs.length cap] [] (layR fs) (layBx fs):=by
 refine cE Tryz.func77 rfl V5 rfl (by unfold layR layBx;split<;>rfl) (by unfold layBx;split<;>exact V0) rfl rfl ?_
 intro C
 by_cases hlong:8<fs.length
 ·unfold layR layBx
  rw [layErr_long hlong,if_neg (by decide),if_neg (by decide)]
  (refine U12 ?_;refine aS O O (cM V3) dO ?_;refine U10 ?_)
  exact ⟨[],⟨[_,_,_,_],⟨O,O,O,O,trivial⟩,O⟩,trivial,O,O⟩
 have h8:fs.length≤8:=by omega
 (refine U18 ?_;refine aZ (zs:=[]) (sz:=2) (e:=164) V5 O O O O O O dO ?_;refine U4 ?_;refine aZ (zs:=[]) (sz:=1) (e:=3) V5 O O O O O O dO ?_;refine U16 ?_)
 refine cH (fun m σ=>∃ i:Nat,i≤fs.length∧m=fs.length-i∧(fs.take i).all Fl.ok=true∧σ=⟨[(0,Lx ad fs.length cap),(6,.sv (.one (.slc 500 0 (elemsAt 0 (fs.take i)).length 2))),(7,.sv (.one (.slc 501 0 i 1))),(8,Ln .i64 (endAt 0 (fs.take i):Nat)),(9,Ln .i64 (greatW (fs.take i):Nat)),(10,Ln .i64 (i:Nat))],[(500,some ⟨164,(elVs (elemsAt 0 (fs.take i))).map .val,Nat.blt 0 (elemsAt 0 (fs.take i)).length⟩),(501,some ⟨3,(ntV (startsAt 0 (fs.take i))).map .val,Nat.blt 0 i⟩)],X⟩) fs.length
  ⟨_,Le.ofR [(500,17),(501,18)] VC V1 V2 V2 V0 V2 V2,0,by omega,by omega,rfl,rfl⟩ ?_
 rintro m σ ⟨i,hi,rfl,hall,rfl⟩
 have hEl:=elems_len (fs.take i) 0 hall
 have hSl:=starts_len (fs.take i) 0
 have hend:=end_le (fs.take i) 0 hall
 have hgw:=great_wd (fs.take i) hall
 have htl:(fs.take i).length=i:=by rw [cX];omega
 rw [htl] at hEl hSl hend
 by_cases hlt:i<fs.length
 ·obtain ⟨f,hf⟩:=wg hlt
  obtain ⟨blk,off,arr,el,fr,rfl,hX,hsz,hcells⟩:=hin.at hf
  have hio:=wo off i 3
  have hmem:f∈fs:=dA hf
  have hsm:=hin.small f hmem
  have hB:=refBytes_spec X f.kind
  have hE:elemsAt 0 (fs.take (i+1))=elemsAt 0 (fs.take i)++(List.range f.n).map (fun j=>(f.kind,roundUp (endAt 0 (fs.take i)) f.w+f.w*j)):=by rw [take_snoc hf,elems_snoc]
  have hS:startsAt 0 (fs.take (i+1))=startsAt 0 (fs.take i)++[roundUp (endAt 0 (fs.take i)) f.w]:=by rw [take_snoc hf,starts_snoc]
  have hA:endAt 0 (fs.take (i+1))=roundUp (endAt 0 (fs.take i)) f.w+f.w*f.n:=by rw [take_snoc hf,end_snoc]
  have hG:greatW (fs.take (i+1))=max (greatW (fs.take i)) f.w:=by rw [take_snoc hf,great_snoc]
  cases hok:f.ok with
  | false =>
   have hbad:=layErr_bad h8 hmem hok
   unfold layR layBx
   rw [hbad,if_neg (by decide),if_neg (by decide)]
   clear hE hS hA hG
   generalize elemsAt 0 (fs.take i)=E at *
   generalize startsAt 0 (fs.take i)=S at *
   generalize endAt 0 (fs.take i)=a at *
   generalize greatW (fs.take i)=g at *
   by_cases h0:kW f.kind=0
   ·rw [h0] at hB
    (refine U32 ?_;refine keq rfl rfl (cS V3) ?_;refine U20 ?_)
    exact ⟨[],⟨[_,_,_,_],⟨O,O,O,O,trivial⟩,O⟩,trivial,O,O⟩
   ·have hk:kK f.kind=true:=by
     cases e:kK f.kind with
     | true=>rfl
     | false=>exact absurd ((kW_zero f.kind).2 e) h0
    by_cases h1:f.count<1
    ·(refine U36 ?_;refine bK O O (cM V3) (dP O O) ?_;refine U16 ?_)
     exact ⟨[],⟨[_,_,_,_],⟨O,O,O,O,trivial⟩,O⟩,trivial,O,O⟩
    ·have h2:8<f.count:=by
      unfold Fl.ok at hok
      rw [hk,cM (show 1≤f.count by omega)] at hok
      simpa using hok
     (refine U36 ?_;refine bK O O (cL V3) (dP O O) ?_;refine U4 ?_;refine aS O O (cM V3) (dP O O) ?_;refine U11 ?_)
     exact ⟨[],⟨[_,_,_,_],⟨O,O,O,O,trivial⟩,O⟩,trivial,O,O⟩
  | true =>
   have hall':=take_all hall hf hok
   obtain ⟨hw,hn1,hn8,hnc⟩:=ok_w hok
   have hR:=round_facts hw (endAt 0 (fs.take i))
   have hwk:kW f.kind=f.w:=rfl
   have hw8:1≤f.w∧f.w≤8:=by rcases hw with e|e|e|e<;>omega
   have hg8:greatW (fs.take i)≤8:=by rcases hgw with e|e|e|e<;>omega
   rw [hwk] at hB
   generalize elemsAt 0 (fs.take i)=E at *
   generalize startsAt 0 (fs.take i)=S at *
   generalize endAt 0 (fs.take i)=a at *
   generalize greatW (fs.take i)=g at *
   have hfc:f.vals.map CV.val=[.val (.string ⟨f.nm.toArray⟩),.val (.int .i64 f.kind),.val (.int .i64 (f.n:Nat))]:=by rw [hnc];rfl
   rw [hfc] at hcells
   generalize f.w=w at *
   generalize hT:roundUp a w=T at *
   generalize f.n=n at *
   (refine U36 ?_;refine bK O O (cL V3) (dP O O) ?_;refine U4 ?_;refine aS O O (cL V3) (dP O O) ?_;refine U6 ?_)
   generalize hmx:max g w=mx at *
   refine LWP.cut (fun σ=>σ=⟨[(0,Lx (some ⟨blk,off,none⟩) fs.length cap),(6,.sv (.one (.slc 500 0 (E.length) 2))),(7,.sv (.one (.slc 501 0 (i) 1))),(8,Ln .i64 (a:Nat)),(9,Ln .i64 (mx:Nat)),(10,Ln .i64 (i:Nat)),(11,.sv (.one (.ptr 11 0))),(12,Ln .i64 (w:Nat))],[(500,some ⟨164,(elVs E).map .val,Nat.blt 0 E.length⟩),(501,some ⟨3,(ntV (S)).map .val,Nat.blt 0 i⟩),(11,some ⟨125,[.val (.string ⟨f.nm.toArray⟩),.val (.int .i64 f.kind),.val (.int .i64 (n:Nat))],false⟩)],X⟩) ?_ ?_
   ·by_cases hgl:g<w
    ·have e:mx=w:=by omega
     (refine U3 ?_;refine aS O O (cM V3) dO ?_;refine U6 ?_)
     exact ⟨_,Le.of (by exact ⟨rfl,rfl,rfl,rfl,by rw [e];rfl,rfl,rfl,rfl,trivial⟩) V9 V2 V2 V0,rfl⟩
    ·have e:mx=g:=by omega
     refine U7 ?_
     exact ⟨_,Le.of (by exact ⟨rfl,rfl,rfl,rfl,by rw [e];rfl,rfl,rfl,rfl,trivial⟩) V9 V2 V2 V0,rfl⟩
   rintro σ rfl
   refine U2 ?_
   refine cH (fun m σ=>∃ b:Nat,a≤b∧b≤T∧m=T-b∧σ=⟨[(0,Lx (some ⟨blk,off,none⟩) fs.length cap),(6,.sv (.one (.slc 500 0 (E.length) 2))),(7,.sv (.one (.slc 501 0 (i) 1))),(8,Ln .i64 (b:Nat)),(9,Ln .i64 (mx:Nat)),(10,Ln .i64 (i:Nat)),(11,.sv (.one (.ptr 11 0))),(12,Ln .i64 (w:Nat))],[(500,some ⟨164,(elVs E).map .val,Nat.blt 0 E.length⟩),(501,some ⟨3,(ntV (S)).map .val,Nat.blt 0 i⟩),(11,some ⟨125,[.val (.string ⟨f.nm.toArray⟩),.val (.int .i64 f.kind),.val (.int .i64 (n:Nat))],false⟩)],X⟩) (T-a)
    ⟨_,Le.of (by exact ⟨rfl,rfl,rfl,rfl,rfl,rfl,rfl,rfl,trivial⟩) V9 V2 V2 V0,a,dK _,hR.2.1,rfl,rfl⟩ ?_
   rintro m σ ⟨b,hb1,hb2,rfl,rfl⟩
   have hrem:((b:Nat):Int).tmod ((w:Nat):Int)=((b%w:Nat):Int):=by rw [Int.tmod_eq_emod_of_nonneg V3];exact (Int.natCast_emod b w).symm
   by_cases hz:b%w=0
   ·have hbT:=hR.2.2.2 b hb1 hb2 hz
    subst hbT
    rw [hz] at hrem
    have hcl:((ntV S).map CV.val).length=i*1:=by simp [ntV,hSl]
    have hnc1:(ntV S).map CV.val++[.val (.int .i64 (b:Nat))]=(ntV (S++[b])).map CV.val:=by simp [ntV]
    (refine U5 ?_;refine K.rem O O V3 hrem dO ?_;refine U8 ?_;refine aZ (zs:=[.int .i64 0]) (sz:=1) (e:=3) V5 O O O O O O dO<|bP (by_:=8) (e2:=3) (l2:=[.val (.int .i64 (b:Nat))]) O O hcl O O (dK _) O O V5 V5 V3 V3 O O hnc1 dO ?_;refine U7 ?_)
    refine cH (fun m σ=>∃ j:Nat,j≤n∧m=n-j∧σ=⟨[(0,Lx (some ⟨blk,off,none⟩) fs.length cap),(6,.sv (.one (.slc 500 0 (E.length+j) 2))),(7,.sv (.one (.slc 501 0 (i+1) 1))),(8,Ln .i64 (b+w*j:Nat)),(9,Ln .i64 (mx:Nat)),(10,Ln .i64 (i:Nat)),(11,.sv (.one (.ptr 11 0))),(12,Ln .i64 (w:Nat)),(13,Ln .i64 (j:Nat))],[(500,some ⟨164,(elVs (E++(List.range j).map (fun q=>(f.kind,b+w*q)))).map .val,Nat.blt 0 (E.length+j)⟩),(501,some ⟨3,(ntV (S++[b])).map .val,true⟩),(11,some ⟨125,[.val (.string ⟨f.nm.toArray⟩),.val (.int .i64 f.kind),.val (.int .i64 (n:Nat))],false⟩)],X⟩) n
     ⟨_,Le.ofR [(501,57)] V21 (by rw [List.range_zero,List.map_nil,dG];exact V1) V2 V2 V0 V2 V2,0,by omega,rfl,rfl⟩ ?_
    rintro m σ ⟨j,hj,rfl,rfl⟩
    have hwj:w*j≤64:=Nat.le_trans (Nat.mul_le_mul hw8.2 (Nat.le_trans hj hn8)) V11
    by_cases hjn:j<n
    ·have hrg:(List.range (j+1)).map (fun q=>(f.kind,b+w*q))=(List.range j).map (fun q=>(f.kind,b+w*q))++[(f.kind,b+w*j)]:=by rw [List.range_succ,dE];rfl
     have hcl2:((elVs (E++(List.range j).map (fun q=>(f.kind,b+w*q)))).map CV.val).length=(E.length+j)*2:=by rw [cU,elVs_len];simp
     have hnc2:(elVs (E++(List.range j).map (fun q=>(f.kind,b+w*q)))).map CV.val++[.val (.int .i64 f.kind),.val (.int .i64 (b+w*j:Nat))]=(elVs (E++(List.range (j+1)).map (fun q=>(f.kind,b+w*q)))).map CV.val:=by
      rw [hrg,← dJ,elVs_app (E++_) [_],dE]
      rfl
     have hadd:((b+w*j:Nat):Int)+((w:Nat):Int)=((b+w*(j+1):Nat):Int):=by rw [Nat.mul_add,Nat.mul_one];omega
     have hwr:IntKind.i64.wrap (((b+w*j:Nat):Int)+((w:Nat):Int))=((b+w*(j+1):Nat):Int):=by rw [cF V3];exact hadd
     (refine aA<|aA<|rgN<|kmv O<|kfa O O ?_;refine kl1 O O O<|klt O O (cM V3)<|RunK.nil<|LWP.condT O ?_;refine LWP.skip ?_;refine aA<|LWP.block<|aA<|rgN<|kmv O<|kfa O O ?_;refine kl1 O O O<|kmv O<|aT O O V2 V1C dO ?_;refine aZ (zs:=[.int .i64 0,.int .i64 0]) (sz:=2) (e:=164) V5 O O O O O O dO<|bP (by_:=16) (e2:=164) (l2:=[.val (.int .i64 f.kind),.val (.int .i64 (b+w*j:Nat))]) (nl:=E.length+(j+1)) O O hcl2 O O (dK _) O O V5 V5 V3 V3 O O hnc2 dO<|kas O<|RunK.nil<|rgN<|kmv O<|kmv O<|kad O O hwr<|kas O<|RunK.nil<|rgN<|kmv O<|kad O O (cF V3)<|kas O ?_;refine RunK.nil ?_)
     exact ⟨_,_,by omega,Le.ofR [(500,70)] V21 V1 V2 V2 V0 V2 V2,j+1,by omega,O,O⟩
    ·have e:j=n:=by omega
     subst e
     have hEn:(E++(List.range j).map (fun q=>(f.kind,b+w*q))).length=E.length+j:=by simp
     refine U15 ?_
     exact ⟨_,_,by omega,Le.ofR [] (by exact ⟨rfl,by rw [hE,hEn];rfl,rfl,by rw [hA];rfl,by rw [hG];rfl,rfl,trivial⟩) (by rw [hE,hS,hEn];exact V1) V2 V2 V0 V2 V2,i+1,by omega,rfl,hall',rfl⟩
   ·have hbT:b≠T:=fun e=>hz (by rw [e];exact hR.1)
    (refine U5 ?_;refine K.rem O O V3 hrem dO ?_;refine U10 ?_)
    exact ⟨_,_,by omega,Le.of (by exact ⟨O,O,O,O,O,O,O,O,trivial⟩) V9 V2 V2 V0,b+1,by omega,by omega,O,O⟩
 ·have e:i=fs.length:=by omega
  subst e
  rw [dC] at *
  have hR:=round_facts hgw (endAt 0 fs)
  have hg8:1≤greatW fs∧greatW fs≤8:=by rcases hgw with e|e|e|e<;>omega
  have hrs:roundUp (endAt 0 fs) (greatW fs)=rowSize fs:=rfl
  have hle:=layErr_all h8 hall
  refine U12 ?_
  refine cH (fun m σ=>∃ b:Nat,endAt 0 fs≤b∧b≤rowSize fs∧m=rowSize fs-b∧σ=⟨[(6,.sv (.one (.slc 500 0 (elemsAt 0 fs).length 2))),(7,.sv (.one (.slc 501 0 fs.length 1))),(8,Ln .i64 (b:Nat)),(9,Ln .i64 (greatW fs:Nat))],[(500,some ⟨164,(elVs (elemsAt 0 fs)).map .val,Nat.blt 0 (elemsAt 0 fs).length⟩),(501,some ⟨3,(ntV (startsAt 0 fs)).map .val,Nat.blt 0 fs.length⟩)],X⟩) (rowSize fs-endAt 0 fs)
   ⟨_,Le.of VD VA V2 V2 V0,endAt 0 fs,dK _,hR.2.1,rfl,rfl⟩ ?_
  rintro m σ ⟨b,hb1,hb2,rfl,rfl⟩
  rw [hrs] at hR
  unfold layR layBx
  rw [hle]
  generalize rowSize fs=T at *
  generalize endAt 0 fs=a at *
  generalize elemsAt 0 fs=E at *
  generalize startsAt 0 fs=S at *
  generalize greatW fs=w at *
  have hrem:((b:Nat):Int).tmod ((w:Nat):Int)=((b%w:Nat):Int):=by rw [Int.tmod_eq_emod_of_nonneg V3];exact (Int.natCast_emod b w).symm
  by_cases hz:b%w=0
  ·have hbT:=hR.2.2.2 b hb1 hb2 hz
   subst hbT
   rw [hz] at hrem
   by_cases h256:256<b
   ·rw [if_pos h256,if_neg V11,if_neg V11]
    (refine U5 ?_;refine K.rem O O V3 hrem dO ?_;refine U8 ?_;refine aS O O (cM V3) dO ?_;refine U10 ?_)
    exact ⟨[],⟨[_,_,_,_],⟨O,O,O,O,trivial⟩,O⟩,trivial,O,O⟩
   ·rw [if_neg h256,if_pos rfl,if_pos rfl]
    (refine U5 ?_;refine K.rem O O V3 hrem dO ?_;refine U23 ?_)
    exact ⟨[(1000001,500),(1000002,501)],⟨[_,_,_,_],⟨O,O,O,O,trivial⟩,O⟩,V1,O,O⟩
  ·have hbT:b≠T:=fun e=>hz (by rw [e];exact hR.1)
   (refine U5 ?_;refine K.rem O O V3 hrem dO ?_;refine U10 ?_)
   exact ⟨_,_,by omega,Le.of VD VA V2 V2 V0,b+1,by omega,by omega,O,O⟩
end Go.Proofs.YtbpdbclndfmcgaaGreatDoor
end
section
set_option maxHeartbeats 12800000
set_option maxRecDepth 100000
namespace Go.Lg.Fld
open Go Go.Lg
theorem elVs_at:∀ {l:List (Int×Nat)} {i:Nat} {e:Int×Nat},l[i]? = some e→((elVs l).map CV.val)[i*2]? = some (.val (.int .i64 e.1))∧((elVs l).map CV.val)[i*2+1]? = some (.val (.int .i64 (e.2:Nat)))
 | [],i,e,h=>by simp at h
 | d::t,0,e,h=>by
  simp only [List.getElem?_cons_zero,Option.some.injEq] at h
  subst h
  exact ⟨O,O⟩
 | d::t,i+1,e,h=>by
  have ih:=elVs_at (l:=t) (i:=i) (e:=e) V29
  have e1:(elVs (d::t)).map CV.val = .val (.int .i64 d.1) :: .val (.int .i64 (d.2:Nat))::(elVs t).map CV.val:=rfl
  rw [e1,Nat.add_mul,Nat.one_mul]
  exact ih
def nmV (n:Bool×Int):List Value:=[.bool n.1,.int .u64 (n.2/18446744073709551616),.int .u64 (n.2%18446744073709551616)]
end Go.Lg.Fld
namespace Go.Proofs.YtbpdbclndfmcgaaGreatDoor
open Go Go.Lg Go.Lg.Fld
set_option maxRecDepth 100000
variable (X:Nat→Option Obj)
structure NumsIn (X:Nat→Option Obj) (ad:Option Addr) (ns:List (Bool×Int)):Prop where
 rows:Go.Lg.RowsIn X ad 3 (ns.map nmV)
 in2:∀ n∈ns,In2 n.2
theorem NumsIn.at {X:Nat→Option Obj} {ad:Option Addr} {ns:List (Bool×Int)} (h:NumsIn X ad ns) {i:Nat} {b:Bool} {N:Int} (hf:ns[i]? = some (b,N)):
  In2 N∧∃ (blk off:Nat) (arr:Array Value) (el:TypeId) (fr:Nat×Nat),ad=some ⟨blk,off,none⟩∧X blk=some (.cells arr el fr)∧off+i*3+3≤arr.size∧((arr.toList.drop (off+i*3)).take 3).map CV.val=cI b N:=by
 obtain ⟨blk,off,arr,el,fr,h1,h2,h3,h4⟩:=h.rows i (nmV (b,N)) (by rw [dI,hf];rfl)
 exact ⟨h.in2 (b,N) (dA hf),blk,off,arr,el,fr,h1,h2,h3,by rw [h4];rfl⟩
theorem Lay_ok (ad:Option Addr) (cap:Nat) (fs:List Fl) (hin:FieldsIn X ad fs) (hbig:fs.length<4611686018427387904) (h:layErr fs=0):
  MSpec Tryz.prog X 77 [Lx ad fs.length cap] [] (.tup [.one (.slc 1000001 0 (elemsAt 0 fs).length 2),Sn .i64 (rowSize fs:Nat),.one (.slc 1000002 0 fs.length 1),Sn .i64 0])
   [(1000001,some ⟨164,(elVs (elemsAt 0 fs)).map .val,Nat.blt 0 (elemsAt 0 fs).length⟩),(1000002,some ⟨3,(ntV (startsAt 0 fs)).map .val,Nat.blt 0 fs.length⟩)]:=by
 have:=Lay_spec X ad cap fs hin hbig
 unfold layR layBx at this
 rw [if_pos h,if_pos h] at this
 exact this
theorem Lay_no (ad:Option Addr) (cap:Nat) (fs:List Fl) (hin:FieldsIn X ad fs) (hbig:fs.length<4611686018427387904) (h:layErr fs≠0):
  MSpec Tryz.prog X 77 [Lx ad fs.length cap] [] (.tup [Vnil,Sn .i64 0,Vnil,Sn .i64 (layErr fs)]) []:=by
 have:=Lay_spec X ad cap fs hin hbig
 unfold layR layBx at this
 rw [if_neg h,if_neg h] at this
 exact this
theorem layErr_facts {fs:List Fl} (h:layErr fs=0):fs.length≤8∧fs.all Fl.ok=true∧rowSize fs≤256:=by
 unfold layErr at h
 split at h
 ·cases h
 ·split at h
  ·split at h
   ·cases h
   ·rename_i h1 h2 h3;exact ⟨by omega,h2,by omega⟩
  ·cases h
def fitAll (es:List (Int×Nat)) (ns:List (Bool×Int)):Bool:=(es.zip ns).all fun p=>fitB p.1.1 p.2.1 p.2.2
def fitErr (fs:List Fl) (ns:List (Bool×Int)):Int:=if layErr fs=0 then (if (elemsAt 0 fs).length=ns.length then (if fitAll (elemsAt 0 fs) ns=true then 0 else 3) else 4) else layErr fs
theorem zip_at {α β:Type} {es:List α} {ns:List β} {i:Nat} {e:α} {n:β} (h1:es[i]? = some e) (h2:ns[i]? = some n):(es.zip ns)[i]? = some (e,n):=List.getElem?_zip_eq_some.2 ⟨h1,h2⟩
set_option maxHeartbeats 1600000 in
theorem refFit_spec (ad ad2:Option Addr) (cap cap2:Nat) (fs:List Fl) (ns:List (Bool×Int)) (hin:FieldsIn X ad fs) (hbig:fs.length<4611686018427387904) (hns:NumsIn X ad2 ns) (hnb:ns.length<4611686018427387904):
  PSpec Tryz.prog X 60 [Lx ad fs.length cap,Lx ad2 ns.length cap2] (Ln .i64 (fitErr fs ns)):=by
 refine cD Tryz.func60 rfl V5 rfl rfl ?_
 intro C
 unfold fitErr
 by_cases hl:layErr fs=0
 ·have hL:=Lay_ok X ad cap fs hin hbig hl
  obtain ⟨h8,hall,_⟩:=layErr_facts hl
  have hEl:=elems_len fs 0 hall
  rw [if_pos hl]
  generalize elemsAt 0 fs=E at *
  generalize startsAt 0 fs=S at *
  generalize rowSize fs=T at *
  by_cases hn:E.length=ns.length
  ·rw [if_pos hn]
   (refine U7 ?_;refine bE [(1000001,501),(1000002,502)] (.tup [.one (.slc 501 0 E.length 2),Sn .i64 (T:Nat),.one (.slc 502 0 fs.length 1),Sn .i64 0]) [(501,some ⟨164,(elVs E).map .val,Nat.blt 0 E.length⟩),(502,some ⟨3,(ntV S).map .val,Nat.blt 0 fs.length⟩)] (hL) O O V15 O O O O O V1B dO ?_;refine U35 ?_)
   refine cH (fun m σ=>∃ i:Nat,i≤E.length∧m=E.length-i∧((E.zip ns).take i).all (fun p=>fitB p.1.1 p.2.1 p.2.2)=true∧σ=⟨[(1,Lx ad2 ns.length cap2),(5,.sv (.one (.slc 501 0 E.length 2))),(9,Ln .i64 (i:Nat))],[(501,some ⟨164,(elVs E).map .val,Nat.blt 0 E.length⟩)],X⟩) E.length
    ⟨_,Le.of V9 VF V2 V2 V0,0,by omega,rfl,rfl,rfl⟩ ?_
   rintro m σ ⟨i,hi,rfl,hpre,rfl⟩
   by_cases hlt:i<E.length
   ·obtain ⟨e,he⟩:=wg hlt
    obtain ⟨⟨b,N⟩,hv⟩:∃ v,ns[i]? = some v:=wg V3
    obtain ⟨hN,blk,off,arr,el,fr,rfl,hX,hsz,hcells⟩:=hns.at hv
    have hio:=wo off i 3
    have hie:0+Int.toNat (i:Int)*2=i*2:=by simp
    have hc:=(elVs_at he).1
    have hzip:=zip_at he hv
    have hF:=refFits_spec X e.1 b N hN
    cases hf:fitB e.1 b N with
    | true =>
     have hF':=hF true hf
     (refine U13 ?_;refine rgD mixed ?_;refine U20 ?_)
     exact ⟨_,_,by omega,Le.of V9 VF V2 V2 V0,i+1,by omega,rfl,by rw [take_snoc hzip,List.all_append,hpre];simp [hf],rfl⟩
    | false =>
     have hF':=hF false hf
     have hno:fitAll E ns=false:=by
      unfold fitAll
      cases h:(E.zip ns).all (fun p=>fitB p.1.1 p.2.1 p.2.2) with
      | false=>rfl
      | true=>have:=List.all_eq_true.1 h _ (dA hzip);rw [hf] at this;cases this
     rw [hno]
     (refine U13 ?_;refine rgD mixed ?_;refine U19 ?_)
     exact V6
   ·have e:i=E.length:=by omega
    subst e
    have hyes:fitAll E ns=true:=by
     rw [List.take_of_length_le (by rw [List.length_zip];omega)] at hpre
     exact hpre
    rw [hyes]
    refine U15 ?_
    exact V6
  ·rw [if_neg hn]
   (refine U7 ?_;refine bE [(1000001,501),(1000002,502)] (.tup [.one (.slc 501 0 E.length 2),Sn .i64 (T:Nat),.one (.slc 502 0 fs.length 1),Sn .i64 0]) [(501,some ⟨164,(elVs E).map .val,Nat.blt 0 E.length⟩),(502,some ⟨3,(ntV S).map .val,Nat.blt 0 fs.length⟩)] (hL) O O V15 O O O O O V1B dO ?_;refine U33 ?_)
   exact V6
 ·have hL:=Lay_no X ad cap fs hin hbig hl
  rw [if_neg hl]
  generalize layErr fs=e at *
  (refine U7 ?_;refine aU [] [] (hL) O O V15 O O O O O (by exact .nil) dO ?_;refine U23 ?_)
  exact V6
end Go.Proofs.YtbpdbclndfmcgaaGreatDoor
end
section
set_option maxHeartbeats 12800000
set_option maxRecDepth 100000
namespace Go.Lg.Fld
open Go Go.Lg
def setAt (b:List UInt8) (p:Nat) (s:List UInt8):List UInt8:=b.take p++s++b.drop (p+s.length)
theorem setAt_len {b s:List UInt8} {p:Nat} (h:p+s.length≤b.length):(setAt b p s).length=b.length:=by
 simp only [setAt,cT,cX,cY];omega
theorem setAt_nil (b:List UInt8) (p:Nat):setAt b p []=b:=by simp [setAt]
theorem setAt_step {b s:List UInt8} {p k:Nat} {c:UInt8} (h:p+s.length≤b.length) (hc:s[k]? = some c):(setAt b p (s.take k)).set (p+k) c=setAt b p (s.take (k+1)):=by
 have hk:=(wl hc)
 have hl:(s.take k).length=k:=by rw [cX];omega
 have hl2:(s.take (k+1)).length=k+1:=by rw [cX];omega
 unfold setAt
 rw [hl,hl2,take_snoc hc]
 have hla:(b.take p++s.take k).length=p+k:=by rw [cT,cX,hl];omega
 obtain ⟨x,hx⟩:∃ x,b[p+k]? = some x:=wg V3
 have hd:b.drop (p+k)=x::b.drop (p+(k+1)):=by
  obtain ⟨hi,e⟩:=List.getElem?_eq_some_iff.1 hx
  rw [List.drop_eq_getElem_cons hi,e]
  rfl
 rw [hd,List.set_append_right _ _ (by omega),hla,Nat.sub_self,List.set_cons_zero]
 simp [dJ]
end Go.Lg.Fld
namespace Go.Proofs.YtbpdbclndfmcgaaGreatDoor
open Go Go.Lg Go.Lg.Fld
set_option maxRecDepth 100000
variable (X:Nat→Option Obj)
def numB (k:Int) (n:Bool×Int):List UInt8:=leB (kW k) (wdK k (zv n.1 n.2))
def packE:List (Int×Nat)→List (Bool×Int)→List UInt8→List UInt8
 | e::t,v::u,b=>packE t u (setAt b e.2 (numB e.1 v))
 | _,_,b=>b
theorem packE_snoc (e:Int×Nat) (v:Bool×Int):∀ (l:List (Int×Nat)) (m:List (Bool×Int)) (b:List UInt8),l.length=m.length→packE (l++[e]) (m++[v]) b=setAt (packE l m b) e.2 (numB e.1 v)
 | [],[],b,_=>rfl
 | e'::t,v'::u,b,h=>packE_snoc e v t u _ V29
 | [],_::_,_,h=>by simp at h
 | _::_,[],_,h=>by simp at h
def Within (es:List (Int×Nat)) (T:Nat):Prop := ∀ e∈es,kK e.1=true∧e.2+kW e.1≤T
theorem elems_in:∀ (l:List Fl) (a:Nat),l.all Fl.ok=true→∀ e∈elemsAt a l,kK e.1=true∧a≤e.2∧e.2+kW e.1≤endAt a l
 | [],a,_,e,he=>by simp [elemsAt] at he
 | f::t,a,h,e,he=>by
  simp only [List.all_cons,Bool.and_eq_true] at h
  obtain ⟨hw,h1,h8,hc⟩:=ok_w h.1
  have hr:=round_facts hw a
  have hi:=end_le t (roundUp a f.w+f.w*f.n) h.2
  simp only [elemsAt,List.mem_append,List.mem_map,List.mem_range] at he
  rcases he with ⟨i,hin,rfl⟩|he
  ·have hk:kK f.kind=true:=by have:=h.1;simp only [Fl.ok,Bool.and_eq_true] at this;exact this.1
   have hm:f.w*i+f.w≤f.w*f.n:=by rw [← Nat.mul_succ];exact Nat.mul_le_mul_left _ hin
   refine ⟨hk,by simp only;omega,?_⟩
   show roundUp a f.w+f.w*i+f.w≤endAt (roundUp a f.w+f.w*f.n) t
   omega
  ·have:=elems_in t _ h.2 e he
   refine ⟨this.1,by omega,?_⟩
   exact this.2.2
theorem within_row {fs:List Fl} (h:fs.all Fl.ok=true):Within (elemsAt 0 fs) (rowSize fs):=fun e he=>by
 have h1:=elems_in fs 0 h e he
 have h2:=round_facts (great_wd fs h) (endAt 0 fs)
 refine ⟨h1.1,Nat.le_trans h1.2.2 h2.2.1⟩
theorem numB_len (k:Int) (n:Bool×Int):(numB k n).length=kW k:=leB_length _ _
theorem packE_len {T:Nat}:∀ {es:List (Int×Nat)} {ns:List (Bool×Int)} {b:List UInt8},Within es T→b.length=T→(packE es ns b).length=T
 | [],_,b,_,hb=>hb
 | _::_,[],b,_,hb=>hb
 | e::t,v::u,b,hw,hb=>by
  have h1:=(hw e V24).2
  exact packE_len (es:=t) (ns:=u) (fun x hx=>hw x V28) (by rw [setAt_len (by rw [numB_len];omega)];exact hb)
def packB (fs:List Fl) (ns:List (Bool×Int)):List UInt8:=packE (elemsAt 0 fs) ns (List.replicate (rowSize fs) 0)
theorem fitErr_facts {fs:List Fl} {ns:List (Bool×Int)} (h:fitErr fs ns=0):layErr fs=0∧(elemsAt 0 fs).length=ns.length∧fitAll (elemsAt 0 fs) ns=true:=by
 unfold fitErr at h
 split at h
 ·rename_i h0
  split at h
  ·rename_i h1
   split at h
   ·rename_i h2;exact ⟨h0,h1,h2⟩
   ·cases h
  ·cases h
 ·contradiction
theorem fitAll_at {es:List (Int×Nat)} {ns:List (Bool×Int)} (h:fitAll es ns=true) {i:Nat} {e:Int×Nat} {b:Bool} {N:Int} (he:es[i]? = some e) (hv:ns[i]? = some (b,N)):formB b N=true∧kK e.1=true∧fitZ e.1 (zv b N)=true:=by
 have:=List.all_eq_true.1 h _ (dA (zip_at he hv))
 simp only [fitB,Bool.and_eq_true] at this
 exact ⟨this.2.1,this.1,this.2.2⟩
set_option maxHeartbeats 1600000 in
theorem refPack_spec (ad ad2:Option Addr) (cap cap2:Nat) (fs:List Fl) (ns:List (Bool×Int)) (hin:FieldsIn X ad fs) (hbig:fs.length<4611686018427387904) (hns:NumsIn X ad2 ns) (h:fitErr fs ns=0):
  PSpec Tryz.prog X 62 [Lx ad fs.length cap,Lx ad2 ns.length cap2] (Ls (packB fs ns)):=by
 obtain ⟨hl,hn,hfit⟩:=fitErr_facts h
 have hL:=Lay_ok X ad cap fs hin hbig hl
 obtain ⟨h8,hall,hT⟩:=layErr_facts hl
 have hW:=within_row hall
 have hEl:=elems_len fs 0 hall
 refine cD Tryz.func62 rfl V5 rfl rfl ?_
 intro C
 unfold packB
 generalize elemsAt 0 fs=E at *
 generalize startsAt 0 fs=S at *
 generalize rowSize fs=T at *
 have hmk:slcBuild Tryz.prog 151 T=some (List.replicate T (.int .u8 0),1,5):=slcBuild_one V5 V5 V3
 have hz0:(List.replicate T (Value.int .u8 0)).map CV.val=(List.replicate T (0:UInt8)).map bc:=by rw [List.map_replicate,List.map_replicate];rfl
 (refine U7 ?_;refine bE [(1000001,501),(1000002,502)] (.tup [.one (.slc 501 0 E.length 2),Sn .i64 (T:Nat),.one (.slc 502 0 fs.length 1),Sn .i64 0]) [(501,some ⟨164,(elVs E).map .val,Nat.blt 0 E.length⟩),(502,some ⟨3,(ntV S).map .val,Nat.blt 0 fs.length⟩)] (hL) O O V15 O O O O O V1B dO ?_;refine U13 ?_;refine K.makeSlc (m:=T) (bytes:=1) O O hmk V5 V3 hz0 O dO ?_;refine U8 ?_)
 refine cH (fun m σ=>∃ i:Nat,i≤E.length∧m=E.length-i∧σ=⟨[(1,Lx ad2 ns.length cap2),(5,.sv (.one (.slc 501 0 E.length 2))),(9,.sv (.one (.slc 500 0 T 1))),(10,Ln .i64 (i:Nat))],[(501,some ⟨164,(elVs E).map .val,Nat.blt 0 E.length⟩),(500,some ⟨5,(packE (E.take i) (ns.take i) (List.replicate T 0)).map bc,false⟩)],X⟩) E.length
  ⟨_,Le.ofR [(500,21)] VD V1 V2 V2 V0 V2 V2,0,by omega,rfl,rfl⟩ ?_
 rintro m σ ⟨i,hi,rfl,rfl⟩
 have hbl:(packE (E.take i) (ns.take i) (List.replicate T 0)).length=T:=packE_len (fun e he=>hW e (List.mem_of_mem_take he)) (by rw [dB])
 by_cases hlt:i<E.length
 ·obtain ⟨e,he⟩:=wg hlt
  obtain ⟨⟨b,N⟩,hv⟩:∃ v,ns[i]? = some v:=wg V3
  obtain ⟨hN,blk,off,arr,el,fr,rfl,hX,hsz,hcells⟩:=hns.at hv
  have hio:=wo off i 3
  have hie:0+Int.toNat (i:Int)*2=i*2:=by simp
  obtain ⟨hc1,hc2⟩:=elVs_at he
  obtain ⟨g1,g2,g3⟩:=fitAll_at hfit he hv
  have hP:=refPut_spec X e.1 (zv b N) g2 g3
  rw [← LI_q hN g1] at hP
  have hnext:packE (E.take (i+1)) (ns.take (i+1)) (List.replicate T 0)=setAt (packE (E.take i) (ns.take i) (List.replicate T 0)) e.2 (numB e.1 (b,N)):=by
   rw [take_snoc he,take_snoc hv,packE_snoc]
   rw [cX,cX];omega
  have hWe:=(hW e (dA he)).2
  have hsl:(leB (kW e.1) (wdK e.1 (zv b N))).length=kW e.1:=leB_length _ _
  have hnb:numB e.1 (b,N)=leB (kW e.1) (wdK e.1 (zv b N)):=rfl
  rw [hnb] at hnext
  have hw8:=(kfacts e.1).2.2.2.2
  generalize leB (kW e.1) (wdK e.1 (zv b N))=s at *
  generalize packE (E.take i) (ns.take i) (List.replicate T 0)=B at *
  have hss:(⟨s.toArray⟩:ByteArray).size=s.length:=rfl
  (refine U13 ?_;refine rgD mixed ?_;refine U18 ?_)
  refine cH (fun m σ=>∃ k:Nat,k≤s.length∧m=s.length-k∧σ=⟨[(1,Lx (some ⟨blk,off,none⟩) ns.length cap2),(5,.sv (.one (.slc 501 0 E.length 2))),(9,.sv (.one (.slc 500 0 T 1))),(10,Ln .i64 (i:Nat)),(11,Ls s),(12,Ln .i64 (k:Nat))],[(501,some ⟨164,(elVs E).map .val,Nat.blt 0 E.length⟩),(500,some ⟨5,(setAt B e.2 (s.take k)).map bc,false⟩)],X⟩) s.length
   ⟨_,Le.ofR [] VC (by rw [List.take_zero,setAt_nil];exact V1) V2 V2 V0 V2 V2,0,by omega,rfl,rfl⟩ ?_
  rintro m σ ⟨k,hk,rfl,rfl⟩
  by_cases hks:k<s.length
  ·obtain ⟨c,hc⟩:=wg hks
   have hstep:=setAt_step (b:=B) (p:=e.2) (s:=s) V3 hc
   have hadd:IntKind.i64.wrap (((e.2:Nat):Int)+((k:Nat):Int))=((e.2+k:Nat):Int):=by rw [cF V3];omega
   have hip:0+Int.toNat ((e.2+k:Nat):Int)*1=e.2+k:=by rw [dD];omega
   have hlen:(setAt B e.2 (s.take k)).length=T:=by rw [setAt_len V25];exact hbl
   have hlt2:Nat.blt (e.2+k) ((setAt B e.2 (s.take k)).map bc).length=true:=by rw [cU,hlen,Nat.blt_eq];omega
   have hset:((setAt B e.2 (s.take k)).map bc).set (e.2+k) (bc c)=(setAt B e.2 (s.take (k+1))).map bc:=by rw [← List.map_set,hstep]
   (refine U12 ?_;refine rgD mixed ?_;refine U10 ?_;refine bB O O V3 (str_at hc) dO ?_;refine U1 ?_;refine bG O O O O hlt2 hset dO ?_;refine U7 ?_)
   exact ⟨_,_,by omega,Le.ofR [] VC V1 V2 V2 V0 V2 V2,k+1,by omega,O,O⟩
  ·have ek:k=s.length:=by omega
   subst ek
   rw [dC] at *
   refine U15 ?_
   exact ⟨_,_,by omega,Le.ofR [] VD (by rw [hnext];exact V1) V2 V2 V0 V2 V2,i+1,by omega,rfl,rfl⟩
 ·have e:i=E.length:=by omega
  subst e
  rw [dC,List.take_of_length_le (Nat.le_of_eq hn.symm)] at *
  generalize packE E ns (List.replicate T 0)=B at *
  have hlen:0+T≤(B.map bc).length:=by rw [cU];omega
  have hcut:((B.map bc).drop 0).take T=B.map bc:=by rw [List.drop_zero,List.take_of_length_le V26]
  (refine U13 ?_;refine bR O O V5 StrT.u hlen hcut dO ?_;refine U3 ?_)
  exact V6
end Go.Proofs.YtbpdbclndfmcgaaGreatDoor
end
section
set_option maxHeartbeats 12800000
set_option maxRecDepth 100000
namespace Go.Proofs.YtbpdbclndfmcgaaGreatDoor
open Go Go.Lg Go.Lg.Fld
set_option maxRecDepth 100000
variable (X:Nat→Option Obj)
def qn (z:Int):Bool×Int:=(decide (z<0),mg z)
theorem zv_qn (z:Int):zv (qn z).1 (qn z).2=z:=by
 unfold qn zv mg
 by_cases h:z<0
 ·simp [h]
 ·simp [h]
def rdE (s:List UInt8) (e:Int×Nat):Int:=nbK e.1 (le ((s.drop e.2).take (kW e.1)))
def readOk (es:List (Int×Nat)) (s:List UInt8):Bool:=es.all fun e=>fitZ e.1 (rdE s e)
def unpZ (fs:List Fl) (s:List UInt8):List Int:=(elemsAt 0 fs).map (rdE s)
def unpOk (fs:List Fl) (s:List UInt8):Bool:=decide (s.length=rowSize fs)&&(readOk (elemsAt 0 fs) s&&(packB fs ((unpZ fs s).map qn)==s))
def unpErr (fs:List Fl) (s:List UInt8):Int:=if layErr fs=0 then (if unpOk fs s=true then 0 else 4) else layErr fs
def nsV (zs:List Int):List Value:=(zs.map fun z=>nmV (qn z)).flatten
theorem nsV_len (zs:List Int):(nsV zs).length=zs.length*3:=by
 induction zs with
 | nil=>rfl
 | cons z t ih=>simp only [nsV,List.map_cons,List.flatten_cons,cT] at ih ⊢;rw [ih];simp [nmV];omega
theorem read_R {es:List (Int×Nat)} {s:List UInt8} {T:Nat} (hW:Within es T) (hs:s.length=T) {e:Int×Nat} (he:e∈es):((s.drop e.2).take (kW e.1)).length=kW e.1∧R127 (rdE s e):=by
 have h:=hW e he
 have hl:((s.drop e.2).take (kW e.1)).length=kW e.1:=by rw [cX,cY];omega
 refine ⟨hl,?_⟩
 have hb:=le_lt ((s.drop e.2).take (kW e.1))
 rw [hl] at hb
 exact nb_R h.1 hb
def unpR (fs:List Fl) (s:List UInt8):LV:=if unpErr fs s=0 then .tup [.one (.slc 1000001 0 (unpZ fs s).length 3),Sn .i64 0] else .tup [Vnil,Sn .i64 (unpErr fs s)]
end Go.Proofs.YtbpdbclndfmcgaaGreatDoor
end
section
set_option maxHeartbeats 12800000
set_option maxRecDepth 100000
namespace Go.Lg.Fld
open Go Go.Lg
abbrev planV (size:Int) (c:CV):SV:=.agg [.val (.int .i64 size),c]
def canB (fs:List Fl):Bool:=decide (fs.length≤8)&&fs.all Fl.ok
theorem canB_err {fs:List Fl} (h:canB fs=false):layErr fs=1:=by
 unfold canB at h
 unfold layErr
 by_cases h8:8<fs.length
 ·rw [if_pos h8]
 ·rw [if_neg h8]
  rw [cM (show fs.length≤8 by omega),Bool.true_and] at h
  rw [h,if_neg (by simp)]
theorem canB_ok {fs:List Fl} (h:canB fs=true):fs.length≤8∧fs.all Fl.ok=true∧layErr fs=if 256<rowSize fs then 5 else 0:=by
 unfold canB at h
 rw [Bool.and_eq_true,decide_eq_true_eq] at h
 refine ⟨h.1,h.2,?_⟩
 unfold layErr
 rw [if_neg (by omega),if_pos h.2]
theorem round_up {n:Nat} (h:isWd n) (a:Nat):(a+n-1)/n*n=roundUp a n:=by
 unfold roundUp
 rcases h with rfl|rfl|rfl|rfl<;>omega
def blankB (l:List UInt8):Bool:=l.all fun c=>c==0
theorem dropWhile_nil {l:List UInt8}:l.dropWhile (· == (0:UInt8))=[]↔l.all (fun c=>c==0)=true:=by
 induction l with
 | nil=>simp
 | cons c t ih =>
  rw [List.dropWhile_cons]
  cases hc:(c==0) with
  | true=>rw [if_pos rfl,ih,List.all_cons,hc,Bool.true_and]
  | false=>rw [if_neg V24,List.all_cons,hc,Bool.false_and];simp
theorem trim_blank (l:List UInt8):(Lib.trimB l 0==[])=blankB l:=by
 unfold blankB
 have h1:Lib.trimB l 0=[]↔l.all (fun c=>c==0)=true:=by
  unfold Lib.trimB Lib.trimLeftB Lib.trimRightB
  rw [dropWhile_nil,List.all_reverse]
  constructor
  ·intro h
   have h2:l.reverse.dropWhile (· == (0:UInt8))=[]:=by
    cases e:l.reverse.dropWhile (· == (0:UInt8)) with
    | nil=>rfl
    | cons c t =>
     have h3:=List.head_dropWhile_not (fun x=>x==(0:UInt8)) (l:=l.reverse) (by rw [e];simp)
     rw [e] at h
     simp only [List.all_cons,Bool.and_eq_true] at h
     simp only [e,List.head_cons] at h3
     rw [h.1] at h3
     cases h3
   rw [dropWhile_nil,List.all_reverse] at h2
   exact h2
  ·intro h
   have h2:l.reverse.dropWhile (· == (0:UInt8))=[]:=by rw [dropWhile_nil,List.all_reverse];exact h
   rw [h2];rfl
 cases hb:l.all (fun c=>c==0) with
 | true=>rw [h1.2 hb];rfl
 | false =>
  refine cO fun e => ?_
  rw [h1.1 e] at hb
  cases hb
end Go.Lg.Fld
namespace Go.Proofs.YtbpdbclndfmcgaaGreatDoor
open Go Go.Lg Go.Lg.Fld
set_option maxRecDepth 100000
variable (X:Nat→Option Obj)
theorem trimRight_spec (l:List UInt8) (hl:l.length<4611686018427387904):PSpec Tryz.prog X 143 [Ls l,Ln .u8 0] (Ls (Lib.trimRightB l 0)):=by
 refine cD Tryz.func143 rfl V5 rfl rfl ?_
 intro C
 refine U6 ?_
 refine cH (fun m σ=>∃ k:Nat,k≤l.length∧m=k∧(∀ (j:Nat) b,k≤j→l[j]? = some b→b=0)∧σ=⟨[(0,Ls (l.take k)),(1,Ln .u8 0)],[],X⟩) l.length
  ⟨_,Le.of (by exact ⟨by rw [dC];rfl,rfl,trivial⟩) V15 V2 V2 V2,l.length,by omega,rfl,(fun j b hj hb=>by rw [List.getElem?_eq_none hj] at hb;cases hb),rfl⟩ ?_
 rintro m σ ⟨k,hk,rfl,hz,rfl⟩
 have hlen:(⟨(l.take m).toArray⟩:ByteArray).size=m:=by show (l.take m).length=m;rw [cX];omega
 by_cases h0:m=0
 ·subst h0
  rw [Lib.trimRightB_take l 0 0 hk hz (fun _ h=>absurd h (by omega))]
  refine U24 ?_
  exact V6
 ·obtain ⟨c,hc⟩:∃ c,l[m-1]? = some c:=wg V3
  have hc':(l.take m)[m-1]? = some c:=by rw [List.getElem?_take,if_pos V3];exact hc
  have hm1:((m:Nat):Int)-1=((m-1:Nat):Int):=by omega
  have hw:IntKind.i64.wrap (((⟨(l.take m).toArray⟩:ByteArray).size:Nat)-1:Int)=((m-1:Nat):Int):=by rw [hlen,cF V3];omega
  by_cases hcz:c=0
  ·have hcut:(⟨(l.take m).toArray⟩:ByteArray).extract 0 (m-1)=⟨(l.take (m-1)).toArray⟩:=by rw [str_cut,List.drop_zero,List.take_take];congr 3;omega
   have hz':∀ (j:Nat) b,m-1≤j→l[j]? = some b→b=0:=fun j b hj hb=>by
    by_cases e:j=m-1
    ·subst e;rw [hc] at hb;cases hb;exact hcz
    ·exact hz j b V3 hb
   have heq:(((c.toNat:Nat):Int)==0)=true:=by rw [hcz];rfl
   (refine U5 ?_;refine aS O O (cM V22) dO ?_;refine U3 ?_;refine K.lenStr O (dP O O) ?_;refine K.sub O O hw (dP O O) ?_;refine bB O O V3 (str_at (by rw [dD];exact hc')) (dP O O) ?_;refine U1 ?_;refine bC O O heq (dP O O) ?_;refine U10 ?_;refine bM (l:=0) (h:=m-1) (kl:=.i64) (kh:=.i64) O StrT.u O O ⟨V3,V3⟩ hcut dO ?_;refine U2 ?_)
   exact ⟨m-1,_,by omega,Le.of VA V15 V2 V2 V2,m-1,by omega,O,hz',O⟩
  ·have heq:(((c.toNat:Nat):Int)==0)=false:=cO fun e=>hcz (by
    have h5:c.toNat=0:=by omega
    exact UInt8.toNat_inj.1 h5)
   rw [Lib.trimRightB_take l 0 m hk hz (fun b _ hb=>by rw [hc] at hb;cases hb;exact hcz)]
   (refine U5 ?_;refine aS O O (cM V22) dO ?_;refine U3 ?_;refine K.lenStr O (dP O O) ?_;refine K.sub O O hw (dP O O) ?_;refine bB O O V3 (str_at (by rw [dD];exact hc')) (dP O O) ?_;refine U1 ?_;refine bC O O heq (dP O O) ?_;refine U10 ?_)
   exact V6
theorem trimLeft_spec (l:List UInt8) (hl:l.length<4611686018427387904):PSpec Tryz.prog X 142 [Ls l,Ln .u8 0] (Ls (Lib.trimLeftB l 0)):=by
 refine cD Tryz.func142 rfl V5 rfl rfl ?_
 intro C
 refine U6 ?_
 refine cH (fun m σ=>∃ k:Nat,k≤l.length∧m=l.length-k∧(∀ (j:Nat) b,j<k→l[j]? = some b→b=0)∧σ=⟨[(0,Ls (l.drop k)),(1,Ln .u8 0)],[],X⟩) l.length
  ⟨_,Le.of VA V15 V2 V2 V2,0,by omega,rfl,(fun j b hj=>absurd hj V3),rfl⟩ ?_
 rintro m σ ⟨k,hk,rfl,hz,rfl⟩
 have hlen:(⟨(l.drop k).toArray⟩:ByteArray).size=l.length-k:=by show (l.drop k).length=_;rw [cY]
 by_cases h0:k=l.length
 ·subst h0
  rw [Lib.trimLeftB_drop l 0 l.length hk hz (fun b hb=>by rw [List.getElem?_eq_none (dK _)] at hb;cases hb)]
  (refine U5 ?_;refine aS O O (cL V22) dO ?_;refine U15 ?_)
  exact V6
 ·obtain ⟨c,hc⟩:∃ c,l[k]? = some c:=wg V3
  have hc':(l.drop k)[0]? = some c:=by rw [List.getElem?_drop];exact hc
  by_cases hcz:c=0
  ·have hcut:(⟨(l.drop k).toArray⟩:ByteArray).extract 1 (l.length-k)=⟨(l.drop (k+1)).toArray⟩:=by rw [str_cut,List.drop_drop,List.take_of_length_le (by rw [cY];omega)]
   have hz':∀ (j:Nat) b,j<k+1→l[j]? = some b→b=0:=fun j b hj hb=>by
    by_cases e:j=k
    ·subst e;rw [hc] at hb;cases hb;exact hcz
    ·exact hz j b V3 hb
   have heq:(((c.toNat:Nat):Int)==0)=true:=by rw [hcz];rfl
   (refine U5 ?_;refine aS O O (cM V22) dO ?_;refine U2 ?_;refine bB O O V3 (str_at hc') (dP O O) ?_;refine U1 ?_;refine bC O O heq (dP O O) ?_;refine U7 ?_;refine bM (l:=1) (h:=l.length-k) (kl:=.i64) (kh:=.i64) O StrT.u O hlen.symm ⟨V3,V22⟩ hcut dO ?_;refine U2 ?_)
   exact ⟨_,_,by omega,Le.of VA V15 V2 V2 V2,k+1,by omega,O,hz',O⟩
  ·have heq:(((c.toNat:Nat):Int)==0)=false:=cO fun e=>hcz (by
    have h5:c.toNat=0:=by omega
    exact UInt8.toNat_inj.1 h5)
   rw [Lib.trimLeftB_drop l 0 k hk hz (fun b hb=>by rw [hc] at hb;cases hb;exact hcz)]
   (refine U5 ?_;refine aS O O (cM V22) dO ?_;refine U2 ?_;refine bB O O V3 (str_at hc') (dP O O) ?_;refine U1 ?_;refine bC O O heq (dP O O) ?_;refine U10 ?_)
   exact V6
theorem trimRight_len (l:List UInt8):(Lib.trimRightB l 0).length≤l.length:=by
 unfold Lib.trimRightB
 rw [List.length_reverse]
 exact Nat.le_trans (List.dropWhile_sublist _).length_le (by rw [List.length_reverse];exact dK _)
theorem trim_spec (l:List UInt8) (hl:l.length<4611686018427387904):PSpec Tryz.prog X 128 [Ls l,Ls [0]] (Ls (Lib.trimB l 0)):=by
 refine cD Tryz.func128 rfl V5 rfl rfl ?_
 intro C
 by_cases h:l=[]
 ·subst h
  (refine U8 ?_;refine kse rfl rfl (strs_eq (r:=true) V11) ?_;refine U12 ?_)
  exact V6
 ·have hR:=trimRight_spec X l hl
  have hL:=trimLeft_spec X (Lib.trimRightB l 0) (Nat.lt_of_le_of_lt (trimRight_len l) hl)
  (refine U8 ?_;refine kse O O (strs_eq (r:=false) (cO h)) ?_;refine U2 ?_;refine K.strEq O O (strs_eq (r:=false) V11) (dP O O) ?_;refine U9 ?_;refine keq O O O ?_;refine U2 ?_;refine bB O O V3 (str_at O) (dP O O) ?_;refine bK O O O (dP O O) ?_;refine U4 ?_;refine rgD mixed ?_;refine U2 ?_;refine bB O O V3 (str_at O) dO ?_;refine U2 ?_;refine bB O O V3 (str_at O) dO ?_;refine U5 ?_)
  exact V6
theorem isBlank_spec (l:List UInt8) (hl:l.length<4611686018427387904) (r:Bool) (hr:blankB l=r):PSpec Tryz.prog X 110 [Ls l] (Lb r):=by
 subst hr
 have hT:=trim_spec X l hl
 rw [← trim_blank]
 refine cD Tryz.func110 rfl V5 rfl rfl ?_
 intro C
 (refine U8 ?_;refine kse rfl rfl (strs_eq rfl) ?_;refine U3 ?_)
 exact V6
theorem multipleFrom_spec (a w:Nat) (hw:isWd w) (ha:a<1000000):PSpec Tryz.prog X 75 [Ln .i64 (a:Nat),Ln .i64 (w:Nat)] (Ln .i64 (roundUp a w:Nat)):=by
 rw [← round_up hw]
 have hw8:1≤w∧w≤8:=by rcases hw with e|e|e|e<;>omega
 have hq:((a+w-1:Nat):Int)/((w:Nat):Int)=(((a+w-1)/w:Nat):Int):=(Int.natCast_ediv _ _).symm
 have hs:IntKind.i64.wrap ((a:Nat)+(w:Nat)-1:Int)=((a+w-1:Nat):Int):=by rw [cF V3];omega
 have hd:IntKind.i64.wrap (((a+w-1:Nat):Int).tdiv ((w:Nat):Int))=(((a+w-1)/w:Nat):Int):=by rw [quo_i64 V3 V3];exact hq
 have hb:(a+w-1)/w*w≤a+w-1:=Nat.div_mul_le_self _ _
 have hm:IntKind.i64.wrap ((((a+w-1)/w:Nat):Int)*((w:Nat):Int))=(((a+w-1)/w*w:Nat):Int):=by
  rw [← Int.natCast_mul,cF (by omega)]
 refine cD Tryz.func75 rfl V5 rfl rfl ?_
 intro C
 (refine U11 ?_;refine K.quo O O V3 hd dO<|kmv O<|bL O O hm dO ?_;refine U3 ?_)
 exact V6
end Go.Proofs.YtbpdbclndfmcgaaGreatDoor
end
section
set_option maxHeartbeats 12800000
set_option maxRecDepth 100000
namespace Go.Lg.Fld
open Go Go.Lg
theorem take_ok {fs:List Fl} (h:fs.all Fl.ok=true) (i:Nat):(fs.take i).all Fl.ok=true:=by
 rw [List.all_eq_true] at h ⊢
 exact fun f hf=>h f (List.mem_of_mem_take hf)
theorem drop_at {α:Type} {l:List α} {i:Nat} {x:α} (h:l[i]? = some x):l.drop i=x::l.drop (i+1):=by
 obtain ⟨hi,e⟩:=List.getElem?_eq_some_iff.1 h
 rw [List.drop_eq_getElem_cons hi,e]
theorem fill_set {α:Type} {S:List α} {z x:α} {n i:Nat} (hS:S.length=i) (hi:i<n):(S++List.replicate (n-i) z).set i x=(S++[x])++List.replicate (n-(i+1)) z:=by
 rw [List.set_append_right _ _ (by omega),hS,Nat.sub_self]
 have:n-i=(n-(i+1))+1:=by omega
 rw [this,List.replicate_succ,List.set_cons_zero,dJ]
 rfl
theorem fill_at {α:Type} {S:List α} {z x:α} {n i:Nat} (hS:S.length=i):((S++[x])++List.replicate n z)[i]? = some x:=by
 rw [dJ,List.getElem?_append_right (by omega),hS,Nat.sub_self]
 rfl
end Go.Lg.Fld
namespace Go.Proofs.YtbpdbclndfmcgaaGreatDoor
open Go Go.Lg Go.Lg.Fld
set_option maxRecDepth 100000
variable (X:Nat→Option Obj)
theorem canBe_spec (ad:Option Addr) (cap:Nat) (fs:List Fl) (hin:FieldsIn X ad fs) (hbig:fs.length<4611686018427387904) (r:Bool) (hr:canB fs=r):PSpec Tryz.prog X 73 [Lx ad fs.length cap] (Lb r):=by
 subst hr
 refine cD Tryz.func73 rfl V5 rfl rfl ?_
 intro C
 by_cases hlong:8<fs.length
 ·have hc:canB fs=false:=by unfold canB;rw [cL V3,Bool.false_and]
  rw [hc]
  (refine U9 ?_;refine aS O O (cM V3) dO ?_;refine U7 ?_)
  exact V6
 have h8:fs.length≤8:=by omega
 have hcb:canB fs=fs.all Fl.ok:=by unfold canB;rw [cM h8,Bool.true_and]
 rw [hcb]
 refine U21 ?_
 refine cH (fun m σ=>∃ i:Nat,i≤fs.length∧m=fs.length-i∧(fs.take i).all Fl.ok=true∧σ=⟨[(8,Lx ad fs.length cap),(9,Ln .i64 (fs.length:Nat)),(10,Ln .i64 (i:Nat))],[],X⟩) fs.length
  ⟨_,Le.of V9 V15 V2 V2 V2,0,by omega,by omega,rfl,rfl⟩ ?_
 rintro m σ ⟨i,hi,rfl,hall,rfl⟩
 by_cases hlt:i<fs.length
 ·obtain ⟨f,hf⟩:=wg hlt
  obtain ⟨blk,off,arr,el,fr,rfl,hX,hsz,hcells⟩:=hin.at hf
  have hio:=wo off i 3
  have hmem:f∈fs:=dA hf
  have hsm:=hin.small f hmem
  have hB:=fSize_spec X f.kind
  cases hok:f.ok with
  | false =>
   have hno:fs.all Fl.ok=false:=by
    cases e:fs.all Fl.ok with
    | false=>rfl
    | true=>rw [List.all_eq_true.1 e f hmem] at hok;cases hok
   rw [hno]
   by_cases h0:kW f.kind=0
   ·rw [h0] at hB
    (refine U21 ?_;refine keq rfl rfl (cS V3) ?_;refine U17 ?_)
    exact V6
   ·have hk:kK f.kind=true:=by
     cases e:kK f.kind with
     | true=>rfl
     | false=>exact absurd ((kW_zero f.kind).2 e) h0
    by_cases h1:f.count<1
    ·(refine U25 ?_;refine bK O O (cM V3) (dP O O) ?_;refine U13 ?_)
     exact V6
    ·have h2:8<f.count:=by
      unfold Fl.ok at hok
      rw [hk,cM (show 1≤f.count by omega)] at hok
      simpa using hok
     (refine U25 ?_;refine bK O O (cL V3) (dP O O) ?_;refine U4 ?_;refine aS O O (cM V3) (dP O O) ?_;refine U8 ?_)
     exact V6
  | true =>
   have hall':=take_all hall hf hok
   obtain ⟨hw,hn1,hn8,hnc⟩:=ok_w hok
   have hw1:1≤kW f.kind:=by have hwk:kW f.kind=f.w:=rfl;rcases hw with e|e|e|e<;>omega
   (refine U25 ?_;refine bK O O (cL V3) (dP O O) ?_;refine U4 ?_;refine aS O O (cL V3) (dP O O) ?_;refine U8 ?_)
   exact ⟨_,_,by omega,Le.of V9 V15 V2 V2 V2,i+1,by omega,O,hall',O⟩
 ·have e:i=fs.length:=by omega
  subst e
  rw [dC] at hall
  rw [hall]
  refine U12 ?_
  exact V6
theorem Of_no (ad:Option Addr) (cap:Nat) (fs:List Fl) (hin:FieldsIn X ad fs) (hbig:fs.length<4611686018427387904) (h:canB fs=false):
  PSpec Tryz.prog X 39 [Lx ad fs.length cap] (.tup [planV 0 (.val (.slice none 0 0)),Sn .i64 1]):=by
 have hc:=canBe_spec X ad cap fs hin hbig false h
 refine cD Tryz.func39 rfl V5 rfl rfl ?_
 intro C
 (refine U15 ?_;refine aT O O V2 V1C dO ?_;refine U4 ?_)
 exact V17
def ofR (fs:List Fl):LV:=if layErr fs=0 then .tup [planV (rowSize fs:Nat) (.slc 1000001 0 fs.length 1),Sn .i64 0] else .tup [planV 0 (.val (.slice none 0 0)),Sn .i64 (layErr fs)]
def ofBx (fs:List Fl):List (Nat×Option Box):=if layErr fs=0 then [(1000001,some ⟨3,(ntV (startsAt 0 fs)).map .val,false⟩)] else []
set_option maxHeartbeats 3200000 in
theorem Of_can (ad:Option Addr) (cap:Nat) (fs:List Fl) (hin:FieldsIn X ad fs) (hbig:fs.length<4611686018427387904) (h:canB fs=true):
  MSpec Tryz.prog X 39 [Lx ad fs.length cap] [] (ofR fs) (ofBx fs):=by
 have hc:=canBe_spec X ad cap fs hin hbig true h
 obtain ⟨h8,hall,hle⟩:=canB_ok h
 refine cE Tryz.func39 rfl V5 rfl (by unfold ofR ofBx;split<;>rfl) (by unfold ofBx;split<;>exact V0) rfl rfl ?_
 intro C
 have hmk:slcBuild Tryz.prog 58 fs.length=some (List.replicate fs.length (.int .i64 0),1,3):=slcBuild_one V5 V5 V3
 (refine U18 ?_;refine K.makeSlc (m:=fs.length) (bytes:=8) O O hmk V5 V3 O O dO ?_;refine U15 ?_)
 refine cH (fun m σ=>∃ i:Nat,i≤fs.length∧m=fs.length-i∧σ=⟨[(2,.sv (.one (.ptr 2 0))),(4,.sv (.one (.slc 17 0 fs.length 1))),(5,Ln .i64 (endAt 0 (fs.take i):Nat)),(6,Ln .i64 (greatW (fs.take i):Nat)),(18,Lx ad fs.length cap),(19,Ln .i64 (fs.length:Nat)),(20,Ln .i64 (i:Nat))],[(2,some ⟨94,[.val (.int .i64 0),.val (.slice none 0 0)],false⟩),(17,some ⟨3,(ntV (startsAt 0 (fs.take i))++List.replicate (fs.length-i) (Value.int .i64 0)).map .val,false⟩)],X⟩) fs.length
  ⟨_,Le.of V1D VA V2 V2 V0,0,by omega,by omega,rfl⟩ ?_
 rintro m σ ⟨i,hi,rfl,rfl⟩
 have ht:=take_ok hall i
 have hSl:=starts_len (fs.take i) 0
 have hend:=end_le (fs.take i) 0 ht
 have hgw:=great_wd (fs.take i) ht
 have htl:(fs.take i).length=i:=by rw [cX];omega
 rw [htl] at hSl hend
 by_cases hlt:i<fs.length
 ·obtain ⟨f,hf⟩:=wg hlt
  obtain ⟨blk,off,arr,el,fr,rfl,hX,hsz,hcells⟩:=hin.at hf
  have hio:=wo off i 3
  have hi1:0+Int.toNat (i:Int)*1=i:=by simp
  have hB:=fSize_spec X f.kind
  have hS:startsAt 0 (fs.take (i+1))=startsAt 0 (fs.take i)++[roundUp (endAt 0 (fs.take i)) f.w]:=by rw [take_snoc hf,starts_snoc]
  have hA:endAt 0 (fs.take (i+1))=roundUp (endAt 0 (fs.take i)) f.w+f.w*f.n:=by rw [take_snoc hf,end_snoc]
  have hG:greatW (fs.take (i+1))=max (greatW (fs.take i)) f.w:=by rw [take_snoc hf,great_snoc]
  obtain ⟨hw,hn1,hn8,hnc⟩:=ok_w (List.all_eq_true.1 hall f (dA hf))
  have hM:=multipleFrom_spec X (endAt 0 (fs.take i)) f.w hw V3
  have hR:=round_facts hw (endAt 0 (fs.take i))
  have hwk:kW f.kind=f.w:=rfl
  rw [hwk] at hB
  have hw8:1≤f.w∧f.w≤8:=by rcases hw with e|e|e|e<;>omega
  have hwn:f.w*f.n≤64:=Nat.le_trans (Nat.mul_le_mul hw8.2 hn8) V11
  have hfc:f.vals.map CV.val=[.val (.string ⟨f.nm.toArray⟩),.val (.int .i64 f.kind),.val (.int .i64 (f.n:Nat))]:=by rw [hnc];rfl
  rw [hfc] at hcells
  generalize startsAt 0 (fs.take i)=S at *
  generalize endAt 0 (fs.take i)=a at *
  generalize greatW (fs.take i)=g at *
  generalize f.w=w at *
  generalize f.n=n at *
  generalize hT:roundUp a w=T at *
  have hnS:(ntV S).length=i:=by simp [ntV,hSl]
  have hlt2:Nat.blt i (((ntV S++List.replicate (fs.length-i) (Value.int .i64 0)).map CV.val).length)=true:=by rw [Nat.blt_eq,cU,cT,hnS,dB];omega
  have hset:((ntV S++List.replicate (fs.length-i) (Value.int .i64 0)).map CV.val).set i (.val (.int .i64 (T:Nat)))=(ntV (S++[T])++List.replicate (fs.length-(i+1)) (Value.int .i64 0)).map CV.val:=by
   rw [← List.map_set,fill_set hnS hlt];simp [ntV]
  have hget:((ntV (S++[T])++List.replicate (fs.length-(i+1)) (Value.int .i64 0)).map CV.val)[i]? = some (.val (.int .i64 (T:Nat))):=by
   rw [dI,show ntV (S++[T])=ntV S++[.int .i64 (T:Nat)] by simp [ntV],fill_at hnS];rfl
  have hmul:IntKind.i64.wrap (((w:Nat):Int)*((n:Nat):Int))=((w*n:Nat):Int):=by rw [← Int.natCast_mul,cF V3]
  have hadd:IntKind.i64.wrap (((T:Nat):Int)+((w*n:Nat):Int))=((T+w*n:Nat):Int):=by rw [cF V3];omega
  have hmx:(if ((w:Nat):Int)>((g:Nat):Int) then ((w:Nat):Int) else ((g:Nat):Int))=((max g w:Nat):Int):=by split<;>omega
  (refine U33 ?_;refine bG O O O O hlt2 hset dO ?_;refine U2 ?_;refine rgD mixed ?_;refine U7 ?_;refine bL O O hmul dO ?_;refine U7 ?_;refine K.max2 O O hmx dO ?_;refine U6 ?_)
  exact ⟨_,_,by omega,Le.of (by exact ⟨rfl,rfl,by rw [hA];rfl,by rw [hG];rfl,rfl,rfl,rfl,trivial⟩) (by exact ⟨rfl,by rw [hS];rfl,trivial⟩) V2 V2 V0,i+1,by omega,rfl,rfl⟩
 ·have e:i=fs.length:=by omega
  subst e
  rw [dC] at *
  have hM:=multipleFrom_spec X (endAt 0 fs) (greatW fs) hgw V3
  rw [show roundUp (endAt 0 fs) (greatW fs)=rowSize fs from rfl] at hM
  unfold ofR ofBx
  rw [hle]
  have hz:(ntV (startsAt 0 fs)++List.replicate (fs.length-fs.length) (Value.int .i64 0)).map CV.val=(ntV (startsAt 0 fs)).map CV.val:=by rw [Nat.sub_self,List.replicate_zero,dG]
  rw [hz]
  have hT:rowSize fs<1000000:=by
   have h1:=round_facts hgw (endAt 0 fs)
   have h2:greatW fs≤8:=by rcases hgw with e|e|e|e<;>omega
   have h3:rowSize fs=roundUp (endAt 0 fs) (greatW fs):=rfl
   omega
  generalize rowSize fs=T at *
  by_cases h256:256<T
  ·rw [if_pos h256,if_neg V11,if_neg V11]
   (refine U18 ?_;refine aS O O (cM V3) dO ?_;refine U4 ?_;refine aT O O V2 V1C dO ?_;refine U4 ?_)
   exact ⟨[],⟨[_,_],⟨⟨_,_,O,O,O,.inl ⟨AggT.h,O⟩⟩,O,trivial⟩,O⟩,trivial,O,O⟩
  ·rw [if_neg h256,if_pos rfl,if_pos rfl]
   (refine U26 ?_;refine aT O O V2 V1C dO ?_;refine U4 ?_)
   exact ⟨[(1000001,17)],⟨[_,_],⟨⟨_,_,O,O,O,.inl ⟨AggT.h,O⟩⟩,O,trivial⟩,O⟩,V1,O,O⟩
end Go.Proofs.YtbpdbclndfmcgaaGreatDoor
end
section
set_option maxHeartbeats 12800000
set_option maxRecDepth 100000
namespace Go.Lg.Fld
open Go Go.Lg
theorem elVs_fit {l:List (Int×Nat)} {i:Nat} {e:Int×Nat} (h:l[i]? = some e):Nat.ble (i*2+2) ((elVs l).map CV.val).length=true:=by
 have:=(wl h)
 rw [Nat.ble_eq,cU,elVs_len];omega
theorem elVs_row {l:List (Int×Nat)} {i:Nat} {e:Int×Nat} (h:l[i]? = some e):(((elVs l).map CV.val).drop (i*2)).take 2=[.val (.int .i64 e.1),.val (.int .i64 (e.2:Nat))]:=by
 obtain ⟨h1,h2⟩:=elVs_at h
 rw [drop_at h1,List.take_succ_cons,drop_at h2]
 rfl
end Go.Lg.Fld
namespace Go.Proofs.YtbpdbclndfmcgaaGreatDoor
open Go Go.Lg Go.Lg.Fld
set_option maxRecDepth 100000
variable (X:Nat→Option Obj)
theorem Of_err (ad:Option Addr) (cap:Nat) (fs:List Fl) (hin:FieldsIn X ad fs) (hbig:fs.length<4611686018427387904) (h:layErr fs≠0):
  PSpec Tryz.prog X 39 [Lx ad fs.length cap] (.tup [planV 0 (.val (.slice none 0 0)),Sn .i64 (layErr fs)]):=by
 cases hc:canB fs with
 | false=>rw [canB_err hc];exact Of_no X ad cap fs hin hbig hc
 | true =>
  have:=Of_can X ad cap fs hin hbig hc
  unfold ofR ofBx at this
  rw [if_neg h,if_neg h] at this
  exact this.plain
theorem Of_ok (ad:Option Addr) (cap:Nat) (fs:List Fl) (hin:FieldsIn X ad fs) (hbig:fs.length<4611686018427387904) (h:layErr fs=0):
  MSpec Tryz.prog X 39 [Lx ad fs.length cap] [] (.tup [planV (rowSize fs:Nat) (.slc 1000001 0 fs.length 1),Sn .i64 0]) [(1000001,some ⟨3,(ntV (startsAt 0 fs)).map .val,false⟩)]:=by
 cases hc:canB fs with
 | false=>rw [canB_err hc] at h;exact absurd h V11
 | true =>
  have:=Of_can X ad cap fs hin hbig hc
  unfold ofR ofBx at this
  rw [if_pos h,if_pos h] at this
  exact this
theorem Check_spec (ad:Option Addr) (cap:Nat) (fs:List Fl) (hin:FieldsIn X ad fs) (hbig:fs.length<4611686018427387904):PSpec Tryz.prog X 95 [Lx ad fs.length cap] (Ln .i64 (layErr fs)):=by
 refine cD Tryz.func95 rfl V5 rfl rfl ?_
 intro C
 by_cases h:layErr fs=0
 ·have hO:=Of_ok X ad cap fs hin hbig h
  rw [h]
  generalize rowSize fs=T at *
  generalize startsAt 0 fs=S at *
  (refine U7 ?_;refine bE [(1000001,501)] (.tup [planV (T:Nat) (.slc 501 0 fs.length 1),Sn .i64 0]) [(501,some ⟨3,(ntV S).map .val,false⟩)] (hO) O O V15 O O O O O V18 dO ?_;refine U13 ?_)
  exact V6
 ·have hO:=Of_err X ad cap fs hin hbig h
  generalize layErr fs=e at *
  refine U21 ?_
  exact V6
theorem zeroNums (n:Nat):(List.replicate n (nmV (qn 0))).flatten=nsV (List.replicate n 0):=by
 unfold nsV
 rw [List.map_replicate]
theorem starts_at:∀ {l:List Fl} {a i:Nat} {f:Fl},l[i]? = some f→(startsAt a l)[i]? = some (roundUp (endAt a (l.take i)) f.w)
 | [],_,i,f,h=>by simp at h
 | g::t,a,0,f,h=>by
  simp only [List.getElem?_cons_zero,Option.some.injEq] at h
  subst h;rfl
 | g::t,a,i+1,f,h=>by
  have:=starts_at (l:=t) (a:=roundUp a g.w+g.w*g.n) (i:=i) (f:=f) V29
  simpa [startsAt,endAt] using this
set_option maxHeartbeats 3200000 in
theorem slotsOf_spec (ad:Option Addr) (cap:Nat) (fs:List Fl) (T:Nat) (hin:FieldsIn X ad fs) (h8:fs.length≤8) (hall:fs.all Fl.ok=true):
  MSpec Tryz.prog X 83 [Lx ad fs.length cap,.sv (planV (T:Nat) (.slc 1000001 0 fs.length 1))] [(1000001,some ⟨3,(ntV (startsAt 0 fs)).map .val,false⟩)] (.sv (.one (.slc 1000002 0 (elemsAt 0 fs).length 2)))
   [(1000001,some ⟨3,(ntV (startsAt 0 fs)).map .val,false⟩),(1000002,some ⟨155,(elVs (elemsAt 0 fs)).map .val,Nat.blt 0 (elemsAt 0 fs).length⟩)]:=by
 have hst:∀ {i:Nat} {f:Fl},fs[i]? = some f→(startsAt 0 fs)[i]? = some (roundUp (endAt 0 (fs.take i)) f.w):=fun h=>starts_at h
 refine cE Tryz.func83 rfl V5 rfl rfl V4 rfl rfl ?_
 intro C
 generalize startsAt 0 fs=S at *
 (refine U7 ?_;refine aZ (zs:=[]) (sz:=2) (e:=155) V5 O O O O O O dO ?_;refine U10 ?_)
 refine cH (fun m σ=>∃ i:Nat,i≤fs.length∧m=fs.length-i∧σ=⟨[(3,.sv (.one (.ptr 3 0))),(5,.sv (.one (.slc 500 0 (elemsAt 0 (fs.take i)).length 2))),(10,Lx ad fs.length cap),(11,Ln .i64 (fs.length:Nat)),(12,Ln .i64 (i:Nat))],[(1000001,some ⟨3,(ntV S).map .val,false⟩),(3,some ⟨94,[.val (.int .i64 (T:Nat)),.slc 1000001 0 fs.length 1],false⟩),(500,some ⟨155,(elVs (elemsAt 0 (fs.take i))).map .val,Nat.blt 0 (elemsAt 0 (fs.take i)).length⟩)],X⟩) fs.length
  ⟨_,Le.ofR [(500,9)] V12 V1 V2 V2 V0 V2 V2,0,by omega,by omega,rfl⟩ ?_
 rintro m σ ⟨i,hi,rfl,rfl⟩
 have ht:=take_ok hall i
 have hend:=end_le (fs.take i) 0 ht
 have hEl:=elems_len (fs.take i) 0 ht
 have htl:(fs.take i).length=i:=by rw [cX];omega
 rw [htl] at hend hEl
 by_cases hlt:i<fs.length
 ·obtain ⟨f,hf⟩:=wg hlt
  obtain ⟨blk,off,arr,el,fr,rfl,hX,hsz,hcells⟩:=hin.at hf
  have hio:=wo off i 3
  have hi1:0+Int.toNat (i:Int)*1=i:=by simp
  have hB:=fSize_spec X f.kind
  obtain ⟨hw,hn1,hn8,hnc⟩:=ok_w (List.all_eq_true.1 hall f (dA hf))
  have hR:=round_facts hw (endAt 0 (fs.take i))
  have hwk:kW f.kind=f.w:=rfl
  rw [hwk] at hB
  have hw8:1≤f.w∧f.w≤8:=by rcases hw with e|e|e|e<;>omega
  have hE:elemsAt 0 (fs.take (i+1))=elemsAt 0 (fs.take i)++(List.range f.n).map (fun j=>(f.kind,roundUp (endAt 0 (fs.take i)) f.w+f.w*j)):=by rw [take_snoc hf,elems_snoc]
  have hfc:f.vals.map CV.val=[.val (.string ⟨f.nm.toArray⟩),.val (.int .i64 f.kind),.val (.int .i64 (f.n:Nat))]:=by rw [hnc];rfl
  rw [hfc] at hcells
  have hgetS:((ntV S).map CV.val)[i]? = some (.val (.int .i64 (roundUp (endAt 0 (fs.take i)) f.w:Nat))):=by
   rw [dI,show ntV S=S.map (fun n:Nat=>Value.int .i64 (n:Nat)) from rfl,dI,hst hf];rfl
  generalize elemsAt 0 (fs.take i)=E at *
  generalize hT:roundUp (endAt 0 (fs.take i)) f.w=b at *
  generalize endAt 0 (fs.take i)=a at *
  generalize f.w=w at *
  generalize f.n=n at *
  refine U25 ?_
  refine cH (fun m σ=>∃ j:Nat,j≤n∧m=n-j∧σ=⟨[(3,.sv (.one (.ptr 3 0))),(5,.sv (.one (.slc 500 0 (E.length+j) 2))),(6,Ln .i64 (i:Nat)),(7,.sv (.one (.ptr 7 0))),(10,Lx (some ⟨blk,off,none⟩) fs.length cap),(11,Ln .i64 (fs.length:Nat)),(12,Ln .i64 (i:Nat)),(18,Ln .i64 (n:Nat)),(19,Ln .i64 (j:Nat))],[(1000001,some ⟨3,(ntV S).map .val,false⟩),(3,some ⟨94,[.val (.int .i64 (T:Nat)),.slc 1000001 0 fs.length 1],false⟩),(500,some ⟨155,(elVs (E++(List.range j).map (fun q=>(f.kind,b+w*q)))).map .val,Nat.blt 0 (E.length+j)⟩),(7,some ⟨125,[.val (.string ⟨f.nm.toArray⟩),.val (.int .i64 f.kind),.val (.int .i64 (n:Nat))],false⟩)],X⟩) n
   ⟨_,Le.ofR [] V21 (by rw [List.range_zero,List.map_nil,dG];exact V1) V2 V2 V0 V2 V2,0,by omega,rfl,rfl⟩ ?_
  rintro m σ ⟨j,hj,rfl,rfl⟩
  have hwj:w*j≤64:=Nat.le_trans (Nat.mul_le_mul hw8.2 (Nat.le_trans hj hn8)) V11
  by_cases hjn:j<n
  ·have hrg:(List.range (j+1)).map (fun q=>(f.kind,b+w*q))=(List.range j).map (fun q=>(f.kind,b+w*q))++[(f.kind,b+w*j)]:=by rw [List.range_succ,dE];rfl
   have hcl2:((elVs (E++(List.range j).map (fun q=>(f.kind,b+w*q)))).map CV.val).length=(E.length+j)*2:=by rw [cU,elVs_len];simp
   have hnc2:(elVs (E++(List.range j).map (fun q=>(f.kind,b+w*q)))).map CV.val++[.val (.int .i64 f.kind),.val (.int .i64 (b+w*j:Nat))]=(elVs (E++(List.range (j+1)).map (fun q=>(f.kind,b+w*q)))).map CV.val:=by
    rw [hrg,← dJ,elVs_app (E++_) [_],dE]
    rfl
   have hmul:IntKind.i64.wrap (((j:Nat):Int)*((w:Nat):Int))=((w*j:Nat):Int):=by rw [← Int.natCast_mul,Nat.mul_comm,cF V3]
   have hadd:IntKind.i64.wrap (((b:Nat):Int)+((w*j:Nat):Int))=((b+w*j:Nat):Int):=by rw [cF V3];omega
   (refine U14 ?_;refine rgD mixed ?_;refine U12 ?_;refine bL O O hmul dO ?_;refine U1 ?_;refine aT O O V2 V1C dO ?_;refine aZ (zs:=[.int .i64 0,.int .i64 0]) (sz:=2) (e:=155) V5 O O O O O O dO<|bP (by_:=16) (e2:=155) (l2:=[.val (.int .i64 f.kind),.val (.int .i64 (b+w*j:Nat))]) (nl:=E.length+(j+1)) O O hcl2 O O (dK _) O O V5 V5 V3 V3 O O hnc2 dO ?_;refine U7 ?_)
   exact ⟨_,_,by omega,Le.ofR [(500,38)] V21 V1 V2 V2 V0 V2 V2,j+1,by omega,O,O⟩
  ·have e:j=n:=by omega
   subst e
   have hEn:(E++(List.range j).map (fun q=>(f.kind,b+w*q))).length=E.length+j:=by simp
   refine U11 ?_
   exact ⟨_,_,by omega,Le.ofR [] (by exact ⟨rfl,by rw [hE,hEn];rfl,rfl,rfl,rfl,trivial⟩) (by rw [hE,hEn];exact V1) V2 V2 V0 V2 V2,i+1,by omega,rfl,rfl⟩
 ·have e:i=fs.length:=by omega
  subst e
  rw [dC] at *
  generalize elemsAt 0 fs=E at *
  refine U13 ?_
  exact ⟨[(1000002,500)],⟨[_],⟨O,trivial⟩,O⟩,V1,O,O⟩
theorem slotEnd_spec (k:Int) (at_:Nat) (ha:at_<1000000):PSpec Tryz.prog X 109 [.sv (.agg [.val (.int .i64 k),.val (.int .i64 (at_:Nat))])] (Ln .i64 (at_+kW k:Nat)):=by
 have hB:=fSize_spec X k
 have hw8:=(kfacts k).2.2.2.2
 have hadd:IntKind.i64.wrap (((at_:Nat):Int)+((kW k:Nat):Int))=((at_+kW k:Nat):Int):=by rw [cF V3];omega
 refine cD Tryz.func109 rfl V5 rfl rfl ?_
 intro C
 (refine U6 ?_;refine rgD mixed ?_;refine U10 ?_)
 exact V6
end Go.Proofs.YtbpdbclndfmcgaaGreatDoor
end
section
set_option maxHeartbeats 12800000
set_option maxRecDepth 100000
namespace Go.Lg.Fld
open Go Go.Lg
theorem splice_bc (B s:List UInt8) (p:Nat):splice (B.map bc) p (s.map bc)=(setAt B p s).map bc:=by
 unfold splice setAt
 simp [List.map_take,List.map_drop]
end Go.Lg.Fld
namespace Go.Proofs.YtbpdbclndfmcgaaGreatDoor
open Go Go.Lg Go.Lg.Fld
set_option maxRecDepth 100000
variable (X:Nat→Option Obj)
set_option maxHeartbeats 1600000 in
theorem lFit_any (ad ad2:Option Addr) (cap cap2:Nat) (fs:List Fl) (ns:List (Bool×Int)) (hin:FieldsIn X ad fs) (hbig:fs.length<4611686018427387904) (hns:NumsIn X ad2 ns):
  PSpec Tryz.prog X 82 [Lx ad fs.length cap,Lx ad2 ns.length cap2] (Ln .i64 (fitErr fs ns)):=by
 refine cD Tryz.func82 rfl V5 rfl rfl ?_
 intro C
 unfold fitErr
 by_cases hl:layErr fs=0
 ·have hO:=Of_ok X ad cap fs hin hbig hl
  obtain ⟨h8,hall,_⟩:=layErr_facts hl
  have hSl:=slotsOf_spec X ad cap fs (rowSize fs) hin h8 hall
  have hEl:=elems_len fs 0 hall
  rw [if_pos hl]
  generalize elemsAt 0 fs=E at *
  generalize startsAt 0 fs=S at *
  generalize rowSize fs=T at *
  by_cases hn:E.length=ns.length
  ·rw [if_pos hn]
   (refine U7 ?_;refine bE [(1000001,501)] (.tup [planV (T:Nat) (.slc 501 0 fs.length 1),Sn .i64 0]) [(501,some ⟨3,(ntV S).map .val,false⟩)] (hO) O O V15 O O O O O V18 dO ?_;refine U19 ?_;refine bE [(1000001,501),(1000002,502)] (.sv (.one (.slc 502 0 E.length 2))) [(501,some ⟨3,(ntV S).map .val,false⟩),(502,some ⟨155,(elVs E).map .val,Nat.blt 0 E.length⟩)] (hSl) O O (by exact (cN ⟨_,O,(bX _ _ _ _)⟩ trivial)) (by exact (bS bT O)) O O O O V1B dO ?_;refine U21 ?_)
   refine cH (fun m σ=>∃ i:Nat,i≤E.length∧m=E.length-i∧((E.zip ns).take i).all (fun p=>fitB p.1.1 p.2.1 p.2.2)=true∧σ=⟨[(1,Lx ad2 ns.length cap2),(26,.sv (.one (.slc 502 0 E.length 2))),(27,Ln .i64 (E.length:Nat)),(28,Ln .i64 (i:Nat))],[(502,some ⟨155,(elVs E).map .val,Nat.blt 0 E.length⟩)],X⟩) E.length
    ⟨_,Le.of VD VF V2 V2 V0,0,by omega,rfl,rfl,rfl⟩ ?_
   rintro m σ ⟨i,hi,rfl,hpre,rfl⟩
   by_cases hlt:i<E.length
   ·obtain ⟨e,he⟩:=wg hlt
    obtain ⟨⟨b,N⟩,hv⟩:∃ v,ns[i]? = some v:=wg V3
    obtain ⟨hN,blk,off,arr,el,fr,rfl,hX,hsz,hcells⟩:=hns.at hv
    have hio:=wo off i 3
    have hie:0+Int.toNat (i:Int)*2=i*2:=by simp
    have hc:=elVs_row he
    have hbl:=elVs_fit he
    have hzip:=zip_at he hv
    have hF:=Fits_spec X e.1 b N hN
    cases hf:fitB e.1 b N with
    | true =>
     have hF':=hF true hf
     (refine U13 ?_;refine bJ O O hbl hc dO ?_;refine U5 ?_;refine rgD mixed ?_;refine U16 ?_)
     exact ⟨_,_,by omega,Le.of VD VF V2 V2 V0,i+1,by omega,rfl,by rw [take_snoc hzip,List.all_append,hpre];simp [hf],rfl⟩
    | false =>
     have hF':=hF false hf
     have hno:fitAll E ns=false:=by
      unfold fitAll
      cases h:(E.zip ns).all (fun p=>fitB p.1.1 p.2.1 p.2.2) with
      | false=>rfl
      | true=>have:=List.all_eq_true.1 h _ (dA hzip);rw [hf] at this;cases this
     rw [hno]
     (refine U13 ?_;refine bJ O O hbl hc dO ?_;refine U5 ?_;refine rgD mixed ?_;refine U16 ?_)
     exact V6
   ·have e:i=E.length:=by omega
    subst e
    have hyes:fitAll E ns=true:=by
     rw [List.take_of_length_le (by rw [List.length_zip];omega)] at hpre
     exact hpre
    rw [hyes]
    refine U12 ?_
    exact V6
  ·rw [if_neg hn]
   (refine U7 ?_;refine bE [(1000001,501)] (.tup [planV (T:Nat) (.slc 501 0 fs.length 1),Sn .i64 0]) [(501,some ⟨3,(ntV S).map .val,false⟩)] (hO) O O V15 O O O O O V18 dO ?_;refine U19 ?_;refine bE [(1000001,501),(1000002,502)] (.sv (.one (.slc 502 0 E.length 2))) [(501,some ⟨3,(ntV S).map .val,false⟩),(502,some ⟨155,(elVs E).map .val,Nat.blt 0 E.length⟩)] (hSl) O O (by exact (cN ⟨_,O,(bX _ _ _ _)⟩ trivial)) (by exact (bS bT O)) O O O O V1B dO ?_;refine U17 ?_)
   exact V6
 ·have hO:=Of_err X ad cap fs hin hbig hl
  rw [if_neg hl]
  generalize layErr fs=e at *
  refine U28 ?_
  exact V6
theorem lFit_spec (ad ad2:Option Addr) (cap cap2:Nat) (fs:List Fl) (ns:List (Bool×Int)) (hin:FieldsIn X ad fs) (hbig:fs.length<4611686018427387904) (hns:NumsIn X ad2 ns) (_:ns.length<4611686018427387904):
  PSpec Tryz.prog X 82 [Lx ad fs.length cap,Lx ad2 ns.length cap2] (Ln .i64 (fitErr fs ns)):=lFit_any X ad ad2 cap cap2 fs ns hin hbig hns
def packR (fs:List Fl) (ns:List (Bool×Int)):List UInt8:=if fitErr fs ns=0 then packB fs ns else []
set_option maxHeartbeats 1600000 in
theorem lPack_spec (ad ad2:Option Addr) (cap cap2:Nat) (fs:List Fl) (ns:List (Bool×Int)) (hin:FieldsIn X ad fs) (hbig:fs.length<4611686018427387904) (hns:NumsIn X ad2 ns) (hnb:ns.length<4611686018427387904):
  PSpec Tryz.prog X 46 [Lx ad fs.length cap,Lx ad2 ns.length cap2] (.tup [Ss (packR fs ns),Sn .i64 (fitErr fs ns)]):=by
 have hFit:=lFit_spec X ad ad2 cap cap2 fs ns hin hbig hns hnb
 refine cD Tryz.func46 rfl V5 rfl rfl ?_
 intro C
 unfold packR
 by_cases h:fitErr fs ns=0
 ·rw [if_pos h,h]
  rw [h] at hFit
  obtain ⟨hl,hn,hfit⟩:=fitErr_facts h
  have hO:=Of_ok X ad cap fs hin hbig hl
  obtain ⟨h8,hall,hT⟩:=layErr_facts hl
  have hSl:=slotsOf_spec X ad cap fs (rowSize fs) hin h8 hall
  have hW:=within_row hall
  have hEl:=elems_len fs 0 hall
  unfold packB
  generalize elemsAt 0 fs=E at *
  generalize startsAt 0 fs=S at *
  generalize rowSize fs=T at *
  have hmk:slcBuild Tryz.prog 151 T=some (List.replicate T (.int .u8 0),1,5):=slcBuild_one V5 V5 V3
  have hz0:(List.replicate T (Value.int .u8 0)).map CV.val=(List.replicate T (0:UInt8)).map bc:=by rw [List.map_replicate,List.map_replicate];rfl
  (refine U23 ?_;refine bE [(1000001,501)] (.tup [planV (T:Nat) (.slc 501 0 fs.length 1),Sn .i64 0]) [(501,some ⟨3,(ntV S).map .val,false⟩)] (hO) O O V15 O O O O O V18 dO ?_;refine U11 ?_;refine K.makeSlc (m:=T) (bytes:=1) O O hmk V5 V3 hz0 O dO ?_;refine U7 ?_;refine bE [(1000001,501),(1000002,502)] (.sv (.one (.slc 502 0 E.length 2))) [(501,some ⟨3,(ntV S).map .val,false⟩),(502,some ⟨155,(elVs E).map .val,Nat.blt 0 E.length⟩)] (hSl) O O (by exact (cN ⟨_,O,(bX _ _ _ _)⟩ trivial)) (by exact (bS bT O)) O O O O V1B dO ?_;refine U4 ?_)
  refine cH (fun m σ=>∃ i:Nat,i≤E.length∧m=E.length-i∧σ=⟨[(1,Lx ad2 ns.length cap2),(9,.sv (.one (.slc 500 0 T 1))),(30,.sv (.one (.slc 502 0 E.length 2))),(31,Ln .i64 (E.length:Nat)),(32,Ln .i64 (i:Nat))],[(502,some ⟨155,(elVs E).map .val,Nat.blt 0 E.length⟩),(500,some ⟨5,(packE (E.take i) (ns.take i) (List.replicate T 0)).map bc,false⟩)],X⟩) E.length
   ⟨_,Le.ofR [(500,27)] V12 V1 V2 V2 V0 V2 V2,0,by omega,rfl,rfl⟩ ?_
  rintro m σ ⟨i,hi,rfl,rfl⟩
  have hbl:(packE (E.take i) (ns.take i) (List.replicate T 0)).length=T:=packE_len (fun e he=>hW e (List.mem_of_mem_take he)) (by rw [dB])
  by_cases hlt:i<E.length
  ·obtain ⟨e,he⟩:=wg hlt
   obtain ⟨⟨b,N⟩,hv⟩:∃ v,ns[i]? = some v:=wg V3
   obtain ⟨hN,blk,off,arr,el,fr,rfl,hX,hsz,hcells⟩:=hns.at hv
   have hio:=wo off i 3
   have hie:0+Int.toNat (i:Int)*2=i*2:=by simp
   have hc:=elVs_row he
   have hbf:=elVs_fit he
   obtain ⟨g1,g2,g3⟩:=fitAll_at hfit he hv
   have hP:=Put_q X e.1 (zv b N) g2 g3
   rw [← LI_q hN g1] at hP
   have hnext:packE (E.take (i+1)) (ns.take (i+1)) (List.replicate T 0)=setAt (packE (E.take i) (ns.take i) (List.replicate T 0)) e.2 (numB e.1 (b,N)):=by
    rw [take_snoc he,take_snoc hv,packE_snoc]
    rw [cX,cX];omega
   have hWe:=(hW e (dA he)).2
   have hw1:1≤kW e.1:=by rcases kW_in g2 with x|x|x|x<;>omega
   have hsl:(leB (kW e.1) (wdK e.1 (zv b N))).length=kW e.1:=leB_length _ _
   have hnb2:numB e.1 (b,N)=leB (kW e.1) (wdK e.1 (zv b N)):=rfl
   rw [hnb2] at hnext
   have hw8:=(kfacts e.1).2.2.2.2
   have hspl:=splice_bc (packE (E.take i) (ns.take i) (List.replicate T 0)) (leB (kW e.1) (wdK e.1 (zv b N))) e.2
   rw [← hnext] at hspl
   generalize leB (kW e.1) (wdK e.1 (zv b N))=s at *
   generalize packE (E.take i) (ns.take i) (List.replicate T 0)=B at *
   (refine U13 ?_;refine bJ O O hbf hc dO ?_;refine U5 ?_;refine rgD mixed ?_;refine U18 ?_;refine K.fromSlc (l:=e.2) (kh:=.i64) (off':=e.2) O O bZ V3 V3 O dO ?_;refine kmv O<|K.copyStr (e:=5) O O O V5 V5 V3 V26 O hspl dO ?_;refine U5 ?_)
   exact ⟨_,_,by omega,Le.of V12 VA V2 V2 V0,i+1,by omega,O,O⟩
  ·have e:i=E.length:=by omega
   subst e
   rw [dC,List.take_of_length_le (Nat.le_of_eq hn.symm)] at *
   generalize packE E ns (List.replicate T 0)=B at *
   have hlen:0+T≤(B.map bc).length:=by rw [cU];omega
   have hcut:((B.map bc).drop 0).take T=B.map bc:=by rw [List.drop_zero,List.take_of_length_le V26]
   (refine U10 ?_;refine bR O O V5 StrT.u hlen hcut dO ?_;refine U4 ?_)
   exact V1A
 ·rw [if_neg h]
  generalize fitErr fs ns=e at *
  refine U26 ?_
  exact V1A
end Go.Proofs.YtbpdbclndfmcgaaGreatDoor
end
