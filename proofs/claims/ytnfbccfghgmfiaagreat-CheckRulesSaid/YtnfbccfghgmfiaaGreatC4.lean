/- A piece of a proof over this program: contracts of its functions, and a logic to prove them by. -/
import Derived.Test.YtnfbccfghgmfiaaGreatC2
import Derived.Test.YtnfbccfghgmfiaaGreatC3
import Derived.Lib.TrimByte
import Derived.Test.YtnfbccfghgmfiaaGreatRows
import Derived.Lib.ItoaNum
import Derived.Lib.ItoaLen
import Derived.Shelf.Small.Bits
import Derived.Shelf.Strconv.Itoa0
import Derived.Shelf.Bits.Mul64
import Derived.Test.YtnfbccfghgmfiaaGreatProg
section
namespace Go.Lg.Fld
open Go Go.Lg
def kN (k:Int):List UInt8:=if k=1 then [98,111,111,108] else if k=2 then [105,56] else if k=3 then [105,49,54] else if k=4 then [105,51,50] else if k=5 then [105,54,52] else if k=6 then [117,56] else if k=7 then [117,49,54] else if k=8 then [117,51,50] else if k=9 then [117,54,52] else if k=10 then [114,101,102] else []
def kW (k:Int):Nat:=if k=1 then 1 else if k=2 then 1 else if k=3 then 2 else if k=4 then 4 else if k=5 then 8 else if k=6 then 1 else if k=7 then 2 else if k=8 then 4 else if k=9 then 8 else if k=10 then 8 else 0
def kB (k:Int):Int:=if k=1 then 0 else if k=2 then 128 else if k=3 then 32768 else if k=4 then 2147483648 else if k=5 then 9223372036854775808 else if k=6 then 0 else if k=7 then 0 else if k=8 then 0 else if k=9 then 0 else if k=10 then 0 else 0
def kA (k:Int):Int:=if k=1 then 1 else if k=2 then 127 else if k=3 then 32767 else if k=4 then 2147483647 else if k=5 then 9223372036854775807 else if k=6 then 255 else if k=7 then 65535 else if k=8 then 4294967295 else if k=9 then 18446744073709551615 else if k=10 then 18446744073709551615 else 0
def kK (k:Int):Bool:=decide (1≤k)&&decide (k≤10)
theorem kcases (k:Int):k=1∨k=2∨k=3∨k=4∨k=5∨k=6∨k=7∨k=8∨k=9∨k=10∨(k<1∨10<k):=by omega
theorem kin {k:Int} (h:kK k=true):k=1∨k=2∨k=3∨k=4∨k=5∨k=6∨k=7∨k=8∨k=9∨k=10:=by
  simp only [kK,Bool.and_eq_true,decide_eq_true_eq] at h;omega
theorem knot {k:Int} (h:kK k=false):k<1∨10<k:=by
  by_cases h1:1≤k<;>by_cases h2:k≤10<;>first|omega|(rw [kK,cK h1,cK h2] at h;cases h)
theorem kN_no {k:Int} (h:k<1∨10<k):kN k=[]:=by
  unfold kN
  rw [if_neg (show ¬ k=1 by omega),if_neg (show ¬ k=2 by omega),if_neg (show ¬ k=3 by omega),if_neg (show ¬ k=4 by omega),if_neg (show ¬ k=5 by omega),if_neg (show ¬ k=6 by omega),if_neg (show ¬ k=7 by omega),if_neg (show ¬ k=8 by omega),if_neg (show ¬ k=9 by omega),if_neg (show ¬ k=10 by omega)]
theorem kW_no {k:Int} (h:k<1∨10<k):kW k=0:=by
  unfold kW
  rw [if_neg (show ¬ k=1 by omega),if_neg (show ¬ k=2 by omega),if_neg (show ¬ k=3 by omega),if_neg (show ¬ k=4 by omega),if_neg (show ¬ k=5 by omega),if_neg (show ¬ k=6 by omega),if_neg (show ¬ k=7 by omega),if_neg (show ¬ k=8 by omega),if_neg (show ¬ k=9 by omega),if_neg (show ¬ k=10 by omega)]
theorem kB_no {k:Int} (h:k<1∨10<k):kB k=0:=by
  unfold kB
  rw [if_neg (show ¬ k=1 by omega),if_neg (show ¬ k=2 by omega),if_neg (show ¬ k=3 by omega),if_neg (show ¬ k=4 by omega),if_neg (show ¬ k=5 by omega),if_neg (show ¬ k=6 by omega),if_neg (show ¬ k=7 by omega),if_neg (show ¬ k=8 by omega),if_neg (show ¬ k=9 by omega),if_neg (show ¬ k=10 by omega)]
theorem kA_no {k:Int} (h:k<1∨10<k):kA k=0:=by
  unfold kA
  rw [if_neg (show ¬ k=1 by omega),if_neg (show ¬ k=2 by omega),if_neg (show ¬ k=3 by omega),if_neg (show ¬ k=4 by omega),if_neg (show ¬ k=5 by omega),if_neg (show ¬ k=6 by omega),if_neg (show ¬ k=7 by omega),if_neg (show ¬ k=8 by omega),if_neg (show ¬ k=9 by omega),if_neg (show ¬ k=10 by omega)]
theorem kW_in {k:Int} (h:kK k=true):kW k=1∨kW k=2∨kW k=4∨kW k=8:=by
  rcases kin h with rfl|rfl|rfl|rfl|rfl|rfl|rfl|rfl|rfl|rfl<;>decide
theorem kW_zero (k:Int):kW k=0↔kK k=false:=by
  cases h:kK k with
  | false=>simp [kW_no (knot h)]
  | true=>rcases kW_in h with e|e|e|e<;>simp [e]
end Go.Lg.Fld
namespace Go.Proofs.YtnfbccfghgmfiaaGreat
open Go Go.Lg Go.Lg.Fld
set_option maxRecDepth 100000
variable (X:Nat→Option Obj)
theorem shapeOf_spec (k:Int):PSpec Tryz.prog X 113 [Ln .i64 k] (.sv (.agg [.val (.string ⟨(kN k).toArray⟩),.val (.int .i64 (kW k:Nat)),.val (.int .u64 (kB k)),.val (.int .u64 (kA k))])):=by
  refine cB Tryz.func113 rfl (by kernel_rfl) rfl rfl ?_
  intro C
  rcases kcases k with rfl|rfl|rfl|rfl|rfl|rfl|rfl|rfl|rfl|rfl|h
  · (refine aA<|rgN<|aP O dM ?_;refine aB<|aA<|aA<|rgN<|kmv O<|aB<|aG<|aA<|rgN<|keq O O (cP (by omega))<|kas O<|aB<|aE O ?_;refine aA<|rgN<|aT O O (by exact O) (by exact nl4 O O O O O) dM ?_;refine aM O O O O O O dM ?_;refine aB<|aI ?_)
    exact ⟨[_],⟨⟨_,_,O,O,O,.inl ⟨AggT.h,O⟩⟩,trivial⟩,O⟩
  · (refine aA<|rgN<|aP O dM ?_;refine aB<|aA<|aA<|rgN<|kmv O<|aB<|aG<|aA<|rgN<|keq O O (cM (by omega))<|kas O<|aB<|aF O ?_;refine aA<|rgN<|keq O O (cP (by omega))<|kas O<|aB<|aE O ?_;refine aA<|rgN<|aT O O (by exact O) (by exact nl4 O O O O O) dM ?_;refine aM O O O O O O dM ?_;refine aB<|aI ?_)
    exact ⟨[_],⟨⟨_,_,O,O,O,.inl ⟨AggT.h,O⟩⟩,trivial⟩,O⟩
  · (refine aA<|rgN<|aP O dM ?_;refine aB<|aA<|aA<|rgN<|kmv O<|aB<|aG<|aA<|rgN<|keq O O (cM (by omega))<|kas O<|aB<|aF O ?_;refine aA<|rgN<|keq O O (cM (by omega))<|kas O<|aB<|aF O ?_;refine aA<|rgN<|keq O O (cP (by omega))<|kas O<|aB<|aE O ?_;refine aA<|rgN<|aT O O (by exact O) (by exact nl4 O O O O O) dM ?_;refine aM O O O O O O dM ?_;refine aB<|aI ?_)
    exact ⟨[_],⟨⟨_,_,O,O,O,.inl ⟨AggT.h,O⟩⟩,trivial⟩,O⟩
  · (refine aA<|rgN<|aP O dM ?_;refine aB<|aA<|aA<|rgN<|kmv O<|aB<|aG<|aA<|rgN<|keq O O (cM (by omega))<|kas O<|aB<|aF O ?_;refine aA<|rgN<|keq O O (cM (by omega))<|kas O<|aB<|aF O ?_;refine aA<|rgN<|keq O O (cM (by omega))<|kas O<|aB<|aF O ?_;refine aA<|rgN<|keq O O (cP (by omega))<|kas O<|aB<|aE O ?_;refine aA<|rgN<|aT O O (by exact O) (by exact nl4 O O O O O) dM ?_;refine aM O O O O O O dM ?_;refine aB<|aI ?_)
    exact ⟨[_],⟨⟨_,_,O,O,O,.inl ⟨AggT.h,O⟩⟩,trivial⟩,O⟩
  · (refine aA<|rgN<|aP O dM ?_;refine aB<|aA<|aA<|rgN<|kmv O<|aB<|aG<|aA<|rgN<|keq O O (cM (by omega))<|kas O<|aB<|aF O ?_;refine aA<|rgN<|keq O O (cM (by omega))<|kas O<|aB<|aF O ?_;refine aA<|rgN<|keq O O (cM (by omega))<|kas O<|aB<|aF O ?_;refine aA<|rgN<|keq O O (cM (by omega))<|kas O<|aB<|aF O ?_;refine aA<|rgN<|keq O O (cP (by omega))<|kas O<|aB<|aE O ?_;refine aA<|rgN<|aT O O (by exact O) (by exact nl4 O O O O O) dM ?_;refine aM O O O O O O dM ?_;refine aB<|aI ?_)
    exact ⟨[_],⟨⟨_,_,O,O,O,.inl ⟨AggT.h,O⟩⟩,trivial⟩,O⟩
  · (refine aA<|rgN<|aP O dM ?_;refine aB<|aA<|aA<|rgN<|kmv O<|aB<|aG<|aA<|rgN<|keq O O (cM (by omega))<|kas O<|aB<|aF O ?_;refine aA<|rgN<|keq O O (cM (by omega))<|kas O<|aB<|aF O ?_;refine aA<|rgN<|keq O O (cM (by omega))<|kas O<|aB<|aF O ?_;refine aA<|rgN<|keq O O (cM (by omega))<|kas O<|aB<|aF O ?_;refine aA<|rgN<|keq O O (cM (by omega))<|kas O<|aB<|aF O ?_;refine aA<|rgN<|keq O O (cP (by omega))<|kas O<|aB<|aE O ?_;refine aA<|rgN<|aT O O (by exact O) (by exact nl4 O O O O O) dM ?_;refine aM O O O O O O dM ?_;refine aB<|aI ?_)
    exact ⟨[_],⟨⟨_,_,O,O,O,.inl ⟨AggT.h,O⟩⟩,trivial⟩,O⟩
  · (refine aA<|rgN<|aP O dM ?_;refine aB<|aA<|aA<|rgN<|kmv O<|aB<|aG<|aA<|rgN<|keq O O (cM (by omega))<|kas O<|aB<|aF O ?_;refine aA<|rgN<|keq O O (cM (by omega))<|kas O<|aB<|aF O ?_;refine aA<|rgN<|keq O O (cM (by omega))<|kas O<|aB<|aF O ?_;refine aA<|rgN<|keq O O (cM (by omega))<|kas O<|aB<|aF O ?_;refine aA<|rgN<|keq O O (cM (by omega))<|kas O<|aB<|aF O ?_;refine aA<|rgN<|keq O O (cM (by omega))<|kas O<|aB<|aF O ?_;refine aA<|rgN<|keq O O (cP (by omega))<|kas O<|aB<|aE O ?_;refine aA<|rgN<|aT O O (by exact O) (by exact nl4 O O O O O) dM ?_;refine aM O O O O O O dM ?_;refine aB<|aI ?_)
    exact ⟨[_],⟨⟨_,_,O,O,O,.inl ⟨AggT.h,O⟩⟩,trivial⟩,O⟩
  · (refine aA<|rgN<|aP O dM ?_;refine aB<|aA<|aA<|rgN<|kmv O<|aB<|aG<|aA<|rgN<|keq O O (cM (by omega))<|kas O<|aB<|aF O ?_;refine aA<|rgN<|keq O O (cM (by omega))<|kas O<|aB<|aF O ?_;refine aA<|rgN<|keq O O (cM (by omega))<|kas O<|aB<|aF O ?_;refine aA<|rgN<|keq O O (cM (by omega))<|kas O<|aB<|aF O ?_;refine aA<|rgN<|keq O O (cM (by omega))<|kas O<|aB<|aF O ?_;refine aA<|rgN<|keq O O (cM (by omega))<|kas O<|aB<|aF O ?_;refine aA<|rgN<|keq O O (cM (by omega))<|kas O<|aB<|aF O ?_;refine aA<|rgN<|keq O O (cP (by omega))<|kas O<|aB<|aE O ?_;refine aA<|rgN<|aT O O (by exact O) (by exact nl4 O O O O O) dM ?_;refine aM O O O O O O dM ?_;refine aB<|aI ?_)
    exact ⟨[_],⟨⟨_,_,O,O,O,.inl ⟨AggT.h,O⟩⟩,trivial⟩,O⟩
  · (refine aA<|rgN<|aP O dM ?_;refine aB<|aA<|aA<|rgN<|kmv O<|aB<|aG<|aA<|rgN<|keq O O (cM (by omega))<|kas O<|aB<|aF O ?_;refine aA<|rgN<|keq O O (cM (by omega))<|kas O<|aB<|aF O ?_;refine aA<|rgN<|keq O O (cM (by omega))<|kas O<|aB<|aF O ?_;refine aA<|rgN<|keq O O (cM (by omega))<|kas O<|aB<|aF O ?_;refine aA<|rgN<|keq O O (cM (by omega))<|kas O<|aB<|aF O ?_;refine aA<|rgN<|keq O O (cM (by omega))<|kas O<|aB<|aF O ?_;refine aA<|rgN<|keq O O (cM (by omega))<|kas O<|aB<|aF O ?_;refine aA<|rgN<|keq O O (cM (by omega))<|kas O<|aB<|aF O ?_;refine aA<|rgN<|keq O O (cP (by omega))<|kas O<|aB<|aE O ?_;refine aA<|rgN<|aT O O (by exact O) (by exact nl4 O O O O O) dM ?_;refine aM O O O O O O dM ?_;refine aB<|aI ?_)
    exact ⟨[_],⟨⟨_,_,O,O,O,.inl ⟨AggT.h,O⟩⟩,trivial⟩,O⟩
  · (refine aA<|rgN<|aP O dM ?_;refine aB<|aA<|aA<|rgN<|kmv O<|aB<|aG<|aA<|rgN<|keq O O (cM (by omega))<|kas O<|aB<|aF O ?_;refine aA<|rgN<|keq O O (cM (by omega))<|kas O<|aB<|aF O ?_;refine aA<|rgN<|keq O O (cM (by omega))<|kas O<|aB<|aF O ?_;refine aA<|rgN<|keq O O (cM (by omega))<|kas O<|aB<|aF O ?_;refine aA<|rgN<|keq O O (cM (by omega))<|kas O<|aB<|aF O ?_;refine aA<|rgN<|keq O O (cM (by omega))<|kas O<|aB<|aF O ?_;refine aA<|rgN<|keq O O (cM (by omega))<|kas O<|aB<|aF O ?_;refine aA<|rgN<|keq O O (cM (by omega))<|kas O<|aB<|aF O ?_;refine aA<|rgN<|keq O O (cM (by omega))<|kas O<|aB<|aF O ?_;refine aA<|rgN<|keq O O (cP (by omega))<|kas O<|aB<|aE O ?_;refine aA<|rgN<|aT O O (by exact O) (by exact nl4 O O O O O) dM ?_;refine aM O O O O O O dM ?_;refine aB<|aI ?_)
    exact ⟨[_],⟨⟨_,_,O,O,O,.inl ⟨AggT.h,O⟩⟩,trivial⟩,O⟩
  · rw [kN_no h,kW_no h,kB_no h,kA_no h]
    (refine aA<|rgN<|aP O dM ?_;refine aB<|aA<|aA<|rgN<|kmv O<|aB<|aG<|aA<|rgN<|keq O O (cM (by omega))<|kas O<|aB<|aF O ?_;refine aA<|rgN<|keq O O (cM (by omega))<|kas O<|aB<|aF O ?_;refine aA<|rgN<|keq O O (cM (by omega))<|kas O<|aB<|aF O ?_;refine aA<|rgN<|keq O O (cM (by omega))<|kas O<|aB<|aF O ?_;refine aA<|rgN<|keq O O (cM (by omega))<|kas O<|aB<|aF O ?_;refine aA<|rgN<|keq O O (cM (by omega))<|kas O<|aB<|aF O ?_;refine aA<|rgN<|keq O O (cM (by omega))<|kas O<|aB<|aF O ?_;refine aA<|rgN<|keq O O (cM (by omega))<|kas O<|aB<|aF O ?_;refine aA<|rgN<|keq O O (cM (by omega))<|kas O<|aB<|aF O ?_;refine aA<|rgN<|keq O O (cM (by omega))<|kas O<|aB<|aF O ?_;refine aH ?_;refine aA<|rgN<|aT O O (by exact O) (by exact nl4 O O O O O) dM ?_;refine aM O O O O O O dM ?_;refine aB<|aI ?_)
    exact ⟨[_],⟨⟨_,_,O,O,O,.inl ⟨AggT.h,O⟩⟩,trivial⟩,O⟩
theorem fSize_spec (k:Int):PSpec Tryz.prog X 88 [Ln .i64 k] (Ln .i64 (kW k:Nat)):=by
  refine cB Tryz.func88 rfl (by kernel_rfl) rfl rfl ?_
  intro C
  (refine aA<|rgN<|kas O<|aB<|aA<|rgN<|kmv O<|kca O O (shapeOf_spec X k)<|K.fieldOne O Tryz.underlying168 O (by kernel_rfl) O dM<|kas O<|aB<|aI ?_)
  exact ⟨[_],⟨O,trivial⟩,O⟩
end Go.Proofs.YtnfbccfghgmfiaaGreat
end
section
namespace Go.Proofs.YtnfbccfghgmfiaaGreat
open Go Go.Lg Go.Lg.Fld
set_option maxRecDepth 100000
variable (X:Nat→Option Obj)
abbrev cI (b:Bool) (n:Int):List CV:=[.val (.bool b),.val (.int .u64 (n/18446744073709551616)),.val (.int .u64 (n%18446744073709551616))]
end Go.Proofs.YtnfbccfghgmfiaaGreat
end
section
namespace Go.Lg.Dig
open Go Go.Lg
def dg (n j:Nat):Nat:=n/256^j%256
def dv (d:Nat):CV:=.val (.int .i64 (d:Nat))
end Go.Lg.Dig
namespace Go.Lg.Dig
open Go Go.Lg
end Go.Lg.Dig
namespace Go.Lg.Dig
end Go.Lg.Dig
namespace Go.Lg.Dig
end Go.Lg.Dig
namespace Go.Lg.Dig
open Go Go.Lg
end Go.Lg.Dig
namespace Go.Lg.Dig
open Go Go.Lg
end Go.Lg.Dig
end
section
namespace Go.Proofs.YtnfbccfghgmfiaaGreat
open Go Go.Lg Go.Lg.Arith Go.Lg.Dig Go.RowKit
variable (X:Nat→Option Obj)
def two (l h i:Nat) (j:Nat):Nat:=if j<i then dg l j else if 8≤j∧j<8+i then dg h (j-8) else 0
end Go.Proofs.YtnfbccfghgmfiaaGreat
end
section
namespace Go.Proofs.YtnfbccfghgmfiaaGreat
open Go Go.Lg Go.Lg.Arith Go.Lg.Dig Go.RowKit
variable (X:Nat→Option Obj)
theorem Good_spec (b:Bool) (N:Int) (hN:In2 N) (r:Bool) (hr:formB b N=r):PSpec Tryz.prog X 39 [LI b N] (Lb r):=by
  obtain ⟨h0,h1⟩:=hN
  refine cB Tryz.func39 rfl (by kernel_rfl) rfl rfl ?_
  intro C
  by_cases ha:N<170141183460469231731687303715884105728
  · cases b with
    | false =>
      have e:r=true:=by rw [← hr];simp [formB,ha]
      (refine aA<|rgN<|aL O O O dM<|kas O<|aB<|aA<|rgN<|kfa O O ?_;refine kl1 O O O<|klt O O (cK (by omega))<|kmv O<|aN O O (dN O O) ?_;refine aO O O O (dN O O) ?_;refine gmv O O O<|aC O O O<|aC O O O<|aC O O O<|bN O O (dN O O) ?_;refine gmv O O O<|aC O O O<|aC O O O<|aC O O O<|bN O O (dN O O) ?_;refine aV O O (dN O O) ?_;refine kpt O O<|kas O<|aB<|aI ?_)
      exact ⟨[_],⟨rfl,trivial⟩,by rw [e];rfl⟩
    | true =>
      by_cases hh:N/18446744073709551616=0
      · by_cases hl:N%18446744073709551616=0
        · have e:r=false:=by rw [← hr];unfold formB;rw [show (N==0)=true from cP (by omega)];simp
          (refine aA<|rgN<|aL O O O dM<|kas O<|aB<|aA<|rgN<|kfa O O ?_;refine kl1 O O O<|klt O O (cK (by omega))<|kmv O<|aN O O (dN O O) ?_;refine aO O O O (dN O O) ?_;refine gmv O O O<|aN O O (dN O O) ?_;refine aO O O O (dN O O) ?_;refine bC O O (cP (by omega)) (dN O O) ?_;refine bF O O (dN O O) ?_;refine gmv O O O<|aN O O (dN O O) ?_;refine aO O O O (dN O O) ?_;refine bC O O (cP (by omega)) (dN O O) ?_;refine bF O O (dN O O) ?_;refine aV O O (dN O O) ?_;refine kpt O O<|kas O<|aB<|aI ?_)
          exact ⟨[_],⟨rfl,trivial⟩,by rw [e];rfl⟩
        · have e:r=true:=by rw [← hr];unfold formB;rw [show (N==0)=false from cM (by omega)];simp [ha]
          (refine aA<|rgN<|aL O O O dM<|kas O<|aB<|aA<|rgN<|kfa O O ?_;refine kl1 O O O<|klt O O (cK (by omega))<|kmv O<|aN O O (dN O O) ?_;refine aO O O O (dN O O) ?_;refine gmv O O O<|aN O O (dN O O) ?_;refine aO O O O (dN O O) ?_;refine bC O O (cP (by omega)) (dN O O) ?_;refine bF O O (dN O O) ?_;refine gmv O O O<|aN O O (dN O O) ?_;refine aO O O O (dN O O) ?_;refine bC O O (cM (by omega)) (dN O O) ?_;refine bF O O (dN O O) ?_;refine aV O O (dN O O) ?_;refine kpt O O<|kas O<|aB<|aI ?_)
          exact ⟨[_],⟨rfl,trivial⟩,by rw [e];rfl⟩
      · have e:r=true:=by rw [← hr];unfold formB;rw [show (N==0)=false from cM (by omega)];simp [ha]
        (refine aA<|rgN<|aL O O O dM<|kas O<|aB<|aA<|rgN<|kfa O O ?_;refine kl1 O O O<|klt O O (cK (by omega))<|kmv O<|aN O O (dN O O) ?_;refine aO O O O (dN O O) ?_;refine gmv O O O<|aN O O (dN O O) ?_;refine aO O O O (dN O O) ?_;refine bC O O (cM (by omega)) (dN O O) ?_;refine bF O O (dN O O) ?_;refine gmv O O O<|aC O O O<|aC O O O<|aC O O O<|bN O O (dN O O) ?_;refine aV O O (dN O O) ?_;refine kpt O O<|kas O<|aB<|aI ?_)
        exact ⟨[_],⟨rfl,trivial⟩,by rw [e];rfl⟩
  · have e:r=false:=by rw [← hr];simp [formB,ha]
    (refine aA<|rgN<|aL O O O dM<|kas O<|aB<|aA<|rgN<|kfa O O ?_;refine kl1 O O O<|klt O O (cJ (by omega))<|kmv O<|aC O O O<|aC O O O<|aC O O O<|aD O O<|aD O O<|aD O O<|aC O O O<|aC O O O<|aD O O<|aD O O<|aD O O ?_;refine aC O O O<|aC O O O<|kpf O O<|kas O<|aB<|aI ?_)
    exact ⟨[_],⟨rfl,trivial⟩,by rw [e];rfl⟩
end Go.Proofs.YtnfbccfghgmfiaaGreat
end
section
namespace Go.Lg.Fld
open Go Go.Lg
structure Fl where
  nm:List UInt8
  kind:Int
  count:Int
def Fl.vals (f:Fl):List Value:=[.string ⟨f.nm.toArray⟩,.int .i64 f.kind,.int .i64 f.count]
def Fl.w (f:Fl):Nat:=kW f.kind
def Fl.n (f:Fl):Nat:=f.count.toNat
def Fl.ok (f:Fl):Bool:=kK f.kind&&(decide (1≤f.count)&&decide (f.count≤8))
def roundUp (a n:Nat):Nat:=a+(n-a%n)%n
def startsAt:Nat→List Fl→List Nat
  | _,[]=>[]
  | a,f::t=>roundUp a f.w::startsAt (roundUp a f.w+f.w*f.n) t
def endAt:Nat→List Fl→Nat
  | a,[]=>a
  | a,f::t=>endAt (roundUp a f.w+f.w*f.n) t
def greatW (l:List Fl):Nat:=l.foldl (fun g f=>max g f.w) 1
def rowSize (l:List Fl):Nat:=roundUp (endAt 0 l) (greatW l)
def layErr (l:List Fl):Int:=if 8<l.length then 1 else if l.all Fl.ok=true then (if 256<rowSize l then 5 else 0) else 1
theorem starts_snoc (f:Fl):∀ (l:List Fl) (a:Nat),startsAt a (l++[f])=startsAt a l++[roundUp (endAt a l) f.w]
  | [],_=>rfl
  | g::t,a=>by simp only [List.cons_append,startsAt,endAt,starts_snoc f t]
theorem end_snoc (f:Fl):∀ (l:List Fl) (a:Nat),endAt a (l++[f])=roundUp (endAt a l) f.w+f.w*f.n
  | [],_=>rfl
  | g::t,a=>by simp only [List.cons_append,endAt,end_snoc f t]
theorem great_snoc (f:Fl) (l:List Fl):greatW (l++[f])=max (greatW l) f.w:=by simp [greatW,List.foldl_append]
theorem take_snoc {α:Type} {l:List α} {i:Nat} {f:α} (h:l[i]? = some f):l.take (i+1)=l.take i++[f]:=by
  rw [List.take_add_one,h];rfl
theorem ok_w {f:Fl} (h:f.ok=true):(f.w=1∨f.w=2∨f.w=4∨f.w=8)∧1≤f.n∧f.n≤8∧(f.n:Int)=f.count:=by
  simp only [Fl.ok,Bool.and_eq_true,decide_eq_true_eq] at h
  refine ⟨kW_in h.1,?_,?_,?_⟩<;>unfold Fl.n<;>omega
def isWd (n:Nat):Prop:=n=1∨n=2∨n=4∨n=8
theorem round_facts {n:Nat} (h:isWd n) (a:Nat):roundUp a n%n=0∧a≤roundUp a n∧roundUp a n<a+n∧∀ b,a≤b→b≤roundUp a n→b%n=0→b=roundUp a n:=by
  unfold roundUp
  rcases h with rfl|rfl|rfl|rfl<;>refine ⟨by omega,by omega,by omega,fun b h1 h2 h3=>by omega⟩
theorem great_wd:∀ (l:List Fl),l.all Fl.ok=true→isWd (greatW l):=by
  have key:∀ (l:List Fl) (g:Nat),isWd g→l.all Fl.ok=true→isWd (l.foldl (fun g f=>max g f.w) g):=by
    intro l
    induction l with
    | nil=>intro g hg _;exact hg
    | cons f t ih =>
      intro g hg h
      simp only [List.all_cons,Bool.and_eq_true] at h
      refine ih _ ?_ h.2
      have hf:isWd f.w:=(ok_w h.1).1
      show isWd (max g f.w)
      rcases Nat.le_total g f.w with h3|h3
      · rw [Nat.max_eq_right h3];exact hf
      · rw [Nat.max_eq_left h3];exact hg
  exact fun l h=>key l 1 (.inl O) h
theorem end_le:∀ (l:List Fl) (a:Nat),l.all Fl.ok=true→a≤endAt a l∧endAt a l≤a+72*l.length
  | [],a,_=>by simp [endAt]
  | f::t,a,h=>by
    simp only [List.all_cons,Bool.and_eq_true] at h
    obtain ⟨hw,h1,h8,_⟩:=ok_w h.1
    have hr:=round_facts hw a
    have hi:=end_le t (roundUp a f.w+f.w*f.n) h.2
    have hm:f.w*f.n≤64:=by rcases hw with e|e|e|e<;>rw [e]<;>omega
    have hw8:f.w≤8:=by rcases hw with e|e|e|e<;>omega
    simp only [endAt,dD]
    omega
theorem starts_len:∀ (l:List Fl) (a:Nat),(startsAt a l).length=l.length
  | [],_=>rfl
  | f::t,a=>by simp [startsAt,starts_len t]
def ntV (l:List Nat):List Value:=l.map fun n=>.int .i64 (n:Nat)
structure FieldsIn (X:Nat→Option Obj) (ad:Option Addr) (fs:List Fl):Prop where
  rows:RowsIn X ad 3 (fs.map Fl.vals)
  small:∀ f∈fs,(-9223372036854775808≤f.kind∧f.kind<9223372036854775808)∧(-9223372036854775808≤f.count∧f.count<9223372036854775808)
theorem FieldsIn.at {X:Nat→Option Obj} {ad:Option Addr} {fs:List Fl} (h:FieldsIn X ad fs) {i:Nat} {f:Fl} (hf:fs[i]? = some f):
    ∃ (blk off:Nat) (arr:Array Value) (el:TypeId) (fr:Nat×Nat),ad=some ⟨blk,off,none⟩∧X blk=some (.cells arr el fr)∧off+i*3+3≤arr.size∧((arr.toList.drop (off+i*3)).take 3).map CV.val=f.vals.map CV.val:=by
  obtain ⟨blk,off,arr,el,fr,h1,h2,h3,h4⟩:=h.rows i f.vals (by rw [dG,hf];rfl)
  exact ⟨blk,off,arr,el,fr,h1,h2,h3,by rw [h4]⟩
end Go.Lg.Fld
end
section
namespace Go.Proofs.YtnfbccfghgmfiaaGreat
open Go Go.Lg Go.Lg.Fld
set_option maxRecDepth 100000
variable (X:Nat→Option Obj)
abbrev Lx (ad:Option Addr) (n cap:Nat):LV:=.sv (.one (.val (.slice ad n cap)))
abbrev Vnil:SV:=.one (.val (.slice none 0 0))
theorem take_all {fs:List Fl} {i:Nat} {f:Fl} (h:(fs.take i).all Fl.ok=true) (hf:fs[i]? = some f) (hk:f.ok=true):(fs.take (i+1)).all Fl.ok=true:=by
  rw [take_snoc hf,List.all_append,h]
  simp [hk]
end Go.Proofs.YtnfbccfghgmfiaaGreat
end
section
namespace Go.Lg.Fld
open Go Go.Lg
def nmV (n:Bool×Int):List Value:=[.bool n.1,.int .u64 (n.2/18446744073709551616),.int .u64 (n.2%18446744073709551616)]
end Go.Lg.Fld
namespace Go.Proofs.YtnfbccfghgmfiaaGreat
open Go Go.Lg Go.Lg.Fld
set_option maxRecDepth 100000
variable (X:Nat→Option Obj)
structure NumsIn (X:Nat→Option Obj) (ad:Option Addr) (ns:List (Bool×Int)):Prop where
  rows:Go.Lg.RowsIn X ad 3 (ns.map nmV)
  in2:∀ n∈ns,In2 n.2
theorem NumsIn.at {X:Nat→Option Obj} {ad:Option Addr} {ns:List (Bool×Int)} (h:NumsIn X ad ns) {i:Nat} {b:Bool} {N:Int} (hf:ns[i]? = some (b,N)):
    In2 N∧∃ (blk off:Nat) (arr:Array Value) (el:TypeId) (fr:Nat×Nat),ad=some ⟨blk,off,none⟩∧X blk=some (.cells arr el fr)∧off+i*3+3≤arr.size∧((arr.toList.drop (off+i*3)).take 3).map CV.val=cI b N:=by
  obtain ⟨blk,off,arr,el,fr,h1,h2,h3,h4⟩:=h.rows i (nmV (b,N)) (by rw [dG,hf];rfl)
  exact ⟨h.in2 (b,N) (cX hf),blk,off,arr,el,fr,h1,h2,h3,by rw [h4];rfl⟩
theorem layErr_facts {fs:List Fl} (h:layErr fs=0):fs.length≤8∧fs.all Fl.ok=true∧rowSize fs≤256:=by
  unfold layErr at h
  split at h
  · cases h
  · split at h
    · split at h
      · cases h
      · rename_i h1 h2 h3;exact ⟨by omega,h2,by omega⟩
    · cases h
end Go.Proofs.YtnfbccfghgmfiaaGreat
end
section
namespace Go.Proofs.YtnfbccfghgmfiaaGreat
open Go Go.Lg Go.Lg.Fld
set_option maxRecDepth 100000
variable (X:Nat→Option Obj)
def qn (z:Int):Bool×Int:=(decide (z<0),mg z)
end Go.Proofs.YtnfbccfghgmfiaaGreat
end
section
namespace Go.Lg.Fld
open Go Go.Lg
abbrev planV (size:Int) (c:CV):SV:=.agg [.val (.int .i64 size),c]
def canB (fs:List Fl):Bool:=decide (fs.length≤8)&&fs.all Fl.ok
theorem canB_err {fs:List Fl} (h:canB fs=false):layErr fs=1:=by
  unfold canB at h
  unfold layErr
  by_cases h8:8<fs.length
  · rw [if_pos h8]
  · rw [if_neg h8]
    rw [cK (show fs.length≤8 by omega),Bool.true_and] at h
    rw [h,if_neg (by simp)]
theorem canB_ok {fs:List Fl} (h:canB fs=true):fs.length≤8∧fs.all Fl.ok=true∧layErr fs=if 256<rowSize fs then 5 else 0:=by
  unfold canB at h
  rw [Bool.and_eq_true,decide_eq_true_eq] at h
  refine ⟨h.1,h.2,?_⟩
  unfold layErr
  rw [if_neg (by omega),if_pos h.2]
theorem round_up {n:Nat} (h:isWd n) (a:Nat):(a+n-1)/n*n=roundUp a n:=by
  unfold roundUp
  rcases h with rfl|rfl|rfl|rfl<;>omega
end Go.Lg.Fld
namespace Go.Proofs.YtnfbccfghgmfiaaGreat
open Go Go.Lg Go.Lg.Fld
set_option maxRecDepth 100000
variable (X:Nat→Option Obj)
theorem multipleFrom_spec (a w:Nat) (hw:isWd w) (ha:a<1000000):PSpec Tryz.prog X 89 [Ln .i64 (a:Nat),Ln .i64 (w:Nat)] (Ln .i64 (roundUp a w:Nat)):=by
  rw [← round_up hw]
  have hw8:1≤w∧w≤8:=by rcases hw with e|e|e|e<;>omega
  have hq:((a+w-1:Nat):Int)/((w:Nat):Int)=(((a+w-1)/w:Nat):Int):=(Int.natCast_ediv _ _).symm
  have hs:IntKind.i64.wrap ((a:Nat)+(w:Nat)-1:Int)=((a+w-1:Nat):Int):=by rw [cD (by omega)];omega
  have hd:IntKind.i64.wrap (((a+w-1:Nat):Int).tdiv ((w:Nat):Int))=(((a+w-1)/w:Nat):Int):=by rw [quo_i64 (by omega) (by omega)];exact hq
  have hb:(a+w-1)/w*w≤a+w-1:=Nat.div_mul_le_self _ _
  have hm:IntKind.i64.wrap ((((a+w-1)/w:Nat):Int)*((w:Nat):Int))=(((a+w-1)/w*w:Nat):Int):=by
    rw [← Int.natCast_mul,cD (by omega)]
  refine cB Tryz.func89 rfl (by kernel_rfl) rfl rfl ?_
  intro C
  (refine aA<|rgN<|kas O<|aB<|aA<|rgN<|kmv O<|kmv O<|kad O O (cD (by omega))<|bA O O hs dM<|kmv O<|K.quo O O (by omega) hd dM<|kmv O<|bL O O hm dM ?_;refine kas O<|aB<|aI ?_)
  exact ⟨[_],⟨O,trivial⟩,O⟩
end Go.Proofs.YtnfbccfghgmfiaaGreat
end
section
namespace Go.Lg.Fld
open Go Go.Lg
theorem take_ok {fs:List Fl} (h:fs.all Fl.ok=true) (i:Nat):(fs.take i).all Fl.ok=true:=by
  rw [List.all_eq_true] at h ⊢
  exact fun f hf=>h f (List.mem_of_mem_take hf)
theorem fill_set {α:Type} {S:List α} {z x:α} {n i:Nat} (hS:S.length=i) (hi:i<n):(S++List.replicate (n-i) z).set i x=(S++[x])++List.replicate (n-(i+1)) z:=by
  rw [List.set_append_right _ _ (by omega),hS,Nat.sub_self]
  have:n-i=(n-(i+1))+1:=by omega
  rw [this,List.replicate_succ,List.set_cons_zero,dH]
  rfl
theorem fill_at {α:Type} {S:List α} {z x:α} {n i:Nat} (hS:S.length=i):((S++[x])++List.replicate n z)[i]? = some x:=by
  rw [dH,List.getElem?_append_right (by omega),hS,Nat.sub_self]
  rfl
end Go.Lg.Fld
namespace Go.Proofs.YtnfbccfghgmfiaaGreat
open Go Go.Lg Go.Lg.Fld
set_option maxRecDepth 100000
variable (X:Nat→Option Obj)
theorem canBe_spec (ad:Option Addr) (cap:Nat) (fs:List Fl) (hin:FieldsIn X ad fs) (hbig:fs.length<4611686018427387904) (r:Bool) (hr:canB fs=r):PSpec Tryz.prog X 87 [Lx ad fs.length cap] (Lb r):=by
  subst hr
  refine cB Tryz.func87 rfl (by kernel_rfl) rfl rfl ?_
  intro C
  by_cases hlong:8<fs.length
  · have hc:canB fs=false:=by unfold canB;rw [cJ (by omega),Bool.false_and]
    rw [hc]
    (refine aA<|rgN<|kas O<|aB<|aA<|aA<|rgN<|kmv O<|aQ O bY O dM ?_;refine aS O O (cK (by omega)) dM<|aB<|aE O ?_;refine aA<|rgN<|kas O<|aB<|aI ?_)
    exact ⟨[_],⟨O,trivial⟩,O⟩
  have h8:fs.length≤8:=by omega
  have hcb:canB fs=fs.all Fl.ok:=by unfold canB;rw [cK h8,Bool.true_and]
  rw [hcb]
  (refine aA<|rgN<|kas O<|aB<|aA<|aA<|rgN<|kmv O<|aQ O bY O dM ?_;refine aS O O (cJ (by omega)) dM<|aB<|aF O ?_;refine aH ?_;refine aA<|aA<|rgN<|kmv O<|aQ O bY O dM ?_;refine kmv O<|aB<|aG ?_)
  refine cF (fun m σ=>∃ i:Nat,i≤fs.length∧m=fs.length-i∧(fs.take i).all Fl.ok=true∧σ=⟨[(8,Lx ad fs.length cap),(9,Ln .i64 (fs.length:Nat)),(10,Ln .i64 (i:Nat))],[],X⟩) fs.length
    ⟨_,Le.of (by exact ⟨rfl,rfl,rfl,trivial⟩) (by exact trivial) (by exact rfl) (by exact rfl) (by exact rfl),0,by omega,by omega,rfl,rfl⟩ ?_
  rintro m σ ⟨i,hi,rfl,hall,rfl⟩
  by_cases hlt:i<fs.length
  · obtain ⟨f,hf⟩:∃ f,fs[i]? = some f:=⟨_,cS hlt⟩
    obtain ⟨blk,off,arr,el,fr,rfl,hX,hsz,hcells⟩:=hin.at hf
    have hio:off+Int.toNat (i:Int)*3=off+i*3:=by simp
    have hmem:f∈fs:=cX hf
    have hsm:=hin.small f hmem
    have hB:=fSize_spec X f.kind
    cases hok:f.ok with
    | false =>
      have hno:fs.all Fl.ok=false:=by
        cases e:fs.all Fl.ok with
        | false=>rfl
        | true=>rw [List.all_eq_true.1 e f hmem] at hok;cases hok
      rw [hno]
      by_cases h0:kW f.kind=0
      · rw [h0] at hB
        (refine aA<|rgN<|klt O O (cK (by omega))<|aB<|aA<|aE O ?_;refine aH ?_;refine aA<|aG<|aA<|rgN<|aR O O bY (by omega) hio dM<|aY O hX (by kernel_rfl) hsz hcells dM<|aP O dM ?_;refine aM O O O O O O dM ?_;refine aB<|aA<|rgN<|kfa O O ?_;refine kl1 O O O<|kca O O (hB)<|keq O O (cP (by omega))<|kmv O<|aC O O O<|aC O O O<|aC O O O<|kpt O O<|kmv O<|aC O O O<|aC O O O<|aC O O O<|kpt O O<|aB ?_;refine aE O ?_;refine aA<|rgN<|kas O<|aB<|aI ?_)
        exact ⟨[_],⟨O,trivial⟩,O⟩
      · have hk:kK f.kind=true:=by
          cases e:kK f.kind with
          | true=>rfl
          | false=>exact absurd ((kW_zero f.kind).2 e) h0
        by_cases h1:f.count<1
        · (refine aA<|rgN<|klt O O (cK (by omega))<|aB<|aA<|aE O ?_;refine aH ?_;refine aA<|aG<|aA<|rgN<|aR O O bY (by omega) hio dM<|aY O hX (by kernel_rfl) hsz hcells dM<|aP O dM ?_;refine aM O O O O O O dM ?_;refine aB<|aA<|rgN<|kfa O O ?_;refine kl1 O O O<|kca O O (hB)<|keq O O (cM (by omega))<|kmv O<|aN O O (dN O O) ?_;refine aO O O O (dN O O) ?_;refine bK O O (cK (by omega)) (dN O O) ?_;refine kpf O O<|kmv O<|aC O O O<|aC O O O<|aC O O O<|kpt O O<|aB<|aE O ?_;refine aA<|rgN<|kas O<|aB<|aI ?_)
          exact ⟨[_],⟨O,trivial⟩,O⟩
        · have h2:8<f.count:=by
            unfold Fl.ok at hok
            rw [hk,cK (show 1≤f.count by omega)] at hok
            simpa using hok
          (refine aA<|rgN<|klt O O (cK (by omega))<|aB<|aA<|aE O ?_;refine aH ?_;refine aA<|aG<|aA<|rgN<|aR O O bY (by omega) hio dM<|aY O hX (by kernel_rfl) hsz hcells dM<|aP O dM ?_;refine aM O O O O O O dM ?_;refine aB<|aA<|rgN<|kfa O O ?_;refine kl1 O O O<|kca O O (hB)<|keq O O (cM (by omega))<|kmv O<|aN O O (dN O O) ?_;refine aO O O O (dN O O) ?_;refine bK O O (cJ (by omega)) (dN O O) ?_;refine kpf O O<|kmv O<|aN O O (dN O O) ?_;refine aO O O O (dN O O) ?_;refine aS O O (cK (by omega)) (dN O O) ?_;refine kpf O O<|aB<|aE O ?_;refine aA<|rgN<|kas O<|aB<|aI ?_)
          exact ⟨[_],⟨O,trivial⟩,O⟩
    | true =>
      have hall':=take_all hall hf hok
      obtain ⟨hw,hn1,hn8,hnc⟩:=ok_w hok
      have hw1:1≤kW f.kind:=by have hwk:kW f.kind=f.w:=rfl;rcases hw with e|e|e|e<;>omega
      (refine aA<|rgN<|klt O O (cK (by omega))<|aB<|aA<|aE O ?_;refine aH ?_;refine aA<|aG<|aA<|rgN<|aR O O bY (by omega) hio dM<|aY O hX (by kernel_rfl) hsz hcells dM<|aP O dM ?_;refine aM O O O O O O dM ?_;refine aB<|aA<|rgN<|kfa O O ?_;refine kl1 O O O<|kca O O (hB)<|keq O O (cM (by omega))<|kmv O<|aN O O (dN O O) ?_;refine aO O O O (dN O O) ?_;refine bK O O (cJ (by omega)) (dN O O) ?_;refine kpf O O<|kmv O<|aN O O (dN O O) ?_;refine aO O O O (dN O O) ?_;refine aS O O (cJ (by omega)) (dN O O) ?_;refine kpf O O<|aB<|aF O ?_;refine aH ?_;refine rgN<|kad O O (cD (by omega))<|kmv O<|aB ?_)
      exact ⟨_,_,by omega,Le.of (by exact ⟨O,O,O,trivial⟩) (by exact trivial) (by exact O) (by exact O) (by exact O),i+1,by omega,O,hall',O⟩
  · have e:i=fs.length:=by omega
    subst e
    rw [cZ] at hall
    rw [hall]
    (refine aA<|rgN<|klt O O (cJ (by omega))<|aB<|aA<|aF O ?_;refine aJ<|aA<|rgN<|kas O<|aB<|aI ?_)
    exact ⟨[_],⟨O,trivial⟩,O⟩
theorem Of_no (ad:Option Addr) (cap:Nat) (fs:List Fl) (hin:FieldsIn X ad fs) (hbig:fs.length<4611686018427387904) (h:canB fs=false):
    PSpec Tryz.prog X 58 [Lx ad fs.length cap] (.tup [planV 0 (.val (.slice none 0 0)),Sn .i64 1]):=by
  have hc:=canBe_spec X ad cap fs hin hbig false h
  refine cB Tryz.func58 rfl (by kernel_rfl) rfl rfl ?_
  intro C
  (refine aA<|rgN<|aP O dM ?_;refine kas O<|aB<|aA<|aA<|rgN<|kmv O<|kca O O (hc)<|aV O O dM<|aB<|aE O ?_;refine aA<|rgN<|aT O O (by exact O) (by exact nl2 O O O) dM ?_;refine aM O O O O O O dM ?_;refine kas O<|aB<|aI ?_)
  exact ⟨[_,_],⟨⟨_,_,O,O,O,.inl ⟨AggT.h,O⟩⟩,O,trivial⟩,O⟩
def ofR (fs:List Fl):LV:=if layErr fs=0 then .tup [planV (rowSize fs:Nat) (.slc 1000001 0 fs.length 1),Sn .i64 0] else .tup [planV 0 (.val (.slice none 0 0)),Sn .i64 (layErr fs)]
def ofBx (fs:List Fl):List (Nat×Option Box):=if layErr fs=0 then [(1000001,some ⟨3,(ntV (startsAt 0 fs)).map .val,false⟩)] else []
set_option maxHeartbeats 3200000 in
theorem Of_can (ad:Option Addr) (cap:Nat) (fs:List Fl) (hin:FieldsIn X ad fs) (hbig:fs.length<4611686018427387904) (h:canB fs=true):
    MSpec Tryz.prog X 58 [Lx ad fs.length cap] [] (ofR fs) (ofBx fs):=by
  have hc:=canBe_spec X ad cap fs hin hbig true h
  obtain ⟨h8,hall,hle⟩:=canB_ok h
  refine cC Tryz.func58 rfl (by kernel_rfl) rfl (by unfold ofR ofBx;split<;>rfl) (by unfold ofBx;split<;>exact (by repeat' (first|refine bR ?_ ?_|rfl|exact bT|exact bS|exact bU rfl))) rfl rfl ?_
  intro C
  have hmk:slcBuild Tryz.prog 86 fs.length=some (List.replicate fs.length (.int .i64 0),1,3):=slcBuild_one (by kernel_rfl) (by kernel_rfl) (by omega)
  (refine aA<|rgN<|aP O dM ?_;refine kas O<|aB<|aA<|aA<|rgN<|kmv O<|kca O O (hc)<|aV O O dM<|aB<|aF O ?_;refine aH ?_;refine aA<|rgN<|kmv O<|aQ O bY O dM ?_;refine K.makeSlc (m:=fs.length) (bytes:=8) O O hmk (by kernel_rfl) (by omega) O O dM<|kas O<|aB<|aA<|rgN<|kas O<|kas O<|aB<|aA<|aA<|rgN<|kmv O<|aQ O bY O dM ?_;refine kmv O<|aB<|aG ?_)
  refine cF (fun m σ=>∃ i:Nat,i≤fs.length∧m=fs.length-i∧σ=⟨[(2,.sv (.one (.ptr 2 0))),(4,.sv (.one (.slc 17 0 fs.length 1))),(5,Ln .i64 (endAt 0 (fs.take i):Nat)),(6,Ln .i64 (greatW (fs.take i):Nat)),(18,Lx ad fs.length cap),(19,Ln .i64 (fs.length:Nat)),(20,Ln .i64 (i:Nat))],[(2,some ⟨125,[.val (.int .i64 0),.val (.slice none 0 0)],false⟩),(17,some ⟨3,(ntV (startsAt 0 (fs.take i))++List.replicate (fs.length-i) (Value.int .i64 0)).map .val,false⟩)],X⟩) fs.length
    ⟨_,Le.of (by exact ⟨rfl,rfl,rfl,rfl,rfl,rfl,rfl,trivial⟩) (by exact ⟨rfl,rfl,trivial⟩) (by exact rfl) (by exact rfl) (by repeat' (first|refine bR ?_ ?_|rfl|exact bT|exact bS|exact bU rfl)),0,by omega,by omega,rfl⟩ ?_
  rintro m σ ⟨i,hi,rfl,rfl⟩
  have ht:=take_ok hall i
  have hSl:=starts_len (fs.take i) 0
  have hend:=end_le (fs.take i) 0 ht
  have hgw:=great_wd (fs.take i) ht
  have htl:(fs.take i).length=i:=by rw [cU];omega
  rw [htl] at hSl hend
  by_cases hlt:i<fs.length
  · obtain ⟨f,hf⟩:∃ f,fs[i]? = some f:=⟨_,cS hlt⟩
    obtain ⟨blk,off,arr,el,fr,rfl,hX,hsz,hcells⟩:=hin.at hf
    have hio:off+Int.toNat (i:Int)*3=off+i*3:=by simp
    have hi1:0+Int.toNat (i:Int)*1=i:=by simp
    have hB:=fSize_spec X f.kind
    have hS:startsAt 0 (fs.take (i+1))=startsAt 0 (fs.take i)++[roundUp (endAt 0 (fs.take i)) f.w]:=by rw [take_snoc hf,starts_snoc]
    have hA:endAt 0 (fs.take (i+1))=roundUp (endAt 0 (fs.take i)) f.w+f.w*f.n:=by rw [take_snoc hf,end_snoc]
    have hG:greatW (fs.take (i+1))=max (greatW (fs.take i)) f.w:=by rw [take_snoc hf,great_snoc]
    obtain ⟨hw,hn1,hn8,hnc⟩:=ok_w (List.all_eq_true.1 hall f (cX hf))
    have hM:=multipleFrom_spec X (endAt 0 (fs.take i)) f.w hw (by omega)
    have hR:=round_facts hw (endAt 0 (fs.take i))
    have hwk:kW f.kind=f.w:=rfl
    rw [hwk] at hB
    have hw8:1≤f.w∧f.w≤8:=by rcases hw with e|e|e|e<;>omega
    have hwn:f.w*f.n≤64:=Nat.le_trans (Nat.mul_le_mul hw8.2 hn8) (by decide)
    have hfc:f.vals.map CV.val=[.val (.string ⟨f.nm.toArray⟩),.val (.int .i64 f.kind),.val (.int .i64 (f.n:Nat))]:=by rw [hnc];rfl
    rw [hfc] at hcells
    generalize startsAt 0 (fs.take i)=S at *
    generalize endAt 0 (fs.take i)=a at *
    generalize greatW (fs.take i)=g at *
    generalize f.w=w at *
    generalize f.n=n at *
    generalize hT:roundUp a w=T at *
    have hnS:(ntV S).length=i:=by simp [ntV,hSl]
    have hlt2:Nat.blt i (((ntV S++List.replicate (fs.length-i) (Value.int .i64 0)).map CV.val).length)=true:=by rw [Nat.blt_eq,cR,cQ,hnS,cY];omega
    have hset:((ntV S++List.replicate (fs.length-i) (Value.int .i64 0)).map CV.val).set i (.val (.int .i64 (T:Nat)))=(ntV (S++[T])++List.replicate (fs.length-(i+1)) (Value.int .i64 0)).map CV.val:=by
      rw [← List.map_set,fill_set hnS hlt];simp [ntV]
    have hget:((ntV (S++[T])++List.replicate (fs.length-(i+1)) (Value.int .i64 0)).map CV.val)[i]? = some (.val (.int .i64 (T:Nat))):=by
      rw [dG,show ntV (S++[T])=ntV S++[.int .i64 (T:Nat)] by simp [ntV],fill_at hnS];rfl
    have hmul:IntKind.i64.wrap (((w:Nat):Int)*((n:Nat):Int))=((w*n:Nat):Int):=by rw [← Int.natCast_mul,cD (by omega)]
    have hadd:IntKind.i64.wrap (((T:Nat):Int)+((w*n:Nat):Int))=((T+w*n:Nat):Int):=by rw [cD (by omega)];omega
    have hmx:(if ((w:Nat):Int)>((g:Nat):Int) then ((w:Nat):Int) else ((g:Nat):Int))=((max g w:Nat):Int):=by split<;>omega
    (refine aA<|rgN<|klt O O (cK (by omega))<|aB<|aA<|aE O ?_;refine aH ?_;refine aA<|aG<|aA<|rgN<|kmv O<|aR O O bY (by omega) hio dM<|aY O hX (by kernel_rfl) hsz hcells dM<|aP O dM ?_;refine kas O<|aM O O O O O O dM ?_;refine aB<|aA<|rgN<|kfa O O ?_;refine kl1 O O O<|kca O O (hB)<|kas O<|aB<|aA<|rgN<|kmv O<|kmv O<|kmv O<|kmv O<|kca O O (hM)<|K.indexSlc O O (by omega) hi1 dM ?_;refine bG O O O O hlt2 hset dM<|aB<|aA<|rgD mixed<|kmv O<|kmv O<|K.indexSlc O O (by omega) hi1 dM ?_;refine kl1 O O hget<|kmv O<|kfa O O ?_;refine kl1 O O O<|bL O O hmul dM<|kad O O hadd<|kas O<|aB<|rgA ?_;refine rgN<|kmv O<|kmv O<|K.max2 O O hmx dM ?_;refine kas O<|aB<|rgN<|kad O O (cD (by omega))<|kmv O<|aB ?_)
    exact ⟨_,_,by omega,Le.of (by exact ⟨rfl,rfl,by rw [hA];rfl,by rw [hG];rfl,rfl,rfl,rfl,trivial⟩) (by exact ⟨rfl,by rw [hS];rfl,trivial⟩) (by exact rfl) (by exact rfl) (by repeat' (first|refine bR ?_ ?_|rfl|exact bT|exact bS|exact bU rfl)),i+1,by omega,rfl,rfl⟩
  · have e:i=fs.length:=by omega
    subst e
    rw [cZ] at *
    have hM:=multipleFrom_spec X (endAt 0 fs) (greatW fs) hgw (by omega)
    rw [show roundUp (endAt 0 fs) (greatW fs)=rowSize fs from rfl] at hM
    unfold ofR ofBx
    rw [hle]
    have hz:(ntV (startsAt 0 fs)++List.replicate (fs.length-fs.length) (Value.int .i64 0)).map CV.val=(ntV (startsAt 0 fs)).map CV.val:=by rw [Nat.sub_self,List.replicate_zero,dE]
    rw [hz]
    have hT:rowSize fs<1000000:=by
      have h1:=round_facts hgw (endAt 0 fs)
      have h2:greatW fs≤8:=by rcases hgw with e|e|e|e<;>omega
      have h3:rowSize fs=roundUp (endAt 0 fs) (greatW fs):=rfl
      omega
    generalize rowSize fs=T at *
    by_cases h256:256<T
    · rw [if_pos h256,if_neg (by decide),if_neg (by decide)]
      (refine aA<|rgN<|klt O O (cJ (by omega))<|aB<|aA<|aF O ?_;refine aJ<|aA<|rgN<|kmv O<|kmv O<|kca O O (hM)<|kas O<|aB<|aA<|aA<|rgN<|kmv O<|aS O O (cK (by omega)) dM<|aB ?_;refine aE O ?_;refine aA<|rgN<|aT O O (by exact O) (by exact nl2 O O O) dM ?_;refine aM O O O O O O dM ?_;refine kas O<|aB<|aI ?_)
      exact ⟨[],⟨[_,_],⟨⟨_,_,O,O,O,.inl ⟨AggT.h,O⟩⟩,O,trivial⟩,O⟩,trivial,O,O⟩
    · rw [if_neg h256,if_pos rfl,if_pos rfl]
      (refine aA<|rgN<|klt O O (cJ (by omega))<|aB<|aA<|aF O ?_;refine aJ<|aA<|rgN<|kmv O<|kmv O<|kca O O (hM)<|kas O<|aB<|aA<|aA<|rgN<|kmv O<|aS O O (cJ (by omega)) dM<|aB ?_;refine aF O ?_;refine aH ?_;refine aA<|rgN<|kmv O<|kmv O<|aT O O (by exact O) (by exact nl2 O O O) dM ?_;refine aM O O O O O O dM ?_;refine kas O<|aB<|aI ?_)
      exact ⟨[(1000001,17)],⟨[_,_],⟨⟨_,_,rfl,rfl,rfl,.inl ⟨AggT.h,rfl⟩⟩,rfl,trivial⟩,rfl⟩,(by repeat' (first|exact trivial|refine cL ⟨_,rfl,?_⟩ ?_|refine cL ⟨_,rfl⟩ ?_|rfl|exact bV _ _ _ _|exact bW _ _ _ _|exact bX rfl)),rfl,rfl⟩
end Go.Proofs.YtnfbccfghgmfiaaGreat
end
section
namespace Go.Lg.Fld
open Go Go.Lg
end Go.Lg.Fld
namespace Go.Proofs.YtnfbccfghgmfiaaGreat
open Go Go.Lg Go.Lg.Fld
set_option maxRecDepth 100000
variable (X:Nat→Option Obj)
theorem Of_err (ad:Option Addr) (cap:Nat) (fs:List Fl) (hin:FieldsIn X ad fs) (hbig:fs.length<4611686018427387904) (h:layErr fs≠0):
    PSpec Tryz.prog X 58 [Lx ad fs.length cap] (.tup [planV 0 (.val (.slice none 0 0)),Sn .i64 (layErr fs)]):=by
  cases hc:canB fs with
  | false=>rw [canB_err hc];exact Of_no X ad cap fs hin hbig hc
  | true =>
    have:=Of_can X ad cap fs hin hbig hc
    unfold ofR ofBx at this
    rw [if_neg h,if_neg h] at this
    exact this.plain
theorem Of_ok (ad:Option Addr) (cap:Nat) (fs:List Fl) (hin:FieldsIn X ad fs) (hbig:fs.length<4611686018427387904) (h:layErr fs=0):
    MSpec Tryz.prog X 58 [Lx ad fs.length cap] [] (.tup [planV (rowSize fs:Nat) (.slc 1000001 0 fs.length 1),Sn .i64 0]) [(1000001,some ⟨3,(ntV (startsAt 0 fs)).map .val,false⟩)]:=by
  cases hc:canB fs with
  | false=>rw [canB_err hc] at h;exact absurd h (by decide)
  | true =>
    have:=Of_can X ad cap fs hin hbig hc
    unfold ofR ofBx at this
    rw [if_pos h,if_pos h] at this
    exact this
theorem Check_spec (ad:Option Addr) (cap:Nat) (fs:List Fl) (hin:FieldsIn X ad fs) (hbig:fs.length<4611686018427387904):PSpec Tryz.prog X 43 [Lx ad fs.length cap] (Ln .i64 (layErr fs)):=by
  refine cB Tryz.func43 rfl (by kernel_rfl) rfl rfl ?_
  intro C
  by_cases h:layErr fs=0
  · have hO:=Of_ok X ad cap fs hin hbig h
    rw [h]
    generalize rowSize fs=T at *
    generalize startsAt 0 fs=S at *
    (refine aA<|rgN<|kas O<|aB<|aA<|rgN<|kmv O<|bE [(1000001,501)] (.tup [planV (T:Nat) (.slc 501 0 fs.length 1),Sn .i64 0]) [(501,some ⟨3,(ntV S).map .val,false⟩)] (hO) O O (by exact trivial) O O O O O (by exact (.box O (bW _ _ _ _) .nil)) dM<|kmv O<|kex O O<|kex O O<|aP O dM ?_;refine aM O O O O O O dM ?_;refine kas O<|aB<|aA<|rgN<|kmv O<|kas O<|aB<|aI ?_)
    exact ⟨[_],⟨O,trivial⟩,O⟩
  · have hO:=Of_err X ad cap fs hin hbig h
    generalize layErr fs=e at *
    (refine aA<|rgN<|kas O<|aB<|aA<|rgN<|kmv O<|kca O O (hO)<|kmv O<|kex O O<|kex O O<|aP O dM ?_;refine aM O O O O O O dM ?_;refine kas O<|aB<|aA<|rgN<|kmv O<|kas O<|aB<|aI ?_)
    exact ⟨[_],⟨O,trivial⟩,O⟩
end Go.Proofs.YtnfbccfghgmfiaaGreat
end
section
namespace Go.Lg.Fld
open Go Go.Lg
instance:DecidableEq Fl:=fun a b=>decidable_of_iff (a.nm=b.nm∧a.kind=b.kind∧a.count=b.count) ⟨fun ⟨h1,h2,h3⟩=>by cases a;cases b;simp_all,fun h=>by rw [h];exact ⟨rfl,rfl,rfl⟩⟩
structure Cp where
  id:Int
  nm:List UInt8
  fs:List Fl
instance:DecidableEq Cp:=fun a b=>decidable_of_iff (a.id=b.id∧a.nm=b.nm∧a.fs=b.fs) ⟨fun ⟨h1,h2,h3⟩=>by cases a;cases b;simp_all,fun h=>by rw [h];exact ⟨rfl,rfl,rfl⟩⟩
structure Sc where
  ver:Int
  cs:List Cp
instance:DecidableEq Sc:=fun a b=>decidable_of_iff (a.ver=b.ver∧a.cs=b.cs) ⟨fun ⟨h1,h2⟩=>by cases a;cases b;simp_all,fun h=>by rw [h];exact ⟨rfl,rfl⟩⟩
def letB (c:UInt8):Bool:=decide (97≤c.toNat)&&decide (c.toNat≤122)
def digB (c:UInt8):Bool:=decide (48≤c.toNat)&&decide (c.toNat≤57)
def nmC (l:List UInt8) (i:Nat):Bool:=letB (l.getD i 0)||(digB (l.getD i 0)&&decide (i≠0))
def nmB (l:List UInt8):Bool:=decide (1≤l.length)&&decide (l.length≤12)&&(List.range l.length).all (nmC l)
def firstE (f:Nat→Int):Nat→Nat→Int
  | _,0=>0
  | i,n+1=>if f i=0 then firstE f (i+1) n else f i
theorem firstE_none {f:Nat→Int}:∀ {n i:Nat},(∀ j,i≤j→j<i+n→f j=0)→firstE f i n=0
  | 0,_,_=>rfl
  | n+1,i,h=>by
    unfold firstE
    rw [if_pos (h i (dI _) (by omega))]
    exact firstE_none fun j h1 h2=>h j (by omega) (by omega)
theorem firstE_some {f:Nat→Int} {e:Int}:∀ {n i k:Nat},(∀ j,i≤j→j<k→f j=0)→i≤k→k<i+n→f k=e→e≠0→firstE f i n=e
  | 0,_,_,_,h1,h2,_,_=>by omega
  | n+1,i,k,h,h1,h2,he,h0=>by
    unfold firstE
    by_cases e1:i=k
    · subst e1;rw [if_neg (by rw [he];exact h0),he]
    · rw [if_pos (h i (dI _) (by omega))]
      exact firstE_some (fun j h3 h4=>h j (by omega) h4) (by omega) (by omega) he h0
theorem firstE_zero {f:Nat→Int}:∀ {n i:Nat},firstE f i n=0→∀ j,i≤j→j<i+n→f j=0
  | 0,_,_,_,h1,h2=>by omega
  | n+1,i,h,j,h1,h2=>by
    unfold firstE at h
    split at h
    · rename_i h3
      by_cases e:j=i
      · rw [e];exact h3
      · exact firstE_zero h j (by omega) (by omega)
    · rename_i h3;exact absurd h h3
def fldE (fs:List Fl) (k:Nat):Int:=match fs[k]? with
  | some f=>if nmB f.nm=true then (if (fs.take k).any (fun g=>g.nm==f.nm)=true then 4 else 0) else 4
  | none=>0
def prevId (cs:List Cp) (i:Nat):Int:=(cs[i-1]?.map Cp.id).getD 0
def cmpE (cs:List Cp) (i:Nat):Int:=match cs[i]? with
  | some c =>
    if c.id<1∨24<c.id∨(0<i∧c.id≤prevId cs i) then 1
    else if nmB c.nm=true then (if (cs.take i).any (fun g=>g.nm==c.nm)=true then 4 else if firstE (fldE c.fs) 0 c.fs.length=0 then layErr c.fs else 4) else 4
  | none=>0
def chkE (s:Sc):Int:=if s.ver<1∨1073741824<s.ver then 1 else firstE (cmpE s.cs) 0 s.cs.length
structure CompsIn (X:Nat→Option Obj) (ad:Option Addr) (cs:List Cp):Prop where
  at_:∀ (i:Nat) (c:Cp),cs[i]? = some c→∃ (blk off:Nat) (arr:Array Value) (el:TypeId) (fr:Nat×Nat) (fad:Option Addr) (fcap:Nat),ad=some ⟨blk,off,none⟩∧X blk=some (.cells arr el fr)∧off+i*3+3≤arr.size ∧
    (arr.toList.drop (off+i*3)).take 3=[.int .i64 c.id,.string ⟨c.nm.toArray⟩,.slice fad c.fs.length fcap]∧FieldsIn X fad c.fs
  small:∀ c∈cs,-9223372036854775808≤c.id∧c.id<9223372036854775808
theorem FieldsIn.mono {X Y:Nat→Option Obj} (hXY:∀ b o,X b=some o→Y b=some o) {ad:Option Addr} {fs:List Fl} (h:FieldsIn X ad fs):FieldsIn Y ad fs:=⟨RowsIn.mono h.rows hXY,h.small⟩
theorem CompsIn.mono {X Y:Nat→Option Obj} (hXY:∀ b o,X b=some o→Y b=some o) {ad:Option Addr} {cs:List Cp} (h:CompsIn X ad cs):CompsIn Y ad cs:=⟨fun i c hc=>by
  obtain ⟨blk,off,arr,el,fr,fad,fcap,h1,h2,h3,h4,h5⟩:=h.at_ i c hc
  exact ⟨blk,off,arr,el,fr,fad,fcap,h1,hXY _ _ h2,h3,h4,h5.mono hXY⟩,h.small⟩
theorem three_at {arr:Array Value} {p:Nat} {a b c:Value} (h:(arr.toList.drop p).take 3=[a,b,c]):arr[p]? = some a∧arr[p+1]? = some b∧arr[p+2]? = some c:=by
  have key:∀ j,j<3→arr[p+j]? = [a,b,c][j]? := fun j hj=>by
    rw [← h,List.getElem?_take,if_pos hj,List.getElem?_drop,Array.getElem?_toList]
  exact ⟨key 0 (by omega),key 1 (by omega),key 2 (by omega)⟩
theorem CompsIn.get {X:Nat→Option Obj} {ad:Option Addr} {cs:List Cp} (h:CompsIn X ad cs) {i:Nat} {c:Cp} (hc:cs[i]? = some c):∃ (blk off:Nat) (arr:Array Value) (el:TypeId) (fr:Nat×Nat) (fad:Option Addr) (fcap:Nat),ad=some ⟨blk,off,none⟩∧X blk=some (.cells arr el fr)∧off+i*3+3≤arr.size ∧
    ((arr.toList.drop (off+i*3)).take 3).map CV.val=[.val (.int .i64 c.id),.val (.string ⟨c.nm.toArray⟩),.val (.slice fad c.fs.length fcap)]∧arr[off+i*3]? = some (.int .i64 c.id)∧arr[off+i*3+1]? = some (.string ⟨c.nm.toArray⟩)∧arr[off+i*3+2]? = some (.slice fad c.fs.length fcap)∧FieldsIn X fad c.fs:=by
  obtain ⟨blk,off,arr,el,fr,fad,fcap,h1,h2,h3,h4,h5⟩:=h.at_ i c hc
  obtain ⟨g1,g2,g3⟩:=three_at h4
  exact ⟨blk,off,arr,el,fr,fad,fcap,h1,h2,h3,by rw [h4];rfl,g1,g2,g3,h5⟩
def NamesIn (cs:List Cp):Prop := ∀ c∈cs,c.nm.length≤9223372036854775807∧∀ f∈c.fs,f.nm.length≤9223372036854775807
def SmallC (cs:List Cp):Prop:=cs.length≤30∧∀ c∈cs,c.fs.length≤12∧c.nm.length≤100∧∀ f∈c.fs,f.nm.length≤100
end Go.Lg.Fld
namespace Go.Proofs.YtnfbccfghgmfiaaGreat
open Go Go.Lg Go.Lg.Fld
abbrev Sx (ver:Int) (ad:Option Addr) (n cap:Nat):LV:=.sv (.agg [.val (.int .i64 ver),.val (.slice ad n cap)])
abbrev Cx (c:Cp) (fad:Option Addr) (fcap:Nat):LV:=.sv (.agg [.val (.int .i64 c.id),.val (.string ⟨c.nm.toArray⟩),.val (.slice fad c.fs.length fcap)])
end Go.Proofs.YtnfbccfghgmfiaaGreat
end
section
namespace Go.Proofs.YtnfbccfghgmfiaaGreat
open Go Go.Lg Go.Lg.Fld
set_option maxRecDepth 100000
variable (X:Nat→Option Obj)
theorem getD_of {α:Type} {l:List α} {i:Nat} {d x:α} (h:l[i]? = some x):l.getD i d=x:=by rw [List.getD_eq_getElem?_getD,h];rfl
theorem nmB_false {l:List UInt8} {i:Nat} (hi:i<l.length) (h:nmC l i=false):nmB l=false:=by
  unfold nmB
  rw [Bool.and_eq_false_iff]
  right
  exact List.all_eq_false.2 ⟨i,List.mem_range.2 hi,by rw [h];simp⟩
theorem nmB_true {l:List UInt8} (h1:1≤l.length) (h2:l.length≤12) (h:∀ j,j<l.length→nmC l j=true):nmB l=true:=by
  unfold nmB
  rw [cK h1,cK h2,Bool.true_and,Bool.true_and]
  exact List.all_eq_true.2 fun j hj=>h j (List.mem_range.1 hj)
end Go.Proofs.YtnfbccfghgmfiaaGreat
end
section
namespace Go.Lg.Fld
open Go Go.Lg
def findI {α:Type} (p:α→Bool) (l:List α):Int:=match l.findIdx? p with|some i=>(i:Nat)|none => -1
theorem findI_some {α:Type} {p:α→Bool} {l:List α} {i:Nat} {x:α} (h:∀ (j:Nat) (y:α),j<i→l[j]? = some y→p y=false) (hx:l[i]? = some x) (hp:p x=true):findI p l=(i:Nat):=by
  unfold findI
  obtain ⟨hi,e⟩:=List.getElem?_eq_some_iff.1 hx
  rw [List.findIdx?_eq_some_iff_getElem.2 ⟨hi,by rw [e];exact hp,fun j hj=>by rw [h j _ hj (cS (by omega))];simp⟩]
theorem findI_none {α:Type} {p:α→Bool} {l:List α} (h:∀ (j:Nat) (y:α),l[j]? = some y→p y=false):findI p l = -1:=by
  unfold findI
  rw [List.findIdx?_eq_none_iff.2 fun x hx=>by
    obtain ⟨j,hj⟩:=List.mem_iff_getElem?.1 hx
    exact h j x hj]
end Go.Lg.Fld
namespace Go.Proofs.YtnfbccfghgmfiaaGreat
open Go Go.Lg Go.Lg.Fld
set_option maxRecDepth 100000
variable (X:Nat→Option Obj)
abbrev sxB (k:Nat) (ver:Int) (ad:Option Addr) (n cap:Nat):Nat×Option Box:=(k,some ⟨32,[.val (.int .i64 ver),.val (.slice ad n cap)],false⟩)
end Go.Proofs.YtnfbccfghgmfiaaGreat
end
section
namespace Go.Lg.Fld
open Go Go.Lg
structure Pt where
  comp:Int
  val:List (Bool×Int)
theorem any_true {α:Type} {p:α→Bool} {l:List α} {k i:Nat} {y:α} (hk:k<i) (hy:l[k]? = some y) (hp:p y=true):(l.take i).any p=true:=by
  rw [List.any_eq_true]
  exact ⟨y,cX (by rw [List.getElem?_take,if_pos hk];exact hy),hp⟩
end Go.Lg.Fld
namespace Go.Proofs.YtnfbccfghgmfiaaGreat
open Go Go.Lg Go.Lg.Fld
set_option maxRecDepth 100000
structure PartsIn (X:Nat→Option Obj) (ad:Option Addr) (ps:List Pt):Prop where
  at_:∀ (i:Nat) (p:Pt),ps[i]? = some p→∃ (blk off:Nat) (arr:Array Value) (el:TypeId) (fr:Nat×Nat) (vad:Option Addr) (vcap:Nat),ad=some ⟨blk,off,none⟩∧X blk=some (.cells arr el fr)∧off+i*2+2≤arr.size ∧
    (arr.toList.drop (off+i*2)).take 2=[.int .i64 p.comp,.slice vad p.val.length vcap]∧NumsIn X vad p.val
  small:∀ p∈ps,-9223372036854775808≤p.comp∧p.comp<9223372036854775808
variable (X:Nat→Option Obj)
end Go.Proofs.YtnfbccfghgmfiaaGreat
end
section
namespace Go.Lg.Fml
structure Ins where
  op:Int
  a:Int
  b:Int
  k:Bool×Int
  deriving DecidableEq
def takes (op:Int):Nat:=if op=16 then 3 else if op=10∨op=15 then 1 else if 5≤op∧op≤17 then 2 else 0
theorem takes_le (op:Int):takes op≤3:=by unfold takes;split<;>(try split)<;>(try split)<;>omega
inductive Tr where
  | n0 (x:Ins)
  | n1 (x:Ins) (a:Tr)
  | n2 (x:Ins) (a b:Tr)
  | n3 (x:Ins) (a b c:Tr)
def Tr.flat:Tr→List Ins
  | .n0 x=>[x]
  | .n1 x a=>a.flat++[x]
  | .n2 x a b=>a.flat++(b.flat++[x])
  | .n3 x a b c=>a.flat++(b.flat++(c.flat++[x]))
def Tr.ok:Tr→Prop
  | .n0 x=>takes x.op=0
  | .n1 x a=>takes x.op=1∧a.ok
  | .n2 x a b=>takes x.op=2∧a.ok∧b.ok
  | .n3 x a b c=>takes x.op=3∧a.ok∧b.ok∧c.ok
section
variable {V:Type} (one:Ins→List V→Except Int V)
def Tr.ev:Tr→Except Int V
  | .n0 x=>one x []
  | .n1 x a=>match a.ev with
    | .error e=>.error e
    | .ok u=>one x [u]
  | .n2 x a b=>match a.ev with
    | .error e=>.error e
    | .ok u=>match b.ev with
      | .error e=>.error e
      | .ok v=>one x [u,v]
  | .n3 x a b c=>match a.ev with
    | .error e=>.error e
    | .ok u=>match b.ev with
      | .error e=>.error e
      | .ok v=>match c.ev with
        | .error e=>.error e
        | .ok w=>one x [u,v,w]
def run:List Ins→List V→Except Int (List V)
  | [],st=>.ok st
  | x::t,st=>match one x (st.take (takes x.op)).reverse with
    | .error e=>.error e
    | .ok v=>run t (v::st.drop (takes x.op))
variable {one}
end
def dep (okI:Ins→Bool):Nat→List Ins→Option Nat
  | n,[]=>some n
  | n,x::t=>if okI x=true∧takes x.op≤n∧n-takes x.op+1≤16 then dep okI (n-takes x.op+1) t else none
theorem dep_app {okI:Ins→Bool}:∀ {l r:List Ins} {n:Nat},dep okI n (l++r)=(dep okI n l).bind fun m=>dep okI m r
  | [],r,n=>rfl
  | x::l,r,n=>by
    simp only [List.cons_append,dep]
    split
    · exact dep_app
    · rfl
def surplus:List Ins→Int
  | []=>0
  | x::t=>(takes x.op:Int)-1+surplus t
def Back (l:List Ins):Prop := ∀ p s:List Ins,l=p++s→p≠[]→0≤surplus s
def Tr.ends (p:Nat):Tr→List Nat
  | .n0 _=>[]
  | .n1 _ a=>[p+a.flat.length-1]
  | .n2 _ a b=>[p+a.flat.length-1,p+a.flat.length+b.flat.length-1]
  | .n3 _ a b c=>[p+a.flat.length-1,p+a.flat.length+b.flat.length-1,p+a.flat.length+b.flat.length+c.flat.length-1]
def Tr.top:Tr→Ins
  | .n0 x=>x
  | .n1 x _=>x
  | .n2 x _ _=>x
  | .n3 x _ _ _=>x
end Go.Lg.Fml
end
section
namespace Go.Lg.Fld
open Go Go.Lg
section
variable {cs:List Cp} {i:Nat} {c:Cp}
theorem cmpE_at (h:cs[i]? = some c):cmpE cs i=if c.id<1∨24<c.id∨(0<i∧c.id≤prevId cs i) then 1
    else if nmB c.nm=true then (if (cs.take i).any (fun g=>g.nm==c.nm)=true then 4 else if firstE (fldE c.fs) 0 c.fs.length=0 then layErr c.fs else 4) else 4:=by unfold cmpE;rw [h]
theorem fldE_at {fs:List Fl} {k:Nat} {f:Fl} (h:fs[k]? = some f):fldE fs k=if nmB f.nm=true then (if (fs.take k).any (fun g=>g.nm==f.nm)=true then 4 else 0) else 4:=by unfold fldE;rw [h]
theorem prev_at {p:Cp} (h:cs[i-1]? = some p):prevId cs i=p.id:=by unfold prevId;rw [h];rfl
end
theorem FieldsIn.nm {X:Nat→Option Obj} {ad:Option Addr} {fs:List Fl} (h:FieldsIn X ad fs) {k:Nat} {f:Fl} (hf:fs[k]? = some f):
    ∃ (blk off:Nat) (arr:Array Value) (el:TypeId) (fr:Nat×Nat),ad=some ⟨blk,off,none⟩∧X blk=some (.cells arr el fr)∧arr[off+k*3]? = some (.string ⟨f.nm.toArray⟩):=by
  obtain ⟨blk,off,arr,el,fr,h1,h2,h3,h4⟩:=h.rows k f.vals (by rw [dG,hf];rfl)
  exact ⟨blk,off,arr,el,fr,h1,h2,(three_at h4).1⟩
end Go.Lg.Fld
namespace Go.Proofs.YtnfbccfghgmfiaaGreat
open Go Go.Lg Go.Lg.Fld
set_option maxRecDepth 100000
variable (X:Nat→Option Obj)
abbrev cpB (k:Nat) (c:Cp) (fad:Option Addr) (fcap:Nat):Nat×Option Box:=(k,some ⟨24,[.val (.int .i64 c.id),.val (.string ⟨c.nm.toArray⟩),.val (.slice fad c.fs.length fcap)],false⟩)
end Go.Proofs.YtnfbccfghgmfiaaGreat
end
section
namespace Go.Lg.Fld
open Go Go.Lg
def rowsZ:List Cp→List Value→List Value
  | c::cs,v::vs=>.int .i64 c.id :: .string ⟨c.nm.toArray⟩::v::rowsZ cs vs
  | _,_=>[]
theorem rowsZ_len:∀ {cs:List Cp} {cells:List Value},cells.length=cs.length→(rowsZ cs cells).length=cs.length*3
  | [],[],_=>rfl
  | c::cs,v::vs,h=>by
    simp only [rowsZ,dD] at h ⊢
    rw [rowsZ_len (cs:=cs) (cells:=vs) (by omega)];omega
  | [],_::_,h=>by simp at h
  | _::_,[],h=>by simp at h
theorem rowsZ_split:∀ {cs:List Cp} {cells:List Value} {i:Nat} {c:Cp} {v:Value},cs[i]? = some c→cells[i]? = some v →
    rowsZ cs cells=rowsZ (cs.take i) (cells.take i) ++ .int .i64 c.id :: .string ⟨c.nm.toArray⟩::v::rowsZ (cs.drop (i+1)) (cells.drop (i+1))
  | [],_,i,c,v,h,_=>by simp at h
  | _::_,[],i,c,v,_,h=>by simp at h
  | a::cs,u::vs,0,c,v,h1,h2=>by
    simp only [List.getElem?_cons_zero,Option.some.injEq] at h1 h2
    subst h1 h2
    rfl
  | a::cs,u::vs,i+1,c,v,h1,h2=>by
    simp only [List.getElem?_cons_succ] at h1 h2
    simp only [rowsZ,List.take_succ_cons,List.drop_succ_cons,List.cons_append]
    rw [rowsZ_split h1 h2]
def flV (fs:List Fl):List Value:=(fs.map Fl.vals).flatten
theorem flV_len (fs:List Fl):(flV fs).length=fs.length*3:=by
  unfold flV
  induction fs with
  | nil=>rfl
  | cons f t ih=>rw [List.map_cons,List.flatten_cons,cQ,ih,dD];simp [Fl.vals];omega
theorem flV_at:∀ {fs:List Fl} {k:Nat} {f:Fl},fs[k]? = some f→k*3+3≤(flV fs).length∧((flV fs).drop (k*3)).take 3=f.vals
  | [],k,f,h=>by simp at h
  | a::t,0,f,h=>by
    simp only [List.getElem?_cons_zero,Option.some.injEq] at h
    subst h
    refine ⟨by rw [flV_len,dD];omega,?_⟩
    unfold flV
    rw [Nat.zero_mul,List.drop_zero,List.map_cons,List.flatten_cons,List.take_append_of_le_length (by simp [Fl.vals])]
    rfl
  | a::t,k+1,f,h=>by
    obtain ⟨h1,h2⟩:=flV_at (fs:=t) (k:=k) (f:=f) (by simpa using h)
    refine ⟨by rw [flV_len] at h1 ⊢;simp;omega,?_⟩
    rw [← h2]
    unfold flV
    rw [List.map_cons,List.flatten_cons,show (k+1)*3=a.vals.length+k*3 by simp [Fl.vals];omega,List.drop_length_add_append]
theorem fields_block {Y:Nat→Option Obj} {blk:Nat} {arr:Array Value} {el:TypeId} {fr:Nat×Nat} {fs:List Fl} {sp:List Value} (hY:Y blk=some (.cells arr el fr)) (ha:arr.toList=flV fs++sp)
    (hs:∀ f∈fs,(-9223372036854775808≤f.kind∧f.kind<9223372036854775808)∧(-9223372036854775808≤f.count∧f.count<9223372036854775808)):FieldsIn Y (some ⟨blk,0,none⟩) fs:=by
  refine ⟨fun k r hr => ?_,hs⟩
  rw [dG] at hr
  cases hf:fs[k]? with
  | none=>rw [hf] at hr;cases hr
  | some f =>
    rw [hf] at hr
    simp only [Option.map_some,Option.some.injEq] at hr
    subst hr
    obtain ⟨h1,h2⟩:=flV_at hf
    refine ⟨blk,0,arr,el,fr,O,hY,?_,?_⟩
    · rw [← Array.length_toList,ha,cQ];omega
    · rw [ha,Nat.zero_add,List.drop_append_of_le_length (by omega),List.take_append_of_le_length (by rw [List.length_drop];omega)];exact h2
end Go.Lg.Fld
namespace Go.Proofs.YtnfbccfghgmfiaaGreat
open Go Go.Lg Go.Lg.Fld
set_option maxRecDepth 100000
end Go.Proofs.YtnfbccfghgmfiaaGreat
end
section
namespace Go.Lg.Fld
open Go Go.Lg
def nmM (ns:List (List UInt8)):List (Value×Value):=ns.map fun l=>(.string ⟨l.toArray⟩,.agg #[])
theorem nmM_at (ns:List (List UInt8)) (l:List UInt8):At (nmM ns) (.string ⟨l.toArray⟩) (.agg #[]) (.agg #[]):=by
  by_cases h:l∈ns
  · exact .inl (List.mem_map.2 ⟨l,h,rfl⟩)
  · refine .inr ⟨fun p hp e => ?_,rfl⟩
    obtain ⟨l',hl',rfl⟩:=List.mem_map.1 hp
    simp only [Value.string.injEq,ByteArray.mk.injEq] at e
    exact h (by rw [show l=l' from (List.toArray_inj e.symm)];exact hl')
theorem nmM_any (ns:List (List UInt8)) (l:List UInt8) (r:Bool) (hr:ns.any (fun m=>m==l)=r):r=true↔∃ p∈nmM ns,p.1 = .string ⟨l.toArray⟩:=by
  subst hr
  rw [List.any_eq_true]
  constructor
  · rintro ⟨m,hm,he⟩
    rw [beq_iff_eq] at he
    subst he
    exact ⟨_,List.mem_map.2 ⟨m,hm,O⟩,O⟩
  · rintro ⟨p,hp,e⟩
    obtain ⟨l',hl',rfl⟩:=List.mem_map.1 hp
    simp only [Value.string.injEq,ByteArray.mk.injEq] at e
    exact ⟨l',hl',by rw [beq_iff_eq];exact List.toArray_inj e⟩
theorem nmM_put {ns:List (List UInt8)} {l:List UInt8} (h:ns.any (fun m=>m==l)=false):Put (nmM ns) (.string ⟨l.toArray⟩) (.agg #[]) (nmM (ns++[l])):=by
  refine .inr ⟨fun p hp e => ?_,by unfold nmM;rw [dC];rfl⟩
  obtain ⟨l',hl',rfl⟩:=List.mem_map.1 hp
  simp only [Value.string.injEq,ByteArray.mk.injEq] at e
  rw [List.any_eq_false] at h
  exact h l' hl' (by rw [beq_iff_eq];exact List.toArray_inj e)
end Go.Lg.Fld
namespace Go.Proofs.YtnfbccfghgmfiaaGreat
open Go Go.Lg Go.Lg.Fld
set_option maxRecDepth 100000
variable (X:Nat→Option Obj)
theorem isLetter_spec (c:UInt8):PSpec Tryz.prog X 56 [Ln .u8 (c.toNat:Nat)] (Lb (letB c)):=by
  refine cB Tryz.func56 rfl (by kernel_rfl) rfl rfl ?_
  intro C
  unfold letB
  by_cases h:97≤c.toNat
  · rw [cK h,Bool.true_and]
    (refine aA<|rgN<|kas O<|aB<|aA<|rgN<|kmv O<|K.leq O O (cK (by omega)) dM<|kmv O<|gmv O O O<|K.leq O O (r:=decide (c.toNat≤122)) (by rw [decide_eq_decide];omega) (dN O O) ?_;refine kpt O O<|kas O<|aB<|aI ?_)
    exact ⟨[_],⟨O,trivial⟩,O⟩
  · rw [cJ h,Bool.false_and]
    (refine aA<|rgN<|kas O<|aB<|aA<|rgN<|kmv O<|K.leq O O (cJ (by omega)) dM<|kmv O<|aC O O O<|aC O O O<|kpf O O<|kas O<|aB ?_;refine aI ?_)
    exact ⟨[_],⟨O,trivial⟩,O⟩
theorem isDigit_spec (c:UInt8):PSpec Tryz.prog X 57 [Ln .u8 (c.toNat:Nat)] (Lb (digB c)):=by
  refine cB Tryz.func57 rfl (by kernel_rfl) rfl rfl ?_
  intro C
  unfold digB
  by_cases h:48≤c.toNat
  · rw [cK h,Bool.true_and]
    (refine aA<|rgN<|kas O<|aB<|aA<|rgN<|kmv O<|K.leq O O (cK (by omega)) dM<|kmv O<|gmv O O O<|K.leq O O (r:=decide (c.toNat≤57)) (by rw [decide_eq_decide];omega) (dN O O) ?_;refine kpt O O<|kas O<|aB<|aI ?_)
    exact ⟨[_],⟨O,trivial⟩,O⟩
  · rw [cJ h,Bool.false_and]
    (refine aA<|rgN<|kas O<|aB<|aA<|rgN<|kmv O<|K.leq O O (cJ (by omega)) dM<|kmv O<|aC O O O<|aC O O O<|kpf O O<|kas O<|aB ?_;refine aI ?_)
    exact ⟨[_],⟨O,trivial⟩,O⟩
theorem nmC_zero (l:List UInt8):nmC l 0=letB (l.getD 0 0):=by unfold nmC;simp
theorem nmC_more {l:List UInt8} {i:Nat} (h:nmC l 0=true):nmC l i=(letB (l.getD i 0)||digB (l.getD i 0)):=by
  unfold nmC
  by_cases e:i=0
  · subst e
    rw [nmC_zero] at h
    rw [h];simp
  · simp [e]
theorem pIsName (l:List UInt8) (r:Bool) (hr:nmB l=r):PSpec Tryz.prog X 42 [Ls l] (Lb r):=by
  subst hr
  refine cB Tryz.func42 rfl (by kernel_rfl) rfl rfl ?_
  intro C
  have hlen:(⟨l.toArray⟩:ByteArray).size=l.length:=rfl
  by_cases h1:l.length<1
  · rw [show nmB l=false by unfold nmB;rw [cJ (by omega)];rfl]
    (refine aA<|rgN<|kas O<|aB<|aA<|aA<|rgN<|kmv O<|kln O<|klt O O (cK (by rw [hlen];omega))<|kmv O<|aC O O O<|aC O O O<|aC O O O ?_;refine kpt O O<|kmv O<|aC O O O<|aC O O O<|aC O O O<|aC O O O<|kpt O O<|aB<|aE O ?_;refine aA<|rgN<|kas O<|aB<|aI ?_)
    exact ⟨[_],⟨O,trivial⟩,O⟩
  by_cases h2:12<l.length
  · rw [show nmB l=false by unfold nmB;rw [cJ (show ¬l.length≤12 by omega)];simp]
    (refine aA<|rgN<|kas O<|aB<|aA<|aA<|rgN<|kmv O<|kln O<|klt O O (cJ (by rw [hlen];omega))<|kmv O<|gmv O O O<|K.lenStr O (dN O O) ?_;refine aS O O (cK (by rw [hlen];omega)) (dN O O) ?_;refine kpf O O<|kmv O<|aC O O O<|aC O O O<|aC O O O<|aC O O O<|kpt O O<|aB<|aE O ?_;refine aA<|rgN<|kas O<|aB<|aI ?_)
    exact ⟨[_],⟨O,trivial⟩,O⟩
  obtain ⟨c0,hc0⟩:∃ c,l[0]? = some c:=⟨_,cS (by omega)⟩
  have hget0:(⟨l.toArray⟩:ByteArray)[(0:Int).toNat]? = some c0:=str_at hc0
  have hz:nmC l 0=letB c0:=by rw [nmC_zero,getD_of hc0]
  have hL:=isLetter_spec X c0
  cases h0:letB c0 with
  | false =>
    rw [nmB_false (i:=0) (by omega) (hz.trans h0)]
    rw [h0] at hL
    (refine aA<|rgN<|kas O<|aB<|aA<|aA<|rgN<|kmv O<|kln O<|klt O O (cJ (by rw [hlen];omega))<|kmv O<|gmv O O O<|K.lenStr O (dN O O) ?_;refine aS O O (cJ (by rw [hlen];omega)) (dN O O) ?_;refine kpf O O<|kmv O<|gmv O O O<|bB O O (by omega) hget0 (dN O O) ?_;refine gca O O (hL) O O<|aV O O (dN O O) ?_;refine kpf O O<|aB<|aE O ?_;refine aA<|rgN<|kas O<|aB<|aI ?_)
    exact ⟨[_],⟨O,trivial⟩,O⟩
  | true =>
    have hz1:=hz.trans h0
    rw [h0] at hL
    (refine aA<|rgN<|kas O<|aB<|aA<|aA<|rgN<|kmv O<|kln O<|klt O O (cJ (by rw [hlen];omega))<|kmv O<|gmv O O O<|K.lenStr O (dN O O) ?_;refine aS O O (cJ (by rw [hlen];omega)) (dN O O) ?_;refine kpf O O<|kmv O<|gmv O O O<|bB O O (by omega) hget0 (dN O O) ?_;refine gca O O (hL) O O<|aV O O (dN O O) ?_;refine kpf O O<|aB<|aF O ?_;refine aH ?_;refine aA<|aA<|rgN<|kmv O<|kln O<|kmv O<|aB<|aG ?_)
    refine cF (fun m σ=>∃ i:Nat,i≤l.length∧m=l.length-i∧(∀ j,j<i→nmC l j=true)∧σ=⟨[(0,Ls l),(19,Ln .i64 (l.length:Nat)),(20,Ln .i64 (i:Nat))],[],X⟩) l.length
      ⟨_,Le.of (by exact ⟨rfl,rfl,rfl,trivial⟩) (by exact trivial) (by exact rfl) (by exact rfl) (by exact rfl),0,by omega,by omega,fun j hj=>absurd hj (by omega),rfl⟩ ?_
    rintro m σ ⟨i,hi,rfl,hpre,rfl⟩
    by_cases hlt:i<l.length
    · obtain ⟨c,hc⟩:∃ c,l[i]? = some c:=⟨_,cS hlt⟩
      have hN:nmC l i=(letB c||digB c):=by rw [nmC_more hz1,getD_of hc]
      have hget:(⟨l.toArray⟩:ByteArray)[(i:Int).toNat]? = some c:=str_at (by rw [dA];exact hc)
      have hA:=isLetter_spec X c
      have hB:=isDigit_spec X c
      have key:nmC l i=true→∀ j,j<i+1→nmC l j=true:=fun hok j hj=>by
        by_cases e:j=i
        · rw [e];exact hok
        · exact hpre j (by omega)
      cases ha:letB c with
      | true =>
        rw [ha] at hA
        (refine aA<|rgN<|klt O O (cK (by omega))<|aB<|aA<|aE O ?_;refine aH ?_;refine aA<|aG<|aA<|rgN<|kmv O<|kas O<|aB<|aA<|rgN<|kmv O<|kmv O<|bB O O (by omega) hget dM<|kca O O (hA)<|aV O O dM ?_;refine kmv O<|aC O O O<|aC O O O<|aC O O O<|aC O O O<|aC O O O<|kpf O O<|aB<|aF O ?_;refine aH ?_;refine rgN<|kad O O (cD (by omega))<|kmv O<|aB ?_)
        exact ⟨_,_,by omega,Le.of (by exact ⟨rfl,rfl,rfl,trivial⟩) (by exact trivial) (by exact rfl) (by exact rfl) (by exact rfl),i+1,by omega,rfl,key (by rw [hN,ha];rfl),rfl⟩
      | false =>
        rw [ha] at hA
        cases hb:digB c with
        | true =>
          rw [hb] at hB
          (refine aA<|rgN<|klt O O (cK (by omega))<|aB<|aA<|aE O ?_;refine aH ?_;refine aA<|aG<|aA<|rgN<|kmv O<|kas O<|aB<|aA<|rgN<|kmv O<|kmv O<|bB O O (by omega) hget dM<|kca O O (hA)<|aV O O dM ?_;refine kmv O<|gmv O O O<|gmv O O O<|bB O O (by omega) hget (dN O O) ?_;refine gca O O (hB) O O<|aV O O (dN O O) ?_;refine kpt O O<|aB<|aF O ?_;refine aH ?_;refine rgN<|kad O O (cD (by omega))<|kmv O<|aB ?_)
          exact ⟨_,_,by omega,Le.of (by exact ⟨rfl,rfl,rfl,trivial⟩) (by exact trivial) (by exact rfl) (by exact rfl) (by exact rfl),i+1,by omega,rfl,key (by rw [hN,ha,hb];rfl),rfl⟩
        | false =>
          rw [hb] at hB
          rw [nmB_false hlt (by rw [hN,ha,hb];rfl)]
          (refine aA<|rgN<|klt O O (cK (by omega))<|aB<|aA<|aE O ?_;refine aH ?_;refine aA<|aG<|aA<|rgN<|kmv O<|kas O<|aB<|aA<|rgN<|kmv O<|kmv O<|bB O O (by omega) hget dM<|kca O O (hA)<|aV O O dM ?_;refine kmv O<|gmv O O O<|gmv O O O<|bB O O (by omega) hget (dN O O) ?_;refine gca O O (hB) O O<|aV O O (dN O O) ?_;refine kpt O O<|aB<|aE O ?_;refine aA<|rgN<|kas O<|aB<|aI ?_)
          exact ⟨[_],⟨O,trivial⟩,O⟩
    · rw [nmB_true (by omega) (by omega) (fun j hj=>hpre j (by omega))]
      (refine aA<|rgN<|klt O O (cJ (by omega))<|aB<|aA<|aF O ?_;refine aJ<|aA<|rgN<|kas O<|aB<|aI ?_)
      exact ⟨[_],⟨O,trivial⟩,O⟩
abbrev nmBx (k:Nat) (ns:List (List UInt8)):Nat×Option Box:=(k,some ⟨0,[],.res (mapR Tryz.prog 9 (nmM ns))⟩)
abbrev Lmp (k:Nat):LV:=.sv (.one (.mp k))
theorem take_ok (ns:List (List UInt8)) (l:List UInt8) (hl:l.length≤9223372036854775807) (h1:ns.any (fun m=>m==l)=false) (h2:nmB l=true):
    MSpec Tryz.prog X 26 [Lmp 1000000,Ls l] [nmBx 1000000 ns] (Lb true) [nmBx 1000000 (ns++[l])]:=by
  refine cC Tryz.func26 rfl (by kernel_rfl) rfl rfl (by exact (by repeat' (first|refine bR ?_ ?_|rfl|exact bT|exact bS|exact bU rfl))) rfl rfl ?_
  intro C
  have hN:=pIsName X l true h2
  have hkey:Go.keyOf Tryz.prog 9 (.string ⟨l.toArray⟩)=some (.string l):=by
    rw [WideMaps.keyOf_string_mk (by kernel_rfl) (by show l.length≤maxLen;unfold maxLen;omega)]
  (refine aA<|rgN<|kas O<|aB<|aA<|aA<|rgN<|kmv O<|kmv O<|K.lookupOk (et:=107) (.agg []) (v:=.agg #[]) (z:=.agg #[]) O O O (by kernel_rfl) (KL.str (by kernel_rfl)) hkey (by kernel_rfl) (nmM_at ns l) agg0_rel (nmM_any ns l false h1) dM ?_;refine kmv O<|kex O O<|kex O O<|aP O dM ?_;refine aM O O O O O O dM ?_;refine kas O<|aB<|aA<|rgN<|kmv O<|kmv O<|gmv O O O<|gca O O (hN) O O<|aV O O (dN O O) ?_;refine kpf O O<|aB<|aF O ?_;refine aH ?_;refine aA<|rgN<|kmv O<|kmv O<|aT O O (by exact O) (by exact nl0 O) dM ?_;refine K.mapPut (et:=107) (nmM (ns++[l])) O O O O (by kernel_rfl) (KL.str (by kernel_rfl)) hkey (nmM_put h1) dM ?_;refine aB<|aA<|rgN<|kas O<|aB<|aI ?_)
  exact ⟨[],⟨[_],⟨rfl,trivial⟩,rfl⟩,(by repeat' (first|exact trivial|refine cL ⟨_,rfl,?_⟩ ?_|refine cL ⟨_,rfl⟩ ?_|rfl|exact bV _ _ _ _|exact bW _ _ _ _|exact bX rfl)),rfl,rfl⟩
theorem take_no (ns:List (List UInt8)) (l:List UInt8) (hl:l.length≤9223372036854775807) (h:ns.any (fun m=>m==l)=true∨nmB l=false):
    MSpec Tryz.prog X 26 [Lmp 1000000,Ls l] [nmBx 1000000 ns] (Lb false) [nmBx 1000000 ns]:=by
  refine cC Tryz.func26 rfl (by kernel_rfl) rfl rfl (by exact (by repeat' (first|refine bR ?_ ?_|rfl|exact bT|exact bS|exact bU rfl))) rfl rfl ?_
  intro C
  have hkey:Go.keyOf Tryz.prog 9 (.string ⟨l.toArray⟩)=some (.string l):=by
    rw [WideMaps.keyOf_string_mk (by kernel_rfl) (by show l.length≤maxLen;unfold maxLen;omega)]
  cases h1:ns.any (fun m=>m==l) with
  | true =>
    (refine aA<|rgN<|kas O<|aB<|aA<|aA<|rgN<|kmv O<|kmv O<|K.lookupOk (et:=107) (.agg []) (v:=.agg #[]) (z:=.agg #[]) O O O (by kernel_rfl) (KL.str (by kernel_rfl)) hkey (by kernel_rfl) (nmM_at ns l) agg0_rel (nmM_any ns l true h1) dM ?_;refine kmv O<|kex O O<|kex O O<|aP O dM ?_;refine aM O O O O O O dM ?_;refine kas O<|aB<|aA<|rgN<|kmv O<|kmv O<|aC O O O<|aC O O O<|aC O O O<|kpt O O<|aB<|aE O ?_;refine aA<|rgN<|kas O<|aB<|aI ?_)
    exact ⟨[],⟨[_],⟨rfl,trivial⟩,rfl⟩,(by repeat' (first|exact trivial|refine cL ⟨_,rfl,?_⟩ ?_|refine cL ⟨_,rfl⟩ ?_|rfl|exact bV _ _ _ _|exact bW _ _ _ _|exact bX rfl)),rfl,rfl⟩
  | false =>
    have hN:=pIsName X l false (h.resolve_left (by rw [h1];decide))
    (refine aA<|rgN<|kas O<|aB<|aA<|aA<|rgN<|kmv O<|kmv O<|K.lookupOk (et:=107) (.agg []) (v:=.agg #[]) (z:=.agg #[]) O O O (by kernel_rfl) (KL.str (by kernel_rfl)) hkey (by kernel_rfl) (nmM_at ns l) agg0_rel (nmM_any ns l false h1) dM ?_;refine kmv O<|kex O O<|kex O O<|aP O dM ?_;refine aM O O O O O O dM ?_;refine kas O<|aB<|aA<|rgN<|kmv O<|kmv O<|gmv O O O<|gca O O (hN) O O<|aV O O (dN O O) ?_;refine kpf O O<|aB<|aE O ?_;refine aA<|rgN<|kas O<|aB<|aI ?_)
    exact ⟨[],⟨[_],⟨rfl,trivial⟩,rfl⟩,(by repeat' (first|exact trivial|refine cL ⟨_,rfl,?_⟩ ?_|refine cL ⟨_,rfl⟩ ?_|rfl|exact bV _ _ _ _|exact bW _ _ _ _|exact bX rfl)),rfl,rfl⟩
end Go.Proofs.YtnfbccfghgmfiaaGreat
end
section
namespace Go.Lg.Fld
open Go Go.Lg
def NamesC (cs:List Cp):Prop := ∀ c∈cs,c.fs.length<4611686018427387904∧c.nm.length≤9223372036854775807∧∀ f∈c.fs,f.nm.length≤9223372036854775807
theorem any_names {α:Type} (g:α→List UInt8) (l:List α) (i:Nat) (nm:List UInt8):((l.take i).map g).any (fun m=>m==nm)=(l.take i).any (fun x=>g x==nm):=by rw [List.any_map];rfl
def fldsE (fs:List Fl):Int:=if firstE (fldE fs) 0 fs.length=0 then layErr fs else 4
end Go.Lg.Fld
namespace Go.Proofs.YtnfbccfghgmfiaaGreat
open Go Go.Lg Go.Lg.Fld
set_option maxRecDepth 100000
variable (X:Nat→Option Obj)
theorem checkFields_spec (fad:Option Addr) (fcap:Nat) (fs:List Fl) (hF:FieldsIn X fad fs) (hbig:fs.length<4611686018427387904) (hnm:∀ f∈fs,f.nm.length≤9223372036854775807) (e:Int) (he:fldsE fs=e):
    PSpec Tryz.prog X 27 [Lx fad fs.length fcap] (Ln .i64 e):=by
  subst he
  refine cB Tryz.func27 rfl (by kernel_rfl) rfl rfl ?_
  intro C
  (refine aA<|rgN<|kas O<|aB<|aA<|rgN<|K.makeMap 9 O dM ?_;refine kas O<|aB<|aA<|aA<|rgN<|kmv O<|aQ O bY O dM ?_;refine kmv O<|aB<|aG ?_)
  refine cF (fun m σ=>∃ i:Nat,i≤fs.length∧m=fs.length-i∧(∀ j,0≤j→j<i→fldE fs j=0)∧σ=⟨[(0,Lx fad fs.length fcap),(3,Lmp 6),(7,Lx fad fs.length fcap),(8,Ln .i64 (fs.length:Nat)),(9,Ln .i64 (i:Nat))],[nmBx 6 ((fs.take i).map Fl.nm)],X⟩) fs.length
    ⟨_,Le.of (by exact ⟨rfl,rfl,rfl,rfl,rfl,trivial⟩) (by exact ⟨rfl,trivial⟩) (by exact rfl) (by exact rfl) (by repeat' (first|refine bR ?_ ?_|rfl|exact bT|exact bS|exact bU rfl)),0,by omega,by omega,fun j _ hj=>absurd hj (by omega),rfl⟩ ?_
  rintro m σ ⟨i,hi,rfl,hpre,rfl⟩
  by_cases hlt:i<fs.length
  · obtain ⟨f,hf⟩:∃ f,fs[i]? = some f:=⟨_,cS hlt⟩
    obtain ⟨blk,off,arr,el,fr,rfl,hX,hsz,hcells⟩:=hF.at hf
    have hio:off+Int.toNat (i:Int)*3=off+i*3:=by simp
    have hE:=fldE_at hf
    have hnl:=hnm f (cX hf)
    have hany:=any_names Fl.nm fs i f.nm
    have hts:(fs.take (i+1)).map Fl.nm=(fs.take i).map Fl.nm++[f.nm]:=by rw [take_snoc hf,dC];rfl
    by_cases hbad:fldE fs i=0
    · rw [hbad] at hE
      have h2:nmB f.nm=true:=by
        cases h:nmB f.nm with
        | true=>rfl
        | false=>rw [h,if_neg (by decide)] at hE;cases hE
      rw [if_pos h2] at hE
      have h1:((fs.take i).map Fl.nm).any (fun m=>m==f.nm)=false:=by
        rw [hany]
        cases h:(fs.take i).any (fun g=>g.nm==f.nm) with
        | false=>rfl
        | true=>rw [h,if_pos rfl] at hE;cases hE
      have hT:=take_ok X ((fs.take i).map Fl.nm) f.nm hnl h1 h2
      rw [← hts] at hT
      generalize (fs.take i).map Fl.nm=ns at *
      generalize hns:(fs.take (i+1)).map Fl.nm=ns' at *
      (refine aA<|rgN<|klt O O (cK (by omega))<|aB<|aA<|aE O ?_;refine aH ?_;refine aA<|aG<|aA<|rgN<|aR O O bY (by omega) hio dM<|aY O hX (by kernel_rfl) hsz hcells dM<|aP O dM ?_;refine aM O O O O O O dM ?_;refine aB<|aA<|rgN<|kmv O<|kfa O O ?_;refine kl1 O O O<|aU [(1000000,6)] [nmBx 6 ns'] (hT) O O (by exact (cL ⟨_,O,O⟩ trivial)) (by exact (bR O O)) O O O O (by exact (.box O O .nil)) dM<|aV O O dM<|aB<|aF O ?_;refine aH ?_;refine rgN<|kad O O (cD (by omega))<|kmv O<|aB ?_)
      subst hns
      exact ⟨_,_,by omega,Le.of (by exact ⟨O,O,O,O,O,trivial⟩) (by exact ⟨O,trivial⟩) (by exact O) (by exact O) (by repeat' (first|refine bR ?_ ?_|rfl|exact bT|exact bS|exact bU O)),i+1,by omega,O,(fun j h0 hj=>by
        by_cases e:j=i
        · rw [e];exact hbad
        · exact hpre j h0 (by omega)),rfl⟩
    · have h4:fldE fs i=4:=by
        rw [hE] at hbad ⊢
        cases h0:nmB f.nm with
        | false=>rfl
        | true =>
          rw [h0] at hbad
          cases h':(fs.take i).any (fun g=>g.nm==f.nm) with
          | true=>rfl
          | false=>rw [h'] at hbad;exact absurd rfl hbad
      have hno:((fs.take i).map Fl.nm).any (fun m=>m==f.nm)=true∨nmB f.nm=false:=by
        rw [hany]
        rw [hE] at hbad
        cases h:nmB f.nm with
        | false=>exact .inr rfl
        | true =>
          left
          rw [h,if_pos rfl] at hbad
          cases h':(fs.take i).any (fun g=>g.nm==f.nm) with
          | true=>rfl
          | false=>rw [h',if_neg (by decide)] at hbad;exact absurd rfl hbad
      have hfin:fldsE fs=4:=by unfold fldsE;rw [firstE_some hpre (Nat.zero_le _) (by omega) h4 (by decide),if_neg (by decide)]
      rw [hfin]
      have hT:=take_no X ((fs.take i).map Fl.nm) f.nm hnl hno
      generalize (fs.take i).map Fl.nm=ns at *
      (refine aA<|rgN<|klt O O (cK (by omega))<|aB<|aA<|aE O ?_;refine aH ?_;refine aA<|aG<|aA<|rgN<|aR O O bY (by omega) hio dM<|aY O hX (by kernel_rfl) hsz hcells dM<|aP O dM ?_;refine aM O O O O O O dM ?_;refine aB<|aA<|rgN<|kmv O<|kfa O O ?_;refine kl1 O O O<|aU [(1000000,6)] [nmBx 6 ns] (hT) O O (by exact (cL ⟨_,O,O⟩ trivial)) (by exact (bR O O)) O O O O (by exact (.box O O .nil)) dM<|aV O O dM<|aB<|aE O ?_;refine aA<|rgN<|kas O<|aB<|aI ?_)
      exact ⟨[_],⟨O,trivial⟩,O⟩
  · have hfin:fldsE fs=layErr fs:=by unfold fldsE;rw [if_pos (firstE_none fun j h0 hj=>hpre j h0 (by omega))]
    rw [hfin]
    have hL:=Check_spec X fad fcap fs hF hbig
    generalize layErr fs=e at *
    (refine aA<|rgN<|klt O O (cJ (by omega))<|aB<|aA<|aF O ?_;refine aJ<|aA<|rgN<|kmv O<|kca O O (hL)<|kas O<|aB<|aI ?_)
    exact ⟨[_],⟨O,trivial⟩,O⟩
theorem cmpE_flds {cs:List Cp} {i:Nat} {c:Cp} (h:cs[i]? = some c):cmpE cs i=if c.id<1∨24<c.id∨(0<i∧c.id≤prevId cs i) then 1
    else if nmB c.nm=true then (if (cs.take i).any (fun g=>g.nm==c.nm)=true then 4 else fldsE c.fs) else 4:=cmpE_at h
set_option maxHeartbeats 3200000 in
theorem pCheckBig (s:Sc) (ad:Option Addr) (cap:Nat) (hin:CompsIn X ad s.cs) (hbig:s.cs.length<4611686018427387904) (hN:NamesC s.cs) (e:Int) (he:chkE s=e):PSpec Tryz.prog X 14 [Sx s.ver ad s.cs.length cap] (Ln .i64 e):=by
  subst he
  obtain ⟨ver,cs⟩:=s
  simp only at hin hbig hN ⊢
  refine cB Tryz.func14 rfl (by kernel_rfl) rfl rfl ?_
  intro C
  unfold chkE
  by_cases hv1:ver<1
  · rw [if_pos (.inl hv1)]
    (refine aA<|rgN<|aL O O O dM<|kas O<|aB<|aA<|aA<|rgN<|kfa O O ?_;refine kl1 O O O<|klt O O (cK hv1)<|kmv O<|aC O O O<|aC O O O<|aC O O O<|kpt O O<|aB<|aE O ?_;refine aA<|rgN<|kas O<|aB<|aI ?_)
    exact ⟨[_],⟨O,trivial⟩,O⟩
  by_cases hv2:1073741824<ver
  · rw [if_pos (.inr hv2)]
    (refine aA<|rgN<|aL O O O dM<|kas O<|aB<|aA<|aA<|rgN<|kfa O O ?_;refine kl1 O O O<|klt O O (cJ hv1)<|kmv O<|aN O O (dN O O) ?_;refine aO O O O (dN O O) ?_;refine aS O O (cK hv2) (dN O O) ?_;refine kpf O O<|aB<|aE O ?_;refine aA<|rgN<|kas O<|aB<|aI ?_)
    exact ⟨[_],⟨O,trivial⟩,O⟩
  rw [if_neg (show ¬(ver<1∨1073741824<ver) by omega)]
  (refine aA<|rgN<|aL O O O dM<|kas O<|aB<|aA<|aA<|rgN<|kfa O O ?_;refine kl1 O O O<|klt O O (cJ hv1)<|kmv O<|aN O O (dN O O) ?_;refine aO O O O (dN O O) ?_;refine aS O O (cJ hv2) (dN O O) ?_;refine kpf O O<|aB<|aF O ?_;refine aH ?_;refine aA<|rgN<|K.makeMap 9 O dM ?_;refine kas O<|kas O<|aB<|aA<|aA<|rgN<|kfa O O ?_;refine kl1 O O O<|aQ O bY O dM ?_;refine kmv O<|aB<|aG ?_)
  refine cF (fun m σ=>∃ (i:Nat) (last:Int),i≤cs.length∧m=cs.length-i∧(∀ j,0≤j→j<i→cmpE cs j=0)∧(∀ x:Int,x≤last↔(x<1∨(0<i∧x≤prevId cs i)))∧σ=⟨[(3,Ln .i64 last),(4,Lmp 16),(18,Lx ad cs.length cap),(19,Ln .i64 (cs.length:Nat)),(20,Ln .i64 (i:Nat))],[nmBx 16 ((cs.take i).map Cp.nm)],X⟩) cs.length
    ⟨_,Le.of (by exact ⟨rfl,rfl,rfl,rfl,rfl,trivial⟩) (by exact ⟨rfl,trivial⟩) (by exact rfl) (by exact rfl) (by repeat' (first|refine bR ?_ ?_|rfl|exact bT|exact bS|exact bU rfl)),0,0,by omega,by omega,fun j _ hj=>absurd hj (by omega),fun x=>by omega,rfl⟩ ?_
  rintro m σ ⟨i,last,hi,rfl,hpre,hlast,rfl⟩
  by_cases hlt:i<cs.length
  · obtain ⟨c,hc⟩:∃ c,cs[i]? = some c:=⟨_,cS hlt⟩
    obtain ⟨blk,off,arr,el,fr,fad,fcap,rfl,hX,hsz,hcs,_,_,_,hF⟩:=hin.get hc
    have hio:off+Int.toNat (i:Int)*3=off+i*3:=by simp
    have hE:=cmpE_flds hc
    obtain ⟨hfb,hnl,hfn⟩:=hN c (cX hc)
    have fin:∀ e,cmpE cs i=e→e≠0→firstE (cmpE cs) 0 cs.length=e:=fun e he h0=>firstE_some hpre (Nat.zero_le _) (by omega) he h0
    have hany:=any_names Cp.nm cs i c.nm
    have hts:(cs.take (i+1)).map Cp.nm=(cs.take i).map Cp.nm++[c.nm]:=by rw [take_snoc hc,dC];rfl
    (refine aA<|rgN<|klt O O (cK (by omega))<|aB<|aA<|aE O ?_;refine aH ?_;refine aA<|aG<|aA<|rgN<|aR O O bY (by omega) hio dM<|aY O hX (by kernel_rfl) hsz hcs dM<|aP O dM ?_;refine aM O O O O O O dM ?_;refine aB<|aA<|aA ?_)
    refine LWP.le (σ':=⟨[(3,Ln .i64 last),(4,Lmp 16),(6,Lp 6),(18,Lx (some ⟨blk,off,none⟩) cs.length cap),(19,Ln .i64 (cs.length:Nat)),(20,Ln .i64 (i:Nat))],[nmBx 16 ((cs.take i).map Cp.nm),cpB 6 c fad fcap],X⟩) (Le.of (by exact ⟨O,O,O,O,O,O,trivial⟩) (by exact ⟨O,O,trivial⟩) (by exact O) (by exact O) (by repeat' (first|refine bR ?_ ?_|rfl|exact bT|exact bS|exact bU O))) ?_
    by_cases hq1:c.id≤last
    · rw [if_pos (by rcases (hlast c.id).1 hq1 with h|h;exact .inl h;exact .inr (.inr h))] at hE
      rw [fin 1 hE (by decide)]
      (refine rgN<|kfa O O ?_;refine kl1 O O O<|kmv O<|K.leq O O (cK hq1) dM<|kmv O<|aC O O O<|aC O O O<|aC O O O<|kpt O O<|aB<|aE O ?_;refine aA<|rgN<|kas O<|aB<|aI ?_)
      exact ⟨[_],⟨O,trivial⟩,O⟩
    by_cases hq2:24<c.id
    · rw [if_pos (.inr (.inl hq2))] at hE
      rw [fin 1 hE (by decide)]
      (refine rgN<|kfa O O ?_;refine kl1 O O O<|kmv O<|K.leq O O (cJ hq1) dM<|kmv O<|aN O O (dN O O) ?_;refine aO O O O (dN O O) ?_;refine aS O O (cK hq2) (dN O O) ?_;refine kpf O O<|aB<|aE O ?_;refine aA<|rgN<|kas O<|aB<|aI ?_)
      exact ⟨[_],⟨O,trivial⟩,O⟩
    have hq3:¬(c.id<1∨(0<i∧c.id≤prevId cs i)):=fun h=>hq1 ((hlast c.id).2 h)
    rw [if_neg (show ¬(c.id<1∨24<c.id∨(0<i∧c.id≤prevId cs i)) from fun h=>by rcases h with h|h|h;exact hq3 (.inl h);exact hq2 h;exact hq3 (.inr h))] at hE
    by_cases hno:((cs.take i).map Cp.nm).any (fun m=>m==c.nm)=true∨nmB c.nm=false
    · have h4:cmpE cs i=4:=by
        rw [hE]
        rw [hany] at hno
        rcases hno with h|h
        · rw [h];simp
        · rw [h];simp
      rw [fin 4 h4 (by decide)]
      have hT:=take_no X ((cs.take i).map Cp.nm) c.nm hnl hno
      generalize (cs.take i).map Cp.nm=ns at *
      (refine rgN<|kfa O O ?_;refine kl1 O O O<|kmv O<|K.leq O O (cJ hq1) dM<|kmv O<|aN O O (dN O O) ?_;refine aO O O O (dN O O) ?_;refine aS O O (cJ hq2) (dN O O) ?_;refine kpf O O<|aB<|aF O ?_;refine aH ?_;refine aA<|rgN<|kfa O O ?_;refine kl1 O O O<|kas O<|aB<|aA<|aA<|rgN<|kmv O<|kfa O O ?_;refine kl1 O O O<|aU [(1000000,16)] [nmBx 16 ns] (hT) O O (by exact (cL ⟨_,O,O⟩ trivial)) (by exact (bR O O)) O O O O (by exact (.box O O .nil)) dM<|aV O O dM<|aB<|aE O ?_;refine aA<|rgN<|kas O<|aB<|aI ?_)
      exact ⟨[_],⟨O,trivial⟩,O⟩
    have h1:((cs.take i).map Cp.nm).any (fun m=>m==c.nm)=false:=by
      cases h:((cs.take i).map Cp.nm).any (fun m=>m==c.nm) with
      | false=>rfl
      | true=>exact absurd (.inl h) hno
    have h2:nmB c.nm=true:=by
      cases h:nmB c.nm with
      | true=>rfl
      | false=>exact absurd (.inr h) hno
    rw [if_pos h2,← hany,h1,if_neg (by decide)] at hE
    have hT:=take_ok X ((cs.take i).map Cp.nm) c.nm hnl h1 h2
    rw [← hts] at hT
    have hCF:=checkFields_spec X fad fcap c.fs hF hfb hfn (fldsE c.fs) rfl
    generalize (cs.take i).map Cp.nm=ns at *
    generalize hns:(cs.take (i+1)).map Cp.nm=ns' at *
    by_cases hz:fldsE c.fs=0
    · rw [hz] at hCF hE
      (refine rgN<|kfa O O ?_;refine kl1 O O O<|kmv O<|K.leq O O (cJ hq1) dM<|kmv O<|aN O O (dN O O) ?_;refine aO O O O (dN O O) ?_;refine aS O O (cJ hq2) (dN O O) ?_;refine kpf O O<|aB<|aF O ?_;refine aH ?_;refine aA<|rgN<|kfa O O ?_;refine kl1 O O O<|kas O<|aB<|aA<|aA<|rgN<|kmv O<|kfa O O ?_;refine kl1 O O O<|aU [(1000000,16)] [nmBx 16 ns'] (hT) O O (by exact (cL ⟨_,O,O⟩ trivial)) (by exact (bR O O)) O O O O (by exact (.box O O .nil)) dM<|aV O O dM<|aB<|aF O ?_;refine aH ?_;refine aA<|rgN<|kfa O O ?_;refine kl1 O O O<|kca O O (hCF)<|kas O<|aB<|aA<|rgN<|kmv O<|kne O O ((cN (by omega)))<|aB<|aF O ?_;refine aH ?_;refine rgN<|kad O O (cD (by omega))<|kmv O<|aB ?_)
      subst hns
      exact ⟨_,_,by omega,Le.of (by exact ⟨O,O,O,O,O,trivial⟩) (by exact ⟨O,trivial⟩) (by exact O) (by exact O) (by repeat' (first|refine bR ?_ ?_|rfl|exact bT|exact bS|exact bU O)),i+1,c.id,by omega,O,(fun j h0 hj=>by
        by_cases e:j=i
        · rw [e];exact hE
        · exact hpre j h0 (by omega)),(fun x=>by
        have hp:prevId cs (i+1)=c.id:=by unfold prevId;rw [Nat.add_sub_cancel,hc];rfl
        rw [hp];omega),rfl⟩
    · rw [fin _ hE hz]
      have hne:(fldsE c.fs != 0)=true:=by rw [bne_iff_ne];exact hz
      generalize fldsE c.fs=e at *
      (refine rgN<|kfa O O ?_;refine kl1 O O O<|kmv O<|K.leq O O (cJ hq1) dM<|kmv O<|aN O O (dN O O) ?_;refine aO O O O (dN O O) ?_;refine aS O O (cJ hq2) (dN O O) ?_;refine kpf O O<|aB<|aF O ?_;refine aH ?_;refine aA<|rgN<|kfa O O ?_;refine kl1 O O O<|kas O<|aB<|aA<|aA<|rgN<|kmv O<|kfa O O ?_;refine kl1 O O O<|aU [(1000000,16)] [nmBx 16 ns'] (hT) O O (by exact (cL ⟨_,O,O⟩ trivial)) (by exact (bR O O)) O O O O (by exact (.box O O .nil)) dM<|aV O O dM<|aB<|aF O ?_;refine aH ?_;refine aA<|rgN<|kfa O O ?_;refine kl1 O O O<|kca O O (hCF)<|kas O<|aB<|aA<|rgN<|kmv O<|kne O O hne<|aB<|aE O ?_;refine aA<|rgN<|kmv O<|kas O<|aB<|aI ?_)
      exact ⟨[_],⟨O,trivial⟩,O⟩
  · rw [show firstE (cmpE cs) 0 cs.length=0 from firstE_none fun j h0 hj=>hpre j h0 (by omega)]
    (refine aA<|rgN<|klt O O (cJ (by omega))<|aB<|aA<|aF O ?_;refine aJ<|aA<|rgN<|kas O<|aB<|aI ?_)
    exact ⟨[_],⟨O,trivial⟩,O⟩
end Go.Proofs.YtnfbccfghgmfiaaGreat
end
section
namespace Go.Lg.Fld
open Go Go.Lg
theorem fields_reads {X:Nat→Option Obj} {ad:Option Addr} {fs:List Fl} (h:FieldsIn X ad fs):ReadsX X ad (flV fs):=⟨fun j u hj=>by
  have hjl:=(List.getElem?_eq_some_iff.1 hj).1
  rw [flV_len] at hjl
  obtain ⟨f,hf⟩:∃ f,fs[j/3]? = some f:=⟨_,cS (by omega)⟩
  obtain ⟨blk,off,arr,el,fr,rfl,hX,hsz,hcs⟩:=h.rows (j/3) f.vals (by rw [dG,hf];rfl)
  refine ⟨blk,off,arr,el,fr,O,hX,?_⟩
  obtain ⟨h1,h2⟩:=flV_at hf
  have h3:((flV fs).drop (j/3*3)).take 3=(arr.toList.drop (off+j/3*3)).take 3:=by rw [h2,hcs]
  have h4:(((flV fs).drop (j/3*3)).take 3)[j%3]? = ((arr.toList.drop (off+j/3*3)).take 3)[j%3]? := by rw [h3]
  rw [List.getElem?_take,List.getElem?_take,if_pos (Nat.mod_lt _ (by omega)),if_pos (Nat.mod_lt _ (by omega)),List.getElem?_drop,List.getElem?_drop,show j/3*3+j%3=j by omega,show off+j/3*3+j%3=off+j by omega,hj,Array.getElem?_toList] at h4
  exact h4.symm⟩
theorem flV_one (fs:List Fl):∀ u∈flV fs,u.oneCell'=true:=fun u hu=>by
  unfold flV at hu
  rw [List.mem_flatten] at hu
  obtain ⟨l,hl,hu⟩:=hu
  obtain ⟨f,_,rfl⟩:=List.mem_map.1 hl
  simp only [Fl.vals,List.mem_cons,List.not_mem_nil,or_false] at hu
  rcases hu with rfl|rfl|rfl<;>rfl
theorem FieldsIn.none {X:Nat→Option Obj} {fs:List Fl} (h:FieldsIn X none fs):fs=[]:=by
  cases hfs:fs with
  | nil=>rfl
  | cons f t =>
    obtain ⟨_,_,_,_,_,e,_⟩:=h.nm (k:=0) (f:=f) (by rw [hfs];rfl)
    cases e
end Go.Lg.Fld
namespace Go.Proofs.YtnfbccfghgmfiaaGreat
open Go Go.Lg Go.Lg.Fld
set_option maxRecDepth 100000
abbrev SCx (c:Cp) (fad:Option Addr) (fcap:Nat):SV:=.agg [.val (.int .i64 c.id),.val (.string ⟨c.nm.toArray⟩),.val (.slice fad c.fs.length fcap)]
abbrev SC0:SV:=.agg [.val (.int .i64 0),.val (.string ⟨#[]⟩),.val (.slice none 0 0)]
abbrev SCs (c:Cp) (k:Nat):SV:=.agg [.val (.int .i64 c.id),.val (.string ⟨c.nm.toArray⟩),.slc k 0 c.fs.length 3]
abbrev fdB (k:Nat) (fs:List Fl):Nat×Option Box:=(k,some ⟨49,(flV fs).map .val,true⟩)
abbrev Lf (f:FuncId) (caps:List Value):LV:=.sv (.one (.val (.func (.func f) #[] caps.toArray)))
abbrev Fx (f:Fl):LV:=.sv (.agg (f.vals.map CV.val))
variable (X:Nat→Option Obj)
theorem idxC_spec (ad:Option Addr) (cap:Nat) (cs:List Cp) (hin:CompsIn X ad cs) (hbig:cs.length<4611686018427387904) (f:FuncId) (caps:List Value) (p:Cp→Bool)
    (hp:∀ c∈cs,∀ fad fcap,PSpec Tryz.prog X f ([Cx c fad fcap]++caps.map fun v=>.sv (.one (.val v))) (Lb (p c))):
    PSpec Tryz.prog X 63 [Lx ad cs.length cap,Lf f caps] (Ln .i64 (findI p cs)):=by
  refine cB Tryz.func63 rfl (by kernel_rfl) rfl rfl ?_
  intro C
  (refine aA<|rgN<|kas O<|aB<|aA<|aA<|rgN<|kmv O<|aQ O bY O dM ?_;refine kmv O<|aB<|aG ?_)
  refine cF (fun m σ=>∃ i:Nat,i≤cs.length∧m=cs.length-i∧(∀ (j:Nat) (y:Cp),j<i→cs[j]? = some y→p y=false)∧σ=⟨[(0,Lx ad cs.length cap),(1,Lf f caps),(7,Ln .i64 (cs.length:Nat)),(8,Ln .i64 (i:Nat))],[],X⟩) cs.length
    ⟨_,Le.of (by exact ⟨rfl,rfl,rfl,rfl,trivial⟩) (by exact trivial) (by exact rfl) (by exact rfl) (by exact rfl),0,by omega,by omega,fun j y hj=>absurd hj (by omega),rfl⟩ ?_
  rintro m σ ⟨i,hi,rfl,hpre,rfl⟩
  by_cases hlt:i<cs.length
  · obtain ⟨c,hc⟩:∃ c,cs[i]? = some c:=⟨_,cS hlt⟩
    obtain ⟨blk,off,arr,el,fr,fad,fcap,rfl,hX,hsz,hcs,_,_,_,hF⟩:=hin.get hc
    have hio:off+Int.toNat (i:Int)*3=off+i*3:=by simp
    have hP:=hp c (cX hc) fad fcap
    cases hpc:p c with
    | true =>
      rw [hpc] at hP
      rw [findI_some hpre hc hpc]
      (refine aA<|rgN<|klt O O (cK (by omega))<|aB<|aA<|aE O ?_;refine aH ?_;refine aA<|aG<|aA<|rgN<|kmv O<|kas O<|aB<|aA<|rgN<|kmv O<|kmv O<|kmv O<|aR O O bY (by omega) hio dM<|aY O hX (by kernel_rfl) hsz hcs dM ?_;refine K.callF O O O hP dM ?_;refine aB<|aE O ?_;refine aA<|rgN<|kmv O<|kas O<|aB<|aI ?_)
      exact ⟨[_],⟨O,trivial⟩,O⟩
    | false =>
      rw [hpc] at hP
      (refine aA<|rgN<|klt O O (cK (by omega))<|aB<|aA<|aE O ?_;refine aH ?_;refine aA<|aG<|aA<|rgN<|kmv O<|kas O<|aB<|aA<|rgN<|kmv O<|kmv O<|kmv O<|aR O O bY (by omega) hio dM<|aY O hX (by kernel_rfl) hsz hcs dM ?_;refine K.callF O O O hP dM ?_;refine aB<|aF O ?_;refine aH ?_;refine rgN<|kad O O (cD (by omega))<|kmv O<|aB ?_)
      exact ⟨_,_,by omega,Le.of (by exact ⟨O,O,O,O,trivial⟩) (by exact trivial) (by exact O) (by exact O) (by exact O),i+1,by omega,O,(fun j y hj hy=>by
        by_cases e:j=i
        · subst e;rw [hc] at hy;cases hy;exact hpc
        · exact hpre j y (by omega) hy),rfl⟩
  · rw [findI_none fun j y hy=>hpre j y (by have:=(List.getElem?_eq_some_iff.1 hy).1;omega) hy]
    (refine aA<|rgN<|klt O O (cJ (by omega))<|aB<|aA<|aF O ?_;refine aJ<|aA<|rgN<|kas O<|aB<|aI ?_)
    exact ⟨[_],⟨O,trivial⟩,O⟩
theorem idxF_spec (ad:Option Addr) (cap:Nat) (fs:List Fl) (hin:FieldsIn X ad fs) (hbig:fs.length<4611686018427387904) (f:FuncId) (caps:List Value) (p:Fl→Bool)
    (hp:∀ c∈fs,PSpec Tryz.prog X f ([Fx c]++caps.map fun v=>.sv (.one (.val v))) (Lb (p c))):
    PSpec Tryz.prog X 85 [Lx ad fs.length cap,Lf f caps] (Ln .i64 (findI p fs)):=by
  refine cB Tryz.func85 rfl (by kernel_rfl) rfl rfl ?_
  intro C
  (refine aA<|rgN<|kas O<|aB<|aA<|aA<|rgN<|kmv O<|aQ O bY O dM ?_;refine kmv O<|aB<|aG ?_)
  refine cF (fun m σ=>∃ i:Nat,i≤fs.length∧m=fs.length-i∧(∀ (j:Nat) (y:Fl),j<i→fs[j]? = some y→p y=false)∧σ=⟨[(0,Lx ad fs.length cap),(1,Lf f caps),(7,Ln .i64 (fs.length:Nat)),(8,Ln .i64 (i:Nat))],[],X⟩) fs.length
    ⟨_,Le.of (by exact ⟨rfl,rfl,rfl,rfl,trivial⟩) (by exact trivial) (by exact rfl) (by exact rfl) (by exact rfl),0,by omega,by omega,fun j y hj=>absurd hj (by omega),rfl⟩ ?_
  rintro m σ ⟨i,hi,rfl,hpre,rfl⟩
  by_cases hlt:i<fs.length
  · obtain ⟨c,hc⟩:∃ c,fs[i]? = some c:=⟨_,cS hlt⟩
    obtain ⟨blk,off,arr,el,fr,rfl,hX,hsz,hcs⟩:=hin.at hc
    have hio:off+Int.toNat (i:Int)*3=off+i*3:=by simp
    have hP:=hp c (cX hc)
    cases hpc:p c with
    | true =>
      rw [hpc] at hP
      rw [findI_some hpre hc hpc]
      (refine aA<|rgN<|klt O O (cK (by omega))<|aB<|aA<|aE O ?_;refine aH ?_;refine aA<|aG<|aA<|rgN<|kmv O<|kas O<|aB<|aA<|rgN<|kmv O<|kmv O<|kmv O<|aR O O bY (by omega) hio dM<|aY O hX (by kernel_rfl) hsz hcs dM ?_;refine K.callF O O (by simp [LV.closed];rfl) hP dM ?_;refine aB<|aE O ?_;refine aA<|rgN<|kmv O<|kas O<|aB<|aI ?_)
      exact ⟨[_],⟨O,trivial⟩,O⟩
    | false =>
      rw [hpc] at hP
      (refine aA<|rgN<|klt O O (cK (by omega))<|aB<|aA<|aE O ?_;refine aH ?_;refine aA<|aG<|aA<|rgN<|kmv O<|kas O<|aB<|aA<|rgN<|kmv O<|kmv O<|kmv O<|aR O O bY (by omega) hio dM<|aY O hX (by kernel_rfl) hsz hcs dM ?_;refine K.callF O O O hP dM ?_;refine aB<|aF O ?_;refine aH ?_;refine rgN<|kad O O (cD (by omega))<|kmv O<|aB ?_)
      exact ⟨_,_,by omega,Le.of (by exact ⟨O,O,O,O,trivial⟩) (by exact trivial) (by exact O) (by exact O) (by exact O),i+1,by omega,O,(fun j y hj hy=>by
        by_cases e:j=i
        · subst e;rw [hc] at hy;cases hy;exact hpc
        · exact hpre j y (by omega) hy),rfl⟩
  · rw [findI_none fun j y hy=>hpre j y (by have:=(List.getElem?_eq_some_iff.1 hy).1;omega) hy]
    (refine aA<|rgN<|klt O O (cJ (by omega))<|aB<|aA<|aF O ?_;refine aJ<|aA<|rgN<|kas O<|aB<|aI ?_)
    exact ⟨[_],⟨O,trivial⟩,O⟩
abbrev Vp (b:Nat):LV:=.sv (.one (.val (.pointer (some ⟨b,0,none⟩))))
theorem find1_spec (c:Cp) (fad:Option Addr) (fcap:Nat) (id:Int) {b:Nat} {arr:Array Value} {el:TypeId} {fr:Nat×Nat} (hX:X b=some (.cells arr el fr)) (h0:arr[0]? = some (.int .i64 id)):
    PSpec Tryz.prog X 49 [Cx c fad fcap,Vp b] (Lb (c.id==id)):=by
  refine cB Tryz.func49 rfl (by kernel_rfl) rfl rfl ?_
  intro C
  (refine aA<|rgN<|aL O O O dM<|kas O<|aB<|aA<|rgN<|kfa O O ?_;refine kl1 O O O<|aW O hX O h0 dM<|keq O O O<|kas O<|aB<|aI ?_)
  exact ⟨[_],⟨O,trivial⟩,O⟩
theorem fieldNamed1_spec (f:Fl) (nm:List UInt8) {b:Nat} {arr:Array Value} {el:TypeId} {fr:Nat×Nat} (hX:X b=some (.cells arr el fr)) (h0:arr[0]? = some (.string ⟨nm.toArray⟩)):
    PSpec Tryz.prog X 86 [Fx f,Vp b] (Lb (f.nm==nm)):=by
  refine cB Tryz.func86 rfl (by kernel_rfl) rfl rfl ?_
  intro C
  (refine aA<|rgN<|aL O O O dM<|kas O<|aB<|aA<|rgN<|kfa O O ?_;refine kl1 O O O<|aW O hX O h0 dM<|kse O O (strs_eq O)<|kas O<|aB<|aI ?_)
  exact ⟨[_],⟨O,trivial⟩,O⟩
theorem fclone_nil (cap:Nat):PSpec Tryz.prog X 91 [Lx none 0 cap] (Lx none 0 0):=by
  refine cB Tryz.func91 rfl (by kernel_rfl) rfl rfl ?_
  intro C
  (refine aA<|rgN<|kas O<|aB<|aA<|aA<|rgN<|kmv O<|K.slcNil (r:=true) O bY (.inl ⟨O,O⟩) dM ?_;refine aB<|aE O ?_;refine aA<|rgN<|kas O<|aB<|aI ?_)
  exact ⟨[_],⟨O,trivial⟩,O⟩
theorem fclone_some (fa:Addr) (cap:Nat) (fs:List Fl) (hF:FieldsIn X (some fa) fs) (hb:fs.length≤4398046511104):
    MSpec Tryz.prog X 91 [Lx (some fa) fs.length cap] [] (.sv (.one (.slc 1000001 0 fs.length 3))) [fdB 1000001 fs]:=by
  refine cC Tryz.func91 rfl (by kernel_rfl) rfl rfl (by exact (by repeat' (first|refine bR ?_ ?_|rfl|exact bT|exact bS|exact bU rfl))) rfl rfl ?_
  intro C
  (refine aA<|rgN<|kas O<|aB<|aA<|aA<|rgN<|kmv O<|K.slcNil (r:=false) O bY (.inl ⟨O,O⟩) dM ?_;refine aB<|aF O ?_;refine aH ?_;refine aA<|rgN<|aZ (zs:=[]) (sz:=3) (e:=49) (by kernel_rfl) O O O O O O dM<|kmv O<|K.appendX (by_:=32) (e2:=49) (news:=flV fs) (nl:=fs.length) (nc:=(flV fs).map .val) O O O O (fields_reads hF) (flV_len fs) (flV_one fs) (by kernel_rfl) (by kernel_rfl) (by omega) (by omega) O (by omega) O dM ?_;refine kas O<|aB<|aI ?_)
  exact ⟨[(1000001,7)],⟨[_],⟨rfl,trivial⟩,rfl⟩,(by repeat' (first|exact trivial|refine cL ⟨_,rfl,?_⟩ ?_|refine cL ⟨_,rfl⟩ ?_|rfl|exact bV _ _ _ _|exact bW _ _ _ _|exact bX rfl)),rfl,rfl⟩
theorem cclone_nil (c:Cp) (cap:Nat) (h:c.fs=[]):PSpec Tryz.prog X 64 [Cx c none cap] (.sv (SCx c none 0)):=by
  refine cB Tryz.func64 rfl (by kernel_rfl) rfl rfl ?_
  intro C
  have hq:=fclone_nil X cap
  obtain ⟨id,nm,fs⟩:=c
  simp only at h
  subst h
  (refine aA<|rgN<|aL O O O dM<|aP O dM ?_;refine aB<|aA<|rgN<|kfa O O ?_;refine kl1 O O O<|kca O O hq<|kfa O O ?_;refine bG O O O O O (nl3 O O O O) dM<|aB<|aA<|rgN<|aK O O O dM ?_;refine aM O O O O O O dM ?_;refine aB<|aI ?_)
  exact ⟨[_],⟨⟨_,_,O,O,O,.inl ⟨AggT.h,O⟩⟩,trivial⟩,O⟩
theorem cclone_some (c:Cp) (fa:Addr) (cap:Nat) (hF:FieldsIn X (some fa) c.fs) (hb:c.fs.length≤4398046511104):
    MSpec Tryz.prog X 64 [Cx c (some fa) cap] [] (.sv (SCs c 1000001)) [fdB 1000001 c.fs]:=by
  refine cC Tryz.func64 rfl (by kernel_rfl) rfl rfl (by exact (by repeat' (first|refine bR ?_ ?_|rfl|exact bT|exact bS|exact bU rfl))) rfl rfl ?_
  intro C
  have hq:=fclone_some X fa cap c.fs hF hb
  (refine aA<|rgN<|aL O O O dM<|aP O dM ?_;refine aB<|aA<|rgN<|kfa O O ?_;refine kl1 O O O<|bE [(1000001,20)] (.sv (.one (.slc 20 0 c.fs.length 3))) [fdB 20 c.fs] (hq) O O (by exact trivial) O O O O O (by exact (.box O (bW _ _ _ _) .nil)) dM<|kfa O O ?_;refine bG O O O O O (nl3 O O O O) dM<|aB<|aA<|rgN<|aK O O O dM ?_;refine aM O O O O O O dM ?_;refine aB<|aI ?_)
  exact ⟨[(1000001,20)],⟨[_],⟨⟨_,_,rfl,rfl,rfl,.inl ⟨AggT.h,rfl⟩⟩,trivial⟩,rfl⟩,(by repeat' (first|exact trivial|refine cL ⟨_,rfl,?_⟩ ?_|refine cL ⟨_,rfl⟩ ?_|rfl|exact bV _ _ _ _|exact bW _ _ _ _|exact bX rfl)),rfl,rfl⟩
section
variable (ver:Int) (ad:Option Addr) (cap:Nat) (cs:List Cp) (f:FuncId) (caps:List Value) (p:Cp→Bool)
theorem first_no (hin:CompsIn X ad cs) (hbig:cs.length<4611686018427387904) (hp:∀ c∈cs,∀ fad fcap,PSpec Tryz.prog X f ([Cx c fad fcap]++caps.map fun v=>.sv (.one (.val v))) (Lb (p c))) (hno:findI p cs = -1):
    PSpec Tryz.prog X 48 [Sx ver ad cs.length cap,Lf f caps] (.tup [SC0,Sb false]):=by
  refine cB Tryz.func48 rfl (by kernel_rfl) rfl rfl ?_
  intro C
  have hI:=idxC_spec X ad cap cs hin hbig f caps p hp
  rw [hno] at hI
  (refine aA<|rgN<|aL O O O dM<|aP O dM ?_;refine kas O<|aB<|aA<|rgN<|kfa O O ?_;refine kl1 O O O<|kmv O<|kca O O hI<|kas O<|aB<|aA<|aA<|rgN<|kmv O<|klt O O O<|aB<|aE O ?_;refine aA<|rgN<|aT O O (by exact O) (by exact nl3 O O O O) dM ?_;refine aM O O O O O O dM ?_;refine kas O<|aB<|aI ?_)
  exact ⟨[_,_],⟨⟨_,_,O,O,O,.inl ⟨AggT.h,O⟩⟩,O,trivial⟩,O⟩
theorem first_nil (hin:CompsIn X ad cs) (hbig:cs.length<4611686018427387904) (hp:∀ c∈cs,∀ fad fcap,PSpec Tryz.prog X f ([Cx c fad fcap]++caps.map fun v=>.sv (.one (.val v))) (Lb (p c)))
    {i:Nat} {c:Cp} (hpre:∀ (j:Nat) (y:Cp),j<i→cs[j]? = some y→p y=false) (hc:cs[i]? = some c) (he:p c=true)
    {blk off:Nat} {arr:Array Value} {el:TypeId} {fr:Nat×Nat} {fcap:Nat} (had:ad=some ⟨blk,off,none⟩) (hX:X blk=some (.cells arr el fr)) (hsz:off+i*3+3≤arr.size) (hcs:((arr.toList.drop (off+i*3)).take 3).map CV.val=[.val (.int .i64 c.id),.val (.string ⟨c.nm.toArray⟩),.val (.slice none c.fs.length fcap)]) (h0:c.fs=[]):
    PSpec Tryz.prog X 48 [Sx ver ad cs.length cap,Lf f caps] (.tup [SCx c none 0,Sb true]):=by
  subst had
  have hI:=idxC_spec X _ cap cs hin hbig f caps p hp
  rw [findI_some hpre hc he] at hI
  have hi:=(List.getElem?_eq_some_iff.1 hc).1
  have hio:off+Int.toNat (i:Int)*3=off+i*3:=by simp
  refine cB Tryz.func48 rfl (by kernel_rfl) rfl rfl ?_
  intro C
  have hq:=cclone_nil X c fcap h0
  (refine aA<|rgN<|aL O O O dM<|aP O dM ?_;refine kas O<|aB<|aA<|rgN<|kfa O O ?_;refine kl1 O O O<|kmv O<|kca O O hI<|kas O<|aB<|aA<|aA<|rgN<|kmv O<|klt O O (cJ (by omega))<|aB<|aF O ?_;refine aH ?_;refine aA<|rgN<|kfa O O ?_;refine kl1 O O O<|kmv O<|aR O O bY (by omega) hio dM<|aY O hX (by kernel_rfl) hsz hcs dM<|kca O O hq<|aM O O O O O O dM ?_;refine kas O<|aB<|aI ?_)
  exact ⟨[_,_],⟨⟨_,_,O,O,O,.inl ⟨AggT.h,O⟩⟩,O,trivial⟩,O⟩
theorem first_box (hin:CompsIn X ad cs) (hbig:cs.length<4611686018427387904) (hp:∀ c∈cs,∀ fad fcap,PSpec Tryz.prog X f ([Cx c fad fcap]++caps.map fun v=>.sv (.one (.val v))) (Lb (p c)))
    {i:Nat} {c:Cp} (hpre:∀ (j:Nat) (y:Cp),j<i→cs[j]? = some y→p y=false) (hc:cs[i]? = some c) (he:p c=true)
    {blk off:Nat} {arr:Array Value} {el:TypeId} {fr:Nat×Nat} {fcap:Nat} {fa:Addr} (had:ad=some ⟨blk,off,none⟩) (hX:X blk=some (.cells arr el fr)) (hsz:off+i*3+3≤arr.size) (hcs:((arr.toList.drop (off+i*3)).take 3).map CV.val=[.val (.int .i64 c.id),.val (.string ⟨c.nm.toArray⟩),.val (.slice (some fa) c.fs.length fcap)]) (hF:FieldsIn X (some fa) c.fs) (hfb:c.fs.length≤4398046511104):
    MSpec Tryz.prog X 48 [Sx ver ad cs.length cap,Lf f caps] [] (.tup [SCs c 1000001,Sb true]) [fdB 1000001 c.fs]:=by
  subst had
  have hI:=idxC_spec X _ cap cs hin hbig f caps p hp
  rw [findI_some hpre hc he] at hI
  have hi:=(List.getElem?_eq_some_iff.1 hc).1
  have hio:off+Int.toNat (i:Int)*3=off+i*3:=by simp
  refine cC Tryz.func48 rfl (by kernel_rfl) rfl rfl (by exact (by repeat' (first|refine bR ?_ ?_|rfl|exact bT|exact bS|exact bU rfl))) rfl rfl ?_
  intro C
  have hq:=cclone_some X c fa fcap hF hfb
  (refine aA<|rgN<|aL O O O dM<|aP O dM ?_;refine kas O<|aB<|aA<|rgN<|kfa O O ?_;refine kl1 O O O<|kmv O<|kca O O hI<|kas O<|aB<|aA<|aA<|rgN<|kmv O<|klt O O (cJ (by omega))<|aB<|aF O ?_;refine aH ?_;refine aA<|rgN<|kfa O O ?_;refine kl1 O O O<|kmv O<|aR O O bY (by omega) hio dM<|aY O hX (by kernel_rfl) hsz hcs dM<|bE [(1000001,20)] (.sv (SCs c 20)) [fdB 20 c.fs] (hq) O O (by exact trivial) O O O O O (by exact (.box O (bW _ _ _ _) .nil)) dM<|aM O O O O O O dM ?_;refine kas O<|aB<|aI ?_)
  exact ⟨[(1000001,20)],⟨[_,_],⟨⟨_,_,rfl,rfl,rfl,.inl ⟨AggT.h,rfl⟩⟩,rfl,trivial⟩,rfl⟩,(by repeat' (first|exact trivial|refine cL ⟨_,rfl,?_⟩ ?_|refine cL ⟨_,rfl⟩ ?_|rfl|exact bV _ _ _ _|exact bW _ _ _ _|exact bX rfl)),rfl,rfl⟩
end
theorem at_zero {arr:Array Value} {v:Value} (h:∃ sp,arr.toList=[v]++sp):arr[0]? = some v:=by
  obtain ⟨sp,h⟩:=h
  rw [← Array.getElem?_toList,h];rfl
theorem pFind_no (ver:Int) (ad:Option Addr) (cap:Nat) (cs:List Cp) (id:Int) (hin:CompsIn X ad cs) (hbig:cs.length<4611686018427387904) (hno:∀ (j:Nat) (y:Cp),cs[j]? = some y→(y.id==id)=false):
    PSpec Tryz.prog X 33 [Sx ver ad cs.length cap,Ln .i64 id] (.tup [SC0,Sb false]):=by
  refine cB Tryz.func33 rfl (by kernel_rfl) rfl rfl ?_
  intro C
  (refine aA<|rgN<|aL O O O dM<|K.box1 O O O dM<|aP O dM ?_;refine kas O<|aB<|aA ?_)
  refine LWP.le (σ':=⟨[(3,Lp 3),(2,Lp 2),(4,Lp 4)],[(3,some ⟨3,[Value.int .i64 id].map .val,false⟩),sxB 2 ver ad cs.length cap,(4,some ⟨24,[.val (.int .i64 0),.val (.string ⟨#[]⟩),.val (.slice none 0 0)],false⟩)],X⟩) (Le.of (by exact ⟨O,O,O,trivial⟩) (by exact ⟨O,O,O,trivial⟩) (by exact O) (by exact O) (by repeat' (first|refine bR ?_ ?_|rfl|exact bT|exact bS|exact bU O))) ?_
  refine LWP.freezePtr (by rfl) (by rfl) (by rfl) fun b arr0 fr0 hn _ h0 => ?_
  have hin':=hin.mono (cE (o:=.cells arr0 3 fr0) hn)
  have hp:=fun (c:Cp) (_:c∈cs) (fad:Option Addr) (fcap:Nat)=>find1_spec _ c fad fcap id (cH X b (.cells arr0 3 fr0)) (at_zero h0)
  have hq:=first_no _ ver ad cap cs 49 [.pointer (some ⟨b,0,none⟩)] (fun c=>c.id==id) hin' hbig hp (findI_none hno)
  (refine rgN<|aK O O O dM ?_;refine K.makeFunc O O dM ?_;refine kca O O hq<|kex O O<|kex O O<|aM O O O O O O dM ?_;refine kas O<|aB<|aI ?_)
  exact ⟨[_,_],⟨⟨_,_,O,O,O,.inl ⟨AggT.h,O⟩⟩,O,trivial⟩,O⟩
theorem pFind (ver:Int) (ad:Option Addr) (cap:Nat) (cs:List Cp) (id:Int) (hin:CompsIn X ad cs) (hbig:cs.length<4611686018427387904) (hfs:∀ c∈cs,c.fs.length≤4398046511104) {i:Nat} {c:Cp} (hpre:∀ (j:Nat) (y:Cp),j<i→cs[j]? = some y→(y.id==id)=false) (hc:cs[i]? = some c) (he:c.id=id):
    (c.fs=[]∧PSpec Tryz.prog X 33 [Sx ver ad cs.length cap,Ln .i64 id] (.tup [SCx c none 0,Sb true])) ∨
      MSpec Tryz.prog X 33 [Sx ver ad cs.length cap,Ln .i64 id] [] (.tup [SCs c 1000001,Sb true]) [fdB 1000001 c.fs]:=by
  have he':(c.id==id)=true:=by rw [beq_iff_eq];exact he
  obtain ⟨blk,off,arr,el,fr,fad,fcap,rfl,hX,hsz,hcs,_,_,_,hF⟩:=hin.get hc
  cases fad with
  | none =>
    have hnil:=hF.none
    refine .inl ⟨hnil,?_⟩
    refine cB Tryz.func33 rfl (by kernel_rfl) rfl rfl ?_
    intro C
    (refine aA<|rgN<|aL O O O dM<|K.box1 O O O dM<|aP O dM ?_;refine kas O<|aB<|aA ?_)
    refine LWP.le (σ':=⟨[(3,Lp 3),(2,Lp 2),(4,Lp 4)],[(3,some ⟨3,[Value.int .i64 id].map .val,false⟩),sxB 2 ver (some ⟨blk,off,none⟩) cs.length cap,(4,some ⟨24,[.val (.int .i64 0),.val (.string ⟨#[]⟩),.val (.slice none 0 0)],false⟩)],X⟩) (Le.of (by exact ⟨O,O,O,trivial⟩) (by exact ⟨O,O,O,trivial⟩) (by exact O) (by exact O) (by repeat' (first|refine bR ?_ ?_|rfl|exact bT|exact bS|exact bU O))) ?_
    refine LWP.freezePtr (by rfl) (by rfl) (by rfl) fun b arr0 fr0 hn _ h0 => ?_
    have hin':=hin.mono (cE (o:=.cells arr0 3 fr0) hn)
    have hp:=fun (c:Cp) (_:c∈cs) (fad:Option Addr) (fcap:Nat)=>find1_spec _ c fad fcap id (cH X b (.cells arr0 3 fr0)) (at_zero h0)
    have hq:=first_nil _ ver _ cap cs 49 [.pointer (some ⟨b,0,none⟩)] (fun c=>c.id==id) hin' hbig hp hpre hc he' rfl (cE hn _ _ hX) hsz hcs hnil
    (refine rgN<|aK O O O dM ?_;refine K.makeFunc O O dM ?_;refine kca O O hq<|kex O O<|kex O O<|aM O O O O O O dM ?_;refine kas O<|aB<|aI ?_)
    exact ⟨[_,_],⟨⟨_,_,O,O,O,.inl ⟨AggT.h,O⟩⟩,O,trivial⟩,O⟩
  | some fa =>
    refine .inr ?_
    refine cC Tryz.func33 rfl (by kernel_rfl) rfl rfl (by exact (by repeat' (first|refine bR ?_ ?_|rfl|exact bT|exact bS|exact bU rfl))) rfl rfl ?_
    intro C
    (refine aA<|rgN<|aL O O O dM<|K.box1 O O O dM<|aP O dM ?_;refine kas O<|aB<|aA ?_)
    refine LWP.le (σ':=⟨[(3,Lp 3),(2,Lp 2),(4,Lp 4)],[(3,some ⟨3,[Value.int .i64 id].map .val,false⟩),sxB 2 ver (some ⟨blk,off,none⟩) cs.length cap,(4,some ⟨24,[.val (.int .i64 0),.val (.string ⟨#[]⟩),.val (.slice none 0 0)],false⟩)],X⟩) (Le.of (by exact ⟨O,O,O,trivial⟩) (by exact ⟨O,O,O,trivial⟩) (by exact O) (by exact O) (by repeat' (first|refine bR ?_ ?_|rfl|exact bT|exact bS|exact bU O))) ?_
    refine LWP.freezePtr (by rfl) (by rfl) (by rfl) fun b arr0 fr0 hn _ h0 => ?_
    have hin':=hin.mono (cE (o:=.cells arr0 3 fr0) hn)
    have hp:=fun (c:Cp) (_:c∈cs) (fad:Option Addr) (fcap:Nat)=>find1_spec _ c fad fcap id (cH X b (.cells arr0 3 fr0)) (at_zero h0)
    have hq:=first_box _ ver _ cap cs 49 [.pointer (some ⟨b,0,none⟩)] (fun c=>c.id==id) hin' hbig hp hpre hc he' rfl (cE hn _ _ hX) hsz hcs (hF.mono (cE hn)) (hfs c (cX hc))
    (refine rgN<|aK O O O dM ?_;refine K.makeFunc O O dM ?_;refine bE [(1000001,20)] (.tup [SCs c 20,Sb true]) [fdB 20 c.fs] (hq) O O (by exact trivial) O O O O O (by exact (.box O (bW _ _ _ _) .nil)) dM<|kex O O<|kex O O<|aM O O O O O O dM ?_;refine kas O<|aB<|aI ?_)
    exact ⟨[(1000001,20)],⟨[_,_],⟨⟨_,_,rfl,rfl,rfl,.inl ⟨AggT.h,rfl⟩⟩,rfl,trivial⟩,rfl⟩,(by repeat' (first|exact trivial|refine cL ⟨_,rfl,?_⟩ ?_|refine cL ⟨_,rfl⟩ ?_|rfl|exact bV _ _ _ _|exact bW _ _ _ _|exact bX rfl)),rfl,rfl⟩
theorem fieldNamed_spec (c:Cp) (fad:Option Addr) (fcap:Nat) (nm:List UInt8) (hF:FieldsIn X fad c.fs) (hbig:c.fs.length<4611686018427387904) (v m:Int) (b:Bool) (hv:findI (fun f:Fl=>f.nm==nm) c.fs=v) (hm:(if (0:Int)>v then 0 else v)=m) (hb:decide (0≤v)=b):
    PSpec Tryz.prog X 55 [Cx c fad fcap,Ls nm] (.tup [Sn .i64 m,Sb b]):=by
  refine cB Tryz.func55 rfl (by kernel_rfl) rfl rfl ?_
  intro C
  (refine aA<|rgN<|aL O O O dM<|K.box1 O O O dM<|kas O<|kas O<|aB<|aA ?_)
  refine LWP.le (σ':=⟨[(3,Lp 3),(2,Lp 2)],[(3,some ⟨9,[Value.string ⟨nm.toArray⟩].map .val,false⟩),cpB 2 c fad fcap],X⟩) (Le.of (by exact ⟨O,O,trivial⟩) (by exact ⟨O,O,trivial⟩) (by exact O) (by exact O) (by repeat' (first|refine bR ?_ ?_|rfl|exact bT|exact bS|exact bU O))) ?_
  refine LWP.freezePtr (by rfl) (by rfl) (by rfl) fun b0 arr0 fr0 hn _ h0 => ?_
  have hq:=idxF_spec _ fad fcap c.fs (hF.mono (cE (o:=.cells arr0 9 fr0) hn)) hbig 86 [.pointer (some ⟨b0,0,none⟩)] (fun f=>f.nm==nm) (fun f _=>fieldNamed1_spec _ f nm (cH X b0 (.cells arr0 9 fr0)) (at_zero h0))
  rw [hv] at hq
  (refine rgN<|kfa O O ?_;refine kl1 O O O<|K.makeFunc O O dM ?_;refine kca O O hq<|kas O<|aB<|aA<|rgN<|kmv O<|K.max2 O O hm dM ?_;refine kmv O<|bD O O hb dM<|kas O<|kas O<|aB<|aI ?_)
  exact ⟨[_,_],⟨O,O,trivial⟩,O⟩
theorem pField (c:Cp) (fad:Option Addr) (fcap:Nat) (nm:List UInt8) (hF:FieldsIn X fad c.fs) (hbig:c.fs.length<4611686018427387904) {i:Nat} {f:Fl} (hpre:∀ (j:Nat) (y:Fl),j<i→c.fs[j]? = some y→(y.nm==nm)=false) (hf:c.fs[i]? = some f) (he:f.nm=nm):
    PSpec Tryz.prog X 55 [Cx c fad fcap,Ls nm] (.tup [Sn .i64 (i:Nat),Sb true]):=
  fieldNamed_spec X c fad fcap nm hF hbig (i:Nat) (i:Nat) true (findI_some hpre hf (by rw [beq_iff_eq];exact he)) (if_neg (by omega)) (cK (by omega))
theorem pField_no (c:Cp) (fad:Option Addr) (fcap:Nat) (nm:List UInt8) (hF:FieldsIn X fad c.fs) (hbig:c.fs.length<4611686018427387904) (hno:∀ (j:Nat) (y:Fl),c.fs[j]? = some y→(y.nm==nm)=false):
    PSpec Tryz.prog X 55 [Cx c fad fcap,Ls nm] (.tup [Sn .i64 0,Sb false]):=
  fieldNamed_spec X c fad fcap nm hF hbig (-1) 0 false (findI_none hno) rfl (cJ (by decide))
end Go.Proofs.YtnfbccfghgmfiaaGreat
end
section
namespace Go.Lg.Fld
open Go Go.Lg
def idsV (cs:List Cp):List Value:=cs.map fun c=>.int .i64 c.id
end Go.Lg.Fld
namespace Go.Proofs.YtnfbccfghgmfiaaGreat
open Go Go.Lg Go.Lg.Fld
set_option maxRecDepth 100000
variable (X:Nat→Option Obj)
theorem pIds (ver:Int) (ad:Option Addr) (cap:Nat) (cs:List Cp) (hin:CompsIn X ad cs) (hS:cs.length≤65536):MSpec Tryz.prog X 31 [Sx ver ad cs.length cap] [] (.sv (.one (.slc 1000001 0 cs.length))) [(1000001,some ⟨3,(idsV cs).map .val,false⟩)]:=by
  refine cC Tryz.func31 rfl (by kernel_rfl) rfl rfl (by exact (by repeat' (first|refine bR ?_ ?_|rfl|exact bT|exact bS|exact bU rfl))) rfl rfl ?_
  intro C
  have hmk:slcBuild Tryz.prog 86 cs.length=some (List.replicate cs.length (.int .i64 0),1,3):=slcBuild_one (by kernel_rfl) (by kernel_rfl) (by omega)
  (refine aA<|rgN<|aL O O O dM<|kas O<|aB<|aA<|rgN<|kfa O O ?_;refine kl1 O O O<|aQ O bY O dM ?_;refine K.makeSlc (m:=cs.length) (bytes:=8) O O hmk (by kernel_rfl) (by omega) O O dM<|kas O<|aB<|aA<|aA<|rgN<|kfa O O ?_;refine kl1 O O O<|aQ O bY O dM ?_;refine kmv O<|aB<|aG ?_)
  refine cF (fun m σ=>∃ i:Nat,i≤cs.length∧m=cs.length-i∧σ=⟨[(3,.sv (.one (.slc 9 0 cs.length))),(11,Lx ad cs.length cap),(12,Ln .i64 (cs.length:Nat)),(13,Ln .i64 (i:Nat))],[(9,some ⟨3,(idsV (cs.take i)++List.replicate (cs.length-i) (Value.int .i64 0)).map .val,false⟩)],X⟩) cs.length
    ⟨_,Le.of (by exact ⟨rfl,rfl,rfl,rfl,trivial⟩) (by exact ⟨rfl,trivial⟩) (by exact rfl) (by exact rfl) (by repeat' (first|refine bR ?_ ?_|rfl|exact bT|exact bS|exact bU rfl)),0,by omega,by omega,rfl⟩ ?_
  rintro m σ ⟨i,hi,rfl,rfl⟩
  by_cases hlt:i<cs.length
  · obtain ⟨c,hc⟩:∃ c,cs[i]? = some c:=⟨_,cS hlt⟩
    obtain ⟨blk,off,arr,el,fr,fad,fcap,rfl,hX,hsz,hcs,_,_,_,hF⟩:=hin.get hc
    have hio:off+Int.toNat (i:Int)*3=off+i*3:=by simp
    have hix:0+Int.toNat (i:Int)*1=i:=by rw [dA];omega
    have hil:(idsV (cs.take i)).length=i:=by unfold idsV;rw [cR,cU];omega
    have hroom:i+1≤((idsV (cs.take i)++List.replicate (cs.length-i) (Value.int .i64 0)).map CV.val).length:=by rw [cR,cQ,hil,cY];omega
    have hspl:splice ((idsV (cs.take i)++List.replicate (cs.length-i) (Value.int .i64 0)).map CV.val) i [.val (.int .i64 c.id)]=(idsV (cs.take (i+1))++List.replicate (cs.length-(i+1)) (Value.int .i64 0)).map CV.val:=by
      unfold splice
      rw [show cs.length-i=(cs.length-(i+1))+1 by omega,List.replicate_succ,take_snoc hc]
      have e:idsV (cs.take i++[c])=idsV (cs.take i)++[.int .i64 c.id]:=by unfold idsV;rw [dC];rfl
      rw [e]
      simp only [dC,dH]
      have hml:((idsV (cs.take i)).map CV.val).length=i:=by rw [cR,hil]
      generalize (idsV (cs.take i)).map CV.val=R at *
      rw [← hml,List.take_left,List.drop_length_add_append]
      simp
    (refine aA<|rgN<|klt O O (cK (by omega))<|aB<|aA<|aE O ?_;refine aH ?_;refine aA<|aG<|aA<|rgN<|kmv O<|aR O O bY (by omega) hio dM<|aY O hX (by kernel_rfl) hsz hcs dM<|aP O dM ?_;refine kas O<|aM O O O O O O dM ?_;refine aB<|rgN<|kmv O<|kmv O<|kfa O O ?_;refine kl1 O O O<|K.indexSlc O O (by omega) hix dM ?_;refine K.store O O O O (by kernel_rfl) hroom hspl dM<|aB<|rgN<|kad O O (cD (by omega))<|kmv O<|aB ?_)
    exact ⟨_,_,by omega,Le.of (by exact ⟨O,O,O,O,trivial⟩) (by exact ⟨O,trivial⟩) (by exact O) (by exact O) (by repeat' (first|refine bR ?_ ?_|rfl|exact bT|exact bS|exact bU O)),i+1,by omega,O,O⟩
  · have e:i=cs.length:=by omega
    subst e
    rw [cZ,Nat.sub_self,List.replicate_zero,dE]
    (refine aA<|rgN<|klt O O (cJ (by omega))<|aB<|aA<|aF O ?_;refine aJ<|aA<|rgN<|kmv O<|kas O<|aB<|aI ?_)
    exact ⟨[(1000001,9)],⟨[_],⟨rfl,trivial⟩,rfl⟩,(by repeat' (first|exact trivial|refine cL ⟨_,rfl,?_⟩ ?_|refine cL ⟨_,rfl⟩ ?_|rfl|exact bV _ _ _ _|exact bW _ _ _ _|exact bX rfl)),rfl,rfl⟩
end Go.Proofs.YtnfbccfghgmfiaaGreat
end
section
namespace Go.Lg.Fld
open Go Go.Lg
theorem joinM_has {C:Ctx} {Y H:Nat→Option Obj} (hO:OwnedM C Y H) {b:Nat} {o:Obj} (h:Y b=some o):joinM Y H b=some o:=by
  cases hb:H b with
  | none=>rw [joinM_out hb];exact h
  | some o'=>have:=(hO.own b o' hb).2.2;rw [this] at h;cases h
theorem fields_none {X:Nat→Option Obj} {ad:Option Addr} {fs:List Fl} (h:fs=[]):FieldsIn X ad fs:=by
  subst h
  exact ⟨fun k r hr=>(by simp at hr),fun f hf=>(by cases hf)⟩
end Go.Lg.Fld
namespace Go.Proofs.YtnfbccfghgmfiaaGreat
open Go Go.Lg Go.Lg.Fld
set_option maxRecDepth 100000
section
variable {n:Nat} {C:Ctx} {X:Nat→Option Obj} {s:List (Nat×LV)} {bx:List (Nat×Option Box)} {k:Nat}
end
variable (X:Nat→Option Obj)
end Go.Proofs.YtnfbccfghgmfiaaGreat
end
section
namespace Go.Proofs.YtnfbccfghgmfiaaGreat
open Go Go.Lg Go.Lg.Fld
set_option maxRecDepth 100000
theorem rows_in {Y:Nat→Option Obj} {blk:Nat} {arr:Array Value} {el:TypeId} {fr:Nat×Nat} {sz:Nat} {rows:List (List Value)} (hY:Y blk=some (.cells arr el fr)) (hl:∀ r∈rows,r.length=sz) (hsp:∃ sp,arr.toList=rows.flatten++sp):Go.Lg.RowsIn Y (some ⟨blk,0,none⟩) sz rows:=fun i r hi=>by
  obtain ⟨sp,e⟩:=hsp
  obtain ⟨h1,h2⟩:=flat_row hl (sp:=sp) hi
  refine ⟨blk,0,arr,el,fr,O,hY,?_,?_⟩
  · rw [← Array.length_toList,e];omega
  · rw [e,Nat.zero_add];exact h2
variable (X:Nat→Option Obj)
end Go.Proofs.YtnfbccfghgmfiaaGreat
end
section
namespace Go.Lg.Fld
open Go Go.Lg
end Go.Lg.Fld
namespace Go.Proofs.YtnfbccfghgmfiaaGreat
open Go Go.Lg Go.Lg.Fld
set_option maxRecDepth 100000
variable (X:Nat→Option Obj)
def cs0:List Cp:=[⟨1,[112,111,115],[⟨[120],3,1⟩,⟨[121],3,1⟩]⟩,⟨3,[116,97,103],[]⟩]
end Go.Proofs.YtnfbccfghgmfiaaGreat
end
section
namespace Go.Lg.Fld
open Go Go.Lg
def Scan {α:Type} (p:α→Bool) (l:List α) (k:Nat) (v:Int):Prop:=(v = -1∧∀ (m:Nat) (y:α),k≤m→l[m]? = some y→p y=false)∨∃ (i:Nat) (c:α),v=(i:Nat)∧l[i]? = some c∧p c=true∧∀ (m:Nat) (y:α),k≤m→m<i→l[m]? = some y→p y=false
end Go.Lg.Fld
namespace Go.Proofs.YtnfbccfghgmfiaaGreat
open Go Go.Lg Go.Lg.Fld
set_option maxRecDepth 100000
variable (X:Nat→Option Obj)
end Go.Proofs.YtnfbccfghgmfiaaGreat
end
section
namespace Go.Lg.Fld
open Go Go.Lg
structure Good (cs:List Cp):Prop where
  one:∀ (i:Nat) (c:Cp),cs[i]? = some c→1≤c.id∧c.id≤24∧nmB c.nm=true∧firstE (fldE c.fs) 0 c.fs.length=0∧layErr c.fs=0
  two:∀ (i j:Nat) (c d:Cp),i<j→cs[i]? = some c→cs[j]? = some d→c.id<d.id∧c.nm≠d.nm
theorem good_of {cs:List Cp} (h:firstE (cmpE cs) 0 cs.length=0):Good cs:=by
  have h0:∀ (i:Nat) (c:Cp),cs[i]? = some c→¬(c.id<1∨24<c.id∨(0<i∧c.id≤prevId cs i))∧nmB c.nm=true∧(cs.take i).any (fun g=>g.nm==c.nm)=false∧firstE (fldE c.fs) 0 c.fs.length=0∧layErr c.fs=0:=fun i c hc=>by
    have hi:=(List.getElem?_eq_some_iff.1 hc).1
    have h1:=firstE_zero h i (Nat.zero_le _) (by omega)
    rw [cmpE_at hc] at h1
    by_cases b1:c.id<1∨24<c.id∨(0<i∧c.id≤prevId cs i)
    · rw [if_pos b1] at h1;cases h1
    · rw [if_neg b1] at h1
      by_cases b2:nmB c.nm=true
      · rw [if_pos b2] at h1
        by_cases b3:(cs.take i).any (fun g=>g.nm==c.nm)=true
        · rw [if_pos b3] at h1;cases h1
        · rw [if_neg b3] at h1
          by_cases b4:firstE (fldE c.fs) 0 c.fs.length=0
          · rw [if_pos b4] at h1
            exact ⟨b1,b2,by simpa using b3,b4,h1⟩
          · rw [if_neg b4] at h1;cases h1
      · rw [if_neg b2] at h1;cases h1
  refine ⟨fun i c hc => ?_,fun i j c d hij hc hd=>⟨?_,fun e => ?_⟩⟩
  · obtain ⟨h1,h2,_,h4,h5⟩:=h0 i c hc
    exact ⟨by omega,by omega,h2,h4,h5⟩
  · obtain ⟨k,rfl⟩:∃ k,j=i+1+k:=⟨j-(i+1),by omega⟩
    induction k generalizing d with
    | zero =>
      obtain ⟨h1,_⟩:=h0 _ d hd
      have hp:cs[i+1+0-1]? = some c:=hc
      have:=prev_at hp
      omega
    | succ k ih =>
      obtain ⟨d',hd'⟩:∃ d',cs[i+1+k]? = some d':=⟨_,cS (by have:=(List.getElem?_eq_some_iff.1 hd).1;omega)⟩
      have h2:=ih d' (by omega) hd'
      obtain ⟨h1,_⟩:=h0 _ d hd
      have hp:cs[i+1+(k+1)-1]? = some d':=hd'
      have:=prev_at hp
      omega
  · obtain ⟨_,_,h3,_⟩:=h0 j d hd
    have:=any_true (p:=fun g:Cp=>g.nm==d.nm) hij hc (by rw [beq_iff_eq];exact e)
    rw [h3] at this;cases this
end Go.Lg.Fld
end
section
namespace Go.Lg.Fld
open Go Go.Lg
structure Ch where
  kind:Int
  comp:Int
  fld:List UInt8
instance:DecidableEq Ch:=fun a b=>decidable_of_iff (a.kind=b.kind∧a.comp=b.comp∧a.fld=b.fld) ⟨fun ⟨h1,h2,h3⟩=>by cases a;cases b;simp_all,fun h=>by rw [h];exact ⟨rfl,rfl,rfl⟩⟩
def fldAt (fs:List Fl) (nm:List UInt8):Option Fl:=fs.find? fun f=>f.nm==nm
def fldIx (fs:List Fl) (nm:List UInt8):Int:=findI (fun f=>f.nm==nm) fs
theorem fldIx_some {fs:List Fl} {nm:List UInt8} (h:0≤fldIx fs nm):∃ (k:Nat) (g:Fl),fs[k]? = some g∧g.nm=nm∧fldIx fs nm=(k:Nat)∧fldAt fs nm=some g∧∀ (j:Nat) (y:Fl),j<k→fs[j]? = some y→y.nm≠nm:=by
  unfold fldIx findI at h
  cases hf:fs.findIdx? (fun f=>f.nm==nm) with
  | none=>rw [hf] at h;simp only at h;omega
  | some k =>
    obtain ⟨hk,h1,h2⟩:=List.findIdx?_eq_some_iff_getElem.1 hf
    refine ⟨k,fs[k],cS hk,by simpa using h1,by unfold fldIx findI;rw [hf],?_,fun j y hj hy => ?_⟩
    · unfold fldAt
      rw [List.find?_eq_some_iff_getElem]
      exact ⟨h1,k,hk,O,fun j hj=>by simpa using h2 j hj⟩
    · obtain ⟨hj',e⟩:=List.getElem?_eq_some_iff.1 hy
      have:=h2 j hj
      rw [e] at this
      simpa using this
end Go.Lg.Fld
end
section
namespace Go.Lg.Fld
open Go Go.Lg
def Apart (fs:List Fl):Prop:=fs.Pairwise fun f g=>f.nm≠g.nm
end Go.Lg.Fld
end
section
namespace Go.Lg.Fld
open Go Go.Lg
def Ch.vals (x:Ch):List Value:=[.int .i64 x.kind,.int .i64 x.comp,.string ⟨x.fld.toArray⟩]
end Go.Lg.Fld
namespace Go.Proofs.YtnfbccfghgmfiaaGreat
open Go Go.Lg Go.Lg.Fld
set_option maxRecDepth 100000
variable (X:Nat→Option Obj)
end Go.Proofs.YtnfbccfghgmfiaaGreat
end
section
namespace Go.Proofs.YtnfbccfghgmfiaaGreat
open Go Go.Lg Go.Lg.Fml
abbrev Nm:=Bool×Int
def gd (n:Nm):Bool:=formB n.1 n.2
def zz (n:Nm):Int:=zv n.1 n.2
def okI (x:Ins):Bool:=(decide (1≤x.op)&&decide (x.op≤17))&&(gd x.k&&((decide (0≤x.a)&&decide (x.a≤7))&&(decide (0≤x.b)&&decide (x.b≤7))))
theorem okI_facts {x:Ins} (h:okI x=true):(1≤x.op∧x.op≤17)∧gd x.k=true∧(0≤x.a∧x.a≤7)∧(0≤x.b∧x.b≤7):=by
  unfold okI at h
  simp only [Bool.and_eq_true,decide_eq_true_eq] at h
  exact ⟨h.1,h.2.1,h.2.2.1,h.2.2.2⟩
def chkX (l:List Ins):Int:=if 64<l.length then 5 else if dep okI 0 l=some 1 then 0 else 4
theorem chkX_zero {l:List Ins} (h:chkX l=0):l.length≤64∧dep okI 0 l=some 1:=by
  unfold chkX at h
  split at h
  · cases h
  · split at h
    · rename_i h1 h2;exact ⟨by omega,h2⟩
    · cases h
theorem dep_ok {okJ:Ins→Bool}:∀ {l:List Ins} {n m:Nat},dep okJ n l=some m→∀ x∈l,okJ x=true
  | [],_,_,_,x,hx=>by cases hx
  | y::l,n,m,h,x,hx=>by
    simp only [dep] at h
    split at h
    · rename_i h1
      rcases List.mem_cons.1 hx with rfl|hx
      · exact h1.1
      · exact dep_ok h x hx
    · cases h
theorem chkX_ok {l:List Ins} (h:chkX l=0):∀ x∈l,okI x=true:=dep_ok (chkX_zero h).2
theorem chkX_ne {l:List Ins} (h:chkX l=0):l≠[]:=fun e=>by
  have:=(chkX_zero h).2
  rw [e] at this
  cases this
def truth (b:Bool):Nm:=(false,if b then 1 else 0)
def elemX (fs:List (List Nm)) (a b:Int):Except Int Nm:=
  if a<0∨b<0 then .error 3 else match fs[a.toNat]? with
    | none=>.error 3
    | some r=>match r[b.toNat]? with
      | none=>.error 3
      | some v=>.ok v
def leafX (fs:List (List Nm)) (at_:Int) (x:Ins):Except Int Nm:=
  if x.op=1 then .ok x.k else if x.op=4 then (if at_<0 then .error 3 else .ok (false,at_)) else elemX fs x.a (if x.op=3 then at_ else x.b)
def arith (op x y:Int):Int:=if op=5 then x+y else if op=6 then x-y else if op=7 then x*y else if op=8 then x.tdiv y else x.tmod y
instance decR127 (z:Int):Decidable (R127 z):=by unfold R127;exact inferInstance
def doX (op:Int) (x y:Nm):Except Int Nm:=
  if (gd x&&gd y)=false then .error 1 else if 7<op∧zz y=0 then .error 1 else if R127 (arith op (zz x) (zz y)) then .ok (qn (arith op (zz x) (zz y))) else .error 3
def nodeX (op:Int):List Nm→Except Int Nm
  | [x]=>if gd x=false then .error 1 else if op=10 then .ok (qn (-(zz x))) else .ok (truth (decide (x=(false,0))))
  | [x,y]=>if 5≤op∧op≤9 then doX op x y
    else if op=17 then (if gd y=false then .error 1 else if y=(false,0) then .error 9 else .ok x)
    else if (gd x&&gd y)=false then .error 1
    else if op=11 then .ok (if zz y<zz x then y else x)
    else if op=12 then .ok (if zz x<zz y then y else x)
    else if op=13 then .ok (truth (decide (x=y)))
    else .ok (truth (decide (zz x<zz y)))
  | [x,y,z]=>if gd x=false then .error 1 else .ok (if x=(false,0) then z else y)
  | _=>.error 0
def oneX (fs:List (List Nm)) (at_:Int) (x:Ins) (a:List Nm):Except Int Nm:=if takes x.op=0 then leafX fs at_ x else nodeX x.op a
def wordX (op:Int):List UInt8:=
  if op=5 then [97,100,100] else if op=6 then [115,117,98] else if op=7 then [109,117,108] else if op=8 then [113,117,111] else if op=9 then [114,101,109]
  else if op=10 then [110,101,103] else if op=11 then [108,101,97,115,116] else if op=12 then [103,114,101,97,116] else if op=13 then [115,97,109,101]
  else if op=14 then [108,101,115,115] else if op=15 then [110,111,116] else if op=16 then [112,105,99,107] else [110,101,101,100]
def usesX (l:List Ins):List Ins:=l.filter fun x=>x.op==2||x.op==3
theorem doX_bad {op:Int} {x y:Nm} (h:(gd x&&gd y)=false):doX op x y = .error 1:=if_pos h
end Go.Proofs.YtnfbccfghgmfiaaGreat
end
section
namespace Go.Proofs.YtnfbccfghgmfiaaGreat
open Go Go.Lg Go.Lg.Fml Go.Lg.Fld
def o8 (n:Int):UInt8:=UInt8.ofNat (n%256).toNat
def loW (n:Int):Nat:=(n%18446744073709551616).toNat
def hiW (n:Int):Nat:=(n/18446744073709551616).toNat
def sgB (b:Bool):UInt8:=if b then 1 else 0
def encI (x:Ins):List UInt8:=o8 x.op::(if x.op=1 then sgB x.k.1::(leB 8 (loW x.k.2)++leB 8 (hiW x.k.2)) else if x.op=2 then [o8 x.a,o8 x.b] else if x.op=3 then [o8 x.a] else [])
def encIs:List Ins→List UInt8
  | []=>[]
  | x::t=>encI x++encIs t
theorem encIs_app:∀ (a b:List Ins),encIs (a++b)=encIs a++encIs b
  | [],_=>rfl
  | x::t,b=>by simp only [List.cons_append,encIs,encIs_app t b,dH]
def plainI (x:Ins):Bool:=(decide (x.op=1)||decide (x.k=(false,0)))&&((decide (x.op=2)||decide (x.b=0))&&(decide (x.op=2)||(decide (x.op=3)||decide (x.a=0))))
def encX (l:List Ins):List UInt8:=o8 (l.length:Nat)::encIs l
def encErr (l:List Ins):Int:=if chkX l=0 then (if l.all plainI=true then 0 else 1) else chkX l
def encTX (l:List Ins):List UInt8:=if encErr l=0 then encX l else []
def getI:List UInt8→Option (Ins×List UInt8)
  | []=>none
  | o::r=>if o.toNat=1 then (match r with
      | []=>none
      | s::r=>if s.toNat≤1∧16≤r.length then some (⟨1,0,0,(decide (s.toNat=1),((le (r.take 8)+18446744073709551616*le ((r.drop 8).take 8):Nat):Int))⟩,r.drop 16) else none)
    else if o.toNat=2 then (match r with
      | a::b::r=>some (⟨2,(a.toNat:Nat),(b.toNat:Nat),(false,0)⟩,r)
      | _=>none)
    else if o.toNat=3 then (match r with
      | a::r=>some (⟨3,(a.toNat:Nat),0,(false,0)⟩,r)
      | _=>none)
    else some (⟨(o.toNat:Nat),0,0,(false,0)⟩,r)
def getIs:Nat→List UInt8→Option (List Ins×List UInt8)
  | 0,b=>some ([],b)
  | n+1,b=>match getI b with
    | some (x,r)=>match getIs n r with
      | some (l,r')=>some (x::l,r')
      | none=>none
    | none=>none
def decX:List UInt8→Option (List Ins)
  | []=>none
  | n::r=>match getIs n.toNat r with
    | some (l,[])=>if chkX l=0 then some l else none
    | _=>none
theorem words {n:Int} (h:In2 n):((loW n+18446744073709551616*hiW n:Nat):Int)=n∧loW n<256^8∧hiW n<256^8:=by
  have hp:(256:Nat)^8=18446744073709551616:=by decide
  unfold In2 at h
  unfold loW hiW
  omega
theorem encI_len (x:Ins):1≤(encI x).length∧(encI x).length≤18:=by
  unfold encI
  split
  · simp only [dD,cQ,leB_length];omega
  · split
    · simp
    · split<;>simp
theorem encIs_len:∀ l:List Ins,(encIs l).length≤l.length*18
  | []=>by simp [encIs]
  | x::t=>by have:=(encI_len x).2;have:=encIs_len t;simp only [encIs,cQ,dD];omega
end Go.Proofs.YtnfbccfghgmfiaaGreat
end
section
namespace Go.Lg.Fml
def Tr.args:Tr→List Tr
  | .n0 _=>[]
  | .n1 _ a=>[a]
  | .n2 _ a b=>[a,b]
  | .n3 _ a b c=>[a,b,c]
def flatL:List Tr→List Ins
  | []=>[]
  | a::r=>a.flat++flatL r
def endsL (p:Nat):List Tr→List Nat
  | []=>[]
  | a::r=>(p+a.flat.length-1)::endsL (p+a.flat.length) r
section
variable {V:Type} (one:Ins→List V→Except Int V)
variable {one}
end
def At (l:List Ins) (p:Nat) (t:Tr):Prop := ∃ pre suf,l=pre++(t.flat++suf)∧pre.length=p
end Go.Lg.Fml
end
section
namespace Go.Proofs.YtnfbccfghgmfiaaGreat
open Go Go.Lg Go.Lg.Fml Go.Lg.Fld
def insV (x:Ins):List Value:=[.int .i64 x.op,.int .i64 x.a,.int .i64 x.b,.bool x.k.1,.int .u64 (x.k.2/18446744073709551616),.int .u64 (x.k.2%18446744073709551616)]
def smallI (x:Ins):Prop:=(-9223372036854775808≤x.op∧x.op<9223372036854775808)∧(-9223372036854775808≤x.a∧x.a<9223372036854775808)∧(-9223372036854775808≤x.b∧x.b<9223372036854775808)∧In2 x.k.2
structure InsIn (X:Nat→Option Obj) (ad:Option Addr) (l:List Ins):Prop where
  rows:Go.Lg.RowsIn X ad 6 (l.map insV)
  small:∀ x∈l,smallI x
theorem InsIn.mono {X Y:Nat→Option Obj} (hXY:∀ b o,X b=some o→Y b=some o) {ad:Option Addr} {l:List Ins} (h:InsIn X ad l):InsIn Y ad l:=⟨h.rows.mono hXY,h.small⟩
theorem InsIn.at {X:Nat→Option Obj} {ad:Option Addr} {l:List Ins} (h:InsIn X ad l) {i:Nat} {x:Ins} (hx:l[i]? = some x):
    ∃ (blk off:Nat) (arr:Array Value) (el:TypeId) (fr:Nat×Nat),ad=some ⟨blk,off,none⟩∧X blk=some (.cells arr el fr)∧off+i*6+6≤arr.size∧((arr.toList.drop (off+i*6)).take 6).map CV.val=(insV x).map CV.val∧arr[off+i*6]? = some (.int .i64 x.op):=by
  obtain ⟨blk,off,arr,el,fr,h1,h2,h3,h4⟩:=h.rows i (insV x) (by rw [dG,hx];rfl)
  refine ⟨blk,off,arr,el,fr,h1,h2,h3,by rw [h4],?_⟩
  have h5:((arr.toList.drop (off+i*6)).take 6)[0]? = some (.int .i64 x.op):=by rw [h4];rfl
  rw [List.getElem?_take,if_pos (by decide),List.getElem?_drop,Nat.add_zero,Array.getElem?_toList] at h5
  exact h5
structure FssIn (X:Nat→Option Obj) (ad:Option Addr) (fss:List (List Nm)):Prop where
  at_:∀ (i:Nat) (r:List Nm),fss[i]? = some r→∃ (blk off:Nat) (arr:Array Value) (el:TypeId) (fr:Nat×Nat) (vad:Option Addr) (vcap:Nat),ad=some ⟨blk,off,none⟩∧X blk=some (.cells arr el fr)∧off+i*1+1≤arr.size∧arr[off+i]? = some (.slice vad r.length vcap)∧NumsIn X vad r
abbrev LIn (x:Ins):LV:=.sv (.agg ((insV x).map .val))
abbrev LEnv (fad:Option Addr) (n cap:Nat) (at_:Int):LV:=.sv (.agg [.val (.slice fad n cap),.val (.int .i64 at_)])
end Go.Proofs.YtnfbccfghgmfiaaGreat
end
section
namespace Go.Proofs.YtnfbccfghgmfiaaGreat
open Go Go.Lg Go.Lg.Fml Go.Lg.Fld
structure Rl where
  nw:Int
  old:Int
  ex:List (List Ins)
  deriving DecidableEq
structure Pg where
  va:Int
  vb:Int
  rs:List Rl
  deriving DecidableEq
def firstX:List (List Ins)→Int
  | []=>0
  | c::t=>if encErr c=0 then firstX t else encErr c
def chkR (r:Rl) (last:Int):Int:=if r.nw<1∨24<r.nw∨r.old<0∨24<r.old∨r.nw≤last then 1 else if r.old=0∧r.ex≠[] then 4 else if 8<r.ex.length then 5 else firstX r.ex
def chkRs:Int→List Rl→Int
  | _,[]=>0
  | last,r::t=>if chkR r last=0 then chkRs r.nw t else chkR r last
def verOk (n:Int):Bool:=decide (1≤n)&&decide (n≤1073741824)
def chkP (p:Pg):Int:=if (verOk p.va&&verOk p.vb)=true then chkRs 0 p.rs else 1
theorem chkR_zero {r:Rl} {last:Int} (h:chkR r last=0):(1≤r.nw∧r.nw≤24)∧(0≤r.old∧r.old≤24)∧last<r.nw∧(r.old=0→r.ex=[])∧r.ex.length≤8∧firstX r.ex=0:=by
  unfold chkR at h
  split at h
  · cases h
  · rename_i h1
    split at h
    · cases h
    · rename_i h2
      split at h
      · cases h
      · rename_i h3
        refine ⟨by omega,by omega,by omega,fun e => ?_,by omega,h⟩
        by_cases hx:r.ex=[]
        · exact hx
        · exact absurd ⟨e,hx⟩ h2
def get4 (b:List UInt8):Option (Nat×List UInt8):=if 4≤b.length then some (le (b.take 4),b.drop 4) else none
def getE (b:List UInt8):Option (List Ins×List UInt8):=match get4 b with
  | none=>none
  | some (m,r)=>if m≤r.length then (match decX (r.take m) with
    | some l=>some (l,r.drop m)
    | none=>none) else none
def getEs:Nat→List UInt8→Option (List (List Ins)×List UInt8)
  | 0,b=>some ([],b)
  | n+1,b=>match getE b with
    | some (x,r)=>match getEs n r with
      | some (l,r')=>some (x::l,r')
      | none=>none
    | none=>none
def getRl:List UInt8→Option (Rl×List UInt8)
  | n::o::m::r=>match getEs m.toNat r with
    | some (l,r')=>some (⟨(n.toNat:Nat),(o.toNat:Nat),l⟩,r')
    | none=>none
  | _=>none
def getRls:Nat→List UInt8→Option (List Rl×List UInt8)
  | 0,b=>some ([],b)
  | n+1,b=>match getRl b with
    | some (x,r)=>match getRls n r with
      | some (l,r')=>some (x::l,r')
      | none=>none
    | none=>none
end Go.Proofs.YtnfbccfghgmfiaaGreat
end
section
namespace Go.Lg.Fml
theorem dep_snoc {okJ:Ins→Bool} {l:List Ins} {i n:Nat} {x:Ins} (hd:dep okJ 0 (l.take i)=some n) (hx:l[i]? = some x):dep okJ 0 (l.take (i+1))=if okJ x=true∧takes x.op≤n∧n-takes x.op+1≤16 then some (n-takes x.op+1) else none:=by
  rw [Go.Lg.Fld.take_snoc hx,dep_app,hd]
  show dep okJ n [x]=_
  simp only [dep]
theorem dep_none {okJ:Ins→Bool} {l:List Ins} {i:Nat} (hd:dep okJ 0 (l.take i)=none):dep okJ 0 l=none:=by
  rw [← List.take_append_drop i l,dep_app,hd]
  rfl
theorem dep_le {okJ:Ins→Bool}:∀ {l:List Ins} {n m:Nat},n≤16→dep okJ n l=some m→m≤16
  | [],n,m,hn,h=>by simp only [dep,Option.some.injEq] at h;omega
  | x::l,n,m,hn,h=>by
    simp only [dep] at h
    split at h
    · rename_i h1;exact dep_le h1.2.2 h
    · cases h
end Go.Lg.Fml
namespace Go.Proofs.YtnfbccfghgmfiaaGreat
open Go Go.Lg Go.Lg.Fml Go.Lg.Fld
set_option maxRecDepth 100000
variable (X:Nat→Option Obj)
instance:ArrB Tryz.prog 120 (List.replicate 18 (.int .i64 0)) 1:=⟨by kernel_rfl⟩
def tkC:List CV:=[.val (.int .i64 0),.val (.int .i64 0),.val (.int .i64 0),.val (.int .i64 0),.val (.int .i64 0),.val (.int .i64 2),.val (.int .i64 2),.val (.int .i64 2),.val (.int .i64 2),.val (.int .i64 2),.val (.int .i64 1),.val (.int .i64 2),.val (.int .i64 2),.val (.int .i64 2),.val (.int .i64 2),.val (.int .i64 1),.val (.int .i64 3),.val (.int .i64 2)]
theorem takes_at {op:Int} (h:5≤op∧op≤17):tkC[op.toNat]? = some (CV.val (.int .i64 (takes op:Nat))):=by
  rcases (show op=5∨op=6∨op=7∨op=8∨op=9∨op=10∨op=11∨op=12∨op=13∨op=14∨op=15∨op=16∨op=17 by omega) with rfl|rfl|rfl|rfl|rfl|rfl|rfl|rfl|rfl|rfl|rfl|rfl|rfl<;>rfl
theorem takes_out {op:Int} (h:op<5∨17<op):takes op=0:=by
  unfold takes
  rw [if_neg (by omega),if_neg (by omega),if_neg (by omega)]
set_option maxHeartbeats 1600000 in
theorem rTakes_spec (op:Int):PSpec Tryz.prog X 40 [Ln .i64 op] (Ln .i64 (takes op:Nat)):=by
  refine cB Tryz.func40 rfl (by kernel_rfl) rfl rfl ?_
  intro C
  by_cases h1:op<5
  · rw [takes_out (.inl h1)]
    (refine aA<|rgN<|kas O<|aB<|aA<|aA<|rgN<|kmv O<|klt O O (cK h1)<|kmv O<|aC O O O<|aC O O O<|kpt O O<|aB ?_;refine aE O ?_;refine aA<|rgN<|kas O<|aB<|aI ?_)
    exact ⟨[_],⟨O,trivial⟩,O⟩
  by_cases h2:17<op
  · rw [takes_out (.inr h2)]
    (refine aA<|rgN<|kas O<|aB<|aA<|aA<|rgN<|kmv O<|klt O O (cJ h1)<|kmv O<|gmv O O O<|aS O O (cK h2) (dN O O) ?_;refine kpf O O<|aB<|aE O ?_;refine aA<|rgN<|kas O<|aB<|aI ?_)
    exact ⟨[_],⟨O,trivial⟩,O⟩
  have hat:=takes_at (op:=op) ⟨by omega,by omega⟩
  have hix:0+Int.toNat op*1=op.toNat:=by omega
  (refine aA<|rgN<|kas O<|aB<|aA<|aA<|rgN<|kmv O<|klt O O (cJ h1)<|kmv O<|gmv O O O<|aS O O (cJ h2) (dN O O) ?_;refine kpf O O<|aB<|aF O ?_;refine aH ?_;refine aA<|rgN<|K.buildArr O O (by exact O) O dM ?_;refine aP O dM ?_;refine aM O O O O O O dM ?_;refine aB<|aA<|rgN<|kmv O<|K.indexArr O O (by omega) hix dM ?_;refine kl1 O O hat<|kas O<|aB<|aI ?_)
  exact ⟨[_],⟨O,trivial⟩,O⟩
theorem chkX_bad {l:List Ins} {i n:Nat} {x:Ins} (h64:¬ 64<l.length) (hd:dep okI 0 (l.take i)=some n) (hx:l[i]? = some x) (hb:¬ (okI x=true∧takes x.op≤n∧n-takes x.op+1≤16)):chkX l=4:=by
  unfold chkX
  rw [if_neg h64,if_neg]
  rw [dep_none (i:=i+1) ((dep_snoc hd hx).trans (if_neg hb))]
  exact fun h=>by cases h
set_option maxHeartbeats 6400000 in
theorem rCheck11 (l:List Ins) (ad:Option Addr) (cap:Nat) (hin:InsIn X ad l) (hbig:l.length<4611686018427387904):PSpec Tryz.prog X 24 [Lx ad l.length cap] (Ln .i64 (chkX l)):=by
  refine cB Tryz.func24 rfl (by kernel_rfl) rfl rfl ?_
  intro C
  by_cases hlong:64<l.length
  · have e:chkX l=5:=if_pos hlong
    rw [e]
    (refine aA<|rgN<|kas O<|aB<|aA<|aA<|rgN<|kmv O<|aQ O bY O dM ?_;refine aS O O (cK (by omega)) dM<|aB<|aE O ?_;refine aA<|rgN<|kas O<|aB<|aI ?_)
    exact ⟨[_],⟨O,trivial⟩,O⟩
  (refine aA<|rgN<|kas O<|aB<|aA<|aA<|rgN<|kmv O<|aQ O bY O dM ?_;refine aS O O (cJ (by omega)) dM<|aB<|aF O ?_;refine aH ?_;refine aA<|rgN<|kas O<|aB<|aA<|aA<|rgN<|kas O<|aB<|aG ?_)
  refine cF (fun m σ=>∃ i n:Nat,i≤l.length∧m=l.length-i∧dep okI 0 (l.take i)=some n∧σ=⟨[(0,Lx ad l.length cap),(3,Ln .i64 (n:Nat)),(4,Ln .i64 (i:Nat))],[],X⟩) l.length
    ⟨⟨[(0,Lx ad l.length cap),(3,Ln .i64 (0:Nat)),(4,Ln .i64 (0:Nat))],[],X⟩,Le.of (by exact ⟨rfl,rfl,rfl,trivial⟩) (by exact trivial) (by exact rfl) (by exact rfl) (by exact rfl),0,0,by omega,rfl,rfl,rfl⟩ ?_
  rintro m σ ⟨i,n,hi,rfl,hd,rfl⟩
  have hn16:=dep_le (by omega) hd
  by_cases hlt:i<l.length
  · obtain ⟨x,hx⟩:∃ x,l[i]? = some x:=⟨_,cS hlt⟩
    obtain ⟨blk,off,arr,el,fr,rfl,hX,hsz,hcs,_⟩:=hin.at hx
    have hio:off+Int.toNat (i:Int)*6=off+i*6:=by simp
    obtain ⟨_,_,_,hk2⟩:=hin.small x (cX hx)
    have hG:=Good_spec X x.k.1 x.k.2 hk2 (gd x.k) rfl
    have hT:=rTakes_spec X x.op
    have hbad:=fun h=>chkX_bad (x:=x) hlong hd hx h
    have htk:=takes_le x.op
    by_cases c0:x.op<1
    · rw [hbad (fun h=>by have:=(okI_facts h.1).1;omega)]
      (refine aA<|aA<|rgN<|kmv O<|kmv O<|aQ O bY O dM ?_;refine klt O O (cK (by omega))<|aB<|aE O ?_;refine aH ?_;refine aA<|aG<|aA<|rgN<|kmv O<|kmv O<|aR O O bY (by omega) hio dM<|aY O hX (by kernel_rfl) hsz hcs dM<|aP O dM ?_;refine aM O O O O O O dM ?_;refine aB<|aA<|aA<|rgN<|kfa O O ?_;refine kl1 O O O<|klt O O (cK (by omega))<|kmv O<|aC O O O<|aC O O O<|aC O O O<|kpt O O<|kmv O<|aC O O O<|aC O O O<|aC O O O<|aC O O O<|kpt O O<|kmv O ?_;refine aC O O O<|aC O O O<|aC O O O<|kpt O O<|kmv O<|aC O O O<|aC O O O<|aC O O O<|kpt O O<|kmv O<|aC O O O<|aC O O O<|aC O O O<|kpt O O ?_;refine kmv O<|aC O O O<|aC O O O<|aC O O O<|kpt O O<|kmv O<|aC O O O<|aC O O O<|aC O O O<|aC O O O<|aC O O O<|kpt O O<|aB<|aE O ?_;refine aA<|rgN<|kas O<|aB<|aI ?_)
      exact ⟨[_],⟨O,trivial⟩,O⟩
    by_cases c1:17<x.op
    · rw [hbad (fun h=>by have:=(okI_facts h.1).1;omega)]
      (refine aA<|aA<|rgN<|kmv O<|kmv O<|aQ O bY O dM ?_;refine klt O O (cK (by omega))<|aB<|aE O ?_;refine aH ?_;refine aA<|aG<|aA<|rgN<|kmv O<|kmv O<|aR O O bY (by omega) hio dM<|aY O hX (by kernel_rfl) hsz hcs dM<|aP O dM ?_;refine aM O O O O O O dM ?_;refine aB<|aA<|aA<|rgN<|kfa O O ?_;refine kl1 O O O<|klt O O (cJ (by omega))<|kmv O<|aN O O (dN O O) ?_;refine aO O O O (dN O O) ?_;refine aS O O (cK (by omega)) (dN O O) ?_;refine kpf O O<|kmv O<|aC O O O<|aC O O O<|aC O O O<|aC O O O<|kpt O O<|kmv O<|aC O O O<|aC O O O<|aC O O O<|kpt O O<|kmv O<|aC O O O ?_;refine aC O O O<|aC O O O<|kpt O O<|kmv O<|aC O O O<|aC O O O<|aC O O O<|kpt O O<|kmv O<|aC O O O<|aC O O O<|aC O O O<|kpt O O<|kmv O ?_;refine aC O O O<|aC O O O<|aC O O O<|aC O O O<|aC O O O<|kpt O O<|aB<|aE O ?_;refine aA<|rgN<|kas O<|aB<|aI ?_)
      exact ⟨[_],⟨O,trivial⟩,O⟩
    cases hg:gd x.k with
    | false =>
      rw [hbad (fun h=>by rw [(okI_facts h.1).2.1] at hg;cases hg)]
      rw [hg] at hG
      (refine aA<|aA<|rgN<|kmv O<|kmv O<|aQ O bY O dM ?_;refine klt O O (cK (by omega))<|aB<|aE O ?_;refine aH ?_;refine aA<|aG<|aA<|rgN<|kmv O<|kmv O<|aR O O bY (by omega) hio dM<|aY O hX (by kernel_rfl) hsz hcs dM<|aP O dM ?_;refine aM O O O O O O dM ?_;refine aB<|aA<|aA<|rgN<|kfa O O ?_;refine kl1 O O O<|klt O O (cJ (by omega))<|kmv O<|aN O O (dN O O) ?_;refine aO O O O (dN O O) ?_;refine aS O O (cJ (by omega)) (dN O O) ?_;refine kpf O O<|kmv O<|aN O O (dN O O) ?_;refine bJ O O O (by exact nl3 O O O O) (dN O O) ?_;refine gca O O (hG) O O<|aV O O (dN O O) ?_;refine kpf O O<|kmv O<|aC O O O<|aC O O O<|aC O O O<|kpt O O<|kmv O<|aC O O O<|aC O O O<|aC O O O<|kpt O O<|kmv O<|aC O O O<|aC O O O ?_;refine aC O O O<|kpt O O<|kmv O<|aC O O O<|aC O O O<|aC O O O<|kpt O O<|kmv O<|aC O O O<|aC O O O<|aC O O O<|aC O O O<|aC O O O<|kpt O O ?_;refine aB<|aE O ?_;refine aA<|rgN<|kas O<|aB<|aI ?_)
      exact ⟨[_],⟨O,trivial⟩,O⟩
    | true =>
    rw [hg] at hG
    by_cases c3:x.a<0
    · rw [hbad (fun h=>by have:=(okI_facts h.1).2.2.1;omega)]
      (refine aA<|aA<|rgN<|kmv O<|kmv O<|aQ O bY O dM ?_;refine klt O O (cK (by omega))<|aB<|aE O ?_;refine aH ?_;refine aA<|aG<|aA<|rgN<|kmv O<|kmv O<|aR O O bY (by omega) hio dM<|aY O hX (by kernel_rfl) hsz hcs dM<|aP O dM ?_;refine aM O O O O O O dM ?_;refine aB<|aA<|aA<|rgN<|kfa O O ?_;refine kl1 O O O<|klt O O (cJ (by omega))<|kmv O<|aN O O (dN O O) ?_;refine aO O O O (dN O O) ?_;refine aS O O (cJ (by omega)) (dN O O) ?_;refine kpf O O<|kmv O<|aN O O (dN O O) ?_;refine bJ O O O (by exact nl3 O O O O) (dN O O) ?_;refine gca O O (hG) O O<|aV O O (dN O O) ?_;refine kpf O O<|kmv O<|aN O O (dN O O) ?_;refine aO O O O (dN O O) ?_;refine bK O O (cK (by omega)) (dN O O) ?_;refine kpf O O<|kmv O<|aC O O O<|aC O O O<|aC O O O<|kpt O O<|kmv O<|aC O O O<|aC O O O<|aC O O O<|kpt O O<|kmv O<|aC O O O<|aC O O O ?_;refine aC O O O<|kpt O O<|kmv O<|aC O O O<|aC O O O<|aC O O O<|aC O O O<|aC O O O<|kpt O O<|aB<|aE O ?_;refine aA<|rgN<|kas O<|aB<|aI ?_)
      exact ⟨[_],⟨O,trivial⟩,O⟩
    by_cases c4:7<x.a
    · rw [hbad (fun h=>by have:=(okI_facts h.1).2.2.1;omega)]
      ((refine aA<|aA<|rgN<|kmv O<|kmv O<|aQ O bY O dM ?_;refine klt O O (cK (by omega))<|aB<|aE O ?_;refine aH ?_;refine aA<|aG<|aA<|rgN<|kmv O<|kmv O<|aR O O bY (by omega) hio dM<|aY O hX (by kernel_rfl) hsz hcs dM<|aP O dM ?_;refine aM O O O O O O dM ?_;refine aB<|aA<|aA<|rgN<|kfa O O ?_;refine kl1 O O O<|klt O O (cJ (by omega))<|kmv O<|aN O O (dN O O) ?_;refine aO O O O (dN O O) ?_;refine aS O O (cJ (by omega)) (dN O O) ?_;refine kpf O O<|kmv O<|aN O O (dN O O) ?_;refine bJ O O O (by exact nl3 O O O O) (dN O O) ?_;refine gca O O (hG) O O<|aV O O (dN O O) ?_);(refine kpf O O<|kmv O<|aN O O (dN O O) ?_;refine aO O O O (dN O O) ?_;refine bK O O (cJ (by omega)) (dN O O) ?_;refine kpf O O<|kmv O<|aN O O (dN O O) ?_;refine aO O O O (dN O O) ?_;refine aS O O (cK (by omega)) (dN O O) ?_;refine kpf O O<|kmv O<|aC O O O<|aC O O O<|aC O O O<|kpt O O<|kmv O<|aC O O O<|aC O O O<|aC O O O<|kpt O O<|kmv O<|aC O O O<|aC O O O ?_;refine aC O O O<|aC O O O<|aC O O O<|kpt O O<|aB<|aE O ?_;refine aA<|rgN<|kas O<|aB<|aI ?_))
      exact ⟨[_],⟨O,trivial⟩,O⟩
    by_cases c5:x.b<0
    · rw [hbad (fun h=>by have:=(okI_facts h.1).2.2.2;omega)]
      ((refine aA<|aA<|rgN<|kmv O<|kmv O<|aQ O bY O dM ?_;refine klt O O (cK (by omega))<|aB<|aE O ?_;refine aH ?_;refine aA<|aG<|aA<|rgN<|kmv O<|kmv O<|aR O O bY (by omega) hio dM<|aY O hX (by kernel_rfl) hsz hcs dM<|aP O dM ?_;refine aM O O O O O O dM ?_;refine aB<|aA<|aA<|rgN<|kfa O O ?_;refine kl1 O O O<|klt O O (cJ (by omega))<|kmv O<|aN O O (dN O O) ?_;refine aO O O O (dN O O) ?_;refine aS O O (cJ (by omega)) (dN O O) ?_;refine kpf O O<|kmv O<|aN O O (dN O O) ?_;refine bJ O O O (by exact nl3 O O O O) (dN O O) ?_;refine gca O O (hG) O O<|aV O O (dN O O) ?_);(refine kpf O O<|kmv O<|aN O O (dN O O) ?_;refine aO O O O (dN O O) ?_;refine bK O O (cJ (by omega)) (dN O O) ?_;refine kpf O O<|kmv O<|aN O O (dN O O) ?_;refine aO O O O (dN O O) ?_;refine aS O O (cJ (by omega)) (dN O O) ?_;refine kpf O O<|kmv O<|aN O O (dN O O) ?_;refine aO O O O (dN O O) ?_;refine bK O O (cK (by omega)) (dN O O) ?_;refine kpf O O<|kmv O<|aC O O O<|aC O O O<|aC O O O<|kpt O O<|kmv O<|aC O O O<|aC O O O<|aC O O O<|aC O O O<|aC O O O<|kpt O O<|aB ?_;refine aE O ?_;refine aA<|rgN<|kas O<|aB<|aI ?_))
      exact ⟨[_],⟨O,trivial⟩,O⟩
    by_cases c6:7<x.b
    · rw [hbad (fun h=>by have:=(okI_facts h.1).2.2.2;omega)]
      ((refine aA<|aA<|rgN<|kmv O<|kmv O<|aQ O bY O dM ?_;refine klt O O (cK (by omega))<|aB<|aE O ?_;refine aH ?_;refine aA<|aG<|aA<|rgN<|kmv O<|kmv O<|aR O O bY (by omega) hio dM<|aY O hX (by kernel_rfl) hsz hcs dM<|aP O dM ?_;refine aM O O O O O O dM ?_;refine aB<|aA<|aA<|rgN<|kfa O O ?_;refine kl1 O O O<|klt O O (cJ (by omega))<|kmv O<|aN O O (dN O O) ?_;refine aO O O O (dN O O) ?_;refine aS O O (cJ (by omega)) (dN O O) ?_;refine kpf O O<|kmv O<|aN O O (dN O O) ?_;refine bJ O O O (by exact nl3 O O O O) (dN O O) ?_;refine gca O O (hG) O O<|aV O O (dN O O) ?_);(refine kpf O O<|kmv O<|aN O O (dN O O) ?_;refine aO O O O (dN O O) ?_;refine bK O O (cJ (by omega)) (dN O O) ?_;refine kpf O O<|kmv O<|aN O O (dN O O) ?_;refine aO O O O (dN O O) ?_;refine aS O O (cJ (by omega)) (dN O O) ?_;refine kpf O O<|kmv O<|aN O O (dN O O) ?_;refine aO O O O (dN O O) ?_;refine bK O O (cJ (by omega)) (dN O O) ?_;refine kpf O O<|kmv O<|aN O O (dN O O) ?_;refine aO O O O (dN O O) ?_;refine aS O O (cK (by omega)) (dN O O) ?_);(refine kpf O O<|kmv O<|aC O O O<|aC O O O<|aC O O O<|aC O O O<|aC O O O<|kpt O O<|aB<|aE O ?_;refine aA<|rgN<|kas O<|aB<|aI ?_))
      exact ⟨[_],⟨O,trivial⟩,O⟩
    by_cases c7:n<takes x.op
    · rw [hbad (fun h=>by have:=h.2.1;omega)]
      ((refine aA<|aA<|rgN<|kmv O<|kmv O<|aQ O bY O dM ?_;refine klt O O (cK (by omega))<|aB<|aE O ?_;refine aH ?_;refine aA<|aG<|aA<|rgN<|kmv O<|kmv O<|aR O O bY (by omega) hio dM<|aY O hX (by kernel_rfl) hsz hcs dM<|aP O dM ?_;refine aM O O O O O O dM ?_;refine aB<|aA<|aA<|rgN<|kfa O O ?_;refine kl1 O O O<|klt O O (cJ (by omega))<|kmv O<|aN O O (dN O O) ?_;refine aO O O O (dN O O) ?_;refine aS O O (cJ (by omega)) (dN O O) ?_;refine kpf O O<|kmv O<|aN O O (dN O O) ?_;refine bJ O O O (by exact nl3 O O O O) (dN O O) ?_;refine gca O O (hG) O O<|aV O O (dN O O) ?_);(refine kpf O O<|kmv O<|aN O O (dN O O) ?_;refine aO O O O (dN O O) ?_;refine bK O O (cJ (by omega)) (dN O O) ?_;refine kpf O O<|kmv O<|aN O O (dN O O) ?_;refine aO O O O (dN O O) ?_;refine aS O O (cJ (by omega)) (dN O O) ?_;refine kpf O O<|kmv O<|aN O O (dN O O) ?_;refine aO O O O (dN O O) ?_;refine bK O O (cJ (by omega)) (dN O O) ?_;refine kpf O O<|kmv O<|aN O O (dN O O) ?_;refine aO O O O (dN O O) ?_;refine aS O O (cJ (by omega)) (dN O O) ?_);(refine kpf O O<|kmv O<|gmv O O O<|aN O O (dN O O) ?_;refine aO O O O (dN O O) ?_;refine gca O O (hT) O O<|bK O O (cK (by omega)) (dN O O) ?_;refine kpf O O<|aB<|aE O ?_;refine aA<|rgN<|kas O<|aB<|aI ?_))
      exact ⟨[_],⟨O,trivial⟩,O⟩
    have hok:okI x=true:=by
      unfold okI
      rw [hg,cK (show 1≤x.op by omega),cK (show x.op≤17 by omega),cK (show 0≤x.a by omega),cK (show x.a≤7 by omega),cK (show 0≤x.b by omega),cK (show x.b≤7 by omega)]
      rfl
    have hsub:IntKind.i64.wrap ((n:Int)-(takes x.op:Nat))=((n-takes x.op:Nat):Int):=by rw [cD (by omega)];omega
    have hadd:IntKind.i64.wrap (((n-takes x.op:Nat):Int)+1)=((n-takes x.op+1:Nat):Int):=by rw [cD (by omega)];omega
    by_cases c8:16<n-takes x.op+1
    · rw [hbad (fun h=>by have:=h.2.2;omega)]
      ((refine aA<|aA<|rgN<|kmv O<|kmv O<|aQ O bY O dM ?_;refine klt O O (cK (by omega))<|aB<|aE O ?_;refine aH ?_;refine aA<|aG<|aA<|rgN<|kmv O<|kmv O<|aR O O bY (by omega) hio dM<|aY O hX (by kernel_rfl) hsz hcs dM<|aP O dM ?_;refine aM O O O O O O dM ?_;refine aB<|aA<|aA<|rgN<|kfa O O ?_;refine kl1 O O O<|klt O O (cJ (by omega))<|kmv O<|aN O O (dN O O) ?_;refine aO O O O (dN O O) ?_;refine aS O O (cJ (by omega)) (dN O O) ?_;refine kpf O O<|kmv O<|aN O O (dN O O) ?_;refine bJ O O O (by exact nl3 O O O O) (dN O O) ?_;refine gca O O (hG) O O<|aV O O (dN O O) ?_);(refine kpf O O<|kmv O<|aN O O (dN O O) ?_;refine aO O O O (dN O O) ?_;refine bK O O (cJ (by omega)) (dN O O) ?_;refine kpf O O<|kmv O<|aN O O (dN O O) ?_;refine aO O O O (dN O O) ?_;refine aS O O (cJ (by omega)) (dN O O) ?_;refine kpf O O<|kmv O<|aN O O (dN O O) ?_;refine aO O O O (dN O O) ?_;refine bK O O (cJ (by omega)) (dN O O) ?_;refine kpf O O<|kmv O<|aN O O (dN O O) ?_;refine aO O O O (dN O O) ?_;refine aS O O (cJ (by omega)) (dN O O) ?_);(refine kpf O O<|kmv O<|gmv O O O<|aN O O (dN O O) ?_;refine aO O O O (dN O O) ?_;refine gca O O (hT) O O<|bK O O (cJ (by omega)) (dN O O) ?_;refine kpf O O<|aB<|aF O ?_;refine aH ?_;refine aA<|rgN<|kmv O<|kfa O O ?_;refine kl1 O O O<|kca O O (hT)<|bA O O hsub dM<|kad O O hadd<|kas O<|aB<|aA<|rgN<|kmv O<|aS O O (cK (by omega)) dM<|aB<|aE O ?_;refine aA<|rgN<|kas O<|aB<|aI ?_))
      exact ⟨[_],⟨O,trivial⟩,O⟩
    have hadi:IntKind.i64.wrap ((i:Int)+1)=((i+1:Nat):Int):=by rw [cD (by omega)];omega
    have hnext:=(dep_snoc hd hx).trans (if_pos ⟨hok,by omega,by omega⟩)
    ((refine aA<|aA<|rgN<|kmv O<|kmv O<|aQ O bY O dM ?_;refine klt O O (cK (by omega))<|aB<|aE O ?_;refine aH ?_;refine aA<|aG<|aA<|rgN<|kmv O<|kmv O<|aR O O bY (by omega) hio dM<|aY O hX (by kernel_rfl) hsz hcs dM<|aP O dM ?_;refine aM O O O O O O dM ?_;refine aB<|aA<|aA<|rgN<|kfa O O ?_;refine kl1 O O O<|klt O O (cJ (by omega))<|kmv O<|aN O O (dN O O) ?_;refine aO O O O (dN O O) ?_;refine aS O O (cJ (by omega)) (dN O O) ?_;refine kpf O O<|kmv O<|aN O O (dN O O) ?_;refine bJ O O O (by exact nl3 O O O O) (dN O O) ?_;refine gca O O (hG) O O<|aV O O (dN O O) ?_);(refine kpf O O<|kmv O<|aN O O (dN O O) ?_;refine aO O O O (dN O O) ?_;refine bK O O (cJ (by omega)) (dN O O) ?_;refine kpf O O<|kmv O<|aN O O (dN O O) ?_;refine aO O O O (dN O O) ?_;refine aS O O (cJ (by omega)) (dN O O) ?_;refine kpf O O<|kmv O<|aN O O (dN O O) ?_;refine aO O O O (dN O O) ?_;refine bK O O (cJ (by omega)) (dN O O) ?_;refine kpf O O<|kmv O<|aN O O (dN O O) ?_;refine aO O O O (dN O O) ?_;refine aS O O (cJ (by omega)) (dN O O) ?_);(refine kpf O O<|kmv O<|gmv O O O<|aN O O (dN O O) ?_;refine aO O O O (dN O O) ?_;refine gca O O (hT) O O<|bK O O (cJ (by omega)) (dN O O) ?_;refine kpf O O<|aB<|aF O ?_;refine aH ?_;refine aA<|rgN<|kmv O<|kfa O O ?_;refine kl1 O O O<|kca O O (hT)<|bA O O hsub dM<|kad O O hadd<|kas O<|aB<|aA<|rgN<|kmv O<|aS O O (cJ (by omega)) dM<|aB<|aF O ?_;refine aH ?_;refine rgN<|kmv O<|kad O O hadi<|kas O<|aB ?_))
    exact ⟨_,⟨[(0,Lx (some ⟨blk,off,none⟩) l.length cap),(3,Ln .i64 (n-takes x.op+1:Nat)),(4,Ln .i64 (i+1:Nat))],[],X⟩,by omega,Le.of (by exact ⟨O,O,O,trivial⟩) (by exact trivial) (by exact O) (by exact O) (by exact O),i+1,_,by omega,O,hnext,O⟩
  have e:i=l.length:=by omega
  subst e
  rw [cZ] at hd
  by_cases h1:n=1
  · have e:chkX l=0:=by unfold chkX;rw [if_neg hlong,if_pos (by rw [hd,h1])]
    rw [e]
    (refine aA<|aA<|rgN<|kmv O<|kmv O<|aQ O bY O dM ?_;refine klt O O (cJ (by omega))<|aB<|aF O ?_;refine aJ<|aA<|aA<|rgN<|kmv O<|kne O O (cN (by omega))<|aB<|aF O ?_;refine aH ?_;refine aA<|rgN<|kas O<|aB<|aI ?_)
    exact ⟨[_],⟨O,trivial⟩,O⟩
  · have e:chkX l=4:=by unfold chkX;rw [if_neg hlong,if_neg (by rw [hd];exact fun h=>h1 (by simpa using h))]
    rw [e]
    (refine aA<|aA<|rgN<|kmv O<|kmv O<|aQ O bY O dM ?_;refine klt O O (cJ (by omega))<|aB<|aF O ?_;refine aJ<|aA<|aA<|rgN<|kmv O<|kne O O (cO (by omega))<|aB<|aE O ?_;refine aA<|rgN<|kas O<|aB<|aI ?_)
    exact ⟨[_],⟨O,trivial⟩,O⟩
end Go.Proofs.YtnfbccfghgmfiaaGreat
end
section
namespace Go.Lg.Sg
open Go Go.Lg
def NuIn (X:Nat→Option Obj) (ad:Option Addr) (l:List Int):Prop:=RowsIn X ad 1 (l.map fun n=>[.int .i64 n])
end Go.Lg.Sg
end
section
namespace Go.Proofs
open Go.Shelf
def Tryz.lays134_ren : Go.Shelf.Ren := ⟨fun | 134 => 128 | 129 => 132 | n => n, fun | 53 => 62 | 3 => 3 | 4 => 4 | 46 => 188 | 5 => 5 | 9 => 9 | n => n, fun | n => n⟩
theorem Tryz.lays134 : Go.Proofs.Lays.n134 Tryz.prog Tryz.lays134_ren := {
  mixed := by kernel_rfl
  f129 := Tryz.func132.trans (congrArg some (by kernel_rfl))
  f134 := Tryz.func128.trans (congrArg some (by kernel_rfl))
  t3 := Tryz.underlying3
  a3 := Tryz.isAgg3
  z3 := Tryz.sizeOf3
  v3 := Tryz.zeroValue3
  t4 := Tryz.underlying4
  a4 := Tryz.isAgg4
  z4 := Tryz.sizeOf4
  v4 := Tryz.zeroValue4
  t5 := Tryz.underlying5
  a5 := Tryz.isAgg5
  z5 := Tryz.sizeOf5
  v5 := Tryz.zeroValue5
  t9 := Tryz.underlying9
  a9 := Tryz.isAgg9
  z9 := Tryz.sizeOf9
  v9 := Tryz.zeroValue9
  t46 := Tryz.underlying188
  a46 := Tryz.isAgg188
  z46 := Tryz.sizeOf188
  v46 := Tryz.zeroValue188
  t53 := Tryz.underlying62
  a53 := Tryz.isAgg62
  z53 := Tryz.sizeOf62
  v53 := Tryz.zeroValue62 }
theorem Tryz.bits_LeadingZeros64 (x : Int) (w : World) (h0 : 0 ≤ x) (h1 : x ≤ 18446744073709551615) :
    Calls Tryz.prog 128 #[.int .u64 x] w fun e w' => e = .returned (.int .i64 (64 - (Lib.bitLen x.toNat : Int))) ∧ w' = w := Any.bits_LeadingZeros64 Tryz.lays134 x w h0 h1
def Tryz.lays264_ren : Go.Shelf.Ren := ⟨fun | 264 => 122 | n => n, fun | 53 => 62 | 46 => 188 | n => n, fun | n => n⟩
theorem Tryz.lays264 : Go.Proofs.Lays.n264 Tryz.prog Tryz.lays264_ren := {
  mixed := by kernel_rfl
  f264 := Tryz.func122.trans (congrArg some (by kernel_rfl))
  t46 := Tryz.underlying188
  a46 := Tryz.isAgg188
  z46 := Tryz.sizeOf188
  v46 := Tryz.zeroValue188
  t53 := Tryz.underlying62
  a53 := Tryz.isAgg62
  z53 := Tryz.sizeOf62
  v53 := Tryz.zeroValue62 }
open Go.RowKit Go.Lib in
theorem Tryz.bits_Mul64 (x y : Nat) (hx : x < 18446744073709551616) (hy : y < 18446744073709551616) (w : World) :
    Calls Tryz.prog 122 #[.int .u64 x, .int .u64 y] w fun e w' => e = .returned (.tuple #[.int .u64 ((x * y / 18446744073709551616 : Nat) : Int), .int .u64 ((x * y % 18446744073709551616 : Nat) : Int)]) ∧ w' = w := Any.bits_Mul64 Tryz.lays264 x y hx hy w
end Go.Proofs
end
section
namespace Go.Proofs.YtnfbccfghgmfiaaGreat
open Go Go.Lg Go.Lg.Arith
variable (X:Nat→Option Obj)
theorem mul64_spec (x y p:Int) (hx:0≤x∧x<18446744073709551616) (hy:0≤y∧y<18446744073709551616) (hp:x*y=p):
    PSpec Tryz.prog X 122 [Ln .u64 x,Ln .u64 y] (.tup [Sn .u64 (p/18446744073709551616),Sn .u64 (p%18446744073709551616)]):=by
  subst hp
  obtain ⟨a,rfl⟩:=Int.eq_ofNat_of_zero_le hx.1
  obtain ⟨b,rfl⟩:=Int.eq_ofNat_of_zero_le hy.1
  refine PSpec.ofCalls (vals:=[.int .u64 a,.int .u64 b]) (v:=.tuple #[.int .u64 (a*b/18446744073709551616),.int .u64 (a*b%18446744073709551616)]) (by kernel_rfl) O O (fun w _ => ?_)
  have h:=Tryz.bits_Mul64 a b (by omega) (by omega) w
  have e1:((a*b/18446744073709551616:Nat):Int)=(a:Int)*b/18446744073709551616:=by rw [Int.natCast_ediv,Int.natCast_mul];rfl
  have e2:((a*b%18446744073709551616:Nat):Int)=(a:Int)*b%18446744073709551616:=by rw [Int.natCast_emod,Int.natCast_mul];rfl
  rw [e1,e2] at h
  exact h
theorem times_spec (M N:Int) (hM:In2 M) (hN:In2 N) (hw:M<18446744073709551616∨N<18446744073709551616) (r:Bool) (hr:decide (M*N<340282366920938463463374607431768211456)=r):
    PSpec Tryz.prog X 102 [LZ M,LZ N] (.tup [SZ (M*N%340282366920938463463374607431768211456),Sb r]):=by
  have core:∀ H L m p q P:Int,0≤H∧H<18446744073709551616→0≤L∧L<18446744073709551616→0≤m∧m<18446744073709551616→H*m=p→L*m=q→(H*18446744073709551616+L)*m=P →
      0≤p∧0≤q∧P=p*18446744073709551616+q∧q/18446744073709551616<18446744073709551616∧p/18446744073709551616<18446744073709551616:=by
    intro H L m p q P hH hL hm hp hq hP
    have b1:=mul_bound (A:=18446744073709551615) (B:=18446744073709551615) ⟨hH.1,by omega⟩ (show 0≤m∧m≤18446744073709551615 by omega)
    have b2:=mul_bound (A:=18446744073709551615) (B:=18446744073709551615) ⟨hL.1,by omega⟩ (show 0≤m∧m≤18446744073709551615 by omega)
    have:=times_low hp hq hP
    rw [hp] at b1
    rw [hq] at b2
    omega
  unfold In2 at *
  refine cB Tryz.func102 rfl (by kernel_rfl) rfl rfl ?_
  intro C
  by_cases h0:M/18446744073709551616=0
  · obtain ⟨p,hp⟩:∃ p,N/18446744073709551616*(M%18446744073709551616)=p:=⟨_,rfl⟩
    obtain ⟨q,hq⟩:∃ q,N%18446744073709551616*(M%18446744073709551616)=q:=⟨_,rfl⟩
    obtain ⟨S,hS⟩:∃ S,M*N=S:=⟨_,rfl⟩
    obtain ⟨c1,c2,c3,c4,c5⟩:=core _ _ _ p q S (by omega) (by omega) (by omega) hp hq (by
      rw [← hS,show N/18446744073709551616*18446744073709551616+N%18446744073709551616=N by omega,show M%18446744073709551616=M by omega];exact Int.mul_comm _ _)
    rw [hS] at hr ⊢
    by_cases hP:S<340282366920938463463374607431768211456
    · rw [cK hP] at hr
      subst hr
      (refine aA<|rgN<|aL O O O dM<|aL O O O dM<|aP O dM ?_;refine kas O<|aB<|aA<|aA<|rgN<|kfa O O ?_;refine kl1 O O O<|keq O O (cP (by omega))<|aB<|aE O ?_;refine rgN<|aK O O O dM ?_;refine aK O O O dM ?_;refine aM O O O O O O dM ?_;refine aM O O O O O O dM ?_;refine aB<|aA<|aA<|rgN<|kfa O O ?_;refine kl1 O O O<|kne O O ((cN (by omega)))<|aB<|aF O ?_;refine aH ?_;refine aA<|rgN<|kfa O O ?_;refine kl1 O O O<|kfa O O ?_;refine kl1 O O O<|kca O O (mul64_spec _ _ _ p (by omega) (by omega) hp)<|kmv O<|kex O O<|kex O O<|kas O<|kas O<|aB<|aA<|rgN<|kfa O O ?_;refine kl1 O O O<|kfa O O ?_;refine kl1 O O O<|kca O O (mul64_spec _ _ _ q (by omega) (by omega) hq)<|kmv O<|kex O O<|kex O O<|kas O<|kas O<|aB<|aA<|rgN<|kmv O<|kmv O<|K.callN O O (add64 (s:=S%340282366920938463463374607431768211456/18446744073709551616) (t:=0) (by omega) (by omega) (by omega)) O dM<|kmv O ?_;refine kex O O<|kex O O<|kas O<|kas O<|aB<|aA<|rgN<|kmv O<|kmv O<|aT O O (by exact O) (by exact nl2 O O O) dM ?_;refine kmv O<|keq O O (cP (by omega))<|kmv O<|gmv O O O<|bC O O (cP (by omega)) (dN O O) ?_;refine kpt O O<|aM O O O O O O dM ?_;refine kas O<|aB<|aI ?_)
      unfold SZ;rw [show S%340282366920938463463374607431768211456%18446744073709551616=q%18446744073709551616 by omega]
      exact ⟨[_,_],⟨⟨_,_,O,O,O,.inl ⟨AggT.h,O⟩⟩,O,trivial⟩,O⟩
    · rw [cJ hP] at hr
      subst hr
      by_cases ho:p/18446744073709551616=0
      · (refine aA<|rgN<|aL O O O dM<|aL O O O dM<|aP O dM ?_;refine kas O<|aB<|aA<|aA<|rgN<|kfa O O ?_;refine kl1 O O O<|keq O O (cP (by omega))<|aB<|aE O ?_;refine rgN<|aK O O O dM ?_;refine aK O O O dM ?_;refine aM O O O O O O dM ?_;refine aM O O O O O O dM ?_;refine aB<|aA<|aA<|rgN<|kfa O O ?_;refine kl1 O O O<|kne O O ((cN (by omega)))<|aB<|aF O ?_;refine aH ?_;refine aA<|rgN<|kfa O O ?_;refine kl1 O O O<|kfa O O ?_;refine kl1 O O O<|kca O O (mul64_spec _ _ _ p (by omega) (by omega) hp)<|kmv O<|kex O O<|kex O O<|kas O<|kas O<|aB<|aA<|rgN<|kfa O O ?_;refine kl1 O O O<|kfa O O ?_;refine kl1 O O O<|kca O O (mul64_spec _ _ _ q (by omega) (by omega) hq)<|kmv O<|kex O O<|kex O O<|kas O<|kas O<|aB<|aA<|rgN<|kmv O<|kmv O<|K.callN O O (add64 (s:=S%340282366920938463463374607431768211456/18446744073709551616) (t:=1) (by omega) (by omega) (by omega)) O dM<|kmv O ?_;refine kex O O<|kex O O<|kas O<|kas O<|aB<|aA<|rgN<|kmv O<|kmv O<|aT O O (by exact O) (by exact nl2 O O O) dM ?_;refine kmv O<|keq O O (cP (by omega))<|kmv O<|gmv O O O<|bC O O (cM (by omega)) (dN O O) ?_;refine kpt O O<|aM O O O O O O dM ?_;refine kas O<|aB<|aI ?_)
        unfold SZ;rw [show S%340282366920938463463374607431768211456%18446744073709551616=q%18446744073709551616 by omega]
        exact ⟨[_,_],⟨⟨_,_,O,O,O,.inl ⟨AggT.h,O⟩⟩,O,trivial⟩,O⟩
      · (refine aA<|rgN<|aL O O O dM<|aL O O O dM<|aP O dM ?_;refine kas O<|aB<|aA<|aA<|rgN<|kfa O O ?_;refine kl1 O O O<|keq O O (cP (by omega))<|aB<|aE O ?_;refine rgN<|aK O O O dM ?_;refine aK O O O dM ?_;refine aM O O O O O O dM ?_;refine aM O O O O O O dM ?_;refine aB<|aA<|aA<|rgN<|kfa O O ?_;refine kl1 O O O<|kne O O ((cN (by omega)))<|aB<|aF O ?_;refine aH ?_;refine aA<|rgN<|kfa O O ?_;refine kl1 O O O<|kfa O O ?_;refine kl1 O O O<|kca O O (mul64_spec _ _ _ p (by omega) (by omega) hp)<|kmv O<|kex O O<|kex O O<|kas O<|kas O<|aB<|aA<|rgN<|kfa O O ?_;refine kl1 O O O<|kfa O O ?_;refine kl1 O O O<|kca O O (mul64_spec _ _ _ q (by omega) (by omega) hq)<|kmv O<|kex O O<|kex O O<|kas O<|kas O<|aB<|aA<|rgN<|kmv O<|kmv O<|K.callN O O (add64 (s:=S%340282366920938463463374607431768211456/18446744073709551616) (t:=(q/18446744073709551616+p%18446744073709551616)/18446744073709551616) (by omega) (by omega) (by omega)) O dM<|kmv O ?_;refine kex O O<|kex O O<|kas O<|kas O<|aB<|aA<|rgN<|kmv O<|kmv O<|aT O O (by exact O) (by exact nl2 O O O) dM ?_;refine kmv O<|keq O O (cM (by omega))<|kmv O<|aC O O O<|aC O O O<|kpf O O<|aM O O O O O O dM ?_;refine kas O<|aB<|aI ?_)
        unfold SZ;rw [show S%340282366920938463463374607431768211456%18446744073709551616=q%18446744073709551616 by omega]
        exact ⟨[_,_],⟨⟨_,_,O,O,O,.inl ⟨AggT.h,O⟩⟩,O,trivial⟩,O⟩
  · have hN0:N/18446744073709551616=0:=by omega
    obtain ⟨p,hp⟩:∃ p,M/18446744073709551616*(N%18446744073709551616)=p:=⟨_,rfl⟩
    obtain ⟨q,hq⟩:∃ q,M%18446744073709551616*(N%18446744073709551616)=q:=⟨_,rfl⟩
    obtain ⟨S,hS⟩:∃ S,M*N=S:=⟨_,rfl⟩
    obtain ⟨c1,c2,c3,c4,c5⟩:=core _ _ _ p q S (by omega) (by omega) (by omega) hp hq (by
      rw [← hS,show M/18446744073709551616*18446744073709551616+M%18446744073709551616=M by omega,show N%18446744073709551616=N by omega])
    rw [hS] at hr ⊢
    by_cases hP:S<340282366920938463463374607431768211456
    · rw [cK hP] at hr
      subst hr
      (refine aA<|rgN<|aL O O O dM<|aL O O O dM<|aP O dM ?_;refine kas O<|aB<|aA<|aA<|rgN<|kfa O O ?_;refine kl1 O O O<|keq O O (cM (by omega))<|aB<|aF O ?_;refine aH ?_;refine aA<|aA<|rgN<|kfa O O ?_;refine kl1 O O O<|kne O O ((cN (by omega)))<|aB<|aF O ?_;refine aH ?_;refine aA<|rgN<|kfa O O ?_;refine kl1 O O O<|kfa O O ?_;refine kl1 O O O<|kca O O (mul64_spec _ _ _ p (by omega) (by omega) hp)<|kmv O<|kex O O<|kex O O<|kas O<|kas O<|aB<|aA<|rgN<|kfa O O ?_;refine kl1 O O O<|kfa O O ?_;refine kl1 O O O<|kca O O (mul64_spec _ _ _ q (by omega) (by omega) hq)<|kmv O<|kex O O<|kex O O<|kas O<|kas O<|aB<|aA<|rgN<|kmv O<|kmv O<|K.callN O O (add64 (s:=S%340282366920938463463374607431768211456/18446744073709551616) (t:=0) (by omega) (by omega) (by omega)) O dM<|kmv O ?_;refine kex O O<|kex O O<|kas O<|kas O<|aB<|aA<|rgN<|kmv O<|kmv O<|aT O O (by exact O) (by exact nl2 O O O) dM ?_;refine kmv O<|keq O O (cP (by omega))<|kmv O<|gmv O O O<|bC O O (cP (by omega)) (dN O O) ?_;refine kpt O O<|aM O O O O O O dM ?_;refine kas O<|aB<|aI ?_)
      unfold SZ;rw [show S%340282366920938463463374607431768211456%18446744073709551616=q%18446744073709551616 by omega]
      exact ⟨[_,_],⟨⟨_,_,O,O,O,.inl ⟨AggT.h,O⟩⟩,O,trivial⟩,O⟩
    · rw [cJ hP] at hr
      subst hr
      by_cases ho:p/18446744073709551616=0
      · (refine aA<|rgN<|aL O O O dM<|aL O O O dM<|aP O dM ?_;refine kas O<|aB<|aA<|aA<|rgN<|kfa O O ?_;refine kl1 O O O<|keq O O (cM (by omega))<|aB<|aF O ?_;refine aH ?_;refine aA<|aA<|rgN<|kfa O O ?_;refine kl1 O O O<|kne O O ((cN (by omega)))<|aB<|aF O ?_;refine aH ?_;refine aA<|rgN<|kfa O O ?_;refine kl1 O O O<|kfa O O ?_;refine kl1 O O O<|kca O O (mul64_spec _ _ _ p (by omega) (by omega) hp)<|kmv O<|kex O O<|kex O O<|kas O<|kas O<|aB<|aA<|rgN<|kfa O O ?_;refine kl1 O O O<|kfa O O ?_;refine kl1 O O O<|kca O O (mul64_spec _ _ _ q (by omega) (by omega) hq)<|kmv O<|kex O O<|kex O O<|kas O<|kas O<|aB<|aA<|rgN<|kmv O<|kmv O<|K.callN O O (add64 (s:=S%340282366920938463463374607431768211456/18446744073709551616) (t:=1) (by omega) (by omega) (by omega)) O dM<|kmv O ?_;refine kex O O<|kex O O<|kas O<|kas O<|aB<|aA<|rgN<|kmv O<|kmv O<|aT O O (by exact O) (by exact nl2 O O O) dM ?_;refine kmv O<|keq O O (cP (by omega))<|kmv O<|gmv O O O<|bC O O (cM (by omega)) (dN O O) ?_;refine kpt O O<|aM O O O O O O dM ?_;refine kas O<|aB<|aI ?_)
        unfold SZ;rw [show S%340282366920938463463374607431768211456%18446744073709551616=q%18446744073709551616 by omega]
        exact ⟨[_,_],⟨⟨_,_,O,O,O,.inl ⟨AggT.h,O⟩⟩,O,trivial⟩,O⟩
      · (refine aA<|rgN<|aL O O O dM<|aL O O O dM<|aP O dM ?_;refine kas O<|aB<|aA<|aA<|rgN<|kfa O O ?_;refine kl1 O O O<|keq O O (cM (by omega))<|aB<|aF O ?_;refine aH ?_;refine aA<|aA<|rgN<|kfa O O ?_;refine kl1 O O O<|kne O O ((cN (by omega)))<|aB<|aF O ?_;refine aH ?_;refine aA<|rgN<|kfa O O ?_;refine kl1 O O O<|kfa O O ?_;refine kl1 O O O<|kca O O (mul64_spec _ _ _ p (by omega) (by omega) hp)<|kmv O<|kex O O<|kex O O<|kas O<|kas O<|aB<|aA<|rgN<|kfa O O ?_;refine kl1 O O O<|kfa O O ?_;refine kl1 O O O<|kca O O (mul64_spec _ _ _ q (by omega) (by omega) hq)<|kmv O<|kex O O<|kex O O<|kas O<|kas O<|aB<|aA<|rgN<|kmv O<|kmv O<|K.callN O O (add64 (s:=S%340282366920938463463374607431768211456/18446744073709551616) (t:=(q/18446744073709551616+p%18446744073709551616)/18446744073709551616) (by omega) (by omega) (by omega)) O dM<|kmv O ?_;refine kex O O<|kex O O<|kas O<|kas O<|aB<|aA<|rgN<|kmv O<|kmv O<|aT O O (by exact O) (by exact nl2 O O O) dM ?_;refine kmv O<|keq O O (cM (by omega))<|kmv O<|aC O O O<|aC O O O<|kpf O O<|aM O O O O O O dM ?_;refine kas O<|aB<|aI ?_)
        unfold SZ;rw [show S%340282366920938463463374607431768211456%18446744073709551616=q%18446744073709551616 by omega]
        exact ⟨[_,_],⟨⟨_,_,O,O,O,.inl ⟨AggT.h,O⟩⟩,O,trivial⟩,O⟩
theorem times_far (M N:Int) (hM:In2 M) (hN:In2 N) (h1:18446744073709551616≤M) (h2:18446744073709551616≤N):
    PSpec Tryz.prog X 102 [LZ M,LZ N] (.tup [.agg [.val (.int .u64 0),.val (.int .u64 0)],Sb false]):=by
  unfold In2 at *
  refine cB Tryz.func102 rfl (by kernel_rfl) rfl rfl ?_
  intro C
  (refine aA<|rgN<|aL O O O dM<|aL O O O dM<|aP O dM ?_;refine kas O<|aB<|aA<|aA<|rgN<|kfa O O ?_;refine kl1 O O O<|keq O O (cM (by omega))<|aB<|aF O ?_;refine aH ?_;refine aA<|aA<|rgN<|kfa O O ?_;refine kl1 O O O<|kne O O (cO (by omega))<|aB<|aE O ?_;refine aA<|rgN<|aT O O (by exact O) (by exact nl2 O O O) dM ?_;refine aM O O O O O O dM ?_;refine kas O<|aB<|aI ?_)
  exact ⟨[_,_],⟨⟨_,_,O,O,O,.inl ⟨AggT.h,O⟩⟩,O,trivial⟩,O⟩
end Go.Proofs.YtnfbccfghgmfiaaGreat
end
section
namespace Go.Proofs.YtnfbccfghgmfiaaGreat
open Go Go.Lg Go.Lg.Arith
variable (X:Nat→Option Obj)
theorem Mul_arg (b c:Bool) (M N:Int) (hM:In2 M) (hN:In2 N) (hf:(formB b M&&formB c N)=false):PSpec Tryz.prog X 72 [LI b M,LI c N] (.tup [S0,Sn .i64 1]):=by
  refine cB Tryz.func72 rfl (by kernel_rfl) rfl rfl ?_
  intro C
  (refine aA<|rgN<|aL O O O dM<|aL O O O dM<|aP O dM ?_;refine kas O<|aB<|aA<|aA<|rgN<|aK O O O dM ?_;refine aK O O O dM ?_;refine kca O O (bothForm_spec _ _ _ _ _ hM hN _ hf)<|aV O O dM<|aB<|aE O ?_;refine aA<|rgN<|aT O O (by exact O) (by exact nl3 O O O O) dM ?_;refine aM O O O O O O dM ?_;refine kas O<|aB<|aI ?_)
  exact ⟨[_,_],⟨⟨_,_,O,O,O,.inl ⟨AggT.h,O⟩⟩,O,trivial⟩,O⟩
theorem zv_mul (x y:Int):zv (decide (x<0) != decide (y<0)) (mg x*mg y)=x*y:=by
  unfold zv mg
  by_cases cx:x<0<;>by_cases cy:y<0<;>simp [cx,cy,Int.neg_mul,Int.mul_neg]
theorem range_zv {b:Bool} {N:Int} (hN:0≤N):R127 (zv b N)↔N<170141183460469231731687303715884105728:=by
  unfold R127 zv
  cases b<;>simp<;>omega
theorem Mul_q (x y:Int) (hx:R127 x) (hy:R127 y):PSpec Tryz.prog X 72 [LQ x,LQ y] (addR (x*y)):=by
  have hf:=both_q hx hy
  have hB:=bothForm_spec X _ _ _ _ (mg_in2 hx) (mg_in2 hy) true hf
  have hz:=zv_mul x y
  have hp0:0≤mg x*mg y:=Int.mul_nonneg (mg_nonneg x) (mg_nonneg y)
  have hrange:=range_zv (b:=decide (x<0) != decide (y<0)) hp0
  rw [hz] at hrange
  by_cases hfar:18446744073709551616≤mg x∧18446744073709551616≤mg y
  · have hm:=Int.mul_le_mul hfar.1 hfar.2 (by decide) (by omega:(0:Int)≤mg x)
    rw [addR_out (by rw [hrange];omega)]
    refine cB Tryz.func72 rfl (by kernel_rfl) rfl rfl ?_
    intro C
    (refine aA<|rgN<|aL O O O dM<|aL O O O dM<|aP O dM ?_;refine kas O<|aB<|aA<|aA<|rgN<|aK O O O dM ?_;refine aK O O O dM ?_;refine kca O O (hB)<|aV O O dM<|aB<|aF O ?_;refine aH ?_;refine aA<|rgD mixed<|aK O O O dM ?_;refine kca O O (sizeOf_spec _ _ _ _)<|aK O O O dM ?_;refine kca O O (sizeOf_spec _ _ _ _)<|kca O O (times_far _ _ _ (mg_in2 hx) (mg_in2 hy) hfar.1 hfar.2)<|kmv O<|kex O O<|kex O O<|aP O dM ?_;refine aM O O O O O O dM ?_;refine kas O<|aB<|rgA ?_;refine aA<|aA<|rgN<|kmv O<|aV O O dM<|aB<|aE O ?_;refine aA<|rgN<|aT O O (by exact O) (by exact nl3 O O O O) dM ?_;refine aM O O O O O O dM ?_;refine kas O<|aB<|aI ?_)
    exact ⟨[_,_],⟨⟨_,_,O,O,O,.inl ⟨AggT.h,O⟩⟩,O,trivial⟩,O⟩
  · have ht:=times_spec X (mg x) (mg y) (mg_in2 hx) (mg_in2 hy) (by omega)
    by_cases hbig:mg x*mg y<340282366920938463463374607431768211456
    · have ht':=ht true (cK hbig)
      have e:mg x*mg y%340282366920938463463374607431768211456=mg x*mg y:=by omega
      rw [e] at ht'
      by_cases hfit:mg x*mg y<170141183460469231731687303715884105728
      · rw [addR_in (hrange.2 hfit),← tup_q hp0 hz]
        have hb:=bounded_ok X (decide (x<0) != decide (y<0)) (mg x*mg y) ⟨hp0,hfit⟩ _ rfl
        refine cB Tryz.func72 rfl (by kernel_rfl) rfl rfl ?_
        intro C
        (refine aA<|rgN<|aL O O O dM<|aL O O O dM<|aP O dM ?_;refine kas O<|aB<|aA<|aA<|rgN<|aK O O O dM ?_;refine aK O O O dM ?_;refine kca O O (hB)<|aV O O dM<|aB<|aF O ?_;refine aH ?_;refine aA<|rgD mixed<|aK O O O dM ?_;refine kca O O (sizeOf_spec _ _ _ _)<|aK O O O dM ?_;refine kca O O (sizeOf_spec _ _ _ _)<|kca O O (ht')<|kmv O<|kex O O<|kex O O<|aP O dM ?_;refine aM O O O O O O dM ?_;refine kas O<|aB<|rgA ?_;refine aA<|aA<|rgN<|kmv O<|aV O O dM<|aB<|aF O ?_;refine aH ?_;refine aA<|rgN<|kfa O O ?_;refine kl1 O O O<|kfa O O ?_;refine kl1 O O O<|K.neqB O O O dM<|aK O O O dM ?_;refine kca O O (hb)<|kex O O<|kex O O<|aM O O O O O O dM ?_;refine kas O<|aB<|aI ?_)
        exact ⟨[_,_],⟨⟨_,_,O,O,O,.inl ⟨AggT.h,O⟩⟩,O,trivial⟩,O⟩
      · rw [addR_out (by rw [hrange];omega)]
        have hb:=bounded_no X (decide (x<0) != decide (y<0)) (mg x*mg y) (by omega) ⟨hp0,hbig⟩
        refine cB Tryz.func72 rfl (by kernel_rfl) rfl rfl ?_
        intro C
        (refine aA<|rgN<|aL O O O dM<|aL O O O dM<|aP O dM ?_;refine kas O<|aB<|aA<|aA<|rgN<|aK O O O dM ?_;refine aK O O O dM ?_;refine kca O O (hB)<|aV O O dM<|aB<|aF O ?_;refine aH ?_;refine aA<|rgD mixed<|aK O O O dM ?_;refine kca O O (sizeOf_spec _ _ _ _)<|aK O O O dM ?_;refine kca O O (sizeOf_spec _ _ _ _)<|kca O O (ht')<|kmv O<|kex O O<|kex O O<|aP O dM ?_;refine aM O O O O O O dM ?_;refine kas O<|aB<|rgA ?_;refine aA<|aA<|rgN<|kmv O<|aV O O dM<|aB<|aF O ?_;refine aH ?_;refine aA<|rgN<|kfa O O ?_;refine kl1 O O O<|kfa O O ?_;refine kl1 O O O<|K.neqB O O O dM<|aK O O O dM ?_;refine kca O O (hb)<|kex O O<|kex O O<|aM O O O O O O dM ?_;refine kas O<|aB<|aI ?_)
        exact ⟨[_,_],⟨⟨_,_,O,O,O,.inl ⟨AggT.h,O⟩⟩,O,trivial⟩,O⟩
    · have ht':=ht false (cJ hbig)
      rw [addR_out (by rw [hrange];omega)]
      refine cB Tryz.func72 rfl (by kernel_rfl) rfl rfl ?_
      intro C
      (refine aA<|rgN<|aL O O O dM<|aL O O O dM<|aP O dM ?_;refine kas O<|aB<|aA<|aA<|rgN<|aK O O O dM ?_;refine aK O O O dM ?_;refine kca O O (hB)<|aV O O dM<|aB<|aF O ?_;refine aH ?_;refine aA<|rgD mixed<|aK O O O dM ?_;refine kca O O (sizeOf_spec _ _ _ _)<|aK O O O dM ?_;refine kca O O (sizeOf_spec _ _ _ _)<|kca O O (ht')<|kmv O<|kex O O<|kex O O<|aP O dM ?_;refine aM O O O O O O dM ?_;refine kas O<|aB<|rgA ?_;refine aA<|aA<|rgN<|kmv O<|aV O O dM<|aB<|aE O ?_;refine aA<|rgN<|aT O O (by exact O) (by exact nl3 O O O O) dM ?_;refine aM O O O O O O dM ?_;refine kas O<|aB<|aI ?_)
      exact ⟨[_,_],⟨⟨_,_,O,O,O,.inl ⟨AggT.h,O⟩⟩,O,trivial⟩,O⟩
end Go.Proofs.YtnfbccfghgmfiaaGreat
end
section
namespace Go.Proofs.YtnfbccfghgmfiaaGreat
open Go Go.Lg Go.Lg.Arith
variable (X:Nat→Option Obj)
def lzOf (y:Int):Nat:=64-Lib.bitLen y.toNat
theorem lzOf_spec {y:Int} (hy:0<y∧y<18446744073709551616):lzOf y≤63∧9223372036854775808≤y*2^lzOf y∧y*2^lzOf y<18446744073709551616:=by
  obtain ⟨n,rfl⟩:=Int.eq_ofNat_of_zero_le (Int.le_of_lt hy.1)
  have hb:=Lib.bitLenAux_bounds 64 n (by have:=hy.2;omega) (by have:=hy.1;omega)
  have hle:Lib.bitLen n≤64:=Lib.bitLen_le n 64 (by decide) (by have:=hy.2;omega)
  change 1≤Lib.bitLen n∧2^(Lib.bitLen n-1)≤n∧n<2^Lib.bitLen n at hb
  have e:lzOf (n:Int)=64-Lib.bitLen n:=by simp [lzOf]
  rw [e]
  generalize Lib.bitLen n=k at *
  obtain ⟨h1,h2,h3⟩:=hb
  have m1:=Nat.mul_le_mul_right (2^(64-k)) h2
  have m2:=Nat.mul_lt_mul_of_pos_right h3 (Nat.two_pow_pos (64-k))
  rw [← Nat.pow_add,show k-1+(64-k)=63 by omega] at m1
  rw [← Nat.pow_add,show k+(64-k)=64 by omega] at m2
  have ec:((n:Int)*2^(64-k))=((n*2^(64-k):Nat):Int):=by rw [Int.natCast_mul,Int.natCast_pow];rfl
  rw [ec]
  exact ⟨by omega,by omega,by omega⟩
theorem lz_spec (y:Int) (hy:0≤y∧y<18446744073709551616):PSpec Tryz.prog X 128 [Ln .u64 y] (Ln .i64 (lzOf y:Nat)):=by
  refine PSpec.ofCalls (vals:=[.int .u64 y]) (v:=.int .i64 (lzOf y:Nat)) (by kernel_rfl) O O (fun w _ => ?_)
  refine (Tryz.bits_LeadingZeros64 y w hy.1 (by omega)).mono ?_
  rintro e w' ⟨rfl,rfl⟩
  refine ⟨?_,O⟩
  have hle:Lib.bitLen y.toNat≤64:=Lib.bitLen_le _ 64 (by decide) (by have:=hy.2;omega)
  have:((lzOf y:Nat):Int)=64-(Lib.bitLen y.toNat:Int):=by unfold lzOf;omega
  rw [this]
set_option maxHeartbeats 1000000 in
theorem Div64_spec (hi lo y:Int) (hh:0≤hi∧hi<y) (hl:0≤lo∧lo<18446744073709551616) (hy:y<18446744073709551616):
    PSpec Tryz.prog X 124 [Ln .u64 hi,Ln .u64 lo,Ln .u64 y] (.tup [Sn .u64 ((hi*18446744073709551616+lo)/y),Sn .u64 ((hi*18446744073709551616+lo)%y)]):=by
  have hlz:=lz_spec X y (by omega)
  obtain ⟨hs,hY1,hY2⟩:=lzOf_spec (y:=y) (by omega)
  generalize lzOf y=s at hlz hs hY1 hY2
  have hE:(0:Int)<2^s:=Int.pow_pos (by decide)
  have hF:(0:Int)<2^(64-s):=Int.pow_pos (by decide)
  have hEF:=pow_split (s:=s) (by omega)
  have hsh:=shift2 (hi:=hi) (lo:=lo) hE hF hEF hl.1
  have hsc:=scale (N:=hi*18446744073709551616+lo) (y:=y) hE (by omega)
  have hlo2:0≤lo/2^(64-s)∧lo/2^(64-s)<2^s:=by
    refine ⟨Int.ediv_nonneg hl.1 (Int.le_of_lt hF),?_⟩
    rw [Int.ediv_lt_iff_lt_mul hF,hEF];exact hl.2
  have hhi2:0≤hi∧hi*2^s<18446744073709551616:=by
    refine ⟨hh.1,?_⟩
    have:=Int.mul_le_mul_of_nonneg_right (Int.le_of_lt hh.2) (Int.le_of_lt hE)
    omega
  have hhi3:0≤hi*2^s:=Int.mul_nonneg hh.1 (Int.le_of_lt hE)
  obtain ⟨Y,hY⟩:∃ Y,y*2^s=Y:=⟨_,rfl⟩
  obtain ⟨U,hU⟩:∃ U,hi*2^s+lo/2^(64-s)=U:=⟨_,rfl⟩
  obtain ⟨V,hV⟩:∃ V,lo*2^s%18446744073709551616=V:=⟨_,rfl⟩
  have hV0:0≤V∧V<18446744073709551616:=by omega
  have hUY:U<Y:=by
    have h1:(hi*18446744073709551616+lo)*2^s<(y*18446744073709551616)*2^s:=Int.mul_lt_mul_of_pos_right (by omega) hE
    rw [Int.mul_right_comm] at h1
    rw [hY] at h1
    rw [hsh,hU,hV] at h1
    omega
  have hU0:0≤U:=by omega
  rw [hsh,hU,hV,hY] at hsc
  rw [hY] at hY1 hY2
  have ka1:KArg (Y/4294967296) (Y%4294967296) U (V/4294967296):=⟨by omega,by omega,by omega,by omega⟩
  have eY:Y/4294967296*4294967296+Y%4294967296=Y:=by omega
  have ks1:=k_start ka1
  have kq1:∀ q r,KInv (Y/4294967296) (Y%4294967296) U (V/4294967296) q r→q*Y≤U*4294967296+V/4294967296→q=(U*4294967296+V/4294967296)/Y∧U*4294967296+V/4294967296-q*Y=(U*4294967296+V/4294967296)%Y:=by
    intro q r k he
    have:=k_quo ka1 k (by rw [eY];exact he)
    rw [eY] at this
    exact this
  refine cB Tryz.func124 rfl (by kernel_rfl) rfl rfl ?_
  intro C
  by_cases hz:hi=0
  · subst hz
    (refine aA<|rgN<|kas O<|kas O<|aB<|aA<|aA<|rgN<|kmv O<|keq O O (cM (by omega))<|aB<|aF O ?_;refine aH ?_;refine aA<|aA<|rgN<|kmv O<|kmv O<|K.leq O O (cJ (by omega)) dM<|aB<|aF O ?_;refine aH ?_;refine aA<|aA<|rgN<|kmv O<|keq O O (cP (by omega))<|aB<|aE O ?_;refine aA<|rgD mixed<|kmv O<|kmv O<|K.quo O O (by omega) (quo_u64 (by omega) (by omega)) dM<|kmv O<|kmv O<|K.rem O O (by omega) (rem_pos (by omega)) dM<|kas O<|kas O<|aB<|rgA ?_;refine aI ?_)
    exact ⟨[_,_],⟨rfl,rfl,trivial⟩,by simp [resOf]⟩
  · have hm1:0≤U/(Y/4294967296)*(Y/4294967296)∧U/(Y/4294967296)*(Y/4294967296)≤U:=by have:=ks1.r0;have:=ks1.eq;exact ⟨Int.mul_nonneg ks1.q0 (by omega),by omega⟩
    (refine aA<|rgN<|kas O<|kas O<|aB<|aA<|aA<|rgN<|kmv O<|keq O O (cM (by omega))<|aB<|aF O ?_;refine aH ?_;refine aA<|aA<|rgN<|kmv O<|kmv O<|K.leq O O (cJ (by omega)) dM<|aB<|aF O ?_;refine aH ?_;refine aA<|aA<|rgN<|kmv O<|keq O O (cM (by omega))<|aB<|aF O ?_;refine aH ?_;refine aA<|rgN<|kmv O<|kca O O (hlz)<|kcv O (by exact wrap_u64 (by omega)) ?_;refine kas O<|aB<|aA<|rgN<|kmv O<|kmv O<|K.shl O O (by omega) (shl_s (by omega) hY (by omega)) dM<|kas O<|aB<|aA<|rgN<|kmv O<|bM O O (by omega) (shr_32 _) dM<|kas O ?_;refine aB<|aA<|rgN<|kmv O<|K.bitop (by simp) O O (and_32 (by omega)) dM<|kas O<|aB<|aA<|rgN<|kmv O<|kmv O<|K.shl O O (by omega) (shl_s (by omega) O ⟨hhi3,hhi2.2⟩) dM<|kmv O<|kmv O ?_;refine bA O O (wrap_u64 (by omega)) dM<|bM O O (by omega) (shr_64s (by omega)) dM<|K.bitop (by simp) O O (or_apart' (by omega) hhi2 hlo2 hU) dM<|kas O<|aB<|aA<|rgN<|kmv O<|kmv O<|K.shl O O (by omega) ((shl_mod (by omega)).trans hV) dM<|kas O<|aB<|aA<|rgN ?_;refine kmv O<|bM O O (by omega) (shr_32 _) dM<|kas O<|aB<|aA<|rgN<|kmv O<|K.bitop (by simp) O O (and_32 (by omega)) dM<|kas O<|aB<|aA<|rgN<|kmv O<|kmv O ?_;refine K.quo O O (by omega) (quo_u64 (by omega) (by omega)) dM<|kas O<|aB<|aA<|rgN<|kmv O<|kmv O<|kmv O<|bL O O (wrap_u64 (by omega)) dM<|bA O O (wrap_u64 (by omega)) dM<|kas O<|aB<|aA<|aG ?_)
    have hy1:U-U/(Y/4294967296)*(Y/4294967296)<Y/4294967296:=by
      have h2:=Int.emod_add_mul_ediv U (Y/4294967296)
      have h3:=Int.emod_lt_of_pos U (show 0<Y/4294967296 by omega)
      rw [Int.mul_comm] at h2
      omega
    refine LWP.meet (fun σ=>∃ q r:Int,q=(U*4294967296+V/4294967296)/Y∧σ=⟨[(2,Ln .u64 Y),(8,Ln .u64 s),(9,Ln .u64 (Y/4294967296)),(10,Ln .u64 (Y%4294967296)),(11,Ln .u64 U),(13,Ln .u64 (V/4294967296)),(14,Ln .u64 (V%4294967296)),(15,Ln .u64 q),(16,Ln .u64 r)],[],X⟩) ?_ ?_
    · refine cF (fun m σ=>∃ q r:Int,KInv (Y/4294967296) (Y%4294967296) U (V/4294967296) q r∧r<4294967296∧m=q.toNat∧σ=⟨[(2,Ln .u64 Y),(8,Ln .u64 s),(9,Ln .u64 (Y/4294967296)),(10,Ln .u64 (Y%4294967296)),(11,Ln .u64 U),(13,Ln .u64 (V/4294967296)),(14,Ln .u64 (V%4294967296)),(15,Ln .u64 q),(16,Ln .u64 r)],[],X⟩) (U/(Y/4294967296)).toNat
        ⟨_,Le.of (by exact ⟨rfl,rfl,rfl,rfl,rfl,rfl,rfl,rfl,rfl,trivial⟩) (by exact trivial) (by exact rfl) (by exact rfl) (by exact rfl),_,_,ks1,by omega,rfl,rfl⟩ ?_
      rintro m σ ⟨q,r,k,hr,rfl,rfl⟩
      have hq0:=k.q0
      have hr0:=k.r0
      have hqU:q≤U:=by
        have:=k.eq
        have:=Int.mul_le_mul_of_nonneg_left (show (1:Int)≤Y/4294967296 by omega) hq0
        omega
      have next:∀ q' r',KInv (Y/4294967296) (Y%4294967296) U (V/4294967296) q' r'→4294967296≤r'→q'=(U*4294967296+V/4294967296)/Y:=fun q' r' k' h'=>(kq1 q' r' k' (by have:=k_break ka1 k' h';rwa [eY] at this)).1
      by_cases hq:4294967296≤q
      · have k':=k_big ka1 k hq
        have hrn:=next _ _ k'
        by_cases hr2:4294967296≤r+Y/4294967296
        · (refine aA<|aA<|rgN<|kmv O<|bD O O (cK (by omega)) dM<|kmv O<|aC O O O<|aC O O O<|aC O O O<|aC O O O<|aC O O O<|aC O O O<|aC O O O<|aC O O O ?_;refine kpt O O<|aB<|aE O ?_;refine aH ?_;refine aG<|aA<|rgN<|kmv O<|bA O O (wrap_u64 (by omega)) dM<|kas O<|aB<|aA<|rgN<|kmv O<|kmv O<|kad O O (wrap_u64 (by omega))<|kas O<|aB ?_;refine aA<|rgN<|kmv O<|bD O O (cK (by omega)) dM<|aB<|aE O ?_;refine aJ ?_)
          exact ⟨_,Le.of (by exact ⟨O,O,O,O,O,O,O,O,O,trivial⟩) (by exact trivial) (by exact O) (by exact O) (by exact O),_,_,hrn hr2,O⟩
        · (refine aA<|aA<|rgN<|kmv O<|bD O O (cK (by omega)) dM<|kmv O<|aC O O O<|aC O O O<|aC O O O<|aC O O O<|aC O O O<|aC O O O<|aC O O O<|aC O O O ?_;refine kpt O O<|aB<|aE O ?_;refine aH ?_;refine aG<|aA<|rgN<|kmv O<|bA O O (wrap_u64 (by omega)) dM<|kas O<|aB<|aA<|rgN<|kmv O<|kmv O<|kad O O (wrap_u64 (by omega))<|kas O<|aB ?_;refine aA<|rgN<|kmv O<|bD O O (cJ (by omega)) dM<|aB<|aF O ?_;refine aH ?_)
          exact ⟨_,_,by omega,Le.of (by exact ⟨O,O,O,O,O,O,O,O,O,trivial⟩) (by exact trivial) (by exact O) (by exact O) (by exact O),_,_,k',by omega,O,O⟩
      · have hqy:=mul_bound (a:=q) (b:=Y%4294967296) (A:=4294967295) (B:=4294967295) ⟨hq0,by omega⟩ ⟨by omega,by omega⟩
        by_cases hb:4294967296*r+V/4294967296<q*(Y%4294967296)
        · have k':=k_high ka1 k hb
          have hrn:=next _ _ k'
          have hq1:1≤q:=by have:=k'.q0;omega
          by_cases hr2:4294967296≤r+Y/4294967296
          · (refine aA<|aA<|rgN<|kmv O<|bD O O (cJ (by omega)) dM<|kmv O<|gmv O O O<|gmv O O O<|bL O O (wrap_u64 (by omega)) (dN O O) ?_;refine gmv O O O<|bL O O (wrap_u64 (by omega)) (dN O O) ?_;refine gmv O O O<|K.add O O (wrap_u64 (by omega)) (dN O O) ?_;refine aS O O (cK (by omega)) (dN O O) ?_;refine kpf O O<|aB<|aE O ?_;refine aH ?_;refine aG<|aA<|rgN<|kmv O<|bA O O (wrap_u64 (by omega)) dM<|kas O<|aB<|aA<|rgN<|kmv O<|kmv O<|kad O O (wrap_u64 (by omega))<|kas O<|aB ?_;refine aA<|rgN<|kmv O<|bD O O (cK (by omega)) dM<|aB<|aE O ?_;refine aJ ?_)
            exact ⟨_,Le.of (by exact ⟨O,O,O,O,O,O,O,O,O,trivial⟩) (by exact trivial) (by exact O) (by exact O) (by exact O),_,_,hrn hr2,O⟩
          · (refine aA<|aA<|rgN<|kmv O<|bD O O (cJ (by omega)) dM<|kmv O<|gmv O O O<|gmv O O O<|bL O O (wrap_u64 (by omega)) (dN O O) ?_;refine gmv O O O<|bL O O (wrap_u64 (by omega)) (dN O O) ?_;refine gmv O O O<|K.add O O (wrap_u64 (by omega)) (dN O O) ?_;refine aS O O (cK (by omega)) (dN O O) ?_;refine kpf O O<|aB<|aE O ?_;refine aH ?_;refine aG<|aA<|rgN<|kmv O<|bA O O (wrap_u64 (by omega)) dM<|kas O<|aB<|aA<|rgN<|kmv O<|kmv O<|kad O O (wrap_u64 (by omega))<|kas O<|aB ?_;refine aA<|rgN<|kmv O<|bD O O (cJ (by omega)) dM<|aB<|aF O ?_;refine aH ?_)
            exact ⟨_,_,by omega,Le.of (by exact ⟨O,O,O,O,O,O,O,O,O,trivial⟩) (by exact trivial) (by exact O) (by exact O) (by exact O),_,_,k',by omega,O,O⟩
        · (refine aA<|aA<|rgN<|kmv O<|bD O O (cJ (by omega)) dM<|kmv O<|gmv O O O<|gmv O O O<|bL O O (wrap_u64 (by omega)) (dN O O) ?_;refine gmv O O O<|bL O O (wrap_u64 (by omega)) (dN O O) ?_;refine gmv O O O<|K.add O O (wrap_u64 (by omega)) (dN O O) ?_;refine aS O O (cJ (by omega)) (dN O O) ?_;refine kpf O O<|aB<|aF O ?_;refine aJ ?_)
          exact ⟨_,Le.of (by exact ⟨O,O,O,O,O,O,O,O,O,trivial⟩) (by exact trivial) (by exact O) (by exact O) (by exact O),_,_,(kq1 q r k (by have:=k_end k (by omega);rwa [eY] at this)).1,O⟩
    · rintro σ ⟨q1,r1,hq1,rfl⟩
      have hYp:0<Y:=by omega
      have hq1B:=digit_lt hYp hUY (show V/4294967296<4294967296 by omega) hq1
      obtain ⟨R,hR⟩:∃ R,(U*4294967296+V/4294967296)%Y=R:=⟨_,rfl⟩
      have hR0:=Int.emod_nonneg (U*4294967296+V/4294967296) (show Y≠0 by omega)
      have hR1:=Int.emod_lt_of_pos (U*4294967296+V/4294967296) hYp
      have hRe:=Int.emod_add_mul_ediv (U*4294967296+V/4294967296) Y
      rw [← hq1,Int.mul_comm Y q1] at hRe
      rw [hR] at hR0 hR1 hRe
      have hq10:0≤q1:=by rw [hq1];exact Int.ediv_nonneg (by omega) (by omega)
      have hsub1:IntKind.u64.wrap (IntKind.u64.wrap (IntKind.u64.wrap (U*4294967296)+V/4294967296)-IntKind.u64.wrap (q1*Y))=R:=by rw [wrap3 (by omega)];omega
      have ka2:KArg (Y/4294967296) (Y%4294967296) R (V%4294967296):=⟨by omega,by omega,by omega,by omega⟩
      have ks2:=k_start ka2
      have kq2:∀ q r,KInv (Y/4294967296) (Y%4294967296) R (V%4294967296) q r→q*Y≤R*4294967296+V%4294967296→q=(R*4294967296+V%4294967296)/Y∧R*4294967296+V%4294967296-q*Y=(R*4294967296+V%4294967296)%Y:=by
        intro q r k he
        have:=k_quo ka2 k (by rw [eY];exact he)
        rw [eY] at this
        exact this
      have hm2:0≤R/(Y/4294967296)*(Y/4294967296)∧R/(Y/4294967296)*(Y/4294967296)≤R:=by have:=ks2.r0;have:=ks2.eq;exact ⟨Int.mul_nonneg ks2.q0 (by omega),by omega⟩
      have hy2:R-R/(Y/4294967296)*(Y/4294967296)<Y/4294967296:=by
        have h2:=Int.emod_add_mul_ediv R (Y/4294967296)
        have h3:=Int.emod_lt_of_pos R (show 0<Y/4294967296 by omega)
        rw [Int.mul_comm] at h2
        omega
      (refine aA<|rgN<|kmv O<|bL O O O dM<|kmv O<|kad O O O<|kmv O<|kmv O<|bL O O O dM<|bA O O hsub1 dM<|kas O<|aB<|aA<|rgN ?_;refine kmv O<|kmv O<|K.quo O O (by omega) (quo_u64 (by omega) (by omega)) dM<|kas O<|aB<|aA<|rgN<|kmv O<|kmv O<|kmv O<|bL O O (wrap_u64 (by omega)) dM<|bA O O (wrap_u64 (by omega)) dM<|kas O<|aB ?_;refine aA<|aG ?_)
      refine LWP.meet (fun σ=>∃ q r:Int,q=(R*4294967296+V%4294967296)/Y∧σ=⟨[(2,Ln .u64 Y),(8,Ln .u64 s),(14,Ln .u64 (V%4294967296)),(15,Ln .u64 q1),(17,Ln .u64 R),(18,Ln .u64 q),(16,Ln .u64 r)],[],X⟩) ?_ ?_
      · refine cF (fun m σ=>∃ q r:Int,KInv (Y/4294967296) (Y%4294967296) R (V%4294967296) q r∧r<4294967296∧m=q.toNat∧σ=⟨[(2,Ln .u64 Y),(8,Ln .u64 s),(9,Ln .u64 (Y/4294967296)),(10,Ln .u64 (Y%4294967296)),(14,Ln .u64 (V%4294967296)),(15,Ln .u64 q1),(17,Ln .u64 R),(18,Ln .u64 q),(16,Ln .u64 r)],[],X⟩) (R/(Y/4294967296)).toNat
          ⟨_,Le.of (by exact ⟨rfl,rfl,rfl,rfl,rfl,rfl,rfl,rfl,rfl,trivial⟩) (by exact trivial) (by exact rfl) (by exact rfl) (by exact rfl),_,_,ks2,by omega,rfl,rfl⟩ ?_
        rintro m σ ⟨q,r,k,hr,rfl,rfl⟩
        have hq0:=k.q0
        have hr0:=k.r0
        have hqU:q≤R:=by
          have:=k.eq
          have:=Int.mul_le_mul_of_nonneg_left (show (1:Int)≤Y/4294967296 by omega) hq0
          omega
        have next:∀ q' r',KInv (Y/4294967296) (Y%4294967296) R (V%4294967296) q' r'→4294967296≤r'→q'=(R*4294967296+V%4294967296)/Y:=fun q' r' k' h'=>(kq2 q' r' k' (by have:=k_break ka2 k' h';rwa [eY] at this)).1
        by_cases hq:4294967296≤q
        · have k':=k_big ka2 k hq
          have hrn:=next _ _ k'
          by_cases hr2:4294967296≤r+Y/4294967296
          · (refine aA<|aA<|rgN<|kmv O<|bD O O (cK (by omega)) dM<|kmv O<|aC O O O<|aC O O O<|aC O O O<|aC O O O<|aC O O O<|aC O O O<|aC O O O<|aC O O O ?_;refine kpt O O<|aB<|aE O ?_;refine aH ?_;refine aG<|aA<|rgN<|kmv O<|bA O O (wrap_u64 (by omega)) dM<|kas O<|aB<|aA<|rgN<|kmv O<|kmv O<|kad O O (wrap_u64 (by omega))<|kas O<|aB ?_;refine aA<|rgN<|kmv O<|bD O O (cK (by omega)) dM<|aB<|aE O ?_;refine aJ ?_)
            exact ⟨_,Le.of (by exact ⟨O,O,O,O,O,O,O,trivial⟩) (by exact trivial) (by exact O) (by exact O) (by exact O),_,_,hrn hr2,O⟩
          · (refine aA<|aA<|rgN<|kmv O<|bD O O (cK (by omega)) dM<|kmv O<|aC O O O<|aC O O O<|aC O O O<|aC O O O<|aC O O O<|aC O O O<|aC O O O<|aC O O O ?_;refine kpt O O<|aB<|aE O ?_;refine aH ?_;refine aG<|aA<|rgN<|kmv O<|bA O O (wrap_u64 (by omega)) dM<|kas O<|aB<|aA<|rgN<|kmv O<|kmv O<|kad O O (wrap_u64 (by omega))<|kas O<|aB ?_;refine aA<|rgN<|kmv O<|bD O O (cJ (by omega)) dM<|aB<|aF O ?_;refine aH ?_)
            exact ⟨_,_,by omega,Le.of (by exact ⟨O,O,O,O,O,O,O,O,O,trivial⟩) (by exact trivial) (by exact O) (by exact O) (by exact O),_,_,k',by omega,O,O⟩
        · have hqy:=mul_bound (a:=q) (b:=Y%4294967296) (A:=4294967295) (B:=4294967295) ⟨hq0,by omega⟩ ⟨by omega,by omega⟩
          by_cases hb:4294967296*r+V%4294967296<q*(Y%4294967296)
          · have k':=k_high ka2 k hb
            have hrn:=next _ _ k'
            have hq1:1≤q:=by have:=k'.q0;omega
            by_cases hr2:4294967296≤r+Y/4294967296
            · (refine aA<|aA<|rgN<|kmv O<|bD O O (cJ (by omega)) dM<|kmv O<|gmv O O O<|gmv O O O<|bL O O (wrap_u64 (by omega)) (dN O O) ?_;refine gmv O O O<|bL O O (wrap_u64 (by omega)) (dN O O) ?_;refine gmv O O O<|K.add O O (wrap_u64 (by omega)) (dN O O) ?_;refine aS O O (cK (by omega)) (dN O O) ?_;refine kpf O O<|aB<|aE O ?_;refine aH ?_;refine aG<|aA<|rgN<|kmv O<|bA O O (wrap_u64 (by omega)) dM<|kas O<|aB<|aA<|rgN<|kmv O<|kmv O<|kad O O (wrap_u64 (by omega))<|kas O<|aB ?_;refine aA<|rgN<|kmv O<|bD O O (cK (by omega)) dM<|aB<|aE O ?_;refine aJ ?_)
              exact ⟨_,Le.of (by exact ⟨O,O,O,O,O,O,O,trivial⟩) (by exact trivial) (by exact O) (by exact O) (by exact O),_,_,hrn hr2,O⟩
            · (refine aA<|aA<|rgN<|kmv O<|bD O O (cJ (by omega)) dM<|kmv O<|gmv O O O<|gmv O O O<|bL O O (wrap_u64 (by omega)) (dN O O) ?_;refine gmv O O O<|bL O O (wrap_u64 (by omega)) (dN O O) ?_;refine gmv O O O<|K.add O O (wrap_u64 (by omega)) (dN O O) ?_;refine aS O O (cK (by omega)) (dN O O) ?_;refine kpf O O<|aB<|aE O ?_;refine aH ?_;refine aG<|aA<|rgN<|kmv O<|bA O O (wrap_u64 (by omega)) dM<|kas O<|aB<|aA<|rgN<|kmv O<|kmv O<|kad O O (wrap_u64 (by omega))<|kas O<|aB ?_;refine aA<|rgN<|kmv O<|bD O O (cJ (by omega)) dM<|aB<|aF O ?_;refine aH ?_)
              exact ⟨_,_,by omega,Le.of (by exact ⟨O,O,O,O,O,O,O,O,O,trivial⟩) (by exact trivial) (by exact O) (by exact O) (by exact O),_,_,k',by omega,O,O⟩
          · (refine aA<|aA<|rgN<|kmv O<|bD O O (cJ (by omega)) dM<|kmv O<|gmv O O O<|gmv O O O<|bL O O (wrap_u64 (by omega)) (dN O O) ?_;refine gmv O O O<|bL O O (wrap_u64 (by omega)) (dN O O) ?_;refine gmv O O O<|K.add O O (wrap_u64 (by omega)) (dN O O) ?_;refine aS O O (cJ (by omega)) (dN O O) ?_;refine kpf O O<|aB<|aF O ?_;refine aJ ?_)
            exact ⟨_,Le.of (by exact ⟨O,O,O,O,O,O,O,trivial⟩) (by exact trivial) (by exact O) (by exact O) (by exact O),_,_,(kq2 q r k (by have:=k_end k (by omega);rwa [eY] at this)).1,O⟩
      · rintro σ ⟨q2,r2,hq2,rfl⟩
        have hend:=quo_end hYp hq1 hR.symm hq2
        have hq2B:=digit_lt hYp hR1 (show V%4294967296<4294967296 by omega) hq2
        have hq20:0≤q2:=by rw [hq2];exact Int.ediv_nonneg (by omega) (by omega)
        obtain ⟨T,hT⟩:∃ T,(R*4294967296+V%4294967296)%Y=T:=⟨_,rfl⟩
        have hT0:=Int.emod_nonneg (R*4294967296+V%4294967296) (show Y≠0 by omega)
        have hT1:=Int.emod_lt_of_pos (R*4294967296+V%4294967296) hYp
        have hTe:=Int.emod_add_mul_ediv (R*4294967296+V%4294967296) Y
        rw [← hq2,Int.mul_comm Y q2] at hTe
        rw [hT] at hT0 hT1 hTe hend
        have hsub2:IntKind.u64.wrap (IntKind.u64.wrap (IntKind.u64.wrap (R*4294967296)+V%4294967296)-IntKind.u64.wrap (q2*Y))=T:=by rw [wrap3 (by omega)];omega
        (refine aA<|rgN<|kmv O<|bL O O (wrap_u64 (by omega)) dM<|kmv O<|kad O O (wrap_u64 (by omega))<|kmv O<|bL O O O dM<|kmv O<|kad O O O<|kmv O<|kmv O<|bL O O O dM<|bA O O hsub2 dM ?_;refine kmv O<|bM O O (by omega) (shr_s (by omega)) dM<|kas O<|kas O<|aB<|aI ?_)
        rw [← hsc.1,← hsc.2,← hend.1,← hend.2]
        exact ⟨[_,_],⟨O,O,trivial⟩,O⟩
end Go.Proofs.YtnfbccfghgmfiaaGreat
end
