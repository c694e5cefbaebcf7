/- A piece of a proof over this program: contracts of its functions, and a logic to prove them by. -/
import Derived.Test.YtopiioklkkiedaaGreatDoorU2
import Derived.Test.YtopiioklkkiedaaGreatDoorU3
import Derived.Lib.TrimByte
section
set_option maxHeartbeats 12800000
set_option maxRecDepth 100000
namespace Go.Proofs.YtopiioklkkiedaaGreatDoor
open Go Go.Lg
variable (X:Nat→Option Obj)
theorem isW_bound {n:Int} (h:isW n=true):1≤n∧n≤8:=by
 unfold isW at h
 simp only [Bool.or_eq_true,decide_eq_true_eq] at h
 omega
theorem Num_ok (l:List UInt8) (w:Nat) (hw:isW (w:Int)=true) (hn:w≤l.length) (hl:l.length<4611686018427387904):MSpec Tryz.prog X 120 [Lp 1000000,Ln .i64 (w:Nat)] (rd 1000000 l false) (Ln .u64 (le (l.take w):Nat)) (rd 1000000 (l.drop w) false):=by
 have hb:=isW_bound hw
 refine cD Tryz.func120 rfl y5 rfl rfl rfl rfl rfl ?_
 intro C
 (refine aA<|rgN<|kas O<|aB<|aA<|aA<|rgN<|kmv O<|kca O O (isWidth_spec X _ true hw)<|aV O O dO<|aB<|aF O ?_;refine aH ?_;refine aA<|rgN<|kmv O<|kmv O<|aU [] (rd 1000000 (l.drop w) false) (Raw_ok X l w hn hl) O O y17 y16 O O O O y19 dO<|kca O O (onumber_spec X _ (by rw [cW];omega))<|kas O<|aB<|aI ?_)
 exact y20
end Go.Proofs.YtopiioklkkiedaaGreatDoor
end
section
set_option maxHeartbeats 12800000
set_option maxRecDepth 100000
namespace Go.Lg.Fld
open Go Go.Lg
def kN (k:Int):List UInt8:=if k=1 then [98,111,111,108] else if k=2 then [105,56] else if k=3 then [105,49,54] else if k=4 then [105,51,50] else if k=5 then [105,54,52] else if k=6 then [117,56] else if k=7 then [117,49,54] else if k=8 then [117,51,50] else if k=9 then [117,54,52] else if k=10 then [114,101,102] else []
def kW (k:Int):Nat:=if k=1 then 1 else if k=2 then 1 else if k=3 then 2 else if k=4 then 4 else if k=5 then 8 else if k=6 then 1 else if k=7 then 2 else if k=8 then 4 else if k=9 then 8 else if k=10 then 8 else 0
def kB (k:Int):Int:=if k=1 then 0 else if k=2 then 128 else if k=3 then 32768 else if k=4 then 2147483648 else if k=5 then 9223372036854775808 else if k=6 then 0 else if k=7 then 0 else if k=8 then 0 else if k=9 then 0 else if k=10 then 0 else 0
def kA (k:Int):Int:=if k=1 then 1 else if k=2 then 127 else if k=3 then 32767 else if k=4 then 2147483647 else if k=5 then 9223372036854775807 else if k=6 then 255 else if k=7 then 65535 else if k=8 then 4294967295 else if k=9 then 18446744073709551615 else if k=10 then 18446744073709551615 else 0
def kK (k:Int):Bool:=decide (1≤k)&&decide (k≤10)
theorem kcases (k:Int):k=1∨k=2∨k=3∨k=4∨k=5∨k=6∨k=7∨k=8∨k=9∨k=10∨(k<1∨10<k):=by omega
theorem kin {k:Int} (h:kK k=true):k=1∨k=2∨k=3∨k=4∨k=5∨k=6∨k=7∨k=8∨k=9∨k=10:=by
 simp only [kK,Bool.and_eq_true,decide_eq_true_eq] at h;omega
theorem knot {k:Int} (h:kK k=false):k<1∨10<k:=by
 by_cases h1:1≤k<;>by_cases h2:k≤10<;>first|omega|(rw [kK,cL h1,cL h2] at h;cases h)
theorem kK_iff (k:Int):kK k=true↔1≤k∧k≤10:=by simp only [kK,Bool.and_eq_true,decide_eq_true_eq]
theorem kN_no {k:Int} (h:k<1∨10<k):kN k=[]:=by
 unfold kN
 rw [if_neg (show ¬ k=1 by omega),if_neg (show ¬ k=2 by omega),if_neg (show ¬ k=3 by omega),if_neg (show ¬ k=4 by omega),if_neg (show ¬ k=5 by omega),if_neg (show ¬ k=6 by omega),if_neg (show ¬ k=7 by omega),if_neg (show ¬ k=8 by omega),if_neg (show ¬ k=9 by omega),if_neg (show ¬ k=10 by omega)]
theorem kW_no {k:Int} (h:k<1∨10<k):kW k=0:=by
 unfold kW
 rw [if_neg (show ¬ k=1 by omega),if_neg (show ¬ k=2 by omega),if_neg (show ¬ k=3 by omega),if_neg (show ¬ k=4 by omega),if_neg (show ¬ k=5 by omega),if_neg (show ¬ k=6 by omega),if_neg (show ¬ k=7 by omega),if_neg (show ¬ k=8 by omega),if_neg (show ¬ k=9 by omega),if_neg (show ¬ k=10 by omega)]
theorem kB_no {k:Int} (h:k<1∨10<k):kB k=0:=by
 unfold kB
 rw [if_neg (show ¬ k=1 by omega),if_neg (show ¬ k=2 by omega),if_neg (show ¬ k=3 by omega),if_neg (show ¬ k=4 by omega),if_neg (show ¬ k=5 by omega),if_neg (show ¬ k=6 by omega),if_neg (show ¬ k=7 by omega),if_neg (show ¬ k=8 by omega),if_neg (show ¬ k=9 by omega),if_neg (show ¬ k=10 by omega)]
theorem kA_no {k:Int} (h:k<1∨10<k):kA k=0:=by
 unfold kA
 rw [if_neg (show ¬ k=1 by omega),if_neg (show ¬ k=2 by omega),if_neg (show ¬ k=3 by omega),if_neg (show ¬ k=4 by omega),if_neg (show ¬ k=5 by omega),if_neg (show ¬ k=6 by omega),if_neg (show ¬ k=7 by omega),if_neg (show ¬ k=8 by omega),if_neg (show ¬ k=9 by omega),if_neg (show ¬ k=10 by omega)]
theorem kfacts (k:Int):0≤kB k∧kB k≤9223372036854775808∧0≤kA k∧kA k<18446744073709551616∧kW k≤8:=by
 rcases kcases k with rfl|rfl|rfl|rfl|rfl|rfl|rfl|rfl|rfl|rfl|h
 all_goals first|(rw [kW_no h,kB_no h,kA_no h];omega)|decide
theorem kW_in {k:Int} (h:kK k=true):kW k=1∨kW k=2∨kW k=4∨kW k=8:=by
 rcases kin h with rfl|rfl|rfl|rfl|rfl|rfl|rfl|rfl|rfl|rfl<;>decide
theorem kW_zero (k:Int):kW k=0↔kK k=false:=by
 cases h:kK k with
 | false=>simp [kW_no (knot h)]
 | true=>rcases kW_in h with e|e|e|e<;>simp [e]
end Go.Lg.Fld
namespace Go.Proofs.YtopiioklkkiedaaGreatDoor
open Go Go.Lg Go.Lg.Fld
set_option maxRecDepth 100000
variable (X:Nat→Option Obj)
theorem shapeOf_spec (k:Int):PSpec Tryz.prog X 154 [Ln .i64 k] (.sv (.agg [.val (.string ⟨(kN k).toArray⟩),.val (.int .i64 (kW k:Nat)),.val (.int .u64 (kB k)),.val (.int .u64 (kA k))])):=by
 refine cC Tryz.func154 rfl y5 rfl rfl ?_
 intro C
 rcases kcases k with rfl|rfl|rfl|rfl|rfl|rfl|rfl|rfl|rfl|rfl|h
 ·(refine aA<|rgN<|aP O dO ?_;refine aB<|aA<|aA<|rgN<|kmv O<|aB<|aG<|aA<|rgN<|keq O O (cR y3)<|kas O<|aB<|aE O ?_;refine aA<|rgN<|aT O O y2 y26 dO ?_;refine aM O O O O O O dO ?_;refine aB<|aI ?_)
  exact yF
 ·(refine aA<|rgN<|aP O dO ?_;refine aB<|aA<|aA<|rgN<|kmv O<|aB<|aG<|aA<|rgN<|keq O O (cN y3)<|kas O<|aB<|aF O ?_;refine aA<|rgN<|keq O O (cR y3)<|kas O<|aB<|aE O ?_;refine aA<|rgN<|aT O O y2 y26 dO ?_;refine aM O O O O O O dO ?_;refine aB<|aI ?_)
  exact yF
 ·(refine aA<|rgN<|aP O dO ?_;refine aB<|aA<|aA<|rgN<|kmv O<|aB<|aG<|aA<|rgN<|keq O O (cN y3)<|kas O<|aB<|aF O ?_;refine aA<|rgN<|keq O O (cN y3)<|kas O<|aB<|aF O ?_;refine aA<|rgN<|keq O O (cR y3)<|kas O<|aB<|aE O ?_;refine aA<|rgN<|aT O O y2 y26 dO ?_;refine aM O O O O O O dO ?_;refine aB<|aI ?_)
  exact yF
 ·(refine aA<|rgN<|aP O dO ?_;refine aB<|aA<|aA<|rgN<|kmv O<|aB<|aG<|aA<|rgN<|keq O O (cN y3)<|kas O<|aB<|aF O ?_;refine aA<|rgN<|keq O O (cN y3)<|kas O<|aB<|aF O ?_;refine aA<|rgN<|keq O O (cN y3)<|kas O<|aB<|aF O ?_;refine aA<|rgN<|keq O O (cR y3)<|kas O<|aB<|aE O ?_;refine aA<|rgN<|aT O O y2 y26 dO ?_;refine aM O O O O O O dO ?_;refine aB<|aI ?_)
  exact yF
 ·(refine aA<|rgN<|aP O dO ?_;refine aB<|aA<|aA<|rgN<|kmv O<|aB<|aG<|aA<|rgN<|keq O O (cN y3)<|kas O<|aB<|aF O ?_;refine aA<|rgN<|keq O O (cN y3)<|kas O<|aB<|aF O ?_;refine aA<|rgN<|keq O O (cN y3)<|kas O<|aB<|aF O ?_;refine aA<|rgN<|keq O O (cN y3)<|kas O<|aB<|aF O ?_;refine aA<|rgN<|keq O O (cR y3)<|kas O<|aB<|aE O ?_;refine aA<|rgN<|aT O O y2 y26 dO ?_;refine aM O O O O O O dO ?_;refine aB<|aI ?_)
  exact yF
 ·(refine aA<|rgN<|aP O dO ?_;refine aB<|aA<|aA<|rgN<|kmv O<|aB<|aG<|aA<|rgN<|keq O O (cN y3)<|kas O<|aB<|aF O ?_;refine aA<|rgN<|keq O O (cN y3)<|kas O<|aB<|aF O ?_;refine aA<|rgN<|keq O O (cN y3)<|kas O<|aB<|aF O ?_;refine aA<|rgN<|keq O O (cN y3)<|kas O<|aB<|aF O ?_;refine aA<|rgN<|keq O O (cN y3)<|kas O<|aB<|aF O ?_;refine aA<|rgN<|keq O O (cR y3)<|kas O<|aB<|aE O ?_;refine aA<|rgN<|aT O O y2 y26 dO ?_;refine aM O O O O O O dO ?_;refine aB<|aI ?_)
  exact yF
 ·(refine aA<|rgN<|aP O dO ?_;refine aB<|aA<|aA<|rgN<|kmv O<|aB<|aG<|aA<|rgN<|keq O O (cN y3)<|kas O<|aB<|aF O ?_;refine aA<|rgN<|keq O O (cN y3)<|kas O<|aB<|aF O ?_;refine aA<|rgN<|keq O O (cN y3)<|kas O<|aB<|aF O ?_;refine aA<|rgN<|keq O O (cN y3)<|kas O<|aB<|aF O ?_;refine aA<|rgN<|keq O O (cN y3)<|kas O<|aB<|aF O ?_;refine aA<|rgN<|keq O O (cN y3)<|kas O<|aB<|aF O ?_;refine aA<|rgN<|keq O O (cR y3)<|kas O<|aB<|aE O ?_;refine aA<|rgN<|aT O O y2 y26 dO ?_;refine aM O O O O O O dO ?_;refine aB<|aI ?_)
  exact yF
 ·(refine aA<|rgN<|aP O dO ?_;refine aB<|aA<|aA<|rgN<|kmv O<|aB<|aG<|aA<|rgN<|keq O O (cN y3)<|kas O<|aB<|aF O ?_;refine aA<|rgN<|keq O O (cN y3)<|kas O<|aB<|aF O ?_;refine aA<|rgN<|keq O O (cN y3)<|kas O<|aB<|aF O ?_;refine aA<|rgN<|keq O O (cN y3)<|kas O<|aB<|aF O ?_;refine aA<|rgN<|keq O O (cN y3)<|kas O<|aB<|aF O ?_;refine aA<|rgN<|keq O O (cN y3)<|kas O<|aB<|aF O ?_;refine aA<|rgN<|keq O O (cN y3)<|kas O<|aB<|aF O ?_;refine aA<|rgN<|keq O O (cR y3)<|kas O<|aB<|aE O ?_;refine aA<|rgN<|aT O O y2 y26 dO ?_;refine aM O O O O O O dO ?_;refine aB<|aI ?_)
  exact yF
 ·(refine aA<|rgN<|aP O dO ?_;refine aB<|aA<|aA<|rgN<|kmv O<|aB<|aG<|aA<|rgN<|keq O O (cN y3)<|kas O<|aB<|aF O ?_;refine aA<|rgN<|keq O O (cN y3)<|kas O<|aB<|aF O ?_;refine aA<|rgN<|keq O O (cN y3)<|kas O<|aB<|aF O ?_;refine aA<|rgN<|keq O O (cN y3)<|kas O<|aB<|aF O ?_;refine aA<|rgN<|keq O O (cN y3)<|kas O<|aB<|aF O ?_;refine aA<|rgN<|keq O O (cN y3)<|kas O<|aB<|aF O ?_;refine aA<|rgN<|keq O O (cN y3)<|kas O<|aB<|aF O ?_;refine aA<|rgN<|keq O O (cN y3)<|kas O<|aB<|aF O ?_;refine aA<|rgN<|keq O O (cR y3)<|kas O<|aB<|aE O ?_;refine aA<|rgN<|aT O O y2 y26 dO ?_;refine aM O O O O O O dO ?_;refine aB<|aI ?_)
  exact yF
 ·(refine aA<|rgN<|aP O dO ?_;refine aB<|aA<|aA<|rgN<|kmv O<|aB<|aG<|aA<|rgN<|keq O O (cN y3)<|kas O<|aB<|aF O ?_;refine aA<|rgN<|keq O O (cN y3)<|kas O<|aB<|aF O ?_;refine aA<|rgN<|keq O O (cN y3)<|kas O<|aB<|aF O ?_;refine aA<|rgN<|keq O O (cN y3)<|kas O<|aB<|aF O ?_;refine aA<|rgN<|keq O O (cN y3)<|kas O<|aB<|aF O ?_;refine aA<|rgN<|keq O O (cN y3)<|kas O<|aB<|aF O ?_;refine aA<|rgN<|keq O O (cN y3)<|kas O<|aB<|aF O ?_;refine aA<|rgN<|keq O O (cN y3)<|kas O<|aB<|aF O ?_;refine aA<|rgN<|keq O O (cN y3)<|kas O<|aB<|aF O ?_;refine aA<|rgN<|keq O O (cR y3)<|kas O<|aB<|aE O ?_;refine aA<|rgN<|aT O O y2 y26 dO ?_;refine aM O O O O O O dO ?_;refine aB<|aI ?_)
  exact yF
 ·rw [kN_no h,kW_no h,kB_no h,kA_no h]
  (refine aA<|rgN<|aP O dO ?_;refine aB<|aA<|aA<|rgN<|kmv O<|aB<|aG<|aA<|rgN<|keq O O (cN y3)<|kas O<|aB<|aF O ?_;refine aA<|rgN<|keq O O (cN y3)<|kas O<|aB<|aF O ?_;refine aA<|rgN<|keq O O (cN y3)<|kas O<|aB<|aF O ?_;refine aA<|rgN<|keq O O (cN y3)<|kas O<|aB<|aF O ?_;refine aA<|rgN<|keq O O (cN y3)<|kas O<|aB<|aF O ?_;refine aA<|rgN<|keq O O (cN y3)<|kas O<|aB<|aF O ?_;refine aA<|rgN<|keq O O (cN y3)<|kas O<|aB<|aF O ?_;refine aA<|rgN<|keq O O (cN y3)<|kas O<|aB<|aF O ?_;refine aA<|rgN<|keq O O (cN y3)<|kas O<|aB<|aF O ?_;refine aA<|rgN<|keq O O (cN y3)<|kas O<|aB<|aF O ?_;refine aH ?_;refine aA<|rgN<|aT O O y2 y26 dO ?_;refine aM O O O O O O dO ?_;refine aB<|aI ?_)
  exact yF
theorem fSize_spec (k:Int):PSpec Tryz.prog X 116 [Ln .i64 k] (Ln .i64 (kW k:Nat)):=by
 refine cC Tryz.func116 rfl y5 rfl rfl ?_
 intro C
 (refine aA<|rgN<|kas O<|aB<|aA<|rgN<|kmv O<|kca O O (shapeOf_spec X k)<|K.fieldOne O Tryz.underlying245 O y5 O dO<|kas O<|aB<|aI ?_)
 exact y6
theorem OfWord_q (n:Int) (hn:0≤n∧n<18446744073709551616):PSpec Tryz.prog X 64 [Ln .u64 n] (LQ n):=by
 have h:=OfWord_spec X n
 unfold LQ LI
 rw [mg_pos hn.1,cK (by omega),show n/18446744073709551616=0 by omega,show n%18446744073709551616=n by omega]
 exact h
theorem Greatest_spec (k:Int):PSpec Tryz.prog X 149 [Ln .i64 k] (LQ (kA k)):=by
 obtain ⟨_,_,h2,h3,_⟩:=kfacts k
 refine cC Tryz.func149 rfl y5 rfl rfl ?_
 intro C
 (refine aA<|rgN<|aP O dO ?_;refine aB<|aA<|rgN<|kmv O<|kca O O (shapeOf_spec X k)<|K.fieldOne O Tryz.underlying245 O y5 O dO<|kca O O (OfWord_q X (kA k) ⟨h2,h3⟩)<|aM O O O O O O dO ?_;refine aB<|aI ?_)
 exact yF
theorem kB_R (k:Int):R127 (kB k):=by
 have:=kfacts k
 unfold R127;omega
theorem kBn_R (k:Int):R127 (-kB k):=by
 have:=kfacts k
 unfold R127;omega
theorem kA_R (k:Int):R127 (kA k):=by
 have:=kfacts k
 unfold R127;omega
theorem Least_spec (k:Int):PSpec Tryz.prog X 148 [Ln .i64 k] (LQ (-kB k)):=by
 obtain ⟨h0,h1,_⟩:=kfacts k
 refine cC Tryz.func148 rfl y5 rfl rfl ?_
 intro C
 (refine aA<|rgN<|aP O dO ?_;refine aB<|aA<|rgN<|kmv O<|kca O O (shapeOf_spec X k)<|K.fieldOne O Tryz.underlying245 O y5 O dO<|kca O O (OfWord_q X (kB k) ⟨h0,by omega⟩)<|kca O O (Neg_q X (kB k) (kB_R k))<|aM O O O O O O dO ?_;refine aB<|aI ?_)
 exact yF
theorem isKind_spec (k:Int) (r:Bool) (hr:kK k=r):PSpec Tryz.prog X 107 [Ln .i64 k] (Lb r):=by
 subst hr
 refine cC Tryz.func107 rfl y5 rfl rfl ?_
 intro C
 by_cases h1:1≤k
 ·(refine aA<|rgN<|kas O<|aB<|aA<|rgN<|kmv O<|K.leq O O (cL y3) dO<|kmv O<|gmv O O O<|K.leq O O O (dP O O) ?_;refine kpt O O<|kas O<|aB<|aI ?_)
  exact ⟨[_],⟨rfl,trivial⟩,by unfold kK;rw [cL h1];rfl⟩
 ·(refine aA<|rgN<|kas O<|aB<|aA<|rgN<|kmv O<|K.leq O O (cK y3) dO<|kmv O<|aC O O O<|aC O O O<|kpf O O<|kas O<|aB ?_;refine aI ?_)
  exact ⟨[_],⟨rfl,trivial⟩,by unfold kK;rw [cK h1];rfl⟩
end Go.Proofs.YtopiioklkkiedaaGreatDoor
end
section
set_option maxHeartbeats 12800000
set_option maxRecDepth 100000
namespace Go.Lg.Fld
open Go Go.Lg
def clampK (k x:Int):Int:=if x < -kB k then -kB k else if kA k<x then kA k else x
def fitZ (k x:Int):Bool:=decide (-kB k≤x)&&decide (x≤kA k)
theorem fitZ_iff (k x:Int):fitZ k x=true ↔ -kB k≤x∧x≤kA k:=by simp only [fitZ,Bool.and_eq_true,decide_eq_true_eq]
theorem clamp_same (k x:Int):decide (clampK k x=x)=fitZ k x:=by
 obtain ⟨h0,_,h2,_,_⟩:=kfacts k
 rw [Bool.eq_iff_iff,decide_eq_true_eq,fitZ_iff]
 unfold clampK
 (repeat' split)<;>omega
end Go.Lg.Fld
namespace Go.Proofs.YtopiioklkkiedaaGreatDoor
open Go Go.Lg Go.Lg.Fld
set_option maxRecDepth 100000
variable (X:Nat→Option Obj)
theorem Clamp_bad (k:Int) (b:Bool) (N:Int) (hN:In2 N) (hf:formB b N=false):PSpec Tryz.prog X 108 [Ln .i64 k,LI b N] (.sv S0):=by
 refine cC Tryz.func108 rfl y5 rfl rfl ?_
 intro C
 (refine aA<|rgN<|aL O O O dO<|aP O dO ?_;refine aB<|aA<|rgN<|kmv O<|kca O O (Least_spec X k)<|kmv O<|kca O O (Greatest_spec X k)<|aP O dO ?_;refine aP O dO ?_;refine aM O O O O O O dO ?_;refine aM O O O O O O dO ?_;refine aB<|aA<|aG<|aA<|rgN<|aK O O O dO ?_;refine kca O O (Form_spec X b N hN false hf)<|aV O O dO<|kas O<|aB<|aE O ?_;refine aA<|rgN<|aT O O y2 y28 dO ?_;refine aM O O O O O O dO ?_;refine aB<|aI ?_)
 exact yF
theorem Clamp_spec (k x:Int) (hx:R127 x):PSpec Tryz.prog X 108 [Ln .i64 k,LQ x] (LQ (clampK k x)):=by
 have hF:=Form_spec X (decide (x<0)) (mg x) (mg_in2 hx) true (formB_q hx)
 have c1:=Cmp_q X x (-kB k) hx (kBn_R k)
 have c2:=Cmp_q X x (kA k) hx (kA_R k)
 have hL:=Least_spec X k
 have hG:=Greatest_spec X k
 have hk:=kfacts k
 refine cC Tryz.func108 rfl y5 rfl rfl ?_
 intro C
 by_cases h1:x < -kB k
 ·have e:clampK k x = -kB k:=if_pos h1
  rw [e]
  have c1':=c1 (-1) (by unfold cmpI;rw [if_pos h1])
  (refine aA<|rgN<|aL O O O dO<|aP O dO ?_;refine aB<|aA<|rgN<|kmv O<|kca O O (hL)<|kmv O<|kca O O (hG)<|aP O dO ?_;refine aP O dO ?_;refine aM O O O O O O dO ?_;refine aM O O O O O O dO ?_;refine aB<|aA<|aG<|aA<|rgN<|aK O O O dO ?_;refine kca O O (hF)<|aV O O dO<|kas O<|aB<|aF O ?_;refine aA<|rgN<|aK O O O dO ?_;refine aK O O O dO ?_;refine kca O O (c1')<|klt O O (cL y3)<|kas O<|aB<|aE O ?_;refine aA<|rgN<|aK O O O dO ?_;refine aM O O O O O O dO ?_;refine aB<|aI ?_)
  exact yF
 ·have c1':∃ r:Int,0≤r∧cmpI x (-kB k)=r:=⟨_,(by unfold cmpI;rw [if_neg h1];split<;>decide),rfl⟩
  obtain ⟨r,hr0,hr⟩:=c1'
  have c1':=c1 r hr
  by_cases h2:kA k<x
  ·have e:clampK k x=kA k:=by unfold clampK;rw [if_neg h1,if_pos h2]
   rw [e]
   have c2':=c2 1 (by unfold cmpI;rw [if_neg (show ¬ x<kA k by omega),if_pos h2])
   (refine aA<|rgN<|aL O O O dO<|aP O dO ?_;refine aB<|aA<|rgN<|kmv O<|kca O O (hL)<|kmv O<|kca O O (hG)<|aP O dO ?_;refine aP O dO ?_;refine aM O O O O O O dO ?_;refine aM O O O O O O dO ?_;refine aB<|aA<|aG<|aA<|rgN<|aK O O O dO ?_;refine kca O O (hF)<|aV O O dO<|kas O<|aB<|aF O ?_;refine aA<|rgN<|aK O O O dO ?_;refine aK O O O dO ?_;refine kca O O c1'<|klt O O (cK y3)<|kas O<|aB<|aF O ?_;refine aA<|rgN<|aK O O O dO ?_;refine aK O O O dO ?_;refine kca O O c2'<|aS O O (cL y3) dO<|kas O<|aB<|aE O ?_;refine aA<|rgN<|aK O O O dO ?_;refine aM O O O O O O dO ?_;refine aB<|aI ?_)
   exact yF
  ·have e:clampK k x=x:=by unfold clampK;rw [if_neg h1,if_neg h2]
   rw [e]
   obtain ⟨s,hs0,hs⟩:∃ s:Int,s≤0∧cmpI x (kA k)=s:=⟨_,(by unfold cmpI;rw [if_neg h2];split<;>decide),rfl⟩
   have c2':=c2 s hs
   (refine aA<|rgN<|aL O O O dO<|aP O dO ?_;refine aB<|aA<|rgN<|kmv O<|kca O O (hL)<|kmv O<|kca O O (hG)<|aP O dO ?_;refine aP O dO ?_;refine aM O O O O O O dO ?_;refine aM O O O O O O dO ?_;refine aB<|aA<|aG<|aA<|rgN<|aK O O O dO ?_;refine kca O O (hF)<|aV O O dO<|kas O<|aB<|aF O ?_;refine aA<|rgN<|aK O O O dO ?_;refine aK O O O dO ?_;refine kca O O c1'<|klt O O (cK y3)<|kas O<|aB<|aF O ?_;refine aA<|rgN<|aK O O O dO ?_;refine aK O O O dO ?_;refine kca O O c2'<|aS O O (cK y3) dO<|kas O<|aB<|aF O ?_;refine aH ?_;refine aA<|rgN<|aK O O O dO ?_;refine aM O O O O O O dO ?_;refine aB<|aI ?_)
   exact yF
def fitB (k:Int) (b:Bool) (N:Int):Bool:=kK k&&(formB b N&&fitZ k (zv b N))
theorem Fits_no (k:Int) (b:Bool) (N:Int) (hk:kK k=false):PSpec Tryz.prog X 71 [Ln .i64 k,LI b N] (Lb false):=by
 refine cC Tryz.func71 rfl y5 rfl rfl ?_
 intro C
 (refine aA<|rgN<|aL O O O dO<|kas O<|aB<|aA<|rgD mixed<|kmv O<|kca O O (isKind_spec X k false hk)<|kmv O<|aC O O O<|aC O O O<|aC O O O<|aC O O O ?_;refine aC O O O<|kpf O O<|kas O<|aB<|rgA ?_;refine aI ?_)
 exact y6
theorem Fits_bad (k:Int) (b:Bool) (N:Int) (hk:kK k=true) (hN:In2 N) (hf:formB b N=false):PSpec Tryz.prog X 71 [Ln .i64 k,LI b N] (Lb false):=by
 have hC:=Clamp_bad X k b N hN hf
 have hq:(false==b&&((0:Int)==N/18446744073709551616&&(0:Int)==N%18446744073709551616))=false:=by
  cases hb:(false==b&&((0:Int)==N/18446744073709551616&&(0:Int)==N%18446744073709551616)) with
  | false=>rfl
  | true =>
   simp only [Bool.and_eq_true,beq_iff_eq] at hb
   obtain ⟨rfl,h1,h2⟩:=hb
   have:N=0:=by omega
   subst this
   cases hf
 refine cC Tryz.func71 rfl y5 rfl rfl ?_
 intro C
 (refine aA<|rgN<|aL O O O dO<|kas O<|aB<|aA<|rgD mixed<|kmv O<|kca O O (isKind_spec X k true hk)<|kmv O<|gmv O O O<|aK O O O (dP O O) ?_;refine gca O O (hC) O O<|aK O O O (dP O O) ?_;refine bQ O O O O y5 (eqI false hq) (.inl ⟨O,O⟩) (dP O O) ?_;refine kpt O O<|kas O<|aB<|rgA ?_;refine aI ?_)
 exact y6
theorem Fits_q (k x:Int) (hk:kK k=true) (hx:R127 x) (r:Bool) (hr:fitZ k x=r):PSpec Tryz.prog X 71 [Ln .i64 k,LQ x] (Lb r):=by
 have hC:=Clamp_spec X k x hx
 have hq:=clamp_same k x
 rw [hr] at hq
 refine cC Tryz.func71 rfl y5 rfl rfl ?_
 intro C
 (refine aA<|rgN<|aL O O O dO<|kas O<|aB<|aA<|rgD mixed<|kmv O<|kca O O (isKind_spec X k true hk)<|kmv O<|gmv O O O<|aK O O O (dP O O) ?_;refine gca O O (hC) O O<|aK O O O (dP O O) ?_;refine bQ O O O O y5 (eqQ _ _ r hq) (.inl ⟨O,O⟩) (dP O O) ?_;refine kpt O O<|kas O<|aB<|rgA ?_;refine aI ?_)
 exact y6
theorem Fits_spec (k:Int) (b:Bool) (N:Int) (hN:In2 N) (r:Bool) (hr:fitB k b N=r):PSpec Tryz.prog X 71 [Ln .i64 k,LI b N] (Lb r):=by
 subst hr
 unfold fitB
 cases hk:kK k with
 | false=>exact Fits_no X k b N hk
 | true =>
  cases hf:formB b N with
  | false=>exact Fits_bad X k b N hk hN hf
  | true =>
   rw [LI_q hN hf]
   exact Fits_q X k (zv b N) hk (zv_in hN hf).1 _ O
end Go.Proofs.YtopiioklkkiedaaGreatDoor
end
section
set_option maxHeartbeats 12800000
set_option maxRecDepth 100000
namespace Go.Lg.Fld
open Go Go.Lg
def kM (k:Int):Nat:=256^kW k
def wdK (k x:Int):Nat:=(x%(kM k:Int)).toNat
def nbK (k:Int) (v:Nat):Int:=if kA k<v then (v:Int)-(kM k:Int) else v
theorem kM_facts {k:Int} (h:kK k=true):kB k+kA k<(kM k:Int)∧(kM k:Int)≤18446744073709551616∧0<kM k:=by
 rcases kin h with rfl|rfl|rfl|rfl|rfl|rfl|rfl|rfl|rfl|rfl<;>decide
theorem wd_lt {k:Int} (h:kK k=true) (x:Int):wdK k x<256^kW k:=by
 have:=kM_facts h
 have h1:=Int.emod_nonneg x (show (kM k:Int)≠0 by omega)
 have h2:=Int.emod_lt_of_pos x (show 0<(kM k:Int) by omega)
 show wdK k x<kM k
 unfold wdK
 omega
theorem wd_of {k x:Int} (h:kK k=true) (hx:fitZ k x=true):(wdK k x:Int)=if x<0 then x+kM k else x:=by
 obtain ⟨h1,h2,h3⟩:=kM_facts h
 obtain ⟨f1,f2,f3,f4,_⟩:=kfacts k
 obtain ⟨x1,x2⟩:=(fitZ_iff k x).1 hx
 unfold wdK
 by_cases c:x<0
 ·rw [if_pos c]
  have e:x%(kM k:Int)=x+kM k:=by
   rw [← Int.add_emod_right]
   exact Int.emod_eq_of_lt y3 y3
  rw [e];omega
 ·rw [if_neg c,Int.emod_eq_of_lt y3 y3];omega
end Go.Lg.Fld
namespace Go.Proofs.YtopiioklkkiedaaGreatDoor
open Go Go.Lg Go.Lg.Fld
set_option maxRecDepth 100000
variable (X:Nat→Option Obj)
theorem fit_R {k x:Int} (h:fitZ k x=true):R127 x:=by
 have:=kfacts k
 rw [fitZ_iff] at h
 unfold R127;omega
theorem nb_R {k:Int} {v:Nat} (h:kK k=true) (hv:v<256^kW k):R127 (nbK k v):=by
 have:=kM_facts h
 have hv:v<kM k:=hv
 unfold R127 nbK
 split<;>omega
theorem opposite_1 (k:Int) (hk:kW k=1) (v:Int) (hv:0≤v∧v<18446744073709551616):PSpec Tryz.prog X 156 [Ln .i64 k,Ln .u64 v] (Ln .u64 ((-v)%((256^1:Nat):Int))):=by
 have hS:=fSize_spec X k
 rw [hk] at hS
 have p1:((2:Int)^(min (Int.toNat 56) IntKind.u64.bits))=72057594037927936:=by decide
 have p2:((256^1:Nat):Int)=256:=by decide
 rw [p2]
 have n1:IntKind.u64.wrap (0-v)=(0-v)%18446744073709551616:=by rw [IntKind.wrap_u64]
 have s1:IntKind.u64.wrap ((0-v)%18446744073709551616*(2:Int)^(min (Int.toNat 56) IntKind.u64.bits))=(0-v)%18446744073709551616*72057594037927936%18446744073709551616:=by rw [p1,IntKind.wrap_u64]
 have s2:((0-v)%18446744073709551616*72057594037927936%18446744073709551616).fdiv ((2:Int)^(min (Int.toNat 56) IntKind.u64.bits))=(-v)%256:=by
  rw [p1,Int.fdiv_eq_ediv_of_nonneg _ (by decide)]
  omega
 refine cC Tryz.func156 rfl y5 rfl rfl ?_
 intro C
 (refine aA<|rgN<|kas O<|aB<|aA<|rgN<|kmv O<|kca O O (hS)<|bL O O (c:=8) O dO<|bA O O (c:=56) O dO<|kas O<|aB<|aA<|rgN ?_;refine kmv O<|K.neg O n1 dO<|kmv O<|K.shl O O yA s1 dO<|kmv O<|bN O O yA s2 dO<|kas O<|aB<|aI ?_)
 exact y6
theorem opposite_2 (k:Int) (hk:kW k=2) (v:Int) (hv:0≤v∧v<18446744073709551616):PSpec Tryz.prog X 156 [Ln .i64 k,Ln .u64 v] (Ln .u64 ((-v)%((256^2:Nat):Int))):=by
 have hS:=fSize_spec X k
 rw [hk] at hS
 have p1:((2:Int)^(min (Int.toNat 48) IntKind.u64.bits))=281474976710656:=by decide
 have p2:((256^2:Nat):Int)=65536:=by decide
 rw [p2]
 have n1:IntKind.u64.wrap (0-v)=(0-v)%18446744073709551616:=by rw [IntKind.wrap_u64]
 have s1:IntKind.u64.wrap ((0-v)%18446744073709551616*(2:Int)^(min (Int.toNat 48) IntKind.u64.bits))=(0-v)%18446744073709551616*281474976710656%18446744073709551616:=by rw [p1,IntKind.wrap_u64]
 have s2:((0-v)%18446744073709551616*281474976710656%18446744073709551616).fdiv ((2:Int)^(min (Int.toNat 48) IntKind.u64.bits))=(-v)%65536:=by
  rw [p1,Int.fdiv_eq_ediv_of_nonneg _ (by decide)]
  omega
 refine cC Tryz.func156 rfl y5 rfl rfl ?_
 intro C
 (refine aA<|rgN<|kas O<|aB<|aA<|rgN<|kmv O<|kca O O (hS)<|bL O O (c:=16) O dO<|bA O O (c:=48) O dO<|kas O<|aB<|aA<|rgN ?_;refine kmv O<|K.neg O n1 dO<|kmv O<|K.shl O O yA s1 dO<|kmv O<|bN O O yA s2 dO<|kas O<|aB<|aI ?_)
 exact y6
theorem opposite_4 (k:Int) (hk:kW k=4) (v:Int) (hv:0≤v∧v<18446744073709551616):PSpec Tryz.prog X 156 [Ln .i64 k,Ln .u64 v] (Ln .u64 ((-v)%((256^4:Nat):Int))):=by
 have hS:=fSize_spec X k
 rw [hk] at hS
 have p1:((2:Int)^(min (Int.toNat 32) IntKind.u64.bits))=4294967296:=by decide
 have p2:((256^4:Nat):Int)=4294967296:=by decide
 rw [p2]
 have n1:IntKind.u64.wrap (0-v)=(0-v)%18446744073709551616:=by rw [IntKind.wrap_u64]
 have s1:IntKind.u64.wrap ((0-v)%18446744073709551616*(2:Int)^(min (Int.toNat 32) IntKind.u64.bits))=(0-v)%18446744073709551616*4294967296%18446744073709551616:=by rw [p1,IntKind.wrap_u64]
 have s2:((0-v)%18446744073709551616*4294967296%18446744073709551616).fdiv ((2:Int)^(min (Int.toNat 32) IntKind.u64.bits))=(-v)%4294967296:=by
  rw [p1,Int.fdiv_eq_ediv_of_nonneg _ (by decide)]
  omega
 refine cC Tryz.func156 rfl y5 rfl rfl ?_
 intro C
 (refine aA<|rgN<|kas O<|aB<|aA<|rgN<|kmv O<|kca O O (hS)<|bL O O (c:=32) O dO<|bA O O (c:=32) O dO<|kas O<|aB<|aA<|rgN ?_;refine kmv O<|K.neg O n1 dO<|kmv O<|K.shl O O yA s1 dO<|kmv O<|bN O O yA s2 dO<|kas O<|aB<|aI ?_)
 exact y6
theorem opposite_8 (k:Int) (hk:kW k=8) (v:Int) (hv:0≤v∧v<18446744073709551616):PSpec Tryz.prog X 156 [Ln .i64 k,Ln .u64 v] (Ln .u64 ((-v)%((256^8:Nat):Int))):=by
 have hS:=fSize_spec X k
 rw [hk] at hS
 have p1:((2:Int)^(min (Int.toNat 0) IntKind.u64.bits))=1:=by decide
 have p2:((256^8:Nat):Int)=18446744073709551616:=by decide
 rw [p2]
 have n1:IntKind.u64.wrap (0-v)=(0-v)%18446744073709551616:=by rw [IntKind.wrap_u64]
 have s1:IntKind.u64.wrap ((0-v)%18446744073709551616*(2:Int)^(min (Int.toNat 0) IntKind.u64.bits))=(0-v)%18446744073709551616*1%18446744073709551616:=by rw [p1,IntKind.wrap_u64]
 have s2:((0-v)%18446744073709551616*1%18446744073709551616).fdiv ((2:Int)^(min (Int.toNat 0) IntKind.u64.bits))=(-v)%18446744073709551616:=by
  rw [p1,Int.fdiv_eq_ediv_of_nonneg _ (by decide)]
  omega
 refine cC Tryz.func156 rfl y5 rfl rfl ?_
 intro C
 (refine aA<|rgN<|kas O<|aB<|aA<|rgN<|kmv O<|kca O O (hS)<|bL O O (c:=64) O dO<|bA O O (c:=0) O dO<|kas O<|aB<|aA<|rgN ?_;refine kmv O<|K.neg O n1 dO<|kmv O<|K.shl O O yA s1 dO<|kmv O<|bN O O yA s2 dO<|kas O<|aB<|aI ?_)
 exact y6
theorem opposite_spec (k:Int) (hk:kK k=true) (v:Int) (hv:0≤v∧v<18446744073709551616) (r:Int) (hr:(-v)%(kM k:Int)=r):PSpec Tryz.prog X 156 [Ln .i64 k,Ln .u64 v] (Ln .u64 r):=by
 subst hr
 unfold kM
 rcases kW_in hk with e|e|e|e
 ·rw [e];exact opposite_1 X k e v hv
 ·rw [e];exact opposite_2 X k e v hv
 ·rw [e];exact opposite_4 X k e v hv
 ·rw [e];exact opposite_8 X k e v hv
theorem wordOf_spec (k x:Int) (hk:kK k=true) (hx:fitZ k x=true):PSpec Tryz.prog X 124 [Ln .i64 k,LQ x] (Ln .u64 (wdK k x:Nat)):=by
 obtain ⟨h1,h2,h3⟩:=kM_facts hk
 obtain ⟨f1,f2,f3,f4,_⟩:=kfacts k
 obtain ⟨x1,x2⟩:=(fitZ_iff k x).1 hx
 have e:=wd_of hk hx
 refine cC Tryz.func124 rfl y5 rfl rfl ?_
 intro C
 by_cases c:x<0
 ·have hm:mg x%18446744073709551616 = -x:=by rw [mg_neg c];omega
  have hO:=opposite_spec X k hk (-x) y3 (wdK k x:Nat) (by
   rw [if_pos c] at e
   rw [e,Int.neg_neg,← Int.add_emod_right]
   exact Int.emod_eq_of_lt y3 y3)
  unfold LQ LI
  rw [hm,cL c]
  (refine aA<|rgN<|aL O O O dO<|kas O<|aB<|aA<|aA<|rgN<|kfa O O ?_;refine kl1 O O O<|aB<|aE O ?_;refine aA<|rgN<|kmv O<|kfa O O ?_;refine kl1 O O O<|kca O O (hO)<|kas O<|aB<|aI ?_)
  exact y6
 ·have hm:mg x%18446744073709551616=x:=by rw [mg_pos y3];omega
  rw [if_neg c] at e
  rw [e]
  unfold LQ LI
  rw [hm,cK c]
  (refine aA<|rgN<|aL O O O dO<|kas O<|aB<|aA<|aA<|rgN<|kfa O O ?_;refine kl1 O O O<|aB<|aF O ?_;refine aH ?_;refine aA<|rgN<|kfa O O ?_;refine kl1 O O O<|kas O<|aB<|aI ?_)
  exact y6
theorem numberOf_spec (k:Int) (v:Nat) (hk:kK k=true) (hv:v<256^kW k):PSpec Tryz.prog X 119 [Ln .i64 k,Ln .u64 (v:Nat)] (LQ (nbK k v)):=by
 obtain ⟨h1,h2,h3⟩:=kM_facts hk
 obtain ⟨f1,f2,f3,f4,_⟩:=kfacts k
 have hv':v<kM k:=hv
 refine cC Tryz.func119 rfl y5 rfl rfl ?_
 intro C
 by_cases c:kA k<v
 ·have hO:=opposite_spec X k hk v y3 ((kM k:Int)-v) (by
   rw [← Int.add_emod_right]
   rw [Int.emod_eq_of_lt (by omega) (by omega)];omega)
  have hW:=OfWord_q X ((kM k:Int)-v) y3
  have hN:=Neg_q X ((kM k:Int)-v) y2A
  have e:nbK k v = -((kM k:Int)-v):=by unfold nbK;rw [if_pos c];omega
  rw [e]
  (refine aA<|rgN<|aP O dO ?_;refine aB<|aA<|aA<|rgN<|kmv O<|kmv O<|kca O O (shapeOf_spec X k)<|K.fieldOne O Tryz.underlying245 O y5 O dO<|aS O O (cL y3) dO<|aB<|aE O ?_;refine aA<|rgN<|kmv O<|kmv O<|kca O O (hO)<|kca O O (hW)<|kca O O (hN)<|aM O O O O O O dO ?_;refine aB<|aI ?_)
  exact yF
 ·have hW:=OfWord_q X (v:Int) y3
  have e:nbK k v=v:=by unfold nbK;rw [if_neg c]
  rw [e]
  (refine aA<|rgN<|aP O dO ?_;refine aB<|aA<|aA<|rgN<|kmv O<|kmv O<|kca O O (shapeOf_spec X k)<|K.fieldOne O Tryz.underlying245 O y5 O dO<|aS O O (cK y3) dO<|aB<|aF O ?_;refine aH ?_;refine aA<|rgN<|kmv O<|kca O O (hW)<|aM O O O O O O dO ?_;refine aB<|aI ?_)
  exact yF
theorem WNum_k (k:Int) (hk:kK k=true) (n:Nat) (h:n<256^kW k):MSpec Tryz.prog X 123 [Lp 1000000,Ln .i64 (kW k:Nat),Ln .u64 (n:Nat)] (w0 1000000) (Lb true) (w1 1000000 1000001 1000002 (leB (kW k) n)):=by
 have hn:n<18446744073709551616:=by
  have:=(kM_facts hk).2.1
  have h:n<kM k:=h
  omega
 rcases kW_in hk with e|e|e|e<;>rw [e] at h ⊢
 ·exact WNum_0_1 X n hn h
 ·exact WNum_0_2 X n hn h
 ·exact WNum_0_4 X n hn h
 ·exact WNum_0_8 X n hn h
theorem Put_q (k x:Int) (hk:kK k=true) (hx:fitZ k x=true):PSpec Tryz.prog X 83 [Ln .i64 k,LQ x] (.tup [Ss (leB (kW k) (wdK k x)),Sn .i64 0]):=by
 have hF:=Fits_q X k x hk (fit_R hx) true hx
 have hW:=wordOf_spec X k x hk hx
 have hN:=WNum_k X k hk (wdK k x) (wd_lt hk x)
 have hS:=fSize_spec X k
 refine cC Tryz.func83 rfl y5 rfl rfl ?_
 intro C
 (refine aA<|rgN<|aL O O O dO<|kas O<|kas O<|aB<|aA<|aA<|rgN<|kmv O<|kca O O (isKind_spec X k true hk)<|aV O O dO<|aB<|aF O ?_;refine aH ?_;refine aA<|aA<|rgN<|kmv O<|aK O O O dO ?_;refine kca O O (hF)<|aV O O dO<|aB<|aF O ?_;refine aH ?_;refine aA<|rgN<|aT O O y2 y36 dO ?_;refine aL O O O dO<|kas O<|aB<|aA<|rgD mixed<|kmv O<|kmv O<|kca O O (hS)<|kmv O<|aK O O O dO ?_;refine kca O O (hW)<|aU [(1000000,15),(1000001,501),(1000002,502)] (w1 15 501 502 (leB (kW k) (wdK k x))) (hN) O O y17 y16 O O O O (by exact (.box O O (.box O O (.box O (Box.ren_bytes _ _ _ _) .nil)))) dO<|aB<|rgA ?_;refine aA<|rgN<|kmv O<|K.callR [(1000000,15),(1000001,501),(1000002,502)] (String_1 X (leB (kW k) (wdK k x))) O O yD yB O O O O dO<|kas O<|kas O<|aB<|aI ?_)
 exact y1E
end Go.Proofs.YtopiioklkkiedaaGreatDoor
end
section
set_option maxHeartbeats 12800000
set_option maxRecDepth 100000
namespace Go.Lg.Fld
open Go Go.Lg
end Go.Lg.Fld
namespace Go.Proofs.YtopiioklkkiedaaGreatDoor
open Go Go.Lg Go.Lg.Fld
set_option maxRecDepth 100000
variable (X:Nat→Option Obj)
theorem isW_k {k:Int} (h:kK k=true):isW (kW k:Nat)=true:=by
 rcases kW_in h with e|e|e|e<;>rw [e]<;>rfl
theorem Get_q (k:Int) (l:List UInt8) (hk:kK k=true) (hn:l.length=kW k):PSpec Tryz.prog X 80 [Ln .i64 k,Ls l] (if fitZ k (nbK k (le l))=true then .tup [SQ (nbK k (le l)),Sn .i64 0] else .tup [S0,Sn .i64 4]):=by
 have hS:=fSize_spec X k
 have hw:=isW_k hk
 have hR:=Read_spec X l
 have hk8:=(kfacts k).2.2.2.2
 have hN:=Num_ok X l (kW k) hw y3 y3
 rw [List.take_of_length_le (by omega),List.drop_of_length_le (by omega)] at hN
 have hb:=le_lt l
 rw [hn] at hb
 have hO:=numberOf_spec X k (le l) hk hb
 have hR':=nb_R hk hb
 have hD:MSpec Tryz.prog X 121 [Lp 1000000] (rd 1000000 [] false) (Lb true) (rd 1000000 [] false):=Done_spec X [] false true rfl
 have hF:=Fits_q X k (nbK k (le l)) hk hR' _ rfl
 generalize nbK k (le l)=z at *
 generalize le l=n at *
 cases hf:fitZ k z with
 | true =>
  rw [hf] at hF
  rw [if_pos rfl]
  refine cC Tryz.func80 rfl y5 rfl rfl ?_
  intro C
  (refine aA<|rgN<|aP O dO ?_;refine kas O<|aB<|aA<|aA<|rgN<|kmv O<|kca O O (isKind_spec X k true hk)<|aV O O dO<|aB<|aF O ?_;refine aH ?_;refine aA<|rgN<|kmv O<|bE [(1000001,501)] (Lp 501) (rd 501 l false) (hR) O O yC O O O O O y19 dO<|kas O<|aB<|aA<|rgN<|kmv O<|kmv O<|kmv O<|kca O O (hS)<|aU [(1000000,501)] (rd 501 [] false) (hN) O O y17 y16 O O O O y19 dO<|kca O O (hO) ?_;refine aP O dO ?_;refine aM O O O O O O dO ?_;refine aB<|aA<|aA<|rgN<|kmv O<|K.callR [(1000000,501)] (hD) O O y17 y16 O O O O dO<|aV O O dO<|kmv O<|gmv O O O<|aK O O O (dP O O) ?_;refine gca O O (hF) O O<|aV O O (dP O O) ?_;refine kpf O O<|aB<|aF O ?_;refine aH ?_;refine aA<|rgN<|aK O O O dO ?_;refine aM O O O O O O dO ?_;refine kas O<|aB<|aI ?_)
  exact y4
 | false =>
  rw [hf] at hF
  rw [if_neg (by simp)]
  refine cC Tryz.func80 rfl y5 rfl rfl ?_
  intro C
  (refine aA<|rgN<|aP O dO ?_;refine kas O<|aB<|aA<|aA<|rgN<|kmv O<|kca O O (isKind_spec X k true hk)<|aV O O dO<|aB<|aF O ?_;refine aH ?_;refine aA<|rgN<|kmv O<|bE [(1000001,501)] (Lp 501) (rd 501 l false) (hR) O O yC O O O O O y19 dO<|kas O<|aB<|aA<|rgN<|kmv O<|kmv O<|kmv O<|kca O O (hS)<|aU [(1000000,501)] (rd 501 [] false) (hN) O O y17 y16 O O O O y19 dO<|kca O O (hO) ?_;refine aP O dO ?_;refine aM O O O O O O dO ?_;refine aB<|aA<|aA<|rgN<|kmv O<|K.callR [(1000000,501)] (hD) O O y17 y16 O O O O dO<|aV O O dO<|kmv O<|gmv O O O<|aK O O O (dP O O) ?_;refine gca O O (hF) O O<|aV O O (dP O O) ?_;refine kpf O O<|aB<|aE O ?_;refine aA<|rgN<|aT O O y2 y28 dO ?_;refine aM O O O O O O dO ?_;refine kas O<|aB<|aI ?_)
  exact y4
end Go.Proofs.YtopiioklkkiedaaGreatDoor
end
section
set_option maxHeartbeats 12800000
set_option maxRecDepth 100000
namespace Go.Proofs.YtopiioklkkiedaaGreatDoor
open Go Go.Lg Go.Lg.Fld
set_option maxRecDepth 100000
variable (X:Nat→Option Obj)
abbrev cI (b:Bool) (n:Int):List CV:=[.val (.bool b),.val (.int .u64 (n/18446744073709551616)),.val (.int .u64 (n%18446744073709551616))]
abbrev cQ (z:Int):List CV:=[.val (.bool (decide (z<0))),.val (.int .u64 (mg z/18446744073709551616)),.val (.int .u64 (mg z%18446744073709551616))]
end Go.Proofs.YtopiioklkkiedaaGreatDoor
end
section
namespace Go.Lg.Dig
open Go Go.Lg
def dg (n j:Nat):Nat:=n/256^j%256
def dv (d:Nat):CV:=.val (.int .i64 (d:Nat))
def dlf (f:Nat→Nat):List Nat:=(List.range 40).map f
def num (b:Bool) (f:Nat→Nat):List CV:=.val (.bool b)::(dlf f).map dv
theorem dlf_congr {f g:Nat→Nat} (h:∀ j,j<40→f j=g j):dlf f=dlf g:=by
 unfold dlf
 exact List.map_congr_left fun j hj=>h j (List.mem_range.1 hj)
theorem num_congr {b:Bool} {f g:Nat→Nat} (h:∀ j,j<40→f j=g j):num b f=num b g:=by
 unfold num
 rw [dlf_congr h]
theorem num_at {b:Bool} {f:Nat→Nat} {i:Nat} (hi:i<40):(num b f)[1+i*1]? = some (dv (f i)):=by
 rw [Nat.mul_one,Nat.add_comm]
 simp [num,dlf,hi]
theorem num_set {b:Bool} {f:Nat→Nat} {i d:Nat} (hi:i<40):(num b f).set (1+i*1) (dv d)=num b (fun j=>if j=i then d else f j):=by
 rw [Nat.mul_one,Nat.add_comm]
 unfold num
 rw [List.set_cons_succ]
 congr 1
 apply List.ext_getElem?
 intro j
 rw [List.getElem?_set]
 by_cases h:i=j
 ·subst h
  simp [dlf,hi]
 ·rw [if_neg h]
  by_cases hj:j<40
  ·simp [dlf,hj,show ¬ j=i from fun e=>h e.symm]
  ·simp [dlf,hj]
theorem num_sign {b c:Bool} {f:Nat→Nat}:(num b f).set 0 (.val (.bool c))=num c f:=rfl
theorem dg_lt (n j:Nat):dg n j<256:=Nat.mod_lt _ (by decide)
theorem pow_pos (j:Nat):0<256^j:=Nat.pow_pos (by decide)
theorem dg_high {n j:Nat} (h:n<256^j):dg n j=0:=by
 unfold dg
 rw [Nat.div_eq_of_lt h]
theorem dg_zero (j:Nat):dg 0 j=0:=by
 unfold dg
 rw [Nat.zero_div]
theorem mod_next (n i:Nat):n%256^(i+1)=n%256^i+dg n i*256^i:=by
 unfold dg
 rw [Nat.pow_succ,Nat.mod_mul,Nat.mul_comm (256^i)]
theorem div_next (n i:Nat):n/256^i=n/256^(i+1)*256+dg n i:=by
 unfold dg
 rw [Nat.pow_succ,← Nat.div_div_eq_div_mul]
 omega
theorem pow40:256^40=2135987035920910082395021706169552114602704522356652769947041607822219725780640550022962086936576:=by decide
end Go.Lg.Dig
namespace Go.Lg.Dig
open Go Go.Lg
theorem num_length {b:Bool} {f:Nat→Nat}:(num b f).length=41:=by simp [num,dlf]
theorem num_blt {b:Bool} {f:Nat→Nat} {i:Nat} (hi:i<40):Nat.blt (1+i*1) (num b f).length=true:=by
 rw [num_length,Nat.blt_eq]
 omega
theorem div_div (n i:Nat):n/256^i/256=n/256^(i+1):=by rw [Nat.pow_succ,Nat.div_div_eq_div_mul]
end Go.Lg.Dig
namespace Go.Lg.Dig
def bor (M N i:Nat):Nat:=if M%256^i<N%256^i then 1 else 0
def car (M N i:Nat):Nat:=(M%256^i+N%256^i)/256^i
theorem bor_le (M N i:Nat):bor M N i≤1:=by unfold bor;split<;>omega
theorem sub_div {M N i:Nat} (h:N≤M):(M-N)/256^i=M/256^i-N/256^i-bor M N i∧N/256^i+bor M N i≤M/256^i:=by
 have hp:=pow_pos i
 have e1:=Nat.div_add_mod M (256^i)
 have e2:=Nat.div_add_mod N (256^i)
 have m1:=Nat.mod_lt M hp
 have m2:=Nat.mod_lt N hp
 unfold bor
 generalize 256^i=p at *
 have hle:N/p≤M/p:=Nat.div_le_div_right h
 generalize M/p=A at *
 generalize N/p=B at *
 generalize M%p=m at *
 generalize N%p=n at *
 by_cases c:m<n
 ·rw [if_pos c]
  have hlt:B+1≤A:=by
   by_cases e:A=B
   ·subst e;omega
   ·omega
  refine ⟨Nat.div_eq_of_lt_le ?_ ?_,hlt⟩
  ·obtain ⟨k,rfl⟩:∃ k,A=B+1+k:=⟨A-(B+1),by omega⟩
   rw [show B+1+k-B-1=k by omega,Nat.mul_comm k]
   rw [Nat.mul_add,Nat.mul_add] at e1
   omega
  ·obtain ⟨k,rfl⟩:∃ k,A=B+1+k:=⟨A-(B+1),by omega⟩
   rw [show B+1+k-B-1+1=k+1 by omega,Nat.mul_comm (k+1),Nat.mul_add]
   rw [Nat.mul_add,Nat.mul_add] at e1
   omega
 ·rw [if_neg c]
  refine ⟨Nat.div_eq_of_lt_le ?_ ?_,by omega⟩
  ·obtain ⟨k,rfl⟩:∃ k,A=B+k:=⟨A-B,by omega⟩
   rw [show B+k-B-0=k by omega,Nat.mul_comm k]
   rw [Nat.mul_add] at e1
   omega
  ·obtain ⟨k,rfl⟩:∃ k,A=B+k:=⟨A-B,by omega⟩
   rw [show B+k-B-0+1=k+1 by omega,Nat.mul_comm (k+1),Nat.mul_add]
   rw [Nat.mul_add] at e1
   omega
theorem bor_next (M N i:Nat):bor M N (i+1)=if dg M i<dg N i+bor M N i then 1 else 0:=by
 have hp:=pow_pos i
 have m1:=Nat.mod_lt M hp
 have m2:=Nat.mod_lt N hp
 unfold bor
 rw [mod_next,mod_next]
 generalize 256^i=p at *
 generalize M%p=m at *
 generalize N%p=n at *
 generalize dg M i=a
 generalize dg N i=b
 rcases Nat.lt_trichotomy a b with h|h|h
 ·obtain ⟨k,rfl⟩:∃ k,b=a+1+k:=⟨b-(a+1),by omega⟩
  rw [if_pos (by rw [Nat.add_mul,Nat.add_mul];omega),if_pos (by omega)]
 ·subst h
  by_cases c:m<n
  ·rw [if_pos (by omega),if_pos c,if_pos (by omega)]
  ·rw [if_neg (by omega),if_neg c,if_neg (by omega)]
 ·obtain ⟨k,rfl⟩:∃ k,a=b+1+k:=⟨a-(b+1),by omega⟩
  rw [if_neg (by rw [Nat.add_mul,Nat.add_mul];omega),if_neg (by split<;>omega)]
theorem sub_digit {M N i:Nat} (h:N≤M):
  (dg M i<dg N i+bor M N i→dg (M-N) i+dg N i+bor M N i=dg M i+256)∧(dg N i+bor M N i≤dg M i→dg (M-N) i+dg N i+bor M N i=dg M i):=by
 obtain ⟨e,hle⟩:=sub_div (i:=i) h
 have hb:=bor_le M N i
 unfold dg
 rw [e]
 generalize M/256^i=A at *
 generalize N/256^i=B at *
 generalize bor M N i=c at *
 omega
theorem add_div (M N i:Nat):(M+N)/256^i=M/256^i+N/256^i+car M N i:=by
 have hp:=pow_pos i
 have e1:=Nat.div_add_mod M (256^i)
 have e2:=Nat.div_add_mod N (256^i)
 unfold car
 generalize 256^i=p at *
 conv=>lhs;rw [← e1,← e2]
 rw [show p*(M/p)+M%p+(p*(N/p)+N%p)=(M%p+N%p)+p*(M/p+N/p) by rw [Nat.mul_add];omega,Nat.add_mul_div_left _ _ hp]
 omega
theorem car_next (M N i:Nat):car M N (i+1)=(dg M i+dg N i+car M N i)/256:=by
 have h1:=add_div M N i
 have h2:=add_div M N (i+1)
 have d1:=div_next M i
 have d2:=div_next N i
 have d3:=div_div (M+N) i
 have l1:=dg_lt M i
 have l2:=dg_lt N i
 omega
theorem add_digit (M N i:Nat):dg (M+N) i=(dg M i+dg N i+car M N i)%256:=by
 have h1:=add_div M N i
 unfold dg
 rw [h1]
 omega
theorem car_le (M N i:Nat):car M N i≤1:=by
 have hp:=pow_pos i
 have m1:=Nat.mod_lt M hp
 have m2:=Nat.mod_lt N hp
 unfold car
 generalize 256^i=p at *
 have:(M%p+N%p)/p<2:=by rw [Nat.div_lt_iff_lt_mul hp];omega
 omega
theorem lt_digit {M N i:Nat} (h:M/256^(i+1)=N/256^(i+1)) (hd:dg M i<dg N i):M<N:=by
 have d1:=div_next M i
 have d2:=div_next N i
 rcases Nat.lt_or_ge M N with c|c
 ·exact c
 ·have:=Nat.div_le_div_right (c:=256^i) c
  omega
end Go.Lg.Dig
namespace Go.Lg.Dig
theorem dg_mod {n i k:Nat} (h:i<k):dg (n%256^k) i=dg n i:=by
 obtain ⟨t,rfl⟩:∃ t,k=i+1+t:=⟨k-(i+1),by omega⟩
 unfold dg
 rw [Nat.pow_add,Nat.pow_succ,Nat.mul_assoc,Nat.mod_mul_right_div_self,Nat.mod_mul_right_mod]
theorem dg_shift (n k i:Nat):dg n (k+i)=dg (n/256^k) i:=by
 unfold dg
 rw [Nat.pow_add,Nat.div_div_eq_div_mul]
theorem top_zero {n k:Nat} (h:n<256^(k+1)) (hd:dg n k=0):n<256^k:=by
 have hp:=pow_pos k
 unfold dg at hd
 rw [Nat.pow_succ] at h
 have:n/256^k<256:=by rw [Nat.div_lt_iff_lt_mul hp];rw [Nat.mul_comm];exact h
 have key:∀ q:Nat,q<256→q%256=0→q=0:=by omega
 exact (Nat.div_eq_zero_iff_lt hp).1 (key _ this hd)
theorem all_zero {n k:Nat}:∀ t,n<256^(k+t)→(∀ j,k≤j→j<k+t→dg n j=0)→n<256^k
 | 0,h,_=>h
 | t+1,h,hz=>all_zero t (top_zero h (hz (k+t) (by omega) (by omega))) fun j h1 h2=>hz j h1 (by omega)
end Go.Lg.Dig
namespace Go.Lg.Dig
open Go Go.Lg
theorem dg_add_mul {T y k x:Nat} (h:x<k):dg (T+y*256^k) x=dg T x:=by
 rw [← dg_mod h,Nat.add_mul_mod_self_right,dg_mod h]
def mix (T S k x:Nat):Nat:=if x<k then dg T x else dg S x
theorem mix_step (s:Bool) {T S k y:Nat} {d:Nat} (hd:d=dg (T+y*256^k) k):
  num s (fun x=>if x=k then d else mix T S k x)=num s (mix (T+y*256^k) S (k+1)):=num_congr fun x _=>by
 unfold mix
 by_cases c:x=k
 ·subst c
  rw [if_pos rfl,if_pos (by omega),hd]
 ·rw [if_neg c]
  by_cases c2:x<k
  ·rw [if_pos c2,if_pos (by omega),dg_add_mul c2]
  ·rw [if_neg c2,if_neg (by omega)]
theorem mix_all (s:Bool) {T S k:Nat} (h:T/256^k=S/256^k):num s (mix T S k)=num s (dg T):=num_congr fun x _=>by
 unfold mix
 by_cases c:x<k
 ·rw [if_pos c]
 ·obtain ⟨y,rfl⟩:∃ y,x=k+y:=⟨x-k,by omega⟩
  rw [if_neg c,dg_shift,dg_shift,h]
theorem mul_step {T S k y c:Nat} (hST:S≤T) (hc:c=T/256^k-S/256^k):
  (dg S k+c+y)%256=dg (T+y*256^k) k∧(dg S k+c+y)/256=(T+y*256^k)/256^(k+1)-S/256^(k+1):=by
 have hp:=pow_pos k
 have h1:(T+y*256^k)/256^k=T/256^k+y:=by rw [Nat.add_mul_div_right _ _ hp]
 have h2:=div_next S k
 have h3:=div_div (T+y*256^k) k
 have hle:S/256^k≤T/256^k:=Nat.div_le_div_right hST
 have h4:dg (T+y*256^k) k=(T+y*256^k)/256^k%256:=rfl
 rw [h4,← h3,h1]
 generalize T/256^k=A at *
 generalize S/256^k=B at *
 generalize S/256^(k+1)=C at *
 generalize dg S k=D at *
 omega
theorem dg_mid {C t i x:Nat} (ht:t<256):dg (C*256^(i+1)+t*256^i) x=if x<i then 0 else if x=i then t else dg C (x-(i+1)):=by
 have hp:=pow_pos i
 have e:C*256^(i+1)+t*256^i=0+(C*256+t)*256^i:=by rw [Nat.pow_succ,Nat.add_mul,Nat.mul_assoc,Nat.mul_comm 256,Nat.zero_add]
 by_cases c:x<i
 ·rw [if_pos c,e,dg_add_mul c,dg_zero]
 ·rw [if_neg c]
  obtain ⟨y,rfl⟩:∃ y,x=i+y:=⟨x-i,by omega⟩
  rw [dg_shift,e,Nat.zero_add,Nat.mul_div_cancel _ hp]
  by_cases c2:i+y=i
  ·have:y=0:=by omega
   subst this
   rw [if_pos c2]
   unfold dg
   rw [Nat.pow_zero,Nat.div_one]
   omega
  ·rw [if_neg c2]
   obtain ⟨z,rfl⟩:∃ z,y=1+z:=⟨y-1,by omega⟩
   rw [dg_shift,show i+(1+z)-(i+1)=z by omega]
   congr 1
   rw [Nat.pow_one]
   omega
end Go.Lg.Dig
namespace Go.Lg.Dig
open Go Go.Lg
theorem num_blt0 {b:Bool} {f:Nat→Nat}:Nat.blt 0 (num b f).length=true:=by rw [num_length];rfl
def shf (R t x:Nat):Nat:=if t<x then dg R (x-1) else dg R x
theorem shf_start (s:Bool) (R:Nat):num s (shf R 39)=num s (dg R):=num_congr fun x hx=>by unfold shf;rw [if_neg (by omega)]
theorem shf_step (s:Bool) (R t:Nat):num s (fun x=>if x=t+1 then dg R t else shf R (t+1) x)=num s (shf R t):=num_congr fun x _=>by
 unfold shf
 by_cases c:x=t+1
 ·subst c
  rw [if_pos rfl,if_pos (by omega),show t+1-1=t by omega]
 ·rw [if_neg c]
  simp only [show (t+1<x↔t<x) by omega]
theorem shf_end (s:Bool) (R d:Nat) (hd:d<256):num s (fun x=>if x=0 then d else shf R 0 x)=num s (dg (R*256+d)):=num_congr fun x _=>by
 unfold shf
 cases x with
 | zero =>
  rw [if_pos rfl]
  unfold dg
  rw [Nat.pow_zero,Nat.div_one]
  omega
 | succ y =>
  rw [if_neg (by omega),if_pos (by omega),Nat.add_comm y 1,dg_shift,show 1+y-1=y by omega,Nat.pow_one,show (R*256+d)/256=R by omega]
theorem mid_step (s:Bool) {C t i:Nat} (ht:t+1<256):num s (fun x=>if x=i then t+1 else dg (C*256^(i+1)+t*256^i) x)=num s (dg (C*256^(i+1)+(t+1)*256^i)):=num_congr fun x _=>by
 rw [dg_mid (by omega),dg_mid ht]
 by_cases c:x=i
 ·rw [if_pos c,if_neg (by omega),if_pos c]
 ·rw [if_neg c]
  by_cases c2:x<i
  ·rw [if_pos c2,if_pos c2]
  ·rw [if_neg c2,if_neg c2,if_neg c,if_neg c]
theorem mid_at {C t i:Nat} (ht:t<256):dg (C*256^(i+1)+t*256^i) i=t:=by rw [dg_mid ht,if_neg (by omega),if_pos rfl]
theorem quo_step {A B i t V:Nat} (hB:0<B) (h:V+t*B=A/256^(i+1)%B*256+dg A i) (hV:V<B):
  A/256^i/B*256^i=A/256^(i+1)/B*256^(i+1)+t*256^i∧A/256^i%B=V:=by
 have e1:=div_next A i
 have e2:=Nat.div_add_mod (A/256^(i+1)) B
 have e3:A/256^i=V+B*(A/256^(i+1)/B*256+t):=by
  rw [e1,Nat.mul_add,Nat.mul_comm B t,← Nat.mul_assoc]
  generalize B*(A/256^(i+1)/B)=x at *
  omega
 constructor
 ·rw [e3,Nat.add_mul_div_left _ _ hB,Nat.div_eq_of_lt hV,Nat.zero_add,Nat.add_mul,Nat.pow_succ,Nat.mul_assoc,Nat.mul_comm 256]
 ·rw [e3,Nat.add_mul_mod_self_left,Nat.mod_eq_of_lt hV]
end Go.Lg.Dig
end
section
set_option maxHeartbeats 12800000
set_option maxRecDepth 100000
namespace Go.Proofs.YtopiioklkkiedaaGreatDoor
open Go Go.Lg Go.Lg.Arith Go.Lg.Dig Go.RowKit
variable (X:Nat→Option Obj)
abbrev LN (b:Bool) (f:Nat→Nat):LV:=.sv (.agg (num b f))
abbrev SN (b:Bool) (f:Nat→Nat):SV:=.agg (num b f)
def two (l h i:Nat) (j:Nat):Nat:=if j<i then dg l j else if 8≤j∧j<8+i then dg h (j-8) else 0
theorem two_dg {l h:Nat} (hl:l<18446744073709551616) (hh:h<18446744073709551616) (j:Nat):two l h 8 j=dg (h*18446744073709551616+l) j:=by
 have e64:18446744073709551616=256^8:=by decide
 unfold two dg
 by_cases h1:j<8
 ·rw [if_pos h1]
  obtain ⟨k,hk⟩:∃ k,8=j+1+k:=⟨7-j,by omega⟩
  have hp:=pow_pos j
  rw [e64,hk,Nat.pow_add,Nat.pow_succ]
  generalize 256^k=q
  generalize 256^j=p at *
  rw [show h*(p*256*q)+l=l+p*(256*(q*h)) by rw [Nat.mul_comm h,Nat.mul_assoc,Nat.mul_assoc,Nat.add_comm],Nat.add_mul_div_left _ _ hp]
  omega
 ·rw [if_neg h1]
  obtain ⟨k,rfl⟩:∃ k,j=8+k:=⟨j-8,by omega⟩
  have e:(h*18446744073709551616+l)/256^(8+k)=h/256^k:=by
   rw [Nat.pow_add,← e64,← Nat.div_div_eq_div_mul]
   congr 1
   omega
  rw [e]
  by_cases h2:8+k<16
  ·rw [if_pos ⟨by omega,by omega⟩,show 8+k-8=k by omega]
  ·rw [if_neg y3]
   have:h<256^k:=Nat.lt_of_lt_of_le hh (by rw [e64];exact Nat.pow_le_pow_right yA y3)
   rw [Nat.div_eq_of_lt this]
theorem From_raw (b:Bool) (h l:Nat) (hh:h<18446744073709551616) (hl:l<18446744073709551616):
  PSpec Tryz.prog X 114 [Li b (h:Nat) (l:Nat)] (LN b (two l h 8)):=by
 refine cC Tryz.func114 rfl y5 rfl y5 ?_
 intro C
 (refine aA<|rgN<|aL O O O dO<|aP O dO ?_;refine aB<|aA<|rgN<|kfa O O ?_;refine kl1 O O O<|aT O O y2 y2 dO ?_;refine aP O dO ?_;refine aM O O O O O O dO ?_;refine aB<|aA<|rgN<|kfa O O ?_;refine kl1 O O O<|kas O<|aB<|aA<|rgN<|kfa O O ?_;refine kl1 O O O<|kas O<|aB<|aA<|aA<|rgN<|kas O<|aB<|aG ?_)
 refine cG (fun m σ=>∃ i:Nat,i≤8∧m=8-i∧σ=⟨[(2,.sv (.one (.ptr 2 0))),(3,.sv (.one (.ptr 3 0))),(4,Ln .u64 ((h/256^i:Nat):Int)),(5,Ln .u64 ((l/256^i:Nat):Int)),(6,Ln .i64 (i:Nat))],[(2,some { elem:=202,cells:=num false (fun _=>0) }),(3,some { elem:=202,cells:=num b (two l h i) })],X⟩) 8
  ⟨_,Le.of (by exact ⟨rfl,rfl,by rw [Nat.pow_zero,Nat.div_one];rfl,by rw [Nat.pow_zero,Nat.div_one];rfl,rfl,trivial⟩) yE y2 y2 y2,0,by omega,rfl,rfl⟩ ?_
 rintro m σ ⟨i,hi,rfl,rfl⟩
 by_cases h8:i<8
 ·have bl:l/256^i≤l:=Nat.div_le_self _ _
  have bh:h/256^i≤h:=Nat.div_le_self _ _
  have el:dg l i=l/256^i%256:=rfl
  have eh:dg h i=h/256^i%256:=rfl
  have nl:=div_div l i
  have nh:=div_div h i
  have step:num b (fun j=>if j=8+i then dg h i else if j=i then dg l i else two l h i j)=num b (two l h (i+1)):=by
   refine num_congr fun j _ => ?_
   unfold two
   by_cases c1:j=i
   ·subst c1
    rw [if_neg (by omega),if_pos rfl,if_pos (by omega)]
   ·by_cases c2:j=8+i
    ·subst c2
     rw [if_pos rfl,if_neg (by omega),if_pos ⟨by omega,by omega⟩,show 8+i-8=i by omega]
    ·rw [if_neg c2,if_neg c1]
     simp only [show (j<i+1↔j<i) by omega,show (8≤j∧j<8+(i+1)↔8≤j∧j<8+i) by omega]
  generalize hu':l/256^(i+1)=u' at *
  generalize hv':h/256^(i+1)=v' at *
  generalize l/256^i=u at *
  generalize h/256^i=v at *
  have wl:IntKind.i64.wrap ((u:Int)%256)=((dg l i:Nat):Int):=by rw [cE y3];omega
  have wh:IntKind.i64.wrap ((v:Int)%256)=((dg h i:Nat):Int):=by rw [cE y3];omega
  have ql:IntKind.u64.wrap ((u:Int).tdiv 256)=(u':Int):=by rw [quo_u64 y3 y3];omega
  have qh:IntKind.u64.wrap ((v:Int).tdiv 256)=(v':Int):=by rw [quo_u64 y3 y3];omega
  (refine aA<|aA<|rgN<|kmv O<|klt O O (cL y3)<|aB<|aE O ?_;refine aH ?_;refine aA<|aG<|aA<|rgN<|kmv O<|kmv O<|K.rem O O y3 (rem_pos y3) dO<|kcv O wl ?_;refine kfa O O ?_;refine K.indexArr O O y3 O dO ?_;refine bG O O O O (num_blt (i:=i) y3) (num_set (i:=i) (d:=dg l i) y3) dO<|aB<|aA<|rgN<|kmv O<|kad O O (cE y3)<|kmv O<|K.rem O O y3 (rem_pos y3) dO<|kcv O wh ?_;refine kfa O O ?_;refine K.indexArr O O y3 O dO ?_;refine bG O O O O (num_blt (i:=8+i) y3) (num_set (i:=8+i) (d:=dg h i) y3) dO<|aB<|aA<|rgN<|kmv O<|K.quo O O y3 ql dO<|kas O<|aB<|rgN<|kmv O<|K.quo O O y3 qh dO<|kas O<|aB<|rgN ?_;refine kmv O<|kad O O (cE y3)<|kas O<|aB ?_)
  exact ⟨_,_,by omega,Le.of (by exact ⟨rfl,rfl,by rw [hv'];rfl,by rw [hu'];rfl,rfl,trivial⟩) (by exact ⟨rfl,by rw [← step];rfl,trivial⟩) y2 y2 y2,i+1,by omega,rfl,rfl⟩
 ·have e:i=8:=by omega
  subst e
  (refine aA<|aA<|rgN<|kmv O<|klt O O (cK y3)<|aB<|aF O ?_;refine aJ<|aA<|rgN<|aK O O O dO ?_;refine aM O O O O O O dO ?_;refine aB<|aI ?_)
  exact yF
end Go.Proofs.YtopiioklkkiedaaGreatDoor
end
section
set_option maxHeartbeats 12800000
set_option maxRecDepth 100000
namespace Go.Proofs.YtopiioklkkiedaaGreatDoor
open Go Go.Lg Go.Lg.Arith Go.Lg.Dig Go.RowKit
variable (X:Nat→Option Obj)
theorem From_spec (b:Bool) (n:Nat) (hn:n<340282366920938463463374607431768211456):PSpec Tryz.prog X 114 [LI b (n:Nat)] (LN b (dg n)):=by
 have h:=From_raw X b (n/18446744073709551616) (n%18446744073709551616) y3 y3
 have e:num b (two (n%18446744073709551616) (n/18446744073709551616) 8)=num b (dg n):=num_congr fun j _=>by
  rw [two_dg (by omega) (by omega),show n/18446744073709551616*18446744073709551616+n%18446744073709551616=n by omega]
 unfold LN at h ⊢
 rw [e] at h
 exact h
abbrev T40:Nat:=256^40
theorem cmp_facts_0 (x y:Int):∃ r,cmpI x y=r∧(x<y→r = -1)∧(x=y→r=0)∧(y<x→r=1):=by
 refine ⟨_,rfl,?_,?_,?_⟩<;>intro h<;>unfold cmpI
 ·rw [if_pos h]
 ·rw [if_neg y3,if_neg y3]
 ·rw [if_neg y3,if_pos h]
theorem Size_spec (a b:Bool) (M N:Nat) (hM:M<T40) (hN:N<T40) (r:Int) (hr:cmpI M N=r):
  PSpec Tryz.prog X 113 [LN a (dg M),LN b (dg N)] (Ln .i64 r):=by
 refine cC Tryz.func113 rfl y5 rfl rfl ?_
 intro C
 (refine aA<|rgN<|aL O O O dO<|aL O O O dO<|kas O<|aB<|aA<|aA<|rgN<|kas O<|aB<|aG ?_)
 refine cG (fun m σ=>∃ z:Int,m≤40∧z=(m:Int)-1∧M/256^m=N/256^m∧σ=⟨[(2,.sv (.one (.ptr 2 0))),(3,.sv (.one (.ptr 3 0))),(5,Ln .i64 z)],[(2,some { elem:=202,cells:=num a (dg M) }),(3,some { elem:=202,cells:=num b (dg N) })],X⟩) 40
  ⟨_,Le.of y9 yE y2 y2 y2,39,by omega,rfl,by rw [Nat.div_eq_of_lt hM,Nat.div_eq_of_lt hN],rfl⟩ ?_
 rintro m σ ⟨z,hm,rfl,hq,rfl⟩
 cases m with
 | zero =>
  have e:M=N:=by simpa using hq
  have hr':r=0:=by rw [← hr,e];unfold cmpI;rw [if_neg y3,if_neg y3]
  (refine aA<|aA<|rgN<|kmv O<|bD O O (cK y3) dO<|aB<|aF O ?_;refine aJ<|aA<|rgN<|kas O<|aB<|aI ?_)
  exact ⟨[_],⟨rfl,trivial⟩,by rw [hr'];rfl⟩
 | succ i =>
  rw [show (((i+1:Nat):Int)-1)=(i:Int) by omega]
  have hi:i<40:=by omega
  rcases Nat.lt_trichotomy (dg M i) (dg N i) with h|h|h
  ·have hlt:=lt_digit hq h
   have hr':r = -1:=by rw [← hr];unfold cmpI;rw [if_pos y3]
   (refine aA<|aA<|rgN<|kmv O<|bD O O (cL y3) dO<|aB<|aE O ?_;refine aH ?_;refine aA<|aG<|aA<|aA<|rgD mixed<|kmv O<|kfa O O ?_;refine K.indexArr O O y3 O dO ?_;refine kl1 O O (num_at (i:=i) hi)<|kmv O<|kfa O O ?_;refine K.indexArr O O y3 O dO ?_;refine kl1 O O (num_at (i:=i) hi)<|aS O O (cK y3) dO<|aB<|rgA ?_;refine aF O ?_;refine aH ?_;refine aA<|rgD mixed<|kmv O<|kfa O O ?_;refine K.indexArr O O y3 O dO ?_;refine kl1 O O (num_at (i:=i) hi)<|kmv O<|kfa O O ?_;refine K.indexArr O O y3 O dO ?_;refine kl1 O O (num_at (i:=i) hi)<|klt O O (cL y3)<|aB<|rgA ?_;refine aE O ?_;refine aA<|rgN<|kas O<|aB<|aI ?_)
   exact ⟨[_],⟨rfl,trivial⟩,by rw [hr'];rfl⟩
  ·have hq':M/256^i=N/256^i:=by rw [div_next M i,div_next N i,hq,h]
   (refine aA<|aA<|rgN<|kmv O<|bD O O (cL y3) dO<|aB<|aE O ?_;refine aH ?_;refine aA<|aG<|aA<|aA<|rgD mixed<|kmv O<|kfa O O ?_;refine K.indexArr O O y3 O dO ?_;refine kl1 O O (num_at (i:=i) hi)<|kmv O<|kfa O O ?_;refine K.indexArr O O y3 O dO ?_;refine kl1 O O (num_at (i:=i) hi)<|aS O O (cK y3) dO<|aB<|rgA ?_;refine aF O ?_;refine aH ?_;refine aA<|rgD mixed<|kmv O<|kfa O O ?_;refine K.indexArr O O y3 O dO ?_;refine kl1 O O (num_at (i:=i) hi)<|kmv O<|kfa O O ?_;refine K.indexArr O O y3 O dO ?_;refine kl1 O O (num_at (i:=i) hi)<|klt O O (cK y3)<|aB<|rgA ?_;refine aF O ?_;refine aH ?_;refine rgN<|kmv O<|bA O O (cE y3) dO<|kas O<|aB ?_)
   exact ⟨i,_,by omega,Le.of y9 yE y2 y2 y2,_,by omega,O,hq',O⟩
  ·have hlt:=lt_digit hq.symm h
   have hr':r=1:=by rw [← hr];unfold cmpI;rw [if_neg y3,if_pos y3]
   (refine aA<|aA<|rgN<|kmv O<|bD O O (cL y3) dO<|aB<|aE O ?_;refine aH ?_;refine aA<|aG<|aA<|aA<|rgD mixed<|kmv O<|kfa O O ?_;refine K.indexArr O O y3 O dO ?_;refine kl1 O O (num_at (i:=i) hi)<|kmv O<|kfa O O ?_;refine K.indexArr O O y3 O dO ?_;refine kl1 O O (num_at (i:=i) hi)<|aS O O (cL y3) dO<|aB<|rgA ?_;refine aE O ?_;refine aA<|rgN<|kas O<|aB<|aI ?_)
   exact ⟨[_],⟨rfl,trivial⟩,by rw [hr'];rfl⟩
def low (n i j:Nat):Nat:=if j<i then dg n j else 0
theorem low_step (b:Bool) (n i:Nat):num b (fun j=>if j=i then dg n i else low n i j)=num b (low n (i+1)):=num_congr fun j _=>by
 unfold low
 by_cases c:j=i
 ·subst c;rw [if_pos rfl,if_pos y3]
 ·rw [if_neg c]
  simp only [show (j<i+1↔j<i) by omega]
theorem low_all (b:Bool) (n:Nat):num b (low n 40)=num b (dg n):=num_congr fun j hj=>by unfold low;rw [if_pos hj]
theorem less_spec (a b:Bool) (M N:Nat) (hMN:N≤M):PSpec Tryz.prog X 226 [LN a (dg M),LN b (dg N)] (LN a (dg (M-N))):=by
 refine cC Tryz.func226 rfl y5 rfl rfl ?_
 intro C
 (refine aA<|rgN<|aL O O O dO<|aL O O O dO<|aP O dO ?_;refine aB<|aA<|rgN<|kfa O O ?_;refine kl1 O O O<|aT O O y2 y2 dO ?_;refine aP O dO ?_;refine aM O O O O O O dO ?_;refine aB<|aA<|rgN<|kas O<|aB<|aA<|aA<|rgN<|kas O<|aB<|aG ?_)
 refine cG (fun m σ=>∃ i:Nat,i≤40∧m=40-i∧σ=⟨[(2,.sv (.one (.ptr 2 0))),(3,.sv (.one (.ptr 3 0))),(4,.sv (.one (.ptr 4 0))),(5,.sv (.one (.ptr 5 0))),(6,Ln .i64 (bor M N i:Nat)),(7,Ln .i64 (i:Nat))],[(2,some { elem:=202,cells:=num a (dg M) }),(3,some { elem:=202,cells:=num b (dg N) }),(4,some { elem:=202,cells:=num false (fun _=>0) }),(5,some { elem:=202,cells:=num a (low (M-N) i) })],X⟩) 40
  ⟨_,Le.of (by exact ⟨rfl,rfl,rfl,rfl,by rw [show bor M N 0=0 by unfold bor;rw [Nat.pow_zero,Nat.mod_one,Nat.mod_one,if_neg y3]];rfl,rfl,trivial⟩) y8 y2 y2 y2,0,by omega,rfl,rfl⟩ ?_
 rintro m σ ⟨i,hi,rfl,rfl⟩
 by_cases h40:i<40
 ·obtain ⟨s1,s2⟩:=sub_digit (i:=i) hMN
  have hb:=bor_le M N i
  have hn:=bor_next M N i
  have l1:=dg_lt M i
  have l2:=dg_lt N i
  by_cases c:dg M i<dg N i+bor M N i
  ·have s:=s1 c
   rw [if_pos c] at hn
   have w:∀ k:Int,k=(dg M i:Int)-dg N i-bor M N i→IntKind.i64.wrap (k+256)=((dg (M-N) i:Nat):Int):=fun k hk=>by rw [cE y3];omega
   (refine aA<|aA<|rgN<|kmv O<|klt O O (cL y3)<|aB<|aE O ?_;refine aH ?_;refine aA<|aG<|aA<|rgD mixed<|kmv O<|kfa O O ?_;refine K.indexArr O O y3 O dO ?_;refine kl1 O O (num_at (i:=i) h40)<|kmv O<|kfa O O ?_;refine K.indexArr O O y3 O dO ?_;refine kl1 O O (num_at (i:=i) h40)<|bA O O (cE y3) dO<|kmv O<|bA O O (cE y3) dO<|kas O<|aB<|rgA ?_;refine aA<|rgN<|kas O<|aB<|aA<|aA<|rgN<|kmv O<|klt O O (cL y3)<|aB<|aE O ?_;refine aA<|rgN<|kmv O<|kad O O (w _ O)<|kas O<|aB<|rgN<|kas O<|aB<|rgN<|kmv O<|kmv O<|kfa O O ?_;refine K.indexArr O O y3 O dO ?_;refine bG O O O O (num_blt (i:=i) h40) ((num_set (i:=i) h40).trans (low_step a (M-N) i)) dO<|aB<|rgN<|kmv O<|kad O O (cE y3)<|kas O<|aB ?_)
   exact ⟨_,_,by omega,Le.of (by exact ⟨rfl,rfl,rfl,rfl,by rw [hn];rfl,rfl,trivial⟩) y8 y2 y2 y2,i+1,by omega,rfl,rfl⟩
  ·have s:=s2 y3
   rw [if_neg c] at hn
   have w:IntKind.i64.wrap (((dg M i:Nat):Int)-(dg N i:Nat)-(bor M N i:Nat))=((dg (M-N) i:Nat):Int):=by rw [cE y3];omega
   (refine aA<|aA<|rgN<|kmv O<|klt O O (cL y3)<|aB<|aE O ?_;refine aH ?_;refine aA<|aG<|aA<|rgD mixed<|kmv O<|kfa O O ?_;refine K.indexArr O O y3 O dO ?_;refine kl1 O O (num_at (i:=i) h40)<|kmv O<|kfa O O ?_;refine K.indexArr O O y3 O dO ?_;refine kl1 O O (num_at (i:=i) h40)<|bA O O (cE y3) dO<|kmv O<|bA O O w dO<|kas O<|aB<|rgA ?_;refine aA<|rgN<|kas O<|aB<|aA<|aA<|rgN<|kmv O<|klt O O (cK y3)<|aB<|aF O ?_;refine aH ?_;refine rgN<|kmv O<|kmv O<|kfa O O ?_;refine K.indexArr O O y3 O dO ?_;refine bG O O O O (num_blt (i:=i) h40) ((num_set (i:=i) h40).trans (low_step a (M-N) i)) dO<|aB<|rgN<|kmv O<|kad O O (cE y3)<|kas O<|aB ?_)
   exact ⟨_,_,by omega,Le.of (by exact ⟨rfl,rfl,rfl,rfl,by rw [hn];rfl,rfl,trivial⟩) y8 y2 y2 y2,i+1,by omega,rfl,rfl⟩
 ·have e:i=40:=by omega
  subst e
  (refine aA<|aA<|rgN<|kmv O<|klt O O (cK y3)<|aB<|aF O ?_;refine aJ<|aA<|rgN<|aK O O O dO ?_;refine aM O O O O O O dO ?_;refine aB<|aI ?_)
  exact ⟨[_],⟨⟨_,_,rfl,rfl,rfl,.inl ⟨AggT.h,rfl⟩⟩,trivial⟩,by unfold LN;rw [← low_all];rfl⟩
end Go.Proofs.YtopiioklkkiedaaGreatDoor
end
section
set_option maxHeartbeats 12800000
set_option maxRecDepth 100000
namespace Go.Proofs.YtopiioklkkiedaaGreatDoor
open Go Go.Lg Go.Lg.Arith Go.Lg.Dig Go.RowKit
variable (X:Nat→Option Obj)
theorem Sum_more (a b:Bool) (hab:(a != b)=true) (M N:Nat) (hM:M<T40) (hN:N<T40) (h:N≤M):PSpec Tryz.prog X 200 [LN a (dg M),LN b (dg N)] (LN a (dg (M-N))):=by
 obtain ⟨r,hr,c1,c2,c3⟩:=cmp_facts_0 M N
 have hS:=Size_spec X a b M N hM hN r hr
 refine cC Tryz.func200 rfl y5 rfl rfl ?_
 intro C
 (refine aA<|rgN<|aL O O O dO<|aL O O O dO<|aP O dO ?_;refine aB<|aA<|aA<|rgN<|kfa O O ?_;refine kl1 O O O<|kfa O O ?_;refine kl1 O O O<|K.neqB O O hab dO<|aB<|aE O ?_;refine aA<|aA<|rgN<|aK O O O dO ?_;refine aK O O O dO ?_;refine kca O O (hS)<|bD O O (cL y3) dO<|aB<|aE O ?_;refine aA<|rgN<|aK O O O dO ?_;refine aK O O O dO ?_;refine kca O O (less_spec _ a b M N h)<|aM O O O O O O dO ?_;refine aB<|aI ?_)
 exact yF
theorem Sum_less (a b:Bool) (hab:(a != b)=true) (M N:Nat) (hM:M<T40) (hN:N<T40) (h:M<N):PSpec Tryz.prog X 200 [LN a (dg M),LN b (dg N)] (LN b (dg (N-M))):=by
 obtain ⟨r,hr,c1,c2,c3⟩:=cmp_facts_0 M N
 have hS:=Size_spec X a b M N hM hN r hr
 refine cC Tryz.func200 rfl y5 rfl rfl ?_
 intro C
 (refine aA<|rgN<|aL O O O dO<|aL O O O dO<|aP O dO ?_;refine aB<|aA<|aA<|rgN<|kfa O O ?_;refine kl1 O O O<|kfa O O ?_;refine kl1 O O O<|K.neqB O O hab dO<|aB<|aE O ?_;refine aA<|aA<|rgN<|aK O O O dO ?_;refine aK O O O dO ?_;refine kca O O (hS)<|bD O O (cK y3) dO<|aB<|aF O ?_;refine aH ?_;refine aA<|rgN<|aK O O O dO ?_;refine aK O O O dO ?_;refine kca O O (less_spec _ b a N M y3)<|aM O O O O O O dO ?_;refine aB<|aI ?_)
 exact yF
theorem Sum_same (a b:Bool) (hab:(a != b)=false) (M N:Nat):PSpec Tryz.prog X 200 [LN a (dg M),LN b (dg N)] (LN a (dg (M+N))):=by
 refine cC Tryz.func200 rfl y5 rfl rfl ?_
 intro C
 (refine aA<|rgN<|aL O O O dO<|aL O O O dO<|aP O dO ?_;refine aB<|aA<|aA<|rgN<|kfa O O ?_;refine kl1 O O O<|kfa O O ?_;refine kl1 O O O<|K.neqB O O hab dO<|aB<|aF O ?_;refine aH ?_;refine aA<|rgN<|kfa O O ?_;refine kl1 O O O<|aT O O y2 y2 dO ?_;refine aP O dO ?_;refine aM O O O O O O dO ?_;refine aB<|aA<|rgN<|kas O<|aB<|aA<|aA<|rgN<|kas O<|aB<|aG ?_)
 refine cG (fun m σ=>∃ i:Nat,i≤40∧m=40-i∧σ=⟨[(2,.sv (.one (.ptr 2 0))),(3,.sv (.one (.ptr 3 0))),(4,.sv (.one (.ptr 4 0))),(5,.sv (.one (.ptr 5 0))),(6,Ln .i64 (car M N i:Nat)),(7,Ln .i64 (i:Nat))],[(2,some { elem:=202,cells:=num a (dg M) }),(3,some { elem:=202,cells:=num b (dg N) }),(4,some { elem:=202,cells:=num false (fun _=>0) }),(5,some { elem:=202,cells:=num a (low (M+N) i) })],X⟩) 40
  ⟨_,Le.of (by exact ⟨rfl,rfl,rfl,rfl,by rw [show car M N 0=0 by unfold car;rw [Nat.pow_zero,Nat.mod_one,Nat.mod_one]];rfl,rfl,trivial⟩) y8 y2 y2 y2,0,by omega,rfl,rfl⟩ ?_
 rintro m σ ⟨i,hi,rfl,rfl⟩
 by_cases h40:i<40
 ·have s:=add_digit M N i
  have hb:=car_le M N i
  have hn:=car_next M N i
  have l1:=dg_lt M i
  have l2:=dg_lt N i
  have w1:(((dg M i:Nat):Int)+(dg N i:Nat)+(car M N i:Nat)).tmod 256=((dg (M+N) i:Nat):Int):=by rw [rem_pos y3];omega
  have w2:IntKind.i64.wrap ((((dg M i:Nat):Int)+(dg N i:Nat)+(car M N i:Nat)).tdiv 256)=((car M N (i+1):Nat):Int):=by rw [quo_i64 y3 y3];omega
  (refine aA<|aA<|rgN<|kmv O<|klt O O (cL y3)<|aB<|aE O ?_;refine aH ?_;refine aA<|aG<|aA<|rgD mixed<|kmv O<|kfa O O ?_;refine K.indexArr O O y3 O dO ?_;refine kl1 O O (num_at (i:=i) h40)<|kmv O<|kfa O O ?_;refine K.indexArr O O y3 O dO ?_;refine kl1 O O (num_at (i:=i) h40)<|kad O O (cE y3)<|kmv O<|kad O O (cE y3)<|kas O<|aB<|rgA ?_;refine aA<|rgN<|kmv O<|kmv O<|K.rem O O y3 w1 dO<|kfa O O ?_;refine K.indexArr O O y3 O dO ?_;refine bG O O O O (num_blt (i:=i) h40) ((num_set (i:=i) h40).trans (low_step a (M+N) i)) dO<|aB<|rgN<|kmv O<|K.quo O O y3 w2 dO<|kas O<|aB<|rgN<|kmv O<|kad O O (cE y3)<|kas O<|aB ?_)
  exact ⟨_,_,by omega,Le.of y11 y8 y2 y2 y2,i+1,by omega,O,O⟩
 ·have e:i=40:=by omega
  subst e
  (refine aA<|aA<|rgN<|kmv O<|klt O O (cK y3)<|aB<|aF O ?_;refine aJ<|aA<|rgN<|aK O O O dO ?_;refine aM O O O O O O dO ?_;refine aB<|aI ?_)
  exact ⟨[_],⟨⟨_,_,rfl,rfl,rfl,.inl ⟨AggT.h,rfl⟩⟩,trivial⟩,by unfold LN;rw [← low_all];rfl⟩
end Go.Proofs.YtopiioklkkiedaaGreatDoor
end
section
set_option maxHeartbeats 12800000
set_option maxRecDepth 100000
namespace Go.Proofs.YtopiioklkkiedaaGreatDoor
open Go Go.Lg Go.Lg.Arith Go.Lg.Dig Go.RowKit
variable (X:Nat→Option Obj)
theorem Good_spec (b:Bool) (N:Int) (hN:In2 N) (r:Bool) (hr:formB b N=r):PSpec Tryz.prog X 75 [LI b N] (Lb r):=by
 obtain ⟨h0,h1⟩:=hN
 refine cC Tryz.func75 rfl y5 rfl rfl ?_
 intro C
 by_cases ha:N<170141183460469231731687303715884105728
 ·cases b with
  | false =>
   have e:r=true:=by rw [← hr];simp [formB,ha]
   (refine aA<|rgN<|aL O O O dO<|kas O<|aB<|aA<|rgN<|kfa O O ?_;refine kl1 O O O<|klt O O (cL y3)<|kmv O<|aN O O (dP O O) ?_;refine aO O O O (dP O O) ?_;refine gmv O O O<|aC O O O<|aC O O O<|aC O O O<|bO O O (dP O O) ?_;refine gmv O O O<|aC O O O<|aC O O O<|aC O O O<|bO O O (dP O O) ?_;refine aV O O (dP O O) ?_;refine kpt O O<|kas O<|aB<|aI ?_)
   exact ⟨[_],⟨rfl,trivial⟩,by rw [e];rfl⟩
  | true =>
   by_cases hh:N/18446744073709551616=0
   ·by_cases hl:N%18446744073709551616=0
    ·have e:r=false:=by rw [← hr];unfold formB;rw [show (N==0)=true from cR y3];simp
     (refine aA<|rgN<|aL O O O dO<|kas O<|aB<|aA<|rgN<|kfa O O ?_;refine kl1 O O O<|klt O O (cL y3)<|kmv O<|aN O O (dP O O) ?_;refine aO O O O (dP O O) ?_;refine gmv O O O<|aN O O (dP O O) ?_;refine aO O O O (dP O O) ?_;refine bC O O (cR y3) (dP O O) ?_;refine bF O O (dP O O) ?_;refine gmv O O O<|aN O O (dP O O) ?_;refine aO O O O (dP O O) ?_;refine bC O O (cR y3) (dP O O) ?_;refine bF O O (dP O O) ?_;refine aV O O (dP O O) ?_;refine kpt O O<|kas O<|aB<|aI ?_)
     exact ⟨[_],⟨rfl,trivial⟩,by rw [e];rfl⟩
    ·have e:r=true:=by rw [← hr];unfold formB;rw [show (N==0)=false from cN y3];simp [ha]
     (refine aA<|rgN<|aL O O O dO<|kas O<|aB<|aA<|rgN<|kfa O O ?_;refine kl1 O O O<|klt O O (cL y3)<|kmv O<|aN O O (dP O O) ?_;refine aO O O O (dP O O) ?_;refine gmv O O O<|aN O O (dP O O) ?_;refine aO O O O (dP O O) ?_;refine bC O O (cR y3) (dP O O) ?_;refine bF O O (dP O O) ?_;refine gmv O O O<|aN O O (dP O O) ?_;refine aO O O O (dP O O) ?_;refine bC O O (cN y3) (dP O O) ?_;refine bF O O (dP O O) ?_;refine aV O O (dP O O) ?_;refine kpt O O<|kas O<|aB<|aI ?_)
     exact ⟨[_],⟨rfl,trivial⟩,by rw [e];rfl⟩
   ·have e:r=true:=by rw [← hr];unfold formB;rw [show (N==0)=false from cN y3];simp [ha]
    (refine aA<|rgN<|aL O O O dO<|kas O<|aB<|aA<|rgN<|kfa O O ?_;refine kl1 O O O<|klt O O (cL y3)<|kmv O<|aN O O (dP O O) ?_;refine aO O O O (dP O O) ?_;refine gmv O O O<|aN O O (dP O O) ?_;refine aO O O O (dP O O) ?_;refine bC O O (cN y3) (dP O O) ?_;refine bF O O (dP O O) ?_;refine gmv O O O<|aC O O O<|aC O O O<|aC O O O<|bO O O (dP O O) ?_;refine aV O O (dP O O) ?_;refine kpt O O<|kas O<|aB<|aI ?_)
    exact ⟨[_],⟨rfl,trivial⟩,by rw [e];rfl⟩
 ·have e:r=false:=by rw [← hr];simp [formB,ha]
  (refine aA<|rgN<|aL O O O dO<|kas O<|aB<|aA<|rgN<|kfa O O ?_;refine kl1 O O O<|klt O O (cK y3)<|kmv O<|aC O O O<|aC O O O<|aC O O O<|aD O O<|aD O O<|aD O O<|aC O O O<|aC O O O<|aD O O<|aD O O<|aD O O ?_;refine aC O O O<|aC O O O<|kpf O O<|kas O<|aB<|aI ?_)
  exact ⟨[_],⟨rfl,trivial⟩,by rw [e];rfl⟩
theorem mg_nat (x:Int):(((mg x).toNat:Nat):Int)=mg x:=by have:=mg_nonneg x;omega
theorem From_q (x:Int) (hx:R127 x):PSpec Tryz.prog X 114 [LQ x] (LN (decide (x<0)) (dg (mg x).toNat)):=by
 have h:=From_spec X (decide (x<0)) (mg x).toNat (by have:=mg_lim hx;have:=mg_nonneg x;omega)
 rw [mg_nat] at h
 exact h
theorem lim40 {n:Nat} (h:n<340282366920938463463374607431768211456):n<T40:=by
 unfold T40
 rw [pow40]
 omega
theorem RCmp_spec (x y:Int) (hx:R127 x) (hy:R127 y) (r:Int) (hr:cmpI x y=r):PSpec Tryz.prog X 77 [LQ x,LQ y] (Ln .i64 r):=by
 have f1:=From_q X x hx
 have f2:=From_q X y hy
 have n1:=mg_nonneg x
 have n2:=mg_nonneg y
 have m1:=mg_lim hx
 have m2:=mg_lim hy
 obtain ⟨s,hs,c1,c2,c3⟩:=cmp_facts_0 ((mg x).toNat:Nat) ((mg y).toNat:Nat)
 have hS:=Size_spec X (decide (x<0)) (decide (y<0)) (mg x).toNat (mg y).toNat (lim40 y3) (lim40 y3) s hs
 rw [mg_nat,mg_nat] at c1 c2 c3
 refine cC Tryz.func77 rfl y5 rfl rfl ?_
 intro C
 by_cases cx:x<0
 ·by_cases cy:y<0
  ·have hb:(decide (x<0) != decide (y<0))=false:=by rw [cL cx,cL cy];rfl
   have e:r=0-s:=by
    rw [mg_neg cx,mg_neg cy] at c1 c2 c3
    rw [← hr]
    unfold cmpI
    rcases Int.lt_trichotomy x y with h|h|h
    ·rw [if_pos h];omega
    ·rw [if_neg y3,if_neg y3];omega
    ·rw [if_neg y3,if_pos h];omega
   have sb : -1≤s∧s≤1:=by rcases Int.lt_trichotomy (mg x) (mg y) with h|h|h<;>omega
   (refine aA<|rgN<|aL O O O dO<|aL O O O dO<|kas O<|aB<|aA<|aA<|rgN<|kfa O O ?_;refine kl1 O O O<|kfa O O ?_;refine kl1 O O O<|K.neqB O O hb dO<|aB<|aF O ?_;refine aH ?_;refine aA<|rgD mixed<|aK O O O dO ?_;refine kca O O (f1)<|aK O O O dO ?_;refine kca O O (f2)<|kca O O (hS)<|kas O<|aB<|rgA ?_;refine aA<|aA<|rgN<|kfa O O ?_;refine kl1 O O O<|aB<|aE (ev_bool (cL cx)) ?_;refine aA<|rgN<|kmv O<|K.neg O (cE y3) dO<|kas O<|aB<|aI ?_)
   exact ⟨[_],⟨rfl,trivial⟩,by rw [e];rfl⟩
  ·have hb:(decide (x<0) != decide (y<0))=true:=by rw [cL cx,cK cy];rfl
   have e:r = -1:=by rw [← hr];unfold cmpI;rw [if_pos y3]
   (refine aA<|rgN<|aL O O O dO<|aL O O O dO<|kas O<|aB<|aA<|aA<|rgN<|kfa O O ?_;refine kl1 O O O<|kfa O O ?_;refine kl1 O O O<|K.neqB O O hb dO<|aB<|aE O ?_;refine aA<|aA<|rgN<|kfa O O ?_;refine kl1 O O O<|aB<|aE (ev_bool (cL cx)) ?_;refine aA<|rgN<|kas O<|aB<|aI ?_)
   exact ⟨[_],⟨rfl,trivial⟩,by rw [e];rfl⟩
 ·by_cases cy:y<0
  ·have hb:(decide (x<0) != decide (y<0))=true:=by rw [cK cx,cL cy];rfl
   have e:r=1:=by rw [← hr];unfold cmpI;rw [if_neg y3,if_pos y3]
   (refine aA<|rgN<|aL O O O dO<|aL O O O dO<|kas O<|aB<|aA<|aA<|rgN<|kfa O O ?_;refine kl1 O O O<|kfa O O ?_;refine kl1 O O O<|K.neqB O O hb dO<|aB<|aE O ?_;refine aA<|aA<|rgN<|kfa O O ?_;refine kl1 O O O<|aB<|aF (ev_bool (cK cx)) ?_;refine aH ?_;refine aA<|rgN<|kas O<|aB<|aI ?_)
   exact ⟨[_],⟨rfl,trivial⟩,by rw [e];rfl⟩
  ·have hb:(decide (x<0) != decide (y<0))=false:=by rw [cK cx,cK cy];rfl
   have e:r=s:=by
    rw [mg_pos (Int.not_lt.1 cx),mg_pos (Int.not_lt.1 cy)] at c1 c2 c3
    rw [← hr]
    unfold cmpI
    rcases Int.lt_trichotomy x y with h|h|h
    ·rw [if_pos h];omega
    ·rw [if_neg y3,if_neg y3];omega
    ·rw [if_neg y3,if_pos h];omega
   (refine aA<|rgN<|aL O O O dO<|aL O O O dO<|kas O<|aB<|aA<|aA<|rgN<|kfa O O ?_;refine kl1 O O O<|kfa O O ?_;refine kl1 O O O<|K.neqB O O hb dO<|aB<|aF O ?_;refine aH ?_;refine aA<|rgD mixed<|aK O O O dO ?_;refine kca O O (f1)<|aK O O O dO ?_;refine kca O O (f2)<|kca O O (hS)<|kas O<|aB<|rgA ?_;refine aA<|aA<|rgN<|kfa O O ?_;refine kl1 O O O<|aB<|aF (ev_bool (cK cx)) ?_;refine aH ?_;refine aA<|rgN<|kmv O<|kas O<|aB<|aI ?_)
   exact ⟨[_],⟨rfl,trivial⟩,by rw [e];rfl⟩
end Go.Proofs.YtopiioklkkiedaaGreatDoor
end
section
set_option maxHeartbeats 12800000
set_option maxRecDepth 100000
namespace Go.Lg.Fld
open Go Go.Lg
abbrev tabW:List CV:=[.val (.int .i64 0),.val (.int .i64 1),.val (.int .i64 1),.val (.int .i64 2),.val (.int .i64 4),.val (.int .i64 8),.val (.int .i64 1),.val (.int .i64 2),.val (.int .i64 4),.val (.int .i64 8),.val (.int .i64 8)]
abbrev tabB:List CV:=[.val (.int .u64 0),.val (.int .u64 0),.val (.int .u64 128),.val (.int .u64 32768),.val (.int .u64 2147483648),.val (.int .u64 9223372036854775808),.val (.int .u64 0),.val (.int .u64 0),.val (.int .u64 0),.val (.int .u64 0),.val (.int .u64 0)]
abbrev tabA:List CV:=[.val (.int .u64 0),.val (.int .u64 1),.val (.int .u64 127),.val (.int .u64 32767),.val (.int .u64 2147483647),.val (.int .u64 9223372036854775807),.val (.int .u64 255),.val (.int .u64 65535),.val (.int .u64 4294967295),.val (.int .u64 18446744073709551615),.val (.int .u64 18446744073709551615)]
theorem tabW_at {k:Int} (h:kK k=true):tabW[0+k.toNat*1]? = some (.val (.int .i64 (kW k:Nat))):=by
 rcases kin h with rfl|rfl|rfl|rfl|rfl|rfl|rfl|rfl|rfl|rfl<;>rfl
theorem tabB_at {k:Int} (h:kK k=true):tabB[0+k.toNat*1]? = some (.val (.int .u64 (kB k))):=by
 rcases kin h with rfl|rfl|rfl|rfl|rfl|rfl|rfl|rfl|rfl|rfl<;>rfl
theorem tabA_at {k:Int} (h:kK k=true):tabA[0+k.toNat*1]? = some (.val (.int .u64 (kA k))):=by
 rcases kin h with rfl|rfl|rfl|rfl|rfl|rfl|rfl|rfl|rfl|rfl<;>rfl
end Go.Lg.Fld
namespace Go.Proofs.YtopiioklkkiedaaGreatDoor
open Go Go.Lg Go.Lg.Fld
set_option maxRecDepth 100000
variable (X:Nat→Option Obj)
instance:ArrB Tryz.prog 164 (List.replicate 11 (.int .i64 0)) 1:=⟨by kernel_rfl⟩
instance:ArrB Tryz.prog 198 (List.replicate 11 (.int .u64 0)) 1:=⟨by kernel_rfl⟩
theorem refBytes_spec (k:Int):PSpec Tryz.prog X 43 [Ln .i64 k] (Ln .i64 (kW k:Nat)):=by
 refine cC Tryz.func43 rfl y5 rfl rfl ?_
 intro C
 cases hk:kK k with
 | false =>
  rcases knot hk with h|h
  ·rw [kW_no (.inl h)]
   (refine aA<|rgN<|kas O<|aB<|aA<|aA<|rgN<|kmv O<|klt O O (cL y3)<|kmv O<|aC O O O<|aC O O O<|kpt O O<|aB ?_;refine aE O ?_;refine aA<|rgN<|kas O<|aB<|aI ?_)
   exact y6
  ·rw [kW_no (.inr h)]
   (refine aA<|rgN<|kas O<|aB<|aA<|aA<|rgN<|kmv O<|klt O O (cK y3)<|kmv O<|gmv O O O<|aS O O (cL y3) (dP O O) ?_;refine kpf O O<|aB<|aE O ?_;refine aA<|rgN<|kas O<|aB<|aI ?_)
   exact y6
 | true =>
  have hb:=(kK_iff k).1 hk
  (refine aA<|rgN<|kas O<|aB<|aA<|aA<|rgN<|kmv O<|klt O O (cK y3)<|kmv O<|gmv O O O<|aS O O (cK y3) (dP O O) ?_;refine kpf O O<|aB<|aF O ?_;refine aH ?_;refine aA<|rgN<|K.buildArr (cs':=tabW) O O y2 O dO ?_;refine aP O dO ?_;refine aM O O O O O O dO ?_;refine aB<|aA<|rgN<|kmv O<|K.indexArr O O y3 O dO ?_;refine kl1 O O (tabW_at hk)<|kas O<|aB<|aI ?_)
  exact y6
theorem SQ_pos {p:Int} (h:0≤p∧p<18446744073709551616):SQ p = .agg [.val (.bool false),.val (.int .u64 0),.val (.int .u64 p)]:=by
 unfold SQ SI
 rw [mg_pos h.1,cK (by omega),show p/18446744073709551616=0 by omega,show p%18446744073709551616=p by omega]
theorem SQ_neg {p:Int} (h:0<p∧p<18446744073709551616):SQ (-p) = .agg [.val (.bool true),.val (.int .u64 0),.val (.int .u64 p)]:=by
 unfold SQ SI
 rw [mg_neg (by omega),cL (by omega),Int.neg_neg,show p/18446744073709551616=0 by omega,show p%18446744073709551616=p by omega]
theorem SQ_low (k:Int):SQ (-kB k) = .agg [.val (.bool (decide (0<kB k))),.val (.int .u64 0),.val (.int .u64 (kB k))]:=by
 have hb:=kfacts k
 by_cases h:0<kB k
 ·rw [SQ_neg ⟨h,by omega⟩,cL h]
 ·rw [cK h,show -kB k=kB k by omega,SQ_pos ⟨by omega,by omega⟩]
theorem Bounds_spec (k:Int):PSpec Tryz.prog X 76 [Ln .i64 k] (.tup [SQ (-kB k),SQ (kA k)]):=by
 have hf:=kfacts k
 rw [SQ_low k,SQ_pos ⟨hf.2.2.1,hf.2.2.2.1⟩]
 refine cC Tryz.func76 rfl y5 rfl rfl ?_
 intro C
 cases hk:kK k with
 | false =>
  rw [kB_no (knot hk),kA_no (knot hk)]
  rcases knot hk with h|h
  ·(refine aA<|rgN<|aP O dO ?_;refine aP O dO ?_;refine aB<|aA<|aA<|rgN<|kmv O<|klt O O (cL y3)<|kmv O<|aC O O O<|aC O O O<|kpt O O<|aB<|aE O ?_;refine aA<|rgN<|aT O O y2 y28 dO ?_;refine aT O O y2 y28 dO ?_;refine aM O O O O O O dO ?_;refine aM O O O O O O dO ?_;refine aB<|aI ?_)
   exact y1A
  ·(refine aA<|rgN<|aP O dO ?_;refine aP O dO ?_;refine aB<|aA<|aA<|rgN<|kmv O<|klt O O (cK y3)<|kmv O<|gmv O O O<|aS O O (cL y3) (dP O O) ?_;refine kpf O O<|aB<|aE O ?_;refine aA<|rgN<|aT O O y2 y28 dO ?_;refine aT O O y2 y28 dO ?_;refine aM O O O O O O dO ?_;refine aM O O O O O O dO ?_;refine aB<|aI ?_)
   exact y1A
 | true =>
  have hb:=(kK_iff k).1 hk
  (refine aA<|rgN<|aP O dO ?_;refine aP O dO ?_;refine aB<|aA<|aA<|rgN<|kmv O<|klt O O (cK y3)<|kmv O<|gmv O O O<|aS O O (cK y3) (dP O O) ?_;refine kpf O O<|aB<|aF O ?_;refine aH ?_;refine aA<|rgN<|K.buildArr (cs':=tabB) O O y2 O dO ?_;refine aP O dO ?_;refine aM O O O O O O dO ?_;refine aB<|aA<|rgN<|K.buildArr (cs':=tabA) O O y2 O dO ?_;refine aP O dO ?_;refine aM O O O O O O dO ?_;refine aB<|aA<|rgD mixed<|kmv O<|K.indexArr O O y3 O dO ?_;refine kl1 O O (tabB_at hk)<|aS O O O dO<|kmv O<|K.indexArr O O y3 O dO ?_;refine kl1 O O (tabB_at hk)<|aT O O y2 y28 dO ?_;refine kmv O<|K.indexArr O O y3 O dO ?_;refine kl1 O O (tabA_at hk)<|aT O O y2 y28 dO ?_;refine aM O O O O O O dO ?_;refine aM O O O O O O dO ?_;refine aB<|rgA ?_;refine aI ?_)
  exact y1A
theorem cmp_le (x y:Int) (h:x≤y):∃ r,cmpI x y=r∧r≤0:=⟨_,rfl,by unfold cmpI;rw [if_neg (Int.not_lt.2 h)];split<;>decide⟩
theorem cmp_ge (x y:Int) (h:y≤x):∃ r,cmpI x y=r∧0≤r:=⟨_,rfl,by unfold cmpI;rw [if_neg (Int.not_lt.2 h)];split<;>decide⟩
theorem cmp_lt (x y:Int) (h:x<y):cmpI x y = -1:=by unfold cmpI;rw [if_pos h]
theorem cmp_gt (x y:Int) (h:y<x):cmpI x y=1:=by unfold cmpI;rw [if_neg (Int.not_lt.2 (Int.le_of_lt h)),if_pos h]
theorem refFits_spec (k:Int) (b:Bool) (N:Int) (hN:In2 N) (r:Bool) (hr:fitB k b N=r):PSpec Tryz.prog X 40 [Ln .i64 k,LI b N] (Lb r):=by
 subst hr
 have hB:=refBytes_spec X k
 have hBd:=Bounds_spec X k
 have hG:=Good_spec X b N hN _ rfl
 unfold fitB
 refine cC Tryz.func40 rfl y5 rfl rfl ?_
 intro C
 cases hk:kK k with
 | false =>
  rw [kW_no (knot hk)] at hB
  (refine aA<|rgN<|aL O O O dO<|kas O<|aB<|aA<|aA<|rgN<|kmv O<|kca O O (hB)<|keq O O (cR y3)<|kmv O<|aC O O O<|aC O O O ?_;refine aC O O O<|kpt O O<|aB<|aE O ?_;refine aA<|rgN<|kas O<|aB<|aI ?_)
  exact y6
 | true =>
  have hk0:kW k≠0:=fun e=>by rw [kW_zero] at e;rw [hk] at e;cases e
  cases hf:formB b N with
  | false =>
   rw [hf] at hG
   (refine aA<|rgN<|aL O O O dO<|kas O<|aB<|aA<|aA<|rgN<|kmv O<|kca O O (hB)<|keq O O (cN y3)<|kmv O<|aK O O O (dP O O) ?_;refine gca O O (hG) O O<|aV O O (dP O O) ?_;refine kpf O O<|aB<|aE O ?_;refine aA<|rgN<|kas O<|aB<|aI ?_)
   exact y6
  | true =>
   rw [hf] at hG
   have hR:=(zv_in hN hf).1
   rw [LI_q hN hf] at hG ⊢
   generalize zv b N=x at *
   have c1:=RCmp_spec X x (-kB k) hR (kBn_R k)
   have c2:=RCmp_spec X x (kA k) hR (kA_R k)
   by_cases h1 : -kB k≤x
   ·obtain ⟨r,hr,hr0⟩:=cmp_ge x (-kB k) h1
    have c1':=c1 r hr
    by_cases h2:x≤kA k
    ·obtain ⟨s,hs,hs0⟩:=cmp_le x (kA k) h2
     have c2':=c2 s hs
     rw [(fitZ_iff k x).2 ⟨h1,h2⟩]
     (refine aA<|rgN<|aL O O O dO<|kas O<|aB<|aA<|aA<|rgN<|kmv O<|kca O O (hB)<|keq O O (cN y3)<|kmv O<|aK O O O (dP O O) ?_;refine gca O O (hG) O O<|aV O O (dP O O) ?_;refine kpf O O<|aB<|aF O ?_;refine aH ?_;refine aA<|rgN<|kmv O<|kca O O (hBd)<|kmv O<|kex O O<|kex O O<|aP O dO ?_;refine aP O dO ?_;refine aM O O O O O O dO ?_;refine aM O O O O O O dO ?_;refine aB<|aA<|rgN<|aK O O O dO ?_;refine aK O O O dO ?_;refine kca O O c1'<|bD O O (cL y3) dO<|kmv O<|aK O O O (dP O O) ?_;refine aK O O O (dP O O) ?_;refine gca O O c2' O O<|K.leq O O (cL y3) (dP O O) ?_;refine kpt O O<|kas O<|aB<|aI ?_)
     exact y6
    ·have c2':=c2 1 (cmp_gt x (kA k) y3)
     rw [show fitZ k x=false by rw [fitZ,cK h2,Bool.and_false]]
     (refine aA<|rgN<|aL O O O dO<|kas O<|aB<|aA<|aA<|rgN<|kmv O<|kca O O (hB)<|keq O O (cN y3)<|kmv O<|aK O O O (dP O O) ?_;refine gca O O (hG) O O<|aV O O (dP O O) ?_;refine kpf O O<|aB<|aF O ?_;refine aH ?_;refine aA<|rgN<|kmv O<|kca O O (hBd)<|kmv O<|kex O O<|kex O O<|aP O dO ?_;refine aP O dO ?_;refine aM O O O O O O dO ?_;refine aM O O O O O O dO ?_;refine aB<|aA<|rgN<|aK O O O dO ?_;refine aK O O O dO ?_;refine kca O O c1'<|bD O O (cL y3) dO<|kmv O<|aK O O O (dP O O) ?_;refine aK O O O (dP O O) ?_;refine gca O O c2' O O<|K.leq O O (cK y3) (dP O O) ?_;refine kpt O O<|kas O<|aB<|aI ?_)
     exact y6
   ·have c1':=c1 (-1) (cmp_lt x (-kB k) y3)
    rw [show fitZ k x=false by rw [fitZ,cK h1,Bool.false_and]]
    (refine aA<|rgN<|aL O O O dO<|kas O<|aB<|aA<|aA<|rgN<|kmv O<|kca O O (hB)<|keq O O (cN y3)<|kmv O<|aK O O O (dP O O) ?_;refine gca O O (hG) O O<|aV O O (dP O O) ?_;refine kpf O O<|aB<|aF O ?_;refine aH ?_;refine aA<|rgN<|kmv O<|kca O O (hBd)<|kmv O<|kex O O<|kex O O<|aP O dO ?_;refine aP O dO ?_;refine aM O O O O O O dO ?_;refine aM O O O O O O dO ?_;refine aB<|aA<|rgN<|aK O O O dO ?_;refine aK O O O dO ?_;refine kca O O c1'<|bD O O (cK y3) dO<|kmv O<|aC O O O<|aC O O O<|aC O O O<|aC O O O<|kpf O O<|kas O<|aB<|aI ?_)
    exact y6
end Go.Proofs.YtopiioklkkiedaaGreatDoor
end
section
set_option maxHeartbeats 12800000
set_option maxRecDepth 100000
namespace Go.Lg.Fld
open Go Go.Lg
theorem leB_mod:∀ (w n m:Nat),n%256^w=m%256^w→leB w n=leB w m
 | 0,_,_,_=>rfl
 | w+1,n,m,h=>by
  rw [Nat.pow_succ,Nat.mul_comm] at h
  have h1:n%256=m%256:=by
   rw [← Nat.mod_mul_right_mod n 256 (256^w),h,Nat.mod_mul_right_mod]
  have h2:n/256%256^w=m/256%256^w:=by
   rw [← Nat.mod_mul_right_div_self,h,Nat.mod_mul_right_div_self]
  show UInt8.ofNat (n%256)::leB w (n/256)=UInt8.ofNat (m%256)::leB w (m/256)
  rw [h1,leB_mod w _ _ h2]
def w64 (x:Int):Nat:=(x%18446744073709551616).toNat
theorem leB_w64 {k x:Int} (h:kK k=true) (hx:fitZ k x=true):leB (kW k) (w64 x)=leB (kW k) (wdK k x):=by
 refine leB_mod _ _ _ ?_
 have h1:=kM_facts h
 have hf:=kfacts k
 have hx2:=(fitZ_iff k x).1 hx
 have e:(w64 x:Int)%(kM k:Int)=(wdK k x:Int)%(kM k:Int):=by
  unfold w64 wdK
  rw [Int.toNat_of_nonneg (Int.emod_nonneg x (by decide)),Int.toNat_of_nonneg (Int.emod_nonneg x (by omega)),Int.emod_emod]
  refine Int.emod_emod_of_dvd x ?_
  unfold kM
  rcases kW_in h with e|e|e|e<;>rw [e]<;>decide
 have e2:w64 x%kM k=wdK k x%kM k:=by omega
 exact e2
end Go.Lg.Fld
namespace Go.Proofs.YtopiioklkkiedaaGreatDoor
open Go Go.Lg Go.Lg.Fld
set_option maxRecDepth 100000
variable (X:Nat→Option Obj)
set_option maxHeartbeats 1600000 in
theorem refPut_spec (k x:Int) (hk:kK k=true) (hx:fitZ k x=true):PSpec Tryz.prog X 45 [Ln .i64 k,LQ x] (Ls (leB (kW k) (wdK k x))):=by
 have hB:=refBytes_spec X k
 have hf:=kfacts k
 have hx2:=(fitZ_iff k x).1 hx
 rw [← leB_w64 hk hx]
 have hn:w64 x<18446744073709551616:=by unfold w64;omega
 refine cC Tryz.func45 rfl y5 rfl rfl ?_
 intro C
 have hcut:∀ n:Nat,n=w64 x→(x<0→(n:Int)=x+18446744073709551616)∧(0≤x→(n:Int)=x):=fun n e=>by
  subst e;unfold w64;exact ⟨fun h=>by omega,fun h=>by omega⟩
 obtain ⟨g1,g2⟩:=hcut _ rfl
 generalize w64 x=n at *
 obtain ⟨w,hw,hw8⟩:∃ w,kW k=w∧w≤8:=⟨_,rfl,hf.2.2.2.2⟩
 rw [hw] at hB ⊢
 by_cases c:x<0
 ·have hm:mg x%18446744073709551616 = -x:=by rw [mg_neg c];omega
  have hs:IntKind.u64.wrap (0-(-x))=(n:Int):=by rw [IntKind.wrap_u64];have:=g1 c;omega
  unfold LQ LI
  rw [hm,cL c]
  (refine aA<|rgN<|aL O O O dO<|kas O<|aB<|aA<|rgN<|kfa O O ?_;refine kl1 O O O<|kas O<|aB<|aA<|aA ?_)
  refine LWP.cut (fun σ=>σ=⟨[(0,Ln .i64 k),(5,Ln .u64 (n:Nat))],[],X⟩) ?_ ?_
  ·(refine rgN<|kfa O O ?_;refine kl1 O O O<|aB<|aE O ?_;refine rgN<|kfa O O ?_;refine kl1 O O O<|bA O O hs dO<|kas O<|aB ?_)
   exact ⟨_,Le.of yE yC y2 y2 y2,O⟩
  rintro σ rfl
  (refine aA<|rgN<|aZ (zs:=[]) (sz:=1) (e:=5) y5 O O O O O O dO<|kas O<|aB<|aA<|aA<|rgN<|kas O<|aB<|aG ?_)
  refine cG (fun m σ=>∃ (i:Nat) (row:Bool),i≤w∧m=w-i∧σ=⟨[(0,Ln .i64 k),(5,Ln .u64 (n/256^i:Nat)),(6,.sv (.one (.slc 500 0 i))),(7,Ln .i64 (i:Nat))],[(500,some ⟨5,((leB w n).take i).map bc,row⟩)],X⟩) w
   ⟨_,Le.ofR [(500,15)] (by exact ⟨rfl,by rw [Nat.pow_zero,Nat.div_one];rfl,rfl,rfl,trivial⟩) y1 y2 y2 y0 y2 y2,0,false,Nat.zero_le _,rfl,rfl⟩ ?_
  rintro m σ ⟨i,row,hi,rfl,rfl⟩
  by_cases hlt:i<w
  ·have hle:n/256^i≤n:=Nat.div_le_self _ _
   have hd:n/256^i/256=n/256^(i+1):=by rw [Nat.pow_succ,Nat.div_div_eq_div_mul]
   have hnc:=take_next (n:=n) hlt
   have hcl:(((leB w n).take i).map bc).length=i*1:=by rw [cT,cW,leB_length];omega
   have hv:IntKind.u8.wrap (((n/256^i:Nat):Int)%256)=((UInt8.ofNat (n/256^i%256)).toNat:Nat):=by
    rw [UInt8.toNat_ofNat',Nat.mod_eq_of_lt (Nat.mod_lt _ (by decide)),IntKind.wrap_u8]
    omega
   have hq:IntKind.u64.wrap (((n/256^i:Nat):Int).tdiv 256)=((n/256^(i+1):Nat):Int):=by
    rw [← hd]
    clear hv hnc hd
    generalize n/256^i=q at *
    rw [quo_u64 (by omega) (by omega)];omega
   (refine aA<|aA<|rgN<|kmv O<|kmv O<|kca O O (hB)<|klt O O (cL y3)<|aB<|aE O ?_;refine aH ?_;refine aA<|aG<|aA<|rgN<|kmv O<|kmv O<|K.rem O O y3 O dO<|kcv O hv ?_;refine aZ (zs:=[.int .u8 0]) (sz:=1) (e:=5) y5 O O O O O O dO<|bP (by_:=1) (e2:=5) (l2:=[bc (UInt8.ofNat (n/256^i%256))]) O O hcl O O (dK _) O O y5 y5 y3 y3 O O hnc dO<|kas O<|aB<|rgN<|kmv O<|K.quo O O y3 hq dO<|kas O<|aB<|rgN<|kmv O<|kad O O (cE y3)<|kas O<|aB ?_)
   exact ⟨_,_,by omega,Le.ofR [(500,27)] y8 y1 y2 y2 y0 y2 y2,i+1,true,by omega,O,O⟩
  ·have e:i=w:=by omega
   subst e
   have hta:(leB i n).take i=leB i n:=List.take_of_length_le (by rw [leB_length];exact dK _)
   rw [hta]
   have hlen:0+i≤((leB i n).map bc).length:=by rw [cT,leB_length];omega
   have hend:(((leB i n).map bc).drop 0).take i=(leB i n).map bc:=by rw [List.drop_zero,List.take_of_length_le (by rw [cT,leB_length];exact dK _)]
   (refine aA<|aA<|rgN<|kmv O<|kmv O<|kca O O (hB)<|klt O O (cK y3)<|aB<|aF O ?_;refine aJ<|aA<|rgN<|kmv O<|bR O O y5 StrT.u hlen hend dO<|kas O<|aB<|aI ?_)
   exact y6
 ·have hm:mg x%18446744073709551616=(n:Int):=by rw [mg_pos y3];have:=g2 y3;omega
  unfold LQ LI
  rw [hm,cK c]
  (refine aA<|rgN<|aL O O O dO<|kas O<|aB<|aA<|rgN<|kfa O O ?_;refine kl1 O O O<|kas O<|aB<|aA<|aA ?_)
  refine LWP.cut (fun σ=>σ=⟨[(0,Ln .i64 k),(5,Ln .u64 (n:Nat))],[],X⟩) ?_ ?_
  ·(refine rgN<|kfa O O ?_;refine kl1 O O O<|aB<|aF O ?_;refine aH ?_)
   exact ⟨_,Le.of yE yC y2 y2 y2,O⟩
  rintro σ rfl
  (refine aA<|rgN<|aZ (zs:=[]) (sz:=1) (e:=5) y5 O O O O O O dO<|kas O<|aB<|aA<|aA<|rgN<|kas O<|aB<|aG ?_)
  refine cG (fun m σ=>∃ (i:Nat) (row:Bool),i≤w∧m=w-i∧σ=⟨[(0,Ln .i64 k),(5,Ln .u64 (n/256^i:Nat)),(6,.sv (.one (.slc 500 0 i))),(7,Ln .i64 (i:Nat))],[(500,some ⟨5,((leB w n).take i).map bc,row⟩)],X⟩) w
   ⟨_,Le.ofR [(500,15)] (by exact ⟨rfl,by rw [Nat.pow_zero,Nat.div_one];rfl,rfl,rfl,trivial⟩) y1 y2 y2 y0 y2 y2,0,false,Nat.zero_le _,rfl,rfl⟩ ?_
  rintro m σ ⟨i,row,hi,rfl,rfl⟩
  by_cases hlt:i<w
  ·have hle:n/256^i≤n:=Nat.div_le_self _ _
   have hd:n/256^i/256=n/256^(i+1):=by rw [Nat.pow_succ,Nat.div_div_eq_div_mul]
   have hnc:=take_next (n:=n) hlt
   have hcl:(((leB w n).take i).map bc).length=i*1:=by rw [cT,cW,leB_length];omega
   have hv:IntKind.u8.wrap (((n/256^i:Nat):Int)%256)=((UInt8.ofNat (n/256^i%256)).toNat:Nat):=by
    rw [UInt8.toNat_ofNat',Nat.mod_eq_of_lt (Nat.mod_lt _ (by decide)),IntKind.wrap_u8]
    omega
   have hq:IntKind.u64.wrap (((n/256^i:Nat):Int).tdiv 256)=((n/256^(i+1):Nat):Int):=by
    rw [← hd]
    clear hv hnc hd
    generalize n/256^i=q at *
    rw [quo_u64 (by omega) (by omega)];omega
   (refine aA<|aA<|rgN<|kmv O<|kmv O<|kca O O (hB)<|klt O O (cL y3)<|aB<|aE O ?_;refine aH ?_;refine aA<|aG<|aA<|rgN<|kmv O<|kmv O<|K.rem O O y3 O dO<|kcv O hv ?_;refine aZ (zs:=[.int .u8 0]) (sz:=1) (e:=5) y5 O O O O O O dO<|bP (by_:=1) (e2:=5) (l2:=[bc (UInt8.ofNat (n/256^i%256))]) O O hcl O O (dK _) O O y5 y5 y3 y3 O O hnc dO<|kas O<|aB<|rgN<|kmv O<|K.quo O O y3 hq dO<|kas O<|aB<|rgN<|kmv O<|kad O O (cE y3)<|kas O<|aB ?_)
   exact ⟨_,_,by omega,Le.ofR [(500,27)] y8 y1 y2 y2 y0 y2 y2,i+1,true,by omega,O,O⟩
  ·have e:i=w:=by omega
   subst e
   have hta:(leB i n).take i=leB i n:=List.take_of_length_le (by rw [leB_length];exact dK _)
   rw [hta]
   have hlen:0+i≤((leB i n).map bc).length:=by rw [cT,leB_length];omega
   have hend:(((leB i n).map bc).drop 0).take i=(leB i n).map bc:=by rw [List.drop_zero,List.take_of_length_le (by rw [cT,leB_length];exact dK _)]
   (refine aA<|aA<|rgN<|kmv O<|kmv O<|kca O O (hB)<|klt O O (cK y3)<|aB<|aF O ?_;refine aJ<|aA<|rgN<|kmv O<|bR O O y5 StrT.u hlen hend dO<|kas O<|aB<|aI ?_)
   exact y6
theorem last_of {l:List UInt8} {w:Nat} {c:UInt8} (hl:l.length=w+1) (hc:l[w]? = some c):le l=le (l.take w)+c.toNat*256^w∧le (l.take w)<256^w:=by
 have h:=le_take hc
 rw [List.take_of_length_le (by omega)] at h
 have h2:=le_lt (l.take w)
 rw [cW,Nat.min_eq_left (by omega)] at h2
 exact ⟨h,h2⟩
theorem drop_le {l:List UInt8} {i:Nat} {c:UInt8} (h:l[i]? = some c):le (l.drop i)=c.toNat+256*le (l.drop (i+1)):=by
 obtain ⟨hi,e⟩:=List.getElem?_eq_some_iff.1 h
 rw [List.drop_eq_getElem_cons hi,e]
 rfl
end Go.Proofs.YtopiioklkkiedaaGreatDoor
end
section
namespace Go.Lg.Fld
open Go Go.Lg
theorem kM_sig {k:Int} (h:2≤k∧k≤5):kB k+kA k+1=(kM k:Int):=by
  have hc:k=2∨k=3∨k=4∨k=5:=by omega
  rcases hc with rfl|rfl|rfl|rfl<;>decide
theorem kM_uns {k:Int} (h:6≤k∧k≤10):kA k+1=(kM k:Int):=by
  have hc:k=6∨k=7∨k=8∨k=9∨k=10:=by omega
  rcases hc with rfl|rfl|rfl|rfl|rfl<;>decide
theorem sig_iff {k:Int} (h:2≤k∧k≤5) {w c t:Nat} (hw:kW k=w+1) (ht:t<256^w):127<c↔kA k<((t+c*256^w:Nat):Int):=by
  have hc:k=2∨k=3∨k=4∨k=5:=by omega
  rcases hc with rfl|rfl|rfl|rfl
  · have e : w = 0 := by have : kW 2 = 1 := by decide
                         omega
    subst e
    have:kA 2=127:=by decide
    omega
  · have e : w = 1 := by have : kW 3 = 2 := by decide
                         omega
    subst e
    have:kA 3=32767:=by decide
    omega
  · have e : w = 3 := by have : kW 4 = 4 := by decide
                         omega
    subst e
    have:kA 4=2147483647:=by decide
    omega
  · have e : w = 7 := by have : kW 5 = 8 := by decide
                         omega
    subst e
    have:kA 5=9223372036854775807:=by decide
    omega
end Go.Lg.Fld
namespace Go.Proofs.YtopiioklkkiedaaGreatDoor
open Go Go.Lg Go.Lg.Fld
set_option maxRecDepth 100000
variable (X:Nat→Option Obj)
def getR (k:Int) (v:Nat):LV:=if fitZ k (nbK k v)=true then .tup [SQ (nbK k v),Sb true] else .tup [S0,Sb false]
theorem getR_pos {k:Int} {v:Nat} (h:(v:Int)≤kA k):getR k v = .tup [.agg [.val (.bool false),.val (.int .u64 0),.val (.int .u64 (v:Nat))],Sb true]:=by
  have hf:=kfacts k
  have e:nbK k v=v:=if_neg y3
  unfold getR
  rw [e,if_pos ((fitZ_iff k _).2 (by omega)),SQ_pos (by omega)]
theorem getR_neg {k:Int} {v:Nat} (hk:2≤k∧k≤5) (h:kA k<v) (hv:v<kM k) (p:Int) (hp:(kM k:Int)-v=p):getR k v = .tup [.agg [.val (.bool true),.val (.int .u64 0),.val (.int .u64 p)],Sb true]:=by
  have hf:=kfacts k
  have hs:=kM_sig hk
  have h2:=kM_facts (k:=k) (by rw [kK_iff];omega)
  have e:nbK k v = -p:=by unfold nbK;rw [if_pos h];omega
  unfold getR
  rw [e,if_pos ((fitZ_iff k _).2 (by omega)),SQ_neg (by omega)]
theorem getR_bool {v:Nat} (h:1<v) (hv:v<256):getR 1 v = .tup [S0,Sb false]:=by
  have hA:kA 1=1:=by decide
  have e:nbK 1 v=(v:Int)-256:=by
    unfold nbK
    rw [if_pos (by omega)]
    rfl
  unfold getR
  rw [e,if_neg]
  intro hc
  rw [fitZ_iff] at hc
  have:kB 1=0:=by decide
  omega
set_option maxHeartbeats 3200000 in
theorem refGet_q (k:Int) (l:List UInt8) (hk:kK k=true) (hn:l.length=kW k):PSpec Tryz.prog X 44 [Ln .i64 k,Ls l] (getR k (le l)):=by
  have hB:=refBytes_spec X k
  have hz:(⟨l.toArray⟩:ByteArray).size=l.length:=rfl
  have hf:=kfacts k
  have hM:=kM_facts hk
  have hkk:=(kK_iff k).1 hk
  have hk0:kW k≠0:=fun e=>by rw [kW_zero] at e;rw [hk] at e;cases e
  obtain ⟨w,hw⟩:∃ w,kW k=w+1:=⟨kW k-1,by omega⟩
  have hw8:w<8:=by omega
  obtain ⟨c,hc⟩:∃ c,l[w]? = some c:=⟨_,cU y3⟩
  obtain ⟨hlast,hinit⟩:=last_of y3 hc
  have hsig:2≤k∧k≤5→(127<c.toNat↔kA k<(le l:Nat)):=fun h=>by rw [hlast];exact sig_iff h hw hinit
  have hlt:le l<kM k:=by
    have:=le_lt l
    rw [hn] at this
    exact this
  have hcl:=c.toNat_lt
  have hM8:kM k=256^(w+1):=by unfold kM;rw [hw]
  rw [hw] at hB
  refine cC Tryz.func44 rfl y5 rfl (by unfold getR;split<;>rfl) ?_
  intro C
  (refine aA<|rgN<|aP O dO ?_;refine kas O<|aB<|aA<|aA<|rgN<|kmv O<|kln O<|kmv O<|kca O O (hB)<|kne O O ((cO y3))<|kmv O<|gmv O O O<|K.lenStr O (dP O O) ?_;refine bC O O (cN y3) (dP O O) ?_;refine kpf O O<|aB<|aF O ?_;refine aH ?_;refine aA<|rgN<|kas O<|aB<|aA<|aA<|rgN<|kmv O<|kln O<|bA O O (cE y3) dO<|kas O<|aB<|aG ?_)
  refine cG (fun m σ=>∃ j:Nat,j≤w+1∧m=j∧σ=⟨[(0,Ln .i64 k),(1,Ls l),(4,.sv (.one (.ptr 4 0))),(6,Ln .u64 (le (l.drop j):Nat)),(7,Ln .i64 ((j:Int)-1))],[(4,some { elem:=86,cells:=cI false 0 })],X⟩) (w+1)
    ⟨_,Le.of (by exact ⟨rfl,rfl,rfl,by rw [List.drop_of_length_le (show l.length≤l.length from dK _)];rfl,rfl,trivial⟩) y13 y2 y2 y2,l.length,by omega,by omega,rfl⟩ ?_
  rintro j σ ⟨_,hj,rfl,rfl⟩
  cases j with
  | succ i =>
    rw [show ((i+1:Nat):Int)-1=(i:Int) by omega]
    obtain ⟨d,hd⟩:∃ d,l[i]? = some d:=⟨_,cU y3⟩
    have hdl:=d.toNat_lt
    have hq:=drop_le hd
    have hb:=le_lt (l.drop i)
    have hp:256^(l.drop i).length≤256^8:=Nat.pow_le_pow_right yA (by rw [cX];omega)
    rw [show (256:Nat)^8=18446744073709551616 by decide] at hp
    generalize hq2:le (l.drop i)=q' at *
    generalize le (l.drop (i+1))=q at *
    have ha:IntKind.u64.wrap ((q:Int)*256+(d.toNat:Nat))=(q':Int):=by rw [wrap_u64 y3];omega
    (refine aA<|aA<|rgN<|kmv O<|bD O O (cL y3) dO<|aB<|aE O ?_;refine aH ?_;refine aA<|aG<|rgN<|kmv O<|bL O O (wrap_u64 y3) dO<|kmv O<|kmv O<|bB O O y3 (str_at hd) dO<|kcv O y2C ?_;refine kad O O ha<|kas O<|aB<|rgN<|kmv O<|bA O O (cE y3) dO<|kas O<|aB ?_)
    exact ⟨i,_,by omega,Le.of (by exact ⟨rfl,rfl,rfl,by rw [hq2];rfl,rfl,trivial⟩) y13 y2 y2 y2,i,by omega,rfl,rfl⟩
  | zero =>
    rw [show l.drop 0=l from rfl]
    have hlen:IntKind.i64.wrap (((⟨l.toArray⟩:ByteArray).size:Int)-1)=(w:Int):=by rw [cE y3];omega
    generalize le l=v at *
    by_cases h5:2≤k∧k≤5
    · obtain ⟨h2,h5⟩:=h5
      by_cases hbig:127<c.toNat
      · have hgt:=(hsig ⟨h2,h5⟩).1 hbig
        rw [getR_neg ⟨h2,h5⟩ hgt hlt _ rfl]
        by_cases hk5:k=5
        · subst hk5
          have hM5:kM 5=18446744073709551616:=by decide
          have hs:IntKind.u64.wrap (0-(v:Int))=(kM 5:Int)-v:=by rw [IntKind.wrap_u64,hM5];omega
          have hw7:(kW 5)=8:=by decide
          (refine aA<|aA<|rgN<|kmv O<|bD O O (cK y3) dO<|aB<|aF O ?_;refine aJ<|aA<|rgN<|kmv O<|aT O O y2 y28 dO ?_;refine aP O dO ?_;refine aM O O O O O O dO ?_;refine aB<|aA<|aA<|rgN<|kmv O<|bD O O (cL y3) dO<|kmv O<|gmv O O O<|K.leq O O (cL y3) (dP O O) ?_;refine kpt O O<|kmv O<|gmv O O O<|gmv O O O<|K.lenStr O (dP O O) ?_;refine bA O O hlen (dP O O) ?_;refine bB O O y3 (str_at hc) (dP O O) ?_;refine aS O O (cL y3) (dP O O) ?_;refine kpt O O<|aB<|aE O ?_;refine aA<|rgN<|kas O<|aB<|aA<|aA<|rgN<|kmv O<|kln O<|klt O O (cK y3)<|aB<|aF O ?_;refine aH ?_;refine rgN<|kmv O<|kmv O<|bA O O hs dO<|aT O O y2 y28 dO ?_;refine aM O O O O O O dO ?_;refine aB<|aA<|aA<|rgN<|kmv O<|keq O O (cN y3)<|kmv O<|aC O O O<|aC O O O<|kpf O O<|aB<|aF O ?_;refine aH ?_;refine aA<|rgN<|aK O O O dO ?_;refine aM O O O O O O dO ?_;refine kas O<|aB<|aI ?_)
          exact y4
        · have hw4:kW k<8:=by
            have h:k=2∨k=3∨k=4:=by omega
            rcases h with rfl|rfl|rfl<;>decide
          (refine aA<|aA<|rgN<|kmv O<|bD O O (cK y3) dO<|aB<|aF O ?_;refine aJ<|aA<|rgN<|kmv O<|aT O O y2 y28 dO ?_;refine aP O dO ?_;refine aM O O O O O O dO ?_;refine aB<|aA<|aA<|rgN<|kmv O<|bD O O (cL y3) dO<|kmv O<|gmv O O O<|K.leq O O (cL y3) (dP O O) ?_;refine kpt O O<|kmv O<|gmv O O O<|gmv O O O<|K.lenStr O (dP O O) ?_;refine bA O O hlen (dP O O) ?_;refine bB O O y3 (str_at hc) (dP O O) ?_;refine aS O O (cL y3) (dP O O) ?_;refine kpt O O<|aB<|aE O ?_;refine aA<|rgN<|kas O<|aB<|aA<|aA<|rgN<|kmv O<|kln O<|klt O O (cL y3)<|aB<|aE O ?_;refine aA<|rgN<|kas O<|aB<|aA<|rgN<|kas O<|aB<|aG ?_)
          refine LWP.meet (fun σ=>σ=⟨[(0,Ln .i64 k),(1,Ls l),(4,.sv (.one (.ptr 4 0))),(6,Ln .u64 (v:Nat)),(8,.sv (.one (.ptr 8 0))),(9,Ln .u64 (kM k:Nat))],[(4,some { elem:=86,cells:=cI false 0 }),(8,some { elem:=86,cells:=[.val (.bool false),.val (.int .u64 0),.val (.int .u64 (v:Nat))] })],X⟩) ?_ ?_
          · refine cG (fun m σ=>∃ i:Nat,i≤w+1∧m=w+1-i∧σ=⟨[(0,Ln .i64 k),(1,Ls l),(4,.sv (.one (.ptr 4 0))),(6,Ln .u64 (v:Nat)),(8,.sv (.one (.ptr 8 0))),(9,Ln .u64 (256^i:Nat)),(10,Ln .i64 (i:Nat))],[(4,some { elem:=86,cells:=cI false 0 }),(8,some { elem:=86,cells:=[.val (.bool false),.val (.int .u64 0),.val (.int .u64 (v:Nat))] })],X⟩) (w+1)
              ⟨_,Le.of y14 yE y2 y2 y2,0,by omega,rfl,rfl⟩ ?_
            rintro m σ ⟨i,hi,rfl,rfl⟩
            by_cases hlt2:i<w+1
            · have hp:256^i*256=256^(i+1):=(Nat.pow_succ ..).symm
              have hle:256^(i+1)≤256^7:=Nat.pow_le_pow_right yA y3
              rw [show (256:Nat)^7=72057594037927936 by decide] at hle
              have hm:IntKind.u64.wrap (((256^i:Nat):Int)*256)=((256^(i+1):Nat):Int):=by
                rw [← hp]
                generalize 256^i=q at *
                rw [wrap_u64 (by omega)];omega
              (refine aA<|aA<|rgN<|kmv O<|kmv O<|kln O<|klt O O (cL y3)<|aB<|aE O ?_;refine aH ?_;refine aA<|aG<|rgN<|kmv O<|bL O O hm dO<|kas O<|aB<|rgN<|kmv O<|kad O O (cE y3)<|kas O<|aB ?_)
              exact ⟨_,_,by omega,Le.of y14 yE y2 y2 y2,i+1,by omega,O,O⟩
            · have e:i=w+1:=by omega
              subst e
              (refine aA<|aA<|rgN<|kmv O<|kmv O<|kln O<|klt O O (cK y3)<|aB<|aF O ?_;refine aJ ?_)
              exact ⟨_,Le.of (by exact ⟨rfl,rfl,rfl,rfl,rfl,by rw [hM8];rfl,trivial⟩) yE y2 y2 y2,rfl⟩
          · rintro σ rfl
            have hs:IntKind.u64.wrap (((kM k:Nat):Int)-(v:Int))=(kM k:Int)-v:=by rw [wrap_u64 y3]
            (refine rgN<|kmv O<|kmv O<|bA O O hs dO<|aT O O y2 y28 dO ?_;refine aM O O O O O O dO ?_;refine aB<|aA<|aA<|rgN<|kmv O<|keq O O (cN y3)<|kmv O<|aC O O O<|aC O O O<|kpf O O<|aB<|aF O ?_;refine aH ?_;refine aA<|rgN<|aK O O O dO ?_;refine aM O O O O O O dO ?_;refine kas O<|aB<|aI ?_)
            exact y4
      · have hle:(v:Int)≤kA k:=Int.not_lt.1 (mt (hsig ⟨h2,h5⟩).2 hbig)
        rw [getR_pos hle]
        (refine aA<|aA<|rgN<|kmv O<|bD O O (cK y3) dO<|aB<|aF O ?_;refine aJ<|aA<|rgN<|kmv O<|aT O O y2 y28 dO ?_;refine aP O dO ?_;refine aM O O O O O O dO ?_;refine aB<|aA<|aA<|rgN<|kmv O<|bD O O (cL y3) dO<|kmv O<|gmv O O O<|K.leq O O (cL y3) (dP O O) ?_;refine kpt O O<|kmv O<|gmv O O O<|gmv O O O<|K.lenStr O (dP O O) ?_;refine bA O O hlen (dP O O) ?_;refine bB O O y3 (str_at hc) (dP O O) ?_;refine aS O O (cK y3) (dP O O) ?_;refine kpt O O<|aB<|aF O ?_;refine aH ?_;refine aA<|aA<|rgN<|kmv O<|keq O O (cN y3)<|kmv O<|aC O O O<|aC O O O<|kpf O O<|aB<|aF O ?_;refine aH ?_;refine aA<|rgN<|aK O O O dO ?_;refine aM O O O O O O dO ?_;refine kas O<|aB<|aI ?_)
        exact y4
    · by_cases h1:k=1
      · subst h1
        have hA:kA 1=1:=by decide
        have hM1:kM 1=256:=by decide
        by_cases hv:1<v
        · rw [getR_bool hv y3]
          (refine aA<|aA<|rgN<|kmv O<|bD O O (cK y3) dO<|aB<|aF O ?_;refine aJ<|aA<|rgN<|kmv O<|aT O O y2 y28 dO ?_;refine aP O dO ?_;refine aM O O O O O O dO ?_;refine aB<|aA<|aA<|rgN<|kmv O<|bD O O (cK y3) dO<|kmv O<|aC O O O<|aC O O O<|kpf O O<|kmv O<|aC O O O<|aC O O O<|aC O O O ?_;refine aC O O O<|aC O O O<|aC O O O<|kpf O O<|aB<|aF O ?_;refine aH ?_;refine aA<|aA<|rgN<|kmv O<|keq O O (cR y3)<|kmv O<|gmv O O O<|aS O O (cL y3) (dP O O) ?_;refine kpt O O<|aB<|aE O ?_;refine aA<|rgN<|aT O O y2 y28 dO ?_;refine aM O O O O O O dO ?_;refine kas O<|aB<|aI ?_)
          exact y4
        · rw [getR_pos y3]
          (refine aA<|aA<|rgN<|kmv O<|bD O O (cK y3) dO<|aB<|aF O ?_;refine aJ<|aA<|rgN<|kmv O<|aT O O y2 y28 dO ?_;refine aP O dO ?_;refine aM O O O O O O dO ?_;refine aB<|aA<|aA<|rgN<|kmv O<|bD O O (cK y3) dO<|kmv O<|aC O O O<|aC O O O<|kpf O O<|kmv O<|aC O O O<|aC O O O<|aC O O O ?_;refine aC O O O<|aC O O O<|aC O O O<|kpf O O<|aB<|aF O ?_;refine aH ?_;refine aA<|aA<|rgN<|kmv O<|keq O O (cR y3)<|kmv O<|gmv O O O<|aS O O (cK y3) (dP O O) ?_;refine kpt O O<|aB<|aF O ?_;refine aH ?_;refine aA<|rgN<|aK O O O dO ?_;refine aM O O O O O O dO ?_;refine kas O<|aB<|aI ?_)
          exact y4
      · have h6:6≤k:=by omega
        have hu:=kM_uns ⟨h6,hkk.2⟩
        rw [getR_pos (by omega)]
        (refine aA<|aA<|rgN<|kmv O<|bD O O (cK y3) dO<|aB<|aF O ?_;refine aJ<|aA<|rgN<|kmv O<|aT O O y2 y28 dO ?_;refine aP O dO ?_;refine aM O O O O O O dO ?_;refine aB<|aA<|aA<|rgN<|kmv O<|bD O O (cL y3) dO<|kmv O<|gmv O O O<|K.leq O O (cK y3) (dP O O) ?_;refine kpt O O<|kmv O<|aC O O O<|aC O O O<|aC O O O<|aC O O O<|aC O O O<|aC O O O<|kpf O O<|aB<|aF O ?_;refine aH ?_;refine aA<|aA<|rgN<|kmv O<|keq O O (cN y3)<|kmv O<|aC O O O<|aC O O O<|kpf O O<|aB<|aF O ?_;refine aH ?_;refine aA<|rgN<|aK O O O dO ?_;refine aM O O O O O O dO ?_;refine kas O<|aB<|aI ?_)
        exact y4
end Go.Proofs.YtopiioklkkiedaaGreatDoor
end
section
set_option maxHeartbeats 12800000
set_option maxRecDepth 100000
namespace Go.Lg.Fld
open Go Go.Lg
structure Fl where
 nm:List UInt8
 kind:Int
 count:Int
def Fl.vals (f:Fl):List Value:=[.string ⟨f.nm.toArray⟩,.int .i64 f.kind,.int .i64 f.count]
def Fl.w (f:Fl):Nat:=kW f.kind
def Fl.n (f:Fl):Nat:=f.count.toNat
def Fl.ok (f:Fl):Bool:=kK f.kind&&(decide (1≤f.count)&&decide (f.count≤8))
def roundUp (a n:Nat):Nat:=a+(n-a%n)%n
def startsAt:Nat→List Fl→List Nat
 | _,[]=>[]
 | a,f::t=>roundUp a f.w::startsAt (roundUp a f.w+f.w*f.n) t
def endAt:Nat→List Fl→Nat
 | a,[]=>a
 | a,f::t=>endAt (roundUp a f.w+f.w*f.n) t
def elemsAt:Nat→List Fl→List (Int×Nat)
 | _,[]=>[]
 | a,f::t=>(List.range f.n).map (fun i=>(f.kind,roundUp a f.w+f.w*i))++elemsAt (roundUp a f.w+f.w*f.n) t
def greatW (l:List Fl):Nat:=l.foldl (fun g f=>max g f.w) 1
def rowSize (l:List Fl):Nat:=roundUp (endAt 0 l) (greatW l)
def layErr (l:List Fl):Int:=if 8<l.length then 1 else if l.all Fl.ok=true then (if 256<rowSize l then 5 else 0) else 1
theorem starts_snoc (f:Fl):∀ (l:List Fl) (a:Nat),startsAt a (l++[f])=startsAt a l++[roundUp (endAt a l) f.w]
 | [],_=>rfl
 | g::t,a=>by simp only [List.cons_append,startsAt,endAt,starts_snoc f t]
theorem end_snoc (f:Fl):∀ (l:List Fl) (a:Nat),endAt a (l++[f])=roundUp (endAt a l) f.w+f.w*f.n
 | [],_=>rfl
 | g::t,a=>by simp only [List.cons_append,endAt,end_snoc f t]
theorem elems_snoc (f:Fl):∀ (l:List Fl) (a:Nat),elemsAt a (l++[f])=elemsAt a l++(List.range f.n).map (fun i=>(f.kind,roundUp (endAt a l) f.w+f.w*i))
 | [],_=>by simp [elemsAt,endAt]
 | g::t,a=>by simp only [List.cons_append,elemsAt,endAt,elems_snoc f t,dJ]
theorem great_snoc (f:Fl) (l:List Fl):greatW (l++[f])=max (greatW l) f.w:=by simp [greatW,List.foldl_append]
theorem take_snoc {α:Type} {l:List α} {i:Nat} {f:α} (h:l[i]? = some f):l.take (i+1)=l.take i++[f]:=by
 rw [List.take_add_one,h];rfl
theorem ok_w {f:Fl} (h:f.ok=true):(f.w=1∨f.w=2∨f.w=4∨f.w=8)∧1≤f.n∧f.n≤8∧(f.n:Int)=f.count:=by
 simp only [Fl.ok,Bool.and_eq_true,decide_eq_true_eq] at h
 refine ⟨kW_in h.1,?_,?_,?_⟩<;>unfold Fl.n<;>omega
def isWd (n:Nat):Prop:=n=1∨n=2∨n=4∨n=8
theorem round_facts {n:Nat} (h:isWd n) (a:Nat):roundUp a n%n=0∧a≤roundUp a n∧roundUp a n<a+n∧∀ b,a≤b→b≤roundUp a n→b%n=0→b=roundUp a n:=by
 unfold roundUp
 rcases h with rfl|rfl|rfl|rfl<;>refine ⟨by omega,by omega,by omega,fun b h1 h2 h3=>by omega⟩
theorem great_wd:∀ (l:List Fl),l.all Fl.ok=true→isWd (greatW l):=by
 have key:∀ (l:List Fl) (g:Nat),isWd g→l.all Fl.ok=true→isWd (l.foldl (fun g f=>max g f.w) g):=by
  intro l
  induction l with
  | nil=>intro g hg _;exact hg
  | cons f t ih =>
   intro g hg h
   simp only [List.all_cons,Bool.and_eq_true] at h
   refine ih _ ?_ h.2
   have hf:isWd f.w:=(ok_w h.1).1
   show isWd (max g f.w)
   rcases Nat.le_total g f.w with h3|h3
   ·rw [Nat.max_eq_right h3];exact hf
   ·rw [Nat.max_eq_left h3];exact hg
 exact fun l h=>key l 1 (.inl O) h
theorem end_le:∀ (l:List Fl) (a:Nat),l.all Fl.ok=true→a≤endAt a l∧endAt a l≤a+72*l.length
 | [],a,_=>by simp [endAt]
 | f::t,a,h=>by
  simp only [List.all_cons,Bool.and_eq_true] at h
  obtain ⟨hw,h1,h8,_⟩:=ok_w h.1
  have hr:=round_facts hw a
  have hi:=end_le t (roundUp a f.w+f.w*f.n) h.2
  have hm:f.w*f.n≤64:=by rcases hw with e|e|e|e<;>rw [e]<;>omega
  have hw8:f.w≤8:=by rcases hw with e|e|e|e<;>omega
  simp only [endAt,dF]
  omega
theorem elems_len:∀ (l:List Fl) (a:Nat),l.all Fl.ok=true→l.length≤(elemsAt a l).length∧(elemsAt a l).length≤8*l.length
 | [],a,_=>by simp [elemsAt]
 | f::t,a,h=>by
  simp only [List.all_cons,Bool.and_eq_true] at h
  obtain ⟨hw,h1,h8,_⟩:=ok_w h.1
  have hi:=elems_len t (roundUp a f.w+f.w*f.n) h.2
  simp only [elemsAt,cS,cT,List.length_range,dF]
  omega
theorem starts_len:∀ (l:List Fl) (a:Nat),(startsAt a l).length=l.length
 | [],_=>rfl
 | f::t,a=>by simp [startsAt,starts_len t]
def elV (e:Int×Nat):List Value:=[.int .i64 e.1,.int .i64 (e.2:Nat)]
def elVs (l:List (Int×Nat)):List Value:=(l.map elV).flatten
theorem elVs_len (l:List (Int×Nat)):(elVs l).length=l.length*2:=by
 induction l with
 | nil=>rfl
 | cons e t ih=>simp only [elVs,List.map_cons,List.flatten_cons,cS] at ih ⊢;rw [ih];simp [elV];omega
theorem elVs_app (l m:List (Int×Nat)):elVs (l++m)=elVs l++elVs m:=by simp [elVs]
def ntV (l:List Nat):List Value:=l.map fun n=>.int .i64 (n:Nat)
structure FieldsIn (X:Nat→Option Obj) (ad:Option Addr) (fs:List Fl):Prop where
 rows:RowsIn X ad 3 (fs.map Fl.vals)
 small:∀ f∈fs,(-9223372036854775808≤f.kind∧f.kind<9223372036854775808)∧(-9223372036854775808≤f.count∧f.count<9223372036854775808)
theorem FieldsIn.at {X:Nat→Option Obj} {ad:Option Addr} {fs:List Fl} (h:FieldsIn X ad fs) {i:Nat} {f:Fl} (hf:fs[i]? = some f):
  ∃ (blk off:Nat) (arr:Array Value) (el:TypeId) (fr:Nat×Nat),ad=some ⟨blk,off,none⟩∧X blk=some (.cells arr el fr)∧off+i*3+3≤arr.size∧((arr.toList.drop (off+i*3)).take 3).map CV.val=f.vals.map CV.val:=by
 obtain ⟨blk,off,arr,el,fr,h1,h2,h3,h4⟩:=h.rows i f.vals (by rw [dI,hf];rfl)
 exact ⟨blk,off,arr,el,fr,h1,h2,h3,by rw [h4]⟩
end Go.Lg.Fld
end
section
set_option maxHeartbeats 12800000
set_option maxRecDepth 100000
namespace Go.Proofs.YtopiioklkkiedaaGreatDoor
open Go Go.Lg Go.Lg.Fld
set_option maxRecDepth 100000
variable (X:Nat→Option Obj)
abbrev Lx (ad:Option Addr) (n cap:Nat):LV:=.sv (.one (.val (.slice ad n cap)))
abbrev Vnil:SV:=.one (.val (.slice none 0 0))
def layR (fs:List Fl):LV:=if layErr fs=0 then .tup [.one (.slc 1000001 0 (elemsAt 0 fs).length 2),Sn .i64 (rowSize fs:Nat),.one (.slc 1000002 0 fs.length 1),Sn .i64 0] else .tup [Vnil,Sn .i64 0,Vnil,Sn .i64 (layErr fs)]
def layBx (fs:List Fl):List (Nat×Option Box):=if layErr fs=0 then [(1000001,some ⟨114,(elVs (elemsAt 0 fs)).map .val,Nat.blt 0 (elemsAt 0 fs).length⟩),(1000002,some ⟨3,(ntV (startsAt 0 fs)).map .val,Nat.blt 0 fs.length⟩)] else []
theorem layErr_long {fs:List Fl} (h:8<fs.length):layErr fs=1:=if_pos h
theorem layErr_bad {fs:List Fl} (h:fs.length≤8) {f:Fl} (hf:f∈fs) (hb:f.ok=false):layErr fs=1:=by
 unfold layErr
 rw [if_neg (by omega),if_neg]
 intro ha
 rw [List.all_eq_true.1 ha f hf] at hb
 cases hb
theorem layErr_all {fs:List Fl} (h:fs.length≤8) (ha:fs.all Fl.ok=true):layErr fs=if 256<rowSize fs then 5 else 0:=by
 unfold layErr
 rw [if_neg (by omega),if_pos ha]
theorem take_all {fs:List Fl} {i:Nat} {f:Fl} (h:(fs.take i).all Fl.ok=true) (hf:fs[i]? = some f) (hk:f.ok=true):(fs.take (i+1)).all Fl.ok=true:=by
 rw [take_snoc hf,List.all_append,h]
 simp [hk]
set_option maxHeartbeats 3200000 in
theorem Lay_spec (ad:Option Addr) (cap:Nat) (fs:List Fl) (hin:FieldsIn X ad fs) (hbig:fs.length<4611686018427387904):MSpec Tryz.prog X 37 [Lx ad fs.length cap] [] (layR fs) (layBx fs):=by
 refine cD Tryz.func37 rfl y5 rfl (by unfold layR layBx;split<;>rfl) (by unfold layBx;split<;>exact y0) rfl rfl ?_
 intro C
 by_cases hlong:8<fs.length
 ·unfold layR layBx
  rw [layErr_long hlong,if_neg (by decide),if_neg (by decide)]
  (refine aA<|rgN<|kas O<|kas O<|kas O<|kas O<|aB<|aA<|aA<|rgN<|kmv O<|aQ O bZ O dO ?_;refine aS O O (cL y3) dO<|aB<|aE O ?_;refine aA<|rgN<|kas O<|kas O<|kas O<|kas O<|aB<|aI ?_)
  exact ⟨[],⟨[_,_,_,_],⟨O,O,O,O,trivial⟩,O⟩,trivial,O,O⟩
 have h8:fs.length≤8:=by omega
 (refine aA<|rgN<|kas O<|kas O<|kas O<|kas O<|aB<|aA<|aA<|rgN<|kmv O<|aQ O bZ O dO ?_;refine aS O O (cK y3) dO<|aB<|aF O ?_;refine aH ?_;refine aA<|rgN<|aZ (zs:=[]) (sz:=2) (e:=114) y5 O O O O O O dO<|kas O<|aB<|aA<|rgN<|aZ (zs:=[]) (sz:=1) (e:=3) y5 O O O O O O dO<|kas O<|aB<|aA<|rgN<|kas O<|aB ?_;refine aA<|rgN<|kas O<|aB<|aA<|aA<|rgN<|kas O<|aB<|aG ?_)
 refine cG (fun m σ=>∃ i:Nat,i≤fs.length∧m=fs.length-i∧(fs.take i).all Fl.ok=true∧σ=⟨[(0,Lx ad fs.length cap),(6,.sv (.one (.slc 500 0 (elemsAt 0 (fs.take i)).length 2))),(7,.sv (.one (.slc 501 0 i 1))),(8,Ln .i64 (endAt 0 (fs.take i):Nat)),(9,Ln .i64 (greatW (fs.take i):Nat)),(10,Ln .i64 (i:Nat))],[(500,some ⟨114,(elVs (elemsAt 0 (fs.take i))).map .val,Nat.blt 0 (elemsAt 0 (fs.take i)).length⟩),(501,some ⟨3,(ntV (startsAt 0 (fs.take i))).map .val,Nat.blt 0 i⟩)],X⟩) fs.length
  ⟨_,Le.ofR [(500,17),(501,18)] y11 y1 y2 y2 y0 y2 y2,0,by omega,by omega,rfl,rfl⟩ ?_
 rintro m σ ⟨i,hi,rfl,hall,rfl⟩
 have hEl:=elems_len (fs.take i) 0 hall
 have hSl:=starts_len (fs.take i) 0
 have hend:=end_le (fs.take i) 0 hall
 have hgw:=great_wd (fs.take i) hall
 have htl:(fs.take i).length=i:=by rw [cW];omega
 rw [htl] at hEl hSl hend
 by_cases hlt:i<fs.length
 ·obtain ⟨f,hf⟩:=wg hlt
  obtain ⟨blk,off,arr,el,fr,rfl,hX,hsz,hcells⟩:=hin.at hf
  have hio:=wo off i 3
  have hmem:f∈fs:=cZ hf
  have hsm:=hin.small f hmem
  have hB:=refBytes_spec X f.kind
  have hE:elemsAt 0 (fs.take (i+1))=elemsAt 0 (fs.take i)++(List.range f.n).map (fun j=>(f.kind,roundUp (endAt 0 (fs.take i)) f.w+f.w*j)):=by rw [take_snoc hf,elems_snoc]
  have hS:startsAt 0 (fs.take (i+1))=startsAt 0 (fs.take i)++[roundUp (endAt 0 (fs.take i)) f.w]:=by rw [take_snoc hf,starts_snoc]
  have hA:endAt 0 (fs.take (i+1))=roundUp (endAt 0 (fs.take i)) f.w+f.w*f.n:=by rw [take_snoc hf,end_snoc]
  have hG:greatW (fs.take (i+1))=max (greatW (fs.take i)) f.w:=by rw [take_snoc hf,great_snoc]
  cases hok:f.ok with
  | false =>
   have hbad:=layErr_bad h8 hmem hok
   unfold layR layBx
   rw [hbad,if_neg (by decide),if_neg (by decide)]
   clear hE hS hA hG
   generalize elemsAt 0 (fs.take i)=E at *
   generalize startsAt 0 (fs.take i)=S at *
   generalize endAt 0 (fs.take i)=a at *
   generalize greatW (fs.take i)=g at *
   by_cases h0:kW f.kind=0
   ·rw [h0] at hB
    (refine aA<|aA<|rgN<|kmv O<|kmv O<|aQ O bZ O dO ?_;refine klt O O (cL y3)<|aB<|aE O ?_;refine aH ?_;refine aA<|aG<|aA<|rgN<|kmv O<|kmv O<|aR O O bZ y3 hio dO<|aY O hX y5 hsz hcells dO<|aP O dO ?_;refine aM O O O O O O dO ?_;refine aB<|aA<|rgN<|kfa O O ?_;refine kl1 O O O<|kca O O (hB)<|kas O<|aB<|aA<|aA<|rgN<|kmv O<|keq O O (cR y3)<|kmv O<|aC O O O<|aC O O O<|aC O O O<|kpt O O ?_;refine kmv O<|aC O O O<|aC O O O<|aC O O O<|kpt O O<|aB<|aE O ?_;refine aA<|rgN<|kas O<|kas O<|kas O<|kas O<|aB<|aI ?_)
    exact ⟨[],⟨[_,_,_,_],⟨O,O,O,O,trivial⟩,O⟩,trivial,O,O⟩
   ·have hk:kK f.kind=true:=by
     cases e:kK f.kind with
     | true=>rfl
     | false=>exact absurd ((kW_zero f.kind).2 e) h0
    by_cases h1:f.count<1
    ·(refine aA<|aA<|rgN<|kmv O<|kmv O<|aQ O bZ O dO ?_;refine klt O O (cL y3)<|aB<|aE O ?_;refine aH ?_;refine aA<|aG<|aA<|rgN<|kmv O<|kmv O<|aR O O bZ y3 hio dO<|aY O hX y5 hsz hcells dO<|aP O dO ?_;refine aM O O O O O O dO ?_;refine aB<|aA<|rgN<|kfa O O ?_;refine kl1 O O O<|kca O O (hB)<|kas O<|aB<|aA<|aA<|rgN<|kmv O<|keq O O (cN y3)<|kmv O<|aN O O (dP O O) ?_;refine aO O O O (dP O O) ?_;refine bK O O (cL y3) (dP O O) ?_;refine kpf O O<|kmv O<|aC O O O<|aC O O O<|aC O O O<|kpt O O<|aB<|aE O ?_;refine aA<|rgN<|kas O<|kas O<|kas O<|kas O<|aB<|aI ?_)
     exact ⟨[],⟨[_,_,_,_],⟨O,O,O,O,trivial⟩,O⟩,trivial,O,O⟩
    ·have h2:8<f.count:=by
      unfold Fl.ok at hok
      rw [hk,cL (show 1≤f.count by omega)] at hok
      simpa using hok
     (refine aA<|aA<|rgN<|kmv O<|kmv O<|aQ O bZ O dO ?_;refine klt O O (cL y3)<|aB<|aE O ?_;refine aH ?_;refine aA<|aG<|aA<|rgN<|kmv O<|kmv O<|aR O O bZ y3 hio dO<|aY O hX y5 hsz hcells dO<|aP O dO ?_;refine aM O O O O O O dO ?_;refine aB<|aA<|rgN<|kfa O O ?_;refine kl1 O O O<|kca O O (hB)<|kas O<|aB<|aA<|aA<|rgN<|kmv O<|keq O O (cN y3)<|kmv O<|aN O O (dP O O) ?_;refine aO O O O (dP O O) ?_;refine bK O O (cK y3) (dP O O) ?_;refine kpf O O<|kmv O<|aN O O (dP O O) ?_;refine aO O O O (dP O O) ?_;refine aS O O (cL y3) (dP O O) ?_;refine kpf O O<|aB<|aE O ?_;refine aA<|rgN<|kas O<|kas O<|kas O<|kas O<|aB<|aI ?_)
     exact ⟨[],⟨[_,_,_,_],⟨O,O,O,O,trivial⟩,O⟩,trivial,O,O⟩
  | true =>
   have hall':=take_all hall hf hok
   obtain ⟨hw,hn1,hn8,hnc⟩:=ok_w hok
   have hR:=round_facts hw (endAt 0 (fs.take i))
   have hwk:kW f.kind=f.w:=rfl
   have hw8:1≤f.w∧f.w≤8:=by rcases hw with e|e|e|e<;>omega
   have hg8:greatW (fs.take i)≤8:=by rcases hgw with e|e|e|e<;>omega
   rw [hwk] at hB
   generalize elemsAt 0 (fs.take i)=E at *
   generalize startsAt 0 (fs.take i)=S at *
   generalize endAt 0 (fs.take i)=a at *
   generalize greatW (fs.take i)=g at *
   have hfc:f.vals.map CV.val=[.val (.string ⟨f.nm.toArray⟩),.val (.int .i64 f.kind),.val (.int .i64 (f.n:Nat))]:=by rw [hnc];rfl
   rw [hfc] at hcells
   generalize f.w=w at *
   generalize hT:roundUp a w=T at *
   generalize f.n=n at *
   (refine aA<|aA<|rgN<|kmv O<|kmv O<|aQ O bZ O dO ?_;refine klt O O (cL y3)<|aB<|aE O ?_;refine aH ?_;refine aA<|aG<|aA<|rgN<|kmv O<|kmv O<|aR O O bZ y3 hio dO<|aY O hX y5 hsz hcells dO<|aP O dO ?_;refine aM O O O O O O dO ?_;refine aB<|aA<|rgN<|kfa O O ?_;refine kl1 O O O<|kca O O (hB)<|kas O<|aB<|aA<|aA<|rgN<|kmv O<|keq O O (cN y3)<|kmv O<|aN O O (dP O O) ?_;refine aO O O O (dP O O) ?_;refine bK O O (cK y3) (dP O O) ?_;refine kpf O O<|kmv O<|aN O O (dP O O) ?_;refine aO O O O (dP O O) ?_;refine aS O O (cK y3) (dP O O) ?_;refine kpf O O<|aB<|aF O ?_;refine aH ?_;refine aA<|aA ?_)
   generalize hmx:max g w=mx at *
   refine LWP.cut (fun σ=>σ=⟨[(0,Lx (some ⟨blk,off,none⟩) fs.length cap),(6,.sv (.one (.slc 500 0 (E.length) 2))),(7,.sv (.one (.slc 501 0 (i) 1))),(8,Ln .i64 (a:Nat)),(9,Ln .i64 (mx:Nat)),(10,Ln .i64 (i:Nat)),(11,.sv (.one (.ptr 11 0))),(12,Ln .i64 (w:Nat))],[(500,some ⟨114,(elVs E).map .val,Nat.blt 0 E.length⟩),(501,some ⟨3,(ntV (S)).map .val,Nat.blt 0 i⟩),(11,some ⟨83,[.val (.string ⟨f.nm.toArray⟩),.val (.int .i64 f.kind),.val (.int .i64 (n:Nat))],false⟩)],X⟩) ?_ ?_
   ·by_cases hgl:g<w
    ·have e:mx=w:=by omega
     (refine rgN<|kmv O<|kmv O<|aS O O (cL y3) dO<|aB<|aE O ?_;refine rgN<|kmv O<|kas O<|aB ?_)
     exact ⟨_,Le.of (by exact ⟨rfl,rfl,rfl,rfl,by rw [e];rfl,rfl,rfl,rfl,trivial⟩) y9 y2 y2 y0,rfl⟩
    ·have e:mx=g:=by omega
     (refine rgN<|kmv O<|kmv O<|aS O O (cK y3) dO<|aB<|aF O ?_;refine aH ?_)
     exact ⟨_,Le.of (by exact ⟨rfl,rfl,rfl,rfl,by rw [e];rfl,rfl,rfl,rfl,trivial⟩) y9 y2 y2 y0,rfl⟩
   rintro σ rfl
   (refine aA<|aG ?_)
   refine cG (fun m σ=>∃ b:Nat,a≤b∧b≤T∧m=T-b∧σ=⟨[(0,Lx (some ⟨blk,off,none⟩) fs.length cap),(6,.sv (.one (.slc 500 0 (E.length) 2))),(7,.sv (.one (.slc 501 0 (i) 1))),(8,Ln .i64 (b:Nat)),(9,Ln .i64 (mx:Nat)),(10,Ln .i64 (i:Nat)),(11,.sv (.one (.ptr 11 0))),(12,Ln .i64 (w:Nat))],[(500,some ⟨114,(elVs E).map .val,Nat.blt 0 E.length⟩),(501,some ⟨3,(ntV (S)).map .val,Nat.blt 0 i⟩),(11,some ⟨83,[.val (.string ⟨f.nm.toArray⟩),.val (.int .i64 f.kind),.val (.int .i64 (n:Nat))],false⟩)],X⟩) (T-a)
    ⟨_,Le.of y15 y9 y2 y2 y0,a,dK _,hR.2.1,rfl,rfl⟩ ?_
   rintro m σ ⟨b,hb1,hb2,rfl,rfl⟩
   have hrem:((b:Nat):Int).tmod ((w:Nat):Int)=((b%w:Nat):Int):=by rw [Int.tmod_eq_emod_of_nonneg y3];exact (Int.natCast_emod b w).symm
   by_cases hz:b%w=0
   ·have hbT:=hR.2.2.2 b hb1 hb2 hz
    subst hbT
    rw [hz] at hrem
    have hcl:((ntV S).map CV.val).length=i*1:=by simp [ntV,hSl]
    have hnc1:(ntV S).map CV.val++[.val (.int .i64 (b:Nat))]=(ntV (S++[b])).map CV.val:=by simp [ntV]
    (refine aA<|aA<|rgN<|kmv O<|kmv O<|K.rem O O y3 hrem dO<|kne O O ((cO y3))<|aB<|aF O ?_;refine aJ<|aA<|rgN<|kmv O<|kmv O<|aZ (zs:=[.int .i64 0]) (sz:=1) (e:=3) y5 O O O O O O dO<|bP (by_:=8) (e2:=3) (l2:=[.val (.int .i64 (b:Nat))]) O O hcl O O (dK _) O O y5 y5 y3 y3 O O hnc1 dO<|kas O<|aB<|aA<|rgN<|kas O<|aB<|aG ?_)
    refine cG (fun m σ=>∃ j:Nat,j≤n∧m=n-j∧σ=⟨[(0,Lx (some ⟨blk,off,none⟩) fs.length cap),(6,.sv (.one (.slc 500 0 (E.length+j) 2))),(7,.sv (.one (.slc 501 0 (i+1) 1))),(8,Ln .i64 (b+w*j:Nat)),(9,Ln .i64 (mx:Nat)),(10,Ln .i64 (i:Nat)),(11,.sv (.one (.ptr 11 0))),(12,Ln .i64 (w:Nat)),(13,Ln .i64 (j:Nat))],[(500,some ⟨114,(elVs (E++(List.range j).map (fun q=>(f.kind,b+w*q)))).map .val,Nat.blt 0 (E.length+j)⟩),(501,some ⟨3,(ntV (S++[b])).map .val,true⟩),(11,some ⟨83,[.val (.string ⟨f.nm.toArray⟩),.val (.int .i64 f.kind),.val (.int .i64 (n:Nat))],false⟩)],X⟩) n
     ⟨_,Le.ofR [(501,57)] y1B (by rw [List.range_zero,List.map_nil,dG];exact y1) y2 y2 y0 y2 y2,0,by omega,rfl,rfl⟩ ?_
    rintro m σ ⟨j,hj,rfl,rfl⟩
    have hwj:w*j≤64:=Nat.le_trans (Nat.mul_le_mul hw8.2 (Nat.le_trans hj hn8)) yA
    by_cases hjn:j<n
    ·have hrg:(List.range (j+1)).map (fun q=>(f.kind,b+w*q))=(List.range j).map (fun q=>(f.kind,b+w*q))++[(f.kind,b+w*j)]:=by rw [List.range_succ,dE];rfl
     have hcl2:((elVs (E++(List.range j).map (fun q=>(f.kind,b+w*q)))).map CV.val).length=(E.length+j)*2:=by rw [cT,elVs_len];simp
     have hnc2:(elVs (E++(List.range j).map (fun q=>(f.kind,b+w*q)))).map CV.val++[.val (.int .i64 f.kind),.val (.int .i64 (b+w*j:Nat))]=(elVs (E++(List.range (j+1)).map (fun q=>(f.kind,b+w*q)))).map CV.val:=by
      rw [hrg,← dJ,elVs_app (E++_) [_],dE]
      rfl
     have hadd:((b+w*j:Nat):Int)+((w:Nat):Int)=((b+w*(j+1):Nat):Int):=by rw [Nat.mul_add,Nat.mul_one];omega
     have hwr:IntKind.i64.wrap (((b+w*j:Nat):Int)+((w:Nat):Int))=((b+w*(j+1):Nat):Int):=by rw [cE y3];exact hadd
     (refine aA<|aA<|rgN<|kmv O<|kfa O O ?_;refine kl1 O O O<|klt O O (cL y3)<|aB<|aE O ?_;refine aH ?_;refine aA<|aG<|aA<|rgN<|kmv O<|kfa O O ?_;refine kl1 O O O<|kmv O<|aT O O y2 y36 dO ?_;refine aZ (zs:=[.int .i64 0,.int .i64 0]) (sz:=2) (e:=114) y5 O O O O O O dO<|bP (by_:=16) (e2:=114) (l2:=[.val (.int .i64 f.kind),.val (.int .i64 (b+w*j:Nat))]) (nl:=E.length+(j+1)) O O hcl2 O O (dK _) O O y5 y5 y3 y3 O O hnc2 dO<|kas O<|aB<|rgN<|kmv O<|kmv O<|kad O O hwr<|kas O<|aB<|rgN<|kmv O<|kad O O (cE y3)<|kas O ?_;refine aB ?_)
     exact ⟨_,_,by omega,Le.ofR [(500,70)] y1B y1 y2 y2 y0 y2 y2,j+1,by omega,O,O⟩
    ·have e:j=n:=by omega
     subst e
     have hEn:(E++(List.range j).map (fun q=>(f.kind,b+w*q))).length=E.length+j:=by simp
     (refine aA<|aA<|rgN<|kmv O<|kfa O O ?_;refine kl1 O O O<|klt O O (cK y3)<|aB<|aF O ?_;refine aJ<|rgN<|kmv O<|kad O O (cE y3)<|kas O<|aB ?_)
     exact ⟨_,_,by omega,Le.ofR [] (by exact ⟨rfl,by rw [hE,hEn];rfl,rfl,by rw [hA];rfl,by rw [hG];rfl,rfl,trivial⟩) (by rw [hE,hS,hEn];exact y1) y2 y2 y0 y2 y2,i+1,by omega,rfl,hall',rfl⟩
   ·have hbT:b≠T:=fun e=>hz (by rw [e];exact hR.1)
    (refine aA<|aA<|rgN<|kmv O<|kmv O<|K.rem O O y3 hrem dO<|kne O O (cP y3)<|aB<|aE O ?_;refine aH ?_;refine aG<|rgN<|kmv O<|kad O O (cE y3)<|kas O<|aB ?_)
    exact ⟨_,_,by omega,Le.of y15 y9 y2 y2 y0,b+1,by omega,by omega,O,O⟩
 ·have e:i=fs.length:=by omega
  subst e
  rw [dC] at *
  have hR:=round_facts hgw (endAt 0 fs)
  have hg8:1≤greatW fs∧greatW fs≤8:=by rcases hgw with e|e|e|e<;>omega
  have hrs:roundUp (endAt 0 fs) (greatW fs)=rowSize fs:=rfl
  have hle:=layErr_all h8 hall
  (refine aA<|aA<|rgN<|kmv O<|kmv O<|aQ O bZ O dO ?_;refine klt O O (cK y3)<|aB<|aF O ?_;refine aJ<|aA<|aG ?_)
  refine cG (fun m σ=>∃ b:Nat,endAt 0 fs≤b∧b≤rowSize fs∧m=rowSize fs-b∧σ=⟨[(6,.sv (.one (.slc 500 0 (elemsAt 0 fs).length 2))),(7,.sv (.one (.slc 501 0 fs.length 1))),(8,Ln .i64 (b:Nat)),(9,Ln .i64 (greatW fs:Nat))],[(500,some ⟨114,(elVs (elemsAt 0 fs)).map .val,Nat.blt 0 (elemsAt 0 fs).length⟩),(501,some ⟨3,(ntV (startsAt 0 fs)).map .val,Nat.blt 0 fs.length⟩)],X⟩) (rowSize fs-endAt 0 fs)
   ⟨_,Le.of y8 yE y2 y2 y0,endAt 0 fs,dK _,hR.2.1,rfl,rfl⟩ ?_
  rintro m σ ⟨b,hb1,hb2,rfl,rfl⟩
  rw [hrs] at hR
  unfold layR layBx
  rw [hle]
  generalize rowSize fs=T at *
  generalize endAt 0 fs=a at *
  generalize elemsAt 0 fs=E at *
  generalize startsAt 0 fs=S at *
  generalize greatW fs=w at *
  have hrem:((b:Nat):Int).tmod ((w:Nat):Int)=((b%w:Nat):Int):=by rw [Int.tmod_eq_emod_of_nonneg y3];exact (Int.natCast_emod b w).symm
  by_cases hz:b%w=0
  ·have hbT:=hR.2.2.2 b hb1 hb2 hz
   subst hbT
   rw [hz] at hrem
   by_cases h256:256<b
   ·rw [if_pos h256,if_neg yA,if_neg yA]
    (refine aA<|aA<|rgN<|kmv O<|kmv O<|K.rem O O y3 hrem dO<|kne O O ((cO y3))<|aB<|aF O ?_;refine aJ<|aA<|aA<|rgN<|kmv O<|aS O O (cL y3) dO<|aB<|aE O ?_;refine aA<|rgN<|kas O<|kas O<|kas O<|kas O<|aB<|aI ?_)
    exact ⟨[],⟨[_,_,_,_],⟨O,O,O,O,trivial⟩,O⟩,trivial,O,O⟩
   ·rw [if_neg h256,if_pos rfl,if_pos rfl]
    (refine aA<|aA<|rgN<|kmv O<|kmv O<|K.rem O O y3 hrem dO<|kne O O ((cO y3))<|aB<|aF O ?_;refine aJ<|aA<|aA<|rgN<|kmv O<|aS O O (cK y3) dO<|aB<|aF O ?_;refine aH ?_;refine aA<|rgN<|kmv O<|kmv O<|kmv O<|kas O<|kas O<|kas O<|kas O<|aB<|aI ?_)
    exact ⟨[(1000001,500),(1000002,501)],⟨[_,_,_,_],⟨O,O,O,O,trivial⟩,O⟩,y1,O,O⟩
  ·have hbT:b≠T:=fun e=>hz (by rw [e];exact hR.1)
   (refine aA<|aA<|rgN<|kmv O<|kmv O<|K.rem O O y3 hrem dO<|kne O O (cP y3)<|aB<|aE O ?_;refine aH ?_;refine aG<|rgN<|kmv O<|kad O O (cE y3)<|kas O<|aB ?_)
   exact ⟨_,_,by omega,Le.of y8 yE y2 y2 y0,b+1,by omega,by omega,O,O⟩
end Go.Proofs.YtopiioklkkiedaaGreatDoor
end
section
set_option maxHeartbeats 12800000
set_option maxRecDepth 100000
namespace Go.Lg.Fld
open Go Go.Lg
theorem elVs_at:∀ {l:List (Int×Nat)} {i:Nat} {e:Int×Nat},l[i]? = some e→((elVs l).map CV.val)[i*2]? = some (.val (.int .i64 e.1))∧((elVs l).map CV.val)[i*2+1]? = some (.val (.int .i64 (e.2:Nat)))
 | [],i,e,h=>by simp at h
 | d::t,0,e,h=>by
  simp only [List.getElem?_cons_zero,Option.some.injEq] at h
  subst h
  exact y30
 | d::t,i+1,e,h=>by
  have ih:=elVs_at (l:=t) (i:=i) (e:=e) y2E
  have e1:(elVs (d::t)).map CV.val = .val (.int .i64 d.1) :: .val (.int .i64 (d.2:Nat))::(elVs t).map CV.val:=rfl
  rw [e1,Nat.add_mul,Nat.one_mul]
  exact ih
def nmV (n:Bool×Int):List Value:=[.bool n.1,.int .u64 (n.2/18446744073709551616),.int .u64 (n.2%18446744073709551616)]
end Go.Lg.Fld
namespace Go.Proofs.YtopiioklkkiedaaGreatDoor
open Go Go.Lg Go.Lg.Fld
set_option maxRecDepth 100000
variable (X:Nat→Option Obj)
structure NumsIn (X:Nat→Option Obj) (ad:Option Addr) (ns:List (Bool×Int)):Prop where
 rows:Go.Lg.RowsIn X ad 3 (ns.map nmV)
 in2:∀ n∈ns,In2 n.2
theorem NumsIn.at {X:Nat→Option Obj} {ad:Option Addr} {ns:List (Bool×Int)} (h:NumsIn X ad ns) {i:Nat} {b:Bool} {N:Int} (hf:ns[i]? = some (b,N)):
  In2 N∧∃ (blk off:Nat) (arr:Array Value) (el:TypeId) (fr:Nat×Nat),ad=some ⟨blk,off,none⟩∧X blk=some (.cells arr el fr)∧off+i*3+3≤arr.size∧((arr.toList.drop (off+i*3)).take 3).map CV.val=cI b N:=by
 obtain ⟨blk,off,arr,el,fr,h1,h2,h3,h4⟩:=h.rows i (nmV (b,N)) (by rw [dI,hf];rfl)
 exact ⟨h.in2 (b,N) (cZ hf),blk,off,arr,el,fr,h1,h2,h3,by rw [h4];rfl⟩
theorem Lay_ok (ad:Option Addr) (cap:Nat) (fs:List Fl) (hin:FieldsIn X ad fs) (hbig:fs.length<4611686018427387904) (h:layErr fs=0):
  MSpec Tryz.prog X 37 [Lx ad fs.length cap] [] (.tup [.one (.slc 1000001 0 (elemsAt 0 fs).length 2),Sn .i64 (rowSize fs:Nat),.one (.slc 1000002 0 fs.length 1),Sn .i64 0])
   [(1000001,some ⟨114,(elVs (elemsAt 0 fs)).map .val,Nat.blt 0 (elemsAt 0 fs).length⟩),(1000002,some ⟨3,(ntV (startsAt 0 fs)).map .val,Nat.blt 0 fs.length⟩)]:=by
 have:=Lay_spec X ad cap fs hin hbig
 unfold layR layBx at this
 rw [if_pos h,if_pos h] at this
 exact this
theorem Lay_no (ad:Option Addr) (cap:Nat) (fs:List Fl) (hin:FieldsIn X ad fs) (hbig:fs.length<4611686018427387904) (h:layErr fs≠0):
  MSpec Tryz.prog X 37 [Lx ad fs.length cap] [] (.tup [Vnil,Sn .i64 0,Vnil,Sn .i64 (layErr fs)]) []:=by
 have:=Lay_spec X ad cap fs hin hbig
 unfold layR layBx at this
 rw [if_neg h,if_neg h] at this
 exact this
theorem layErr_facts {fs:List Fl} (h:layErr fs=0):fs.length≤8∧fs.all Fl.ok=true∧rowSize fs≤256:=by
 unfold layErr at h
 split at h
 ·cases h
 ·split at h
  ·split at h
   ·cases h
   ·rename_i h1 h2 h3;exact ⟨by omega,h2,by omega⟩
  ·cases h
def fitAll (es:List (Int×Nat)) (ns:List (Bool×Int)):Bool:=(es.zip ns).all fun p=>fitB p.1.1 p.2.1 p.2.2
def fitErr (fs:List Fl) (ns:List (Bool×Int)):Int:=if layErr fs=0 then (if (elemsAt 0 fs).length=ns.length then (if fitAll (elemsAt 0 fs) ns=true then 0 else 3) else 4) else layErr fs
theorem zip_at {α β:Type} {es:List α} {ns:List β} {i:Nat} {e:α} {n:β} (h1:es[i]? = some e) (h2:ns[i]? = some n):(es.zip ns)[i]? = some (e,n):=List.getElem?_zip_eq_some.2 ⟨h1,h2⟩
set_option maxHeartbeats 1600000 in
theorem refFit_spec (ad ad2:Option Addr) (cap cap2:Nat) (fs:List Fl) (ns:List (Bool×Int)) (hin:FieldsIn X ad fs) (hbig:fs.length<4611686018427387904) (hns:NumsIn X ad2 ns) (hnb:ns.length<4611686018427387904):
  PSpec Tryz.prog X 36 [Lx ad fs.length cap,Lx ad2 ns.length cap2] (Ln .i64 (fitErr fs ns)):=by
 refine cC Tryz.func36 rfl y5 rfl rfl ?_
 intro C
 unfold fitErr
 by_cases hl:layErr fs=0
 ·have hL:=Lay_ok X ad cap fs hin hbig hl
  obtain ⟨h8,hall,_⟩:=layErr_facts hl
  have hEl:=elems_len fs 0 hall
  rw [if_pos hl]
  generalize elemsAt 0 fs=E at *
  generalize startsAt 0 fs=S at *
  generalize rowSize fs=T at *
  by_cases hn:E.length=ns.length
  ·rw [if_pos hn]
   (refine aA<|rgN<|kas O<|aB<|aA<|rgN<|kmv O<|bE [(1000001,501),(1000002,502)] (.tup [.one (.slc 501 0 E.length 2),Sn .i64 (T:Nat),.one (.slc 502 0 fs.length 1),Sn .i64 0]) [(501,some ⟨114,(elVs E).map .val,Nat.blt 0 E.length⟩),(502,some ⟨3,(ntV S).map .val,Nat.blt 0 fs.length⟩)] (hL) O O yC O O O O O y1D dO<|kmv O<|kex O O<|kex O O<|kex O O<|kex O O<|kas O ?_;refine kas O<|kas O<|kas O<|aB<|aA<|aA<|rgN<|kmv O<|kne O O ((cO y3))<|aB<|aF O ?_;refine aH ?_;refine aA<|aA<|rgN<|kmv O<|K.lenSlc O bZ O dO ?_;refine kmv O<|aQ O bZ O dO ?_;refine kne O O ((cO y3))<|aB<|aF O ?_;refine aH ?_;refine aA<|aA<|rgN<|kas O<|aB<|aG ?_)
   refine cG (fun m σ=>∃ i:Nat,i≤E.length∧m=E.length-i∧((E.zip ns).take i).all (fun p=>fitB p.1.1 p.2.1 p.2.2)=true∧σ=⟨[(1,Lx ad2 ns.length cap2),(5,.sv (.one (.slc 501 0 E.length 2))),(9,Ln .i64 (i:Nat))],[(501,some ⟨114,(elVs E).map .val,Nat.blt 0 E.length⟩)],X⟩) E.length
    ⟨_,Le.of y9 y13 y2 y2 y0,0,by omega,rfl,rfl,rfl⟩ ?_
   rintro m σ ⟨i,hi,rfl,hpre,rfl⟩
   by_cases hlt:i<E.length
   ·obtain ⟨e,he⟩:=wg hlt
    obtain ⟨⟨b,N⟩,hv⟩:∃ v,ns[i]? = some v:=wg y3
    obtain ⟨hN,blk,off,arr,el,fr,rfl,hX,hsz,hcells⟩:=hns.at hv
    have hio:=wo off i 3
    have hie:0+Int.toNat (i:Int)*2=i*2:=by simp
    have hc:=(elVs_at he).1
    have hzip:=zip_at he hv
    have hF:=refFits_spec X e.1 b N hN
    cases hf:fitB e.1 b N with
    | true =>
     have hF':=hF true hf
     (refine aA<|aA<|rgN<|kmv O<|kmv O<|K.lenSlc O bZ O dO ?_;refine klt O O (cL y3)<|aB<|aE O ?_;refine aH ?_;refine aA<|aG<|aA<|rgD mixed<|kmv O<|kmv O<|K.indexSlc O O y3 hie dO ?_;refine kfa O O ?_;refine kl1 O O hc<|kmv O<|kmv O<|aR O O bZ y3 hio dO<|aY O hX y5 hsz hcells dO<|kca O O (hF')<|aV O O dO<|aB<|rgA ?_;refine aF O ?_;refine aH ?_;refine rgN<|kmv O<|kad O O (cE y3)<|kas O<|aB ?_)
     exact ⟨_,_,by omega,Le.of y9 y13 y2 y2 y0,i+1,by omega,rfl,by rw [take_snoc hzip,List.all_append,hpre];simp [hf],rfl⟩
    | false =>
     have hF':=hF false hf
     have hno:fitAll E ns=false:=by
      unfold fitAll
      cases h:(E.zip ns).all (fun p=>fitB p.1.1 p.2.1 p.2.2) with
      | false=>rfl
      | true=>have:=List.all_eq_true.1 h _ (cZ hzip);rw [hf] at this;cases this
     rw [hno]
     (refine aA<|aA<|rgN<|kmv O<|kmv O<|K.lenSlc O bZ O dO ?_;refine klt O O (cL y3)<|aB<|aE O ?_;refine aH ?_;refine aA<|aG<|aA<|rgD mixed<|kmv O<|kmv O<|K.indexSlc O O y3 hie dO ?_;refine kfa O O ?_;refine kl1 O O hc<|kmv O<|kmv O<|aR O O bZ y3 hio dO<|aY O hX y5 hsz hcells dO<|kca O O (hF')<|aV O O dO<|aB<|rgA ?_;refine aE O ?_;refine aA<|rgN<|kas O<|aB<|aI ?_)
     exact y6
   ·have e:i=E.length:=by omega
    subst e
    have hyes:fitAll E ns=true:=by
     rw [List.take_of_length_le (by rw [List.length_zip];omega)] at hpre
     exact hpre
    rw [hyes]
    (refine aA<|aA<|rgN<|kmv O<|kmv O<|K.lenSlc O bZ O dO ?_;refine klt O O (cK y3)<|aB<|aF O ?_;refine aJ<|aA<|rgN<|kas O<|aB<|aI ?_)
    exact y6
  ·rw [if_neg hn]
   (refine aA<|rgN<|kas O<|aB<|aA<|rgN<|kmv O<|bE [(1000001,501),(1000002,502)] (.tup [.one (.slc 501 0 E.length 2),Sn .i64 (T:Nat),.one (.slc 502 0 fs.length 1),Sn .i64 0]) [(501,some ⟨114,(elVs E).map .val,Nat.blt 0 E.length⟩),(502,some ⟨3,(ntV S).map .val,Nat.blt 0 fs.length⟩)] (hL) O O yC O O O O O y1D dO<|kmv O<|kex O O<|kex O O<|kex O O<|kex O O<|kas O ?_;refine kas O<|kas O<|kas O<|aB<|aA<|aA<|rgN<|kmv O<|kne O O ((cO y3))<|aB<|aF O ?_;refine aH ?_;refine aA<|aA<|rgN<|kmv O<|K.lenSlc O bZ O dO ?_;refine kmv O<|aQ O bZ O dO ?_;refine kne O O (cP y3)<|aB<|aE O ?_;refine aA<|rgN<|kas O<|aB<|aI ?_)
   exact y6
 ·have hL:=Lay_no X ad cap fs hin hbig hl
  rw [if_neg hl]
  generalize layErr fs=e at *
  (refine aA<|rgN<|kas O<|aB<|aA<|rgN<|kmv O<|aU [] [] (hL) O O yC O O O O O y2B dO<|kmv O<|kex O O<|kex O O<|kex O O<|kex O O<|kas O ?_;refine kas O<|kas O<|kas O<|aB<|aA<|aA<|rgN<|kmv O<|kne O O (cP y3)<|aB<|aE O ?_;refine aA<|rgN<|kmv O<|kas O<|aB<|aI ?_)
  exact y6
end Go.Proofs.YtopiioklkkiedaaGreatDoor
end
section
set_option maxHeartbeats 12800000
set_option maxRecDepth 100000
namespace Go.Lg.Fld
open Go Go.Lg
def setAt (b:List UInt8) (p:Nat) (s:List UInt8):List UInt8:=b.take p++s++b.drop (p+s.length)
theorem setAt_len {b s:List UInt8} {p:Nat} (h:p+s.length≤b.length):(setAt b p s).length=b.length:=by
 simp only [setAt,cS,cW,cX];omega
theorem setAt_nil (b:List UInt8) (p:Nat):setAt b p []=b:=by simp [setAt]
theorem setAt_step {b s:List UInt8} {p k:Nat} {c:UInt8} (h:p+s.length≤b.length) (hc:s[k]? = some c):(setAt b p (s.take k)).set (p+k) c=setAt b p (s.take (k+1)):=by
 have hk:=(wl hc)
 have hl:(s.take k).length=k:=by rw [cW];omega
 have hl2:(s.take (k+1)).length=k+1:=by rw [cW];omega
 unfold setAt
 rw [hl,hl2,take_snoc hc]
 have hla:(b.take p++s.take k).length=p+k:=by rw [cS,cW,hl];omega
 obtain ⟨x,hx⟩:∃ x,b[p+k]? = some x:=wg y3
 have hd:b.drop (p+k)=x::b.drop (p+(k+1)):=by
  obtain ⟨hi,e⟩:=List.getElem?_eq_some_iff.1 hx
  rw [List.drop_eq_getElem_cons hi,e]
  rfl
 rw [hd,List.set_append_right _ _ (by omega),hla,Nat.sub_self,List.set_cons_zero]
 simp [dJ]
end Go.Lg.Fld
namespace Go.Proofs.YtopiioklkkiedaaGreatDoor
open Go Go.Lg Go.Lg.Fld
set_option maxRecDepth 100000
variable (X:Nat→Option Obj)
def numB (k:Int) (n:Bool×Int):List UInt8:=leB (kW k) (wdK k (zv n.1 n.2))
def packE:List (Int×Nat)→List (Bool×Int)→List UInt8→List UInt8
 | e::t,v::u,b=>packE t u (setAt b e.2 (numB e.1 v))
 | _,_,b=>b
theorem packE_snoc (e:Int×Nat) (v:Bool×Int):∀ (l:List (Int×Nat)) (m:List (Bool×Int)) (b:List UInt8),l.length=m.length→packE (l++[e]) (m++[v]) b=setAt (packE l m b) e.2 (numB e.1 v)
 | [],[],b,_=>rfl
 | e'::t,v'::u,b,h=>packE_snoc e v t u _ y2E
 | [],_::_,_,h=>by simp at h
 | _::_,[],_,h=>by simp at h
def Within (es:List (Int×Nat)) (T:Nat):Prop := ∀ e∈es,kK e.1=true∧e.2+kW e.1≤T
theorem elems_in:∀ (l:List Fl) (a:Nat),l.all Fl.ok=true→∀ e∈elemsAt a l,kK e.1=true∧a≤e.2∧e.2+kW e.1≤endAt a l
 | [],a,_,e,he=>by simp [elemsAt] at he
 | f::t,a,h,e,he=>by
  simp only [List.all_cons,Bool.and_eq_true] at h
  obtain ⟨hw,h1,h8,hc⟩:=ok_w h.1
  have hr:=round_facts hw a
  have hi:=end_le t (roundUp a f.w+f.w*f.n) h.2
  simp only [elemsAt,List.mem_append,List.mem_map,List.mem_range] at he
  rcases he with ⟨i,hin,rfl⟩|he
  ·have hk:kK f.kind=true:=by have:=h.1;simp only [Fl.ok,Bool.and_eq_true] at this;exact this.1
   have hm:f.w*i+f.w≤f.w*f.n:=by rw [← Nat.mul_succ];exact Nat.mul_le_mul_left _ hin
   refine ⟨hk,by simp only;omega,?_⟩
   show roundUp a f.w+f.w*i+f.w≤endAt (roundUp a f.w+f.w*f.n) t
   omega
  ·have:=elems_in t _ h.2 e he
   refine ⟨this.1,by omega,?_⟩
   exact this.2.2
theorem within_row {fs:List Fl} (h:fs.all Fl.ok=true):Within (elemsAt 0 fs) (rowSize fs):=fun e he=>by
 have h1:=elems_in fs 0 h e he
 have h2:=round_facts (great_wd fs h) (endAt 0 fs)
 refine ⟨h1.1,Nat.le_trans h1.2.2 h2.2.1⟩
theorem numB_len (k:Int) (n:Bool×Int):(numB k n).length=kW k:=leB_length _ _
theorem packE_len {T:Nat}:∀ {es:List (Int×Nat)} {ns:List (Bool×Int)} {b:List UInt8},Within es T→b.length=T→(packE es ns b).length=T
 | [],_,b,_,hb=>hb
 | _::_,[],b,_,hb=>hb
 | e::t,v::u,b,hw,hb=>by
  have h1:=(hw e y21).2
  exact packE_len (es:=t) (ns:=u) (fun x hx=>hw x (by simp [hx])) (by rw [setAt_len (by rw [numB_len];omega)];exact hb)
def packB (fs:List Fl) (ns:List (Bool×Int)):List UInt8:=packE (elemsAt 0 fs) ns (List.replicate (rowSize fs) 0)
theorem fitErr_facts {fs:List Fl} {ns:List (Bool×Int)} (h:fitErr fs ns=0):layErr fs=0∧(elemsAt 0 fs).length=ns.length∧fitAll (elemsAt 0 fs) ns=true:=by
 unfold fitErr at h
 split at h
 ·rename_i h0
  split at h
  ·rename_i h1
   split at h
   ·rename_i h2;exact ⟨h0,h1,h2⟩
   ·cases h
  ·cases h
 ·contradiction
theorem fitAll_at {es:List (Int×Nat)} {ns:List (Bool×Int)} (h:fitAll es ns=true) {i:Nat} {e:Int×Nat} {b:Bool} {N:Int} (he:es[i]? = some e) (hv:ns[i]? = some (b,N)):formB b N=true∧kK e.1=true∧fitZ e.1 (zv b N)=true:=by
 have:=List.all_eq_true.1 h _ (cZ (zip_at he hv))
 simp only [fitB,Bool.and_eq_true] at this
 exact ⟨this.2.1,this.1,this.2.2⟩
set_option maxHeartbeats 1600000 in
theorem refPack_spec (ad ad2:Option Addr) (cap cap2:Nat) (fs:List Fl) (ns:List (Bool×Int)) (hin:FieldsIn X ad fs) (hbig:fs.length<4611686018427387904) (hns:NumsIn X ad2 ns) (h:fitErr fs ns=0):
  PSpec Tryz.prog X 17 [Lx ad fs.length cap,Lx ad2 ns.length cap2] (Ls (packB fs ns)):=by
 obtain ⟨hl,hn,hfit⟩:=fitErr_facts h
 have hL:=Lay_ok X ad cap fs hin hbig hl
 obtain ⟨h8,hall,hT⟩:=layErr_facts hl
 have hW:=within_row hall
 have hEl:=elems_len fs 0 hall
 refine cC Tryz.func17 rfl y5 rfl rfl ?_
 intro C
 unfold packB
 generalize elemsAt 0 fs=E at *
 generalize startsAt 0 fs=S at *
 generalize rowSize fs=T at *
 have hmk:slcBuild Tryz.prog 117 T=some (List.replicate T (.int .u8 0),1,5):=slcBuild_one y5 y5 y3
 have hz0:(List.replicate T (Value.int .u8 0)).map CV.val=(List.replicate T (0:UInt8)).map bc:=by rw [List.map_replicate,List.map_replicate];rfl
 (refine aA<|rgN<|kas O<|aB<|aA<|rgN<|kmv O<|bE [(1000001,501),(1000002,502)] (.tup [.one (.slc 501 0 E.length 2),Sn .i64 (T:Nat),.one (.slc 502 0 fs.length 1),Sn .i64 0]) [(501,some ⟨114,(elVs E).map .val,Nat.blt 0 E.length⟩),(502,some ⟨3,(ntV S).map .val,Nat.blt 0 fs.length⟩)] (hL) O O yC O O O O O y1D dO<|kmv O<|kex O O<|kex O O<|kex O O<|kex O O<|kas O ?_;refine kas O<|kas O<|kas O<|aB<|aA<|rgN<|kmv O<|K.makeSlc (m:=T) (bytes:=1) O O hmk y5 y3 hz0 O dO<|kas O<|aB<|aA<|aA<|rgN<|kas O ?_;refine aB<|aG ?_)
 refine cG (fun m σ=>∃ i:Nat,i≤E.length∧m=E.length-i∧σ=⟨[(1,Lx ad2 ns.length cap2),(5,.sv (.one (.slc 501 0 E.length 2))),(9,.sv (.one (.slc 500 0 T 1))),(10,Ln .i64 (i:Nat))],[(501,some ⟨114,(elVs E).map .val,Nat.blt 0 E.length⟩),(500,some ⟨5,(packE (E.take i) (ns.take i) (List.replicate T 0)).map bc,false⟩)],X⟩) E.length
  ⟨_,Le.ofR [(500,21)] y8 y1 y2 y2 y0 y2 y2,0,by omega,rfl,rfl⟩ ?_
 rintro m σ ⟨i,hi,rfl,rfl⟩
 have hbl:(packE (E.take i) (ns.take i) (List.replicate T 0)).length=T:=packE_len (fun e he=>hW e (List.mem_of_mem_take he)) (by rw [dA])
 by_cases hlt:i<E.length
 ·obtain ⟨e,he⟩:=wg hlt
  obtain ⟨⟨b,N⟩,hv⟩:∃ v,ns[i]? = some v:=wg y3
  obtain ⟨hN,blk,off,arr,el,fr,rfl,hX,hsz,hcells⟩:=hns.at hv
  have hio:=wo off i 3
  have hie:0+Int.toNat (i:Int)*2=i*2:=by simp
  obtain ⟨hc1,hc2⟩:=elVs_at he
  obtain ⟨g1,g2,g3⟩:=fitAll_at hfit he hv
  have hP:=refPut_spec X e.1 (zv b N) g2 g3
  rw [← LI_q hN g1] at hP
  have hnext:packE (E.take (i+1)) (ns.take (i+1)) (List.replicate T 0)=setAt (packE (E.take i) (ns.take i) (List.replicate T 0)) e.2 (numB e.1 (b,N)):=by
   rw [take_snoc he,take_snoc hv,packE_snoc]
   rw [cW,cW];omega
  have hWe:=(hW e (cZ he)).2
  have hsl:(leB (kW e.1) (wdK e.1 (zv b N))).length=kW e.1:=leB_length _ _
  have hnb:numB e.1 (b,N)=leB (kW e.1) (wdK e.1 (zv b N)):=rfl
  rw [hnb] at hnext
  have hw8:=(kfacts e.1).2.2.2.2
  generalize leB (kW e.1) (wdK e.1 (zv b N))=s at *
  generalize packE (E.take i) (ns.take i) (List.replicate T 0)=B at *
  have hss:(⟨s.toArray⟩:ByteArray).size=s.length:=rfl
  (refine aA<|aA<|rgN<|kmv O<|kmv O<|K.lenSlc O bZ O dO ?_;refine klt O O (cL y3)<|aB<|aE O ?_;refine aH ?_;refine aA<|aG<|aA<|rgD mixed<|kmv O<|kmv O<|K.indexSlc O O y3 hie dO ?_;refine kfa O O ?_;refine kl1 O O hc1<|kmv O<|kmv O<|aR O O bZ y3 hio dO<|aY O hX y5 hsz hcells dO<|kca O O (hP)<|kas O<|aB<|rgA ?_;refine aA<|rgN<|kas O<|aB<|aG ?_)
  refine cG (fun m σ=>∃ k:Nat,k≤s.length∧m=s.length-k∧σ=⟨[(1,Lx (some ⟨blk,off,none⟩) ns.length cap2),(5,.sv (.one (.slc 501 0 E.length 2))),(9,.sv (.one (.slc 500 0 T 1))),(10,Ln .i64 (i:Nat)),(11,Ls s),(12,Ln .i64 (k:Nat))],[(501,some ⟨114,(elVs E).map .val,Nat.blt 0 E.length⟩),(500,some ⟨5,(setAt B e.2 (s.take k)).map bc,false⟩)],X⟩) s.length
   ⟨_,Le.ofR [] y11 (by rw [List.take_zero,setAt_nil];exact y1) y2 y2 y0 y2 y2,0,by omega,rfl,rfl⟩ ?_
  rintro m σ ⟨k,hk,rfl,rfl⟩
  by_cases hks:k<s.length
  ·obtain ⟨c,hc⟩:=wg hks
   have hstep:=setAt_step (b:=B) (p:=e.2) (s:=s) y3 hc
   have hadd:IntKind.i64.wrap (((e.2:Nat):Int)+((k:Nat):Int))=((e.2+k:Nat):Int):=by rw [cE y3];omega
   have hip:0+Int.toNat ((e.2+k:Nat):Int)*1=e.2+k:=by rw [dD];omega
   have hlen:(setAt B e.2 (s.take k)).length=T:=by rw [setAt_len (by rw [cW];omega)];exact hbl
   have hlt2:Nat.blt (e.2+k) ((setAt B e.2 (s.take k)).map bc).length=true:=by rw [cT,hlen,Nat.blt_eq];omega
   have hset:((setAt B e.2 (s.take k)).map bc).set (e.2+k) (bc c)=(setAt B e.2 (s.take (k+1))).map bc:=by rw [← List.map_set,hstep]
   (refine aA<|aA<|rgN<|kmv O<|kmv O<|kln O<|klt O O (cL y3)<|aB<|aE O ?_;refine aH ?_;refine aA<|aG<|rgD mixed<|kmv O<|kmv O<|kmv O<|K.indexSlc O O y3 hie dO ?_;refine kfa O O ?_;refine kl1 O O hc2<|kmv O<|kad O O hadd<|kmv O<|kmv O<|bB O O y3 (str_at hc) dO<|K.indexSlc O O y3 hip dO ?_;refine bG O O O O hlt2 hset dO<|aB<|rgA ?_;refine rgN<|kmv O<|kad O O (cE y3)<|kas O<|aB ?_)
   exact ⟨_,_,by omega,Le.ofR [] y11 y1 y2 y2 y0 y2 y2,k+1,by omega,O,O⟩
  ·have ek:k=s.length:=by omega
   subst ek
   rw [dC] at *
   (refine aA<|aA<|rgN<|kmv O<|kmv O<|kln O<|klt O O (cK y3)<|aB<|aF O ?_;refine aJ<|rgN<|kmv O<|kad O O (cE y3)<|kas O<|aB ?_)
   exact ⟨_,_,by omega,Le.ofR [] y8 (by rw [hnext];exact y1) y2 y2 y0 y2 y2,i+1,by omega,rfl,rfl⟩
 ·have e:i=E.length:=by omega
  subst e
  rw [dC,List.take_of_length_le (Nat.le_of_eq hn.symm)] at *
  generalize packE E ns (List.replicate T 0)=B at *
  have hlen:0+T≤(B.map bc).length:=by rw [cT];omega
  have hcut:((B.map bc).drop 0).take T=B.map bc:=by rw [List.drop_zero,List.take_of_length_le y29]
  (refine aA<|aA<|rgN<|kmv O<|kmv O<|K.lenSlc O bZ O dO ?_;refine klt O O (cK y3)<|aB<|aF O ?_;refine aJ<|aA<|rgN<|kmv O<|bR O O y5 StrT.u hlen hcut dO<|kas O<|aB<|aI ?_)
  exact y6
end Go.Proofs.YtopiioklkkiedaaGreatDoor
end
section
set_option maxHeartbeats 12800000
set_option maxRecDepth 100000
namespace Go.Proofs.YtopiioklkkiedaaGreatDoor
open Go Go.Lg Go.Lg.Fld
set_option maxRecDepth 100000
variable (X:Nat→Option Obj)
def qn (z:Int):Bool×Int:=(decide (z<0),mg z)
theorem zv_qn (z:Int):zv (qn z).1 (qn z).2=z:=by
 unfold qn zv mg
 by_cases h:z<0
 ·simp [h]
 ·simp [h]
def rdE (s:List UInt8) (e:Int×Nat):Int:=nbK e.1 (le ((s.drop e.2).take (kW e.1)))
def readOk (es:List (Int×Nat)) (s:List UInt8):Bool:=es.all fun e=>fitZ e.1 (rdE s e)
def unpZ (fs:List Fl) (s:List UInt8):List Int:=(elemsAt 0 fs).map (rdE s)
def unpOk (fs:List Fl) (s:List UInt8):Bool:=decide (s.length=rowSize fs)&&(readOk (elemsAt 0 fs) s&&(packB fs ((unpZ fs s).map qn)==s))
def unpErr (fs:List Fl) (s:List UInt8):Int:=if layErr fs=0 then (if unpOk fs s=true then 0 else 4) else layErr fs
def nsV (zs:List Int):List Value:=(zs.map fun z=>nmV (qn z)).flatten
theorem nsV_len (zs:List Int):(nsV zs).length=zs.length*3:=by
 induction zs with
 | nil=>rfl
 | cons z t ih=>simp only [nsV,List.map_cons,List.flatten_cons,cS] at ih ⊢;rw [ih];simp [nmV];omega
theorem nsV_snoc (zs:List Int) (z:Int):(nsV (zs++[z])).map CV.val=(nsV zs).map CV.val++cQ z:=by simp [nsV,nmV,qn]
theorem read_R {es:List (Int×Nat)} {s:List UInt8} {T:Nat} (hW:Within es T) (hs:s.length=T) {e:Int×Nat} (he:e∈es):((s.drop e.2).take (kW e.1)).length=kW e.1∧R127 (rdE s e):=by
 have h:=hW e he
 have hl:((s.drop e.2).take (kW e.1)).length=kW e.1:=by rw [cW,cX];omega
 refine ⟨hl,?_⟩
 have hb:=le_lt ((s.drop e.2).take (kW e.1))
 rw [hl] at hb
 exact nb_R h.1 hb
theorem nums_in2 {zs:List Int} (h:∀ z∈zs,R127 z):∀ n∈zs.map qn,In2 n.2:=fun n hn=>by
 obtain ⟨z,hz,rfl⟩:=List.mem_map.1 hn
 exact mg_in2 (h z hz)
theorem fit_read {es:List (Int×Nat)} {s:List UInt8} {T:Nat} (hW:Within es T) (hs:s.length=T) (hok:readOk es s=true):fitAll es ((es.map (rdE s)).map qn)=true:=by
 unfold fitAll
 refine List.all_eq_true.2 fun p hp => ?_
 obtain ⟨i,hi⟩:=List.getElem?_of_mem hp
 obtain ⟨h1,h2⟩:=List.getElem?_zip_eq_some.1 hi
 rw [dI,dI,h1] at h2
 simp only [Option.map_some,Option.some.injEq] at h2
 have hm:=cZ h1
 have hf:=List.all_eq_true.1 hok _ hm
 have hR:=(read_R hW hs hm).2
 rw [← h2]
 simp only [fitB,Bool.and_eq_true]
 refine ⟨(hW _ hm).1,formB_q hR,?_⟩
 rw [zv_qn];exact hf
theorem nums_frozen {X:Nat→Option Obj} {blk:Nat} {arr:Array Value} {el:TypeId} {fr:Nat×Nat} {zs:List Int} (h:∀ z∈zs,R127 z) (hsp:∃ sp,arr.toList=nsV zs++sp):
  NumsIn (withBlock X blk (.cells arr el fr)) (some ⟨blk,0,none⟩) (zs.map qn):=
 ⟨rows_frozen (fun r hr=>by obtain ⟨n,_,rfl⟩:=List.mem_map.1 hr;rfl) (by
  obtain ⟨sp,e⟩:=hsp
  exact ⟨sp,by rw [e,List.map_map];rfl⟩),nums_in2 h⟩
theorem fields_more {X:Nat→Option Obj} {ad:Option Addr} {fs:List Fl} (h:FieldsIn X ad fs) {blk:Nat} {o:Obj} (hn:X blk=none):FieldsIn (withBlock X blk o) ad fs:=⟨h.rows.mono (cF hn),h.small⟩
def unpR (fs:List Fl) (s:List UInt8):LV:=if unpErr fs s=0 then .tup [.one (.slc 1000001 0 (unpZ fs s).length 3),Sn .i64 0] else .tup [Vnil,Sn .i64 (unpErr fs s)]
def unpBx (fs:List Fl) (s:List UInt8):List (Nat×Option Box):=if unpErr fs s=0 then [(1000001,some ⟨86,(nsV (unpZ fs s)).map .val,true⟩)] else []
set_option maxHeartbeats 3200000 in
theorem refUnpack_spec (ad:Option Addr) (cap:Nat) (fs:List Fl) (s:List UInt8) (hin:FieldsIn X ad fs) (hbig:fs.length<4611686018427387904):
  MSpec Tryz.prog X 16 [Lx ad fs.length cap,Ls s] [] (unpR fs s) (unpBx fs s):=by
 refine cD Tryz.func16 rfl y5 rfl (by unfold unpR unpBx;split<;>rfl) (by unfold unpBx;split<;>exact y0) rfl rfl ?_
 intro C
 have hzs:(⟨s.toArray⟩:ByteArray).size=s.length:=rfl
 by_cases hl:layErr fs=0
 ·have hL:=Lay_ok X ad cap fs hin hbig hl
  obtain ⟨h8,hall,hT⟩:=layErr_facts hl
  have hW:=within_row hall
  have hEl:=elems_len fs 0 hall
  have hP:=fun (Y:Nat→Option Obj) (ad2:Option Addr) (cap2:Nat) (hY:FieldsIn Y ad fs) (hN:NumsIn Y ad2 ((unpZ fs s).map qn)) (hf:fitErr fs ((unpZ fs s).map qn)=0)=>refPack_spec Y ad ad2 cap cap2 fs ((unpZ fs s).map qn) hY hbig hN hf
  have hfe:fitAll (elemsAt 0 fs) ((unpZ fs s).map qn)=true→fitErr fs ((unpZ fs s).map qn)=0:=fun h=>by
   unfold fitErr
   rw [if_pos hl,if_pos (by simp [unpZ]),if_pos h]
  have hue:unpErr fs s=if unpOk fs s=true then 0 else 4:=if_pos hl
  unfold unpR unpBx
  rw [hue]
  unfold unpOk
  have hzl:(unpZ fs s).length=(elemsAt 0 fs).length:=by simp [unpZ]
  have hzd:unpZ fs s=(elemsAt 0 fs).map (rdE s):=rfl
  generalize packB fs ((unpZ fs s).map qn)=B at *
  generalize unpZ fs s=Z at *
  generalize elemsAt 0 fs=E at *
  generalize startsAt 0 fs=S at *
  generalize rowSize fs=T at *
  by_cases hn:s.length=T
  ·rw [cL hn,Bool.true_and]
   (refine aA<|rgN<|kas O<|kas O<|aB<|aA<|rgN<|kmv O<|bE [(1000001,501),(1000002,502)] (.tup [.one (.slc 501 0 E.length 2),Sn .i64 (T:Nat),.one (.slc 502 0 fs.length 1),Sn .i64 0]) [(501,some ⟨114,(elVs E).map .val,Nat.blt 0 E.length⟩),(502,some ⟨3,(ntV S).map .val,Nat.blt 0 fs.length⟩)] (hL) O O yC O O O O O y1D dO<|kmv O<|kex O O<|kex O O<|kex O O<|kex O O ?_;refine kas O<|kas O<|kas O<|kas O<|aB<|aA<|aA<|rgN<|kmv O<|kne O O ((cO y3))<|aB<|aF O ?_;refine aH ?_;refine aA<|aA<|rgN<|kmv O<|kln O<|kmv O<|kne O O ((cO y3))<|aB<|aF O ?_;refine aH ?_;refine aA<|rgN<|aZ (zs:=[]) (sz:=3) (e:=86) y5 O O O O O O dO<|kas O<|aB<|aA<|aA<|rgN<|kas O<|aB<|aG ?_)
   refine cG (fun m σ=>∃ i:Nat,i≤E.length∧m=E.length-i∧(E.take i).all (fun e=>fitZ e.1 (rdE s e))=true∧σ=⟨[(0,Lx ad fs.length cap),(1,Ls s),(6,.sv (.one (.slc 501 0 E.length 2))),(10,.sv (.one (.slc 500 0 i 3))),(11,Ln .i64 (i:Nat))],[(501,some ⟨114,(elVs E).map .val,Nat.blt 0 E.length⟩),(500,some ⟨86,(nsV (Z.take i)).map .val,Nat.blt 0 i⟩)],X⟩) E.length
    ⟨_,Le.ofR [(500,29)] y10 y1 y2 y2 y0 y2 y2,0,by omega,rfl,rfl,rfl⟩ ?_
   rintro m σ ⟨i,hi,rfl,hpre,rfl⟩
   by_cases hlt:i<E.length
   ·obtain ⟨e,he⟩:=wg hlt
    have hz:Z[i]? = some (rdE s e):=by rw [hzd,dI,he];rfl
    have hm:=cZ he
    have hie:0+Int.toNat (i:Int)*2=i*2:=by simp
    obtain ⟨hc1,hc2⟩:=elVs_at he
    have hWe:=hW e hm
    have hB:=refBytes_spec X e.1
    have hrd:=read_R hW hn hm
    have hG:=refGet_q X e.1 ((s.drop e.2).take (kW e.1)) hWe.1 hrd.1
    have hcut:(⟨s.toArray⟩:ByteArray).extract e.2 (e.2+kW e.1)=⟨((s.drop e.2).take (kW e.1)).toArray⟩:=by rw [str_cut,Nat.add_sub_cancel_left]
    have hw8:=(kfacts e.1).2.2.2.2
    have hadd:IntKind.i64.wrap (((e.2:Nat):Int)+((kW e.1:Nat):Int))=((e.2+kW e.1:Nat):Int):=by rw [cE y3];omega
    unfold getR at hG
    rw [show nbK e.1 (le ((s.drop e.2).take (kW e.1)))=rdE s e from rfl] at hG
    have htz:nsV (Z.take (i+1))=nsV (Z.take i++[rdE s e]):=by rw [take_snoc hz]
    have hcl:((nsV (Z.take i)).map CV.val).length=i*3:=by rw [cT,nsV_len,cW,hzl];omega
    cases hf:fitZ e.1 (rdE s e) with
    | true =>
     rw [hf,if_pos rfl] at hG
     have hnc:(nsV (Z.take i)).map CV.val++cQ (rdE s e)=(nsV (Z.take (i+1))).map CV.val:=by rw [htz,nsV_snoc]
     have hall2:(E.take (i+1)).all (fun e=>fitZ e.1 (rdE s e))=true:=by rw [take_snoc he,List.all_append,hpre];simp [hf]
     generalize (s.drop e.2).take (kW e.1)=t at *
     generalize kW e.1=w at *
     generalize rdE s e=z at *
     (refine aA<|aA<|rgN<|kmv O<|kmv O<|K.lenSlc O bZ O dO ?_;refine klt O O (cL y3)<|aB<|aE O ?_;refine aH ?_;refine aA<|aG<|aA<|rgN<|kmv O<|kmv O<|K.indexSlc O O y3 hie dO ?_;refine kfa O O ?_;refine kl1 O O hc1<|kca O O (hB)<|kas O<|aB<|aA<|rgD mixed<|kmv O<|kmv O<|K.indexSlc O O y3 hie dO ?_;refine kfa O O ?_;refine kl1 O O hc1<|kmv O<|kmv O<|kmv O<|K.indexSlc O O y3 hie dO ?_;refine kfa O O ?_;refine kl1 O O hc2<|kmv O<|kmv O<|K.indexSlc O O y3 hie dO ?_;refine kfa O O ?_;refine kl1 O O hc2<|kmv O<|kad O O hadd<|bM (l:=e.2) (h:=e.2+w) (kl:=.i64) (kh:=.i64) O StrT.u O O ⟨y3,y3⟩ hcut dO<|kca O O (hG)<|kmv O<|kex O O<|kex O O<|aP O dO ?_;refine aM O O O O O O dO ?_;refine kas O<|aB<|rgA ?_;refine aA<|aA<|rgN<|kmv O<|aV O O dO<|aB<|aF O ?_;refine aH ?_;refine rgN<|kmv O<|aK O O O dO ?_;refine aZ (zs:=[.bool false,.int .u64 0,.int .u64 0]) (sz:=3) (e:=86) y5 O O O O O O dO<|bP (by_:=24) (e2:=86) (l2:=cQ z) O O hcl O O (dK _) O O y5 y5 y3 y3 O O hnc dO<|kas O<|aB<|rgN<|kmv O<|kad O O (cE y3)<|kas O<|aB ?_)
     exact ⟨_,_,by omega,Le.ofR [(500,70)] y10 y1 y2 y2 y0 y2 y2,i+1,by omega,O,hall2,O⟩
    | false =>
     rw [hf,if_neg (by simp)] at hG
     have hno:readOk E s=false:=by
      unfold readOk
      cases h:E.all (fun e=>fitZ e.1 (rdE s e)) with
      | false=>rfl
      | true=>have:=List.all_eq_true.1 h _ hm;rw [hf] at this;cases this
     rw [hno,Bool.false_and,if_neg (by simp),if_neg (by decide),if_neg (by decide)]
     generalize (s.drop e.2).take (kW e.1)=t at *
     generalize kW e.1=w at *
     (refine aA<|aA<|rgN<|kmv O<|kmv O<|K.lenSlc O bZ O dO ?_;refine klt O O (cL y3)<|aB<|aE O ?_;refine aH ?_;refine aA<|aG<|aA<|rgN<|kmv O<|kmv O<|K.indexSlc O O y3 hie dO ?_;refine kfa O O ?_;refine kl1 O O hc1<|kca O O (hB)<|kas O<|aB<|aA<|rgD mixed<|kmv O<|kmv O<|K.indexSlc O O y3 hie dO ?_;refine kfa O O ?_;refine kl1 O O hc1<|kmv O<|kmv O<|kmv O<|K.indexSlc O O y3 hie dO ?_;refine kfa O O ?_;refine kl1 O O hc2<|kmv O<|kmv O<|K.indexSlc O O y3 hie dO ?_;refine kfa O O ?_;refine kl1 O O hc2<|kmv O<|kad O O hadd<|bM (l:=e.2) (h:=e.2+w) (kl:=.i64) (kh:=.i64) O StrT.u O O ⟨y3,y3⟩ hcut dO<|kca O O (hG)<|kmv O<|kex O O<|kex O O<|aP O dO ?_;refine aM O O O O O O dO ?_;refine kas O<|aB<|rgA ?_;refine aA<|aA<|rgN<|kmv O<|aV O O dO<|aB<|aE O ?_;refine aA<|rgN<|kas O<|kas O<|aB<|aI ?_)
     exact y1C
   ·have e:i=E.length:=by omega
    subst e
    rw [dC] at *
    rw [List.take_of_length_le (by omega)]
    have hok:readOk E s=true:=hpre
    rw [hok,Bool.true_and]
    have hfa:=hfe (by rw [hzd];exact fit_read hW hn hok)
    have hR:∀ z∈Z,R127 z:=fun z hz=>by
     rw [hzd] at hz
     obtain ⟨e,he,rfl⟩:=List.mem_map.1 hz
     exact (read_R hW hn he).2
    (refine aA<|aA<|rgN<|kmv O<|kmv O<|K.lenSlc O bZ O dO ?_;refine klt O O (cK y3)<|aB<|aF O ?_;refine aJ<|aA<|aA ?_)
    refine LWP.le (σ':=⟨[(10,.sv (.one (.slc 500 0 E.length 3))),(0,Lx ad fs.length cap),(1,Ls s)],[(500,some ⟨86,(nsV Z).map .val,Nat.blt 0 E.length⟩)],X⟩) (Le.of y9 y13 y2 y2 y0) ?_
    refine LWP.freeze O O O ?_
    intro blk cp arr fr hXn hFz hcp hfit2 hsp
    have hin':=fields_more hin (o:=.cells arr 86 fr) hXn
    have hns:=nums_frozen (X:=X) (blk:=blk) (el:=86) (fr:=fr) hR hsp
    have hPk:=hP _ _ cp hin' hns hfa
    rw [cT,hzl] at hPk
    cases hq:(B==s) with
    | false =>
     rw [if_neg (by simp),if_neg (by decide),if_neg (by decide)]
     (refine rgN<|kmv O<|kmv O<|kca O O (hPk)<|kmv O<|K.strNe O O (strs_ne (r:=true) (by rw [hq];rfl)) dO<|aB<|aE O ?_;refine aA<|rgN<|kas O<|kas O<|aB<|aI ?_)
     exact y1C
    | true =>
     rw [if_pos rfl,if_pos rfl,if_pos rfl]
     (refine rgN<|kmv O<|kmv O<|kca O O (hPk)<|kmv O<|K.strNe O O (strs_ne (r:=false) (by rw [hq];rfl)) dO<|aB<|aF O ?_;refine aH ?_;refine aA ?_)
     refine LWP.le (σ':=⟨[(10,.sv (.one (.val (.slice (some ⟨blk,0,none⟩) E.length cp))))],[],withBlock X blk (.cells arr 86 fr)⟩) (Le.of y13 yC y2 y2 y2) ?_
     refine LWP.thaw (k:=500) (sz:=3) (vals:=nsV Z) hXn hFz hcp hfit2 hsp O O O yA ?_
     (refine rgN<|kmv O<|kas O<|kas O<|aB<|aI ?_)
     exact ⟨[(1000001,500)],⟨[_,_],⟨rfl,rfl,trivial⟩,by rw [hzl];rfl⟩,y1,rfl,rfl⟩
  ·rw [cK hn,Bool.false_and,if_neg y21,if_neg yA,if_neg yA]
   (refine aA<|rgN<|kas O<|kas O<|aB<|aA<|rgN<|kmv O<|bE [(1000001,501),(1000002,502)] (.tup [.one (.slc 501 0 E.length 2),Sn .i64 (T:Nat),.one (.slc 502 0 fs.length 1),Sn .i64 0]) [(501,some ⟨114,(elVs E).map .val,Nat.blt 0 E.length⟩),(502,some ⟨3,(ntV S).map .val,Nat.blt 0 fs.length⟩)] (hL) O O yC O O O O O y1D dO<|kmv O<|kex O O<|kex O O<|kex O O<|kex O O ?_;refine kas O<|kas O<|kas O<|kas O<|aB<|aA<|aA<|rgN<|kmv O<|kne O O ((cO y3))<|aB<|aF O ?_;refine aH ?_;refine aA<|aA<|rgN<|kmv O<|kln O<|kmv O<|kne O O (cP y3)<|aB<|aE O ?_;refine aA<|rgN<|kas O<|kas O<|aB<|aI ?_)
   exact y1C
 ·have hL:=Lay_no X ad cap fs hin hbig hl
  have hue:unpErr fs s=layErr fs:=if_neg hl
  unfold unpR unpBx
  rw [hue,if_neg hl,if_neg hl]
  generalize layErr fs=e at *
  (refine aA<|rgN<|kas O<|kas O<|aB<|aA<|rgN<|kmv O<|aU [] [] (hL) O O yC O O O O O y2B dO<|kmv O<|kex O O<|kex O O<|kex O O<|kex O O ?_;refine kas O<|kas O<|kas O<|kas O<|aB<|aA<|aA<|rgN<|kmv O<|kne O O (cP y3)<|aB<|aE O ?_;refine aA<|rgN<|kmv O<|kas O<|kas O<|aB<|aI ?_)
  exact y1C
end Go.Proofs.YtopiioklkkiedaaGreatDoor
end
section
set_option maxHeartbeats 12800000
set_option maxRecDepth 100000
namespace Go.Lg.Fld
open Go Go.Lg
def elemsN (fs:List Fl):Nat:=if layErr fs=0 then (elemsAt 0 fs).length else 0
def sumC (fs:List Fl):Nat:=(fs.map Fl.n).sum
def startN (fs:List Fl) (i:Int):Nat:=if layErr fs=0∧0≤i∧i<fs.length then sumC (fs.take i.toNat) else 0
abbrev planV (size:Int) (c:CV):SV:=.agg [.val (.int .i64 size),c]
theorem elems_sum:∀ (l:List Fl) (a:Nat),(elemsAt a l).length=sumC l
 | [],_=>rfl
 | f::t,a=>by
  simp only [elemsAt,cS,cT,List.length_range,elems_sum t]
  simp [sumC]
theorem sum_snoc (l:List Fl) (f:Fl):sumC (l++[f])=sumC l+f.n:=by simp [sumC]
theorem sum_le:∀ (l:List Fl),l.all Fl.ok=true→sumC l≤8*l.length:=fun l h=>by
 have:=(elems_len l 0 h).2
 rw [elems_sum] at this
 exact this
def canB (fs:List Fl):Bool:=decide (fs.length≤8)&&fs.all Fl.ok
theorem canB_err {fs:List Fl} (h:canB fs=false):layErr fs=1:=by
 unfold canB at h
 unfold layErr
 by_cases h8:8<fs.length
 ·rw [if_pos h8]
 ·rw [if_neg h8]
  rw [cL (show fs.length≤8 by omega),Bool.true_and] at h
  rw [h,if_neg (by simp)]
theorem canB_ok {fs:List Fl} (h:canB fs=true):fs.length≤8∧fs.all Fl.ok=true∧layErr fs=if 256<rowSize fs then 5 else 0:=by
 unfold canB at h
 rw [Bool.and_eq_true,decide_eq_true_eq] at h
 refine ⟨h.1,h.2,?_⟩
 unfold layErr
 rw [if_neg (by omega),if_pos h.2]
theorem round_up {n:Nat} (h:isWd n) (a:Nat):(a+n-1)/n*n=roundUp a n:=by
 unfold roundUp
 rcases h with rfl|rfl|rfl|rfl<;>omega
def blankB (l:List UInt8):Bool:=l.all fun c=>c==0
theorem dropWhile_nil {l:List UInt8}:l.dropWhile (· == (0:UInt8))=[]↔l.all (fun c=>c==0)=true:=by
 induction l with
 | nil=>simp
 | cons c t ih =>
  rw [List.dropWhile_cons]
  cases hc:(c==0) with
  | true=>rw [if_pos rfl,ih,List.all_cons,hc,Bool.true_and]
  | false=>rw [if_neg y21,List.all_cons,hc,Bool.false_and];simp
theorem trim_blank (l:List UInt8):(Lib.trimB l 0==[])=blankB l:=by
 unfold blankB
 have h1:Lib.trimB l 0=[]↔l.all (fun c=>c==0)=true:=by
  unfold Lib.trimB Lib.trimLeftB Lib.trimRightB
  rw [dropWhile_nil,List.all_reverse]
  constructor
  ·intro h
   have h2:l.reverse.dropWhile (· == (0:UInt8))=[]:=by
    cases e:l.reverse.dropWhile (· == (0:UInt8)) with
    | nil=>rfl
    | cons c t =>
     have h3:=List.head_dropWhile_not (fun x=>x==(0:UInt8)) (l:=l.reverse) (by rw [e];simp)
     rw [e] at h
     simp only [List.all_cons,Bool.and_eq_true] at h
     simp only [e,List.head_cons] at h3
     rw [h.1] at h3
     cases h3
   rw [dropWhile_nil,List.all_reverse] at h2
   exact h2
  ·intro h
   have h2:l.reverse.dropWhile (· == (0:UInt8))=[]:=by rw [dropWhile_nil,List.all_reverse];exact h
   rw [h2];rfl
 cases hb:l.all (fun c=>c==0) with
 | true=>rw [h1.2 hb];rfl
 | false =>
  refine cN fun e => ?_
  rw [h1.1 e] at hb
  cases hb
end Go.Lg.Fld
namespace Go.Proofs.YtopiioklkkiedaaGreatDoor
open Go Go.Lg Go.Lg.Fld
set_option maxRecDepth 100000
variable (X:Nat→Option Obj)
theorem trimRight_spec (l:List UInt8) (hl:l.length<4611686018427387904):PSpec Tryz.prog X 163 [Ls l,Ln .u8 0] (Ls (Lib.trimRightB l 0)):=by
 refine cC Tryz.func163 rfl y5 rfl rfl ?_
 intro C
 (refine aA<|rgN<|kas O<|aB<|aA<|aG ?_)
 refine cG (fun m σ=>∃ k:Nat,k≤l.length∧m=k∧(∀ (j:Nat) b,k≤j→l[j]? = some b→b=0)∧σ=⟨[(0,Ls (l.take k)),(1,Ln .u8 0)],[],X⟩) l.length
  ⟨_,Le.of (by exact ⟨by rw [dC];rfl,rfl,trivial⟩) yC y2 y2 y2,l.length,by omega,rfl,(fun j b hj hb=>by rw [List.getElem?_eq_none hj] at hb;cases hb),rfl⟩ ?_
 rintro m σ ⟨k,hk,rfl,hz,rfl⟩
 have hlen:(⟨(l.take m).toArray⟩:ByteArray).size=m:=by show (l.take m).length=m;rw [cW];omega
 by_cases h0:m=0
 ·subst h0
  rw [Lib.trimRightB_take l 0 0 hk hz (fun _ h=>absurd h (by omega))]
  (refine aA<|aA<|rgN<|kmv O<|kln O<|aS O O (cK y3) dO<|kmv O<|aC O O O<|aC O O O<|aC O O O<|aC O O O<|aC O O O<|aC O O O<|aC O O O ?_;refine kpf O O<|aB<|aF O ?_;refine aJ<|aA<|rgN<|kmv O<|kas O<|aB<|aI ?_)
  exact y6
 ·obtain ⟨c,hc⟩:∃ c,l[m-1]? = some c:=wg y3
  have hc':(l.take m)[m-1]? = some c:=by rw [List.getElem?_take,if_pos y3];exact hc
  have hm1:((m:Nat):Int)-1=((m-1:Nat):Int):=by omega
  have hw:IntKind.i64.wrap (((⟨(l.take m).toArray⟩:ByteArray).size:Nat)-1:Int)=((m-1:Nat):Int):=by rw [hlen,cE y3];omega
  by_cases hcz:c=0
  ·have hcut:(⟨(l.take m).toArray⟩:ByteArray).extract 0 (m-1)=⟨(l.take (m-1)).toArray⟩:=by rw [str_cut,List.drop_zero,List.take_take];congr 3;omega
   have hz':∀ (j:Nat) b,m-1≤j→l[j]? = some b→b=0:=fun j b hj hb=>by
    by_cases e:j=m-1
    ·subst e;rw [hc] at hb;cases hb;exact hcz
    ·exact hz j b y3 hb
   have heq:(((c.toNat:Nat):Int)==0)=true:=by rw [hcz];rfl
   (refine aA<|aA<|rgN<|kmv O<|kln O<|aS O O (cL y22) dO<|kmv O<|gmv O O O<|gmv O O O<|K.lenStr O (dP O O) ?_;refine bA O O hw (dP O O) ?_;refine bB O O y3 (str_at (by rw [dD];exact hc')) (dP O O) ?_;refine gmv O O O<|bC O O heq (dP O O) ?_;refine kpt O O<|aB<|aE O ?_;refine aH ?_;refine aG<|rgN<|kmv O<|kmv O<|kln O<|bA O O hw dO<|bM (l:=0) (h:=m-1) (kl:=.i64) (kh:=.i64) O StrT.u O O ⟨y3,y3⟩ hcut dO<|kas O<|aB ?_)
   exact ⟨m-1,_,by omega,Le.of yE yC y2 y2 y2,m-1,by omega,O,hz',O⟩
  ·have heq:(((c.toNat:Nat):Int)==0)=false:=cN fun e=>hcz (by
    have h5:c.toNat=0:=by omega
    exact UInt8.toNat_inj.1 h5)
   rw [Lib.trimRightB_take l 0 m hk hz (fun b _ hb=>by rw [hc] at hb;cases hb;exact hcz)]
   (refine aA<|aA<|rgN<|kmv O<|kln O<|aS O O (cL y22) dO<|kmv O<|gmv O O O<|gmv O O O<|K.lenStr O (dP O O) ?_;refine bA O O hw (dP O O) ?_;refine bB O O y3 (str_at (by rw [dD];exact hc')) (dP O O) ?_;refine gmv O O O<|bC O O heq (dP O O) ?_;refine kpt O O<|aB<|aF O ?_;refine aJ<|aA<|rgN<|kmv O<|kas O<|aB<|aI ?_)
   exact y6
theorem trimLeft_spec (l:List UInt8) (hl:l.length<4611686018427387904):PSpec Tryz.prog X 162 [Ls l,Ln .u8 0] (Ls (Lib.trimLeftB l 0)):=by
 refine cC Tryz.func162 rfl y5 rfl rfl ?_
 intro C
 (refine aA<|rgN<|kas O<|aB<|aA<|aG ?_)
 refine cG (fun m σ=>∃ k:Nat,k≤l.length∧m=l.length-k∧(∀ (j:Nat) b,j<k→l[j]? = some b→b=0)∧σ=⟨[(0,Ls (l.drop k)),(1,Ln .u8 0)],[],X⟩) l.length
  ⟨_,Le.of yE yC y2 y2 y2,0,by omega,rfl,(fun j b hj=>absurd hj y3),rfl⟩ ?_
 rintro m σ ⟨k,hk,rfl,hz,rfl⟩
 have hlen:(⟨(l.drop k).toArray⟩:ByteArray).size=l.length-k:=by show (l.drop k).length=_;rw [cX]
 by_cases h0:k=l.length
 ·subst h0
  rw [Lib.trimLeftB_drop l 0 l.length hk hz (fun b hb=>by rw [List.getElem?_eq_none (dK _)] at hb;cases hb)]
  (refine aA<|aA<|rgN<|kmv O<|kln O<|aS O O (cK y22) dO<|kmv O<|aC O O O<|aC O O O<|aC O O O<|aC O O O<|kpf O O<|aB<|aF O ?_;refine aJ<|aA<|rgN<|kmv O<|kas O<|aB<|aI ?_)
  exact y6
 ·obtain ⟨c,hc⟩:∃ c,l[k]? = some c:=wg y3
  have hc':(l.drop k)[0]? = some c:=by rw [List.getElem?_drop];exact hc
  by_cases hcz:c=0
  ·have hcut:(⟨(l.drop k).toArray⟩:ByteArray).extract 1 (l.length-k)=⟨(l.drop (k+1)).toArray⟩:=by rw [str_cut,List.drop_drop,List.take_of_length_le (by rw [cX];omega)]
   have hz':∀ (j:Nat) b,j<k+1→l[j]? = some b→b=0:=fun j b hj hb=>by
    by_cases e:j=k
    ·subst e;rw [hc] at hb;cases hb;exact hcz
    ·exact hz j b y3 hb
   have heq:(((c.toNat:Nat):Int)==0)=true:=by rw [hcz];rfl
   (refine aA<|aA<|rgN<|kmv O<|kln O<|aS O O (cL y22) dO<|kmv O<|gmv O O O<|bB O O y3 (str_at hc') (dP O O) ?_;refine gmv O O O<|bC O O heq (dP O O) ?_;refine kpt O O<|aB<|aE O ?_;refine aH ?_;refine aG<|rgN<|kmv O<|bM (l:=1) (h:=l.length-k) (kl:=.i64) (kh:=.i64) O StrT.u O hlen.symm ⟨y3,y22⟩ hcut dO<|kas O<|aB ?_)
   exact ⟨_,_,by omega,Le.of yE yC y2 y2 y2,k+1,by omega,O,hz',O⟩
  ·have heq:(((c.toNat:Nat):Int)==0)=false:=cN fun e=>hcz (by
    have h5:c.toNat=0:=by omega
    exact UInt8.toNat_inj.1 h5)
   rw [Lib.trimLeftB_drop l 0 k hk hz (fun b hb=>by rw [hc] at hb;cases hb;exact hcz)]
   (refine aA<|aA<|rgN<|kmv O<|kln O<|aS O O (cL y22) dO<|kmv O<|gmv O O O<|bB O O y3 (str_at hc') (dP O O) ?_;refine gmv O O O<|bC O O heq (dP O O) ?_;refine kpt O O<|aB<|aF O ?_;refine aJ<|aA<|rgN<|kmv O<|kas O<|aB<|aI ?_)
   exact y6
theorem trimRight_len (l:List UInt8):(Lib.trimRightB l 0).length≤l.length:=by
 unfold Lib.trimRightB
 rw [List.length_reverse]
 exact Nat.le_trans (List.dropWhile_sublist _).length_le (by rw [List.length_reverse];exact dK _)
theorem trim_spec (l:List UInt8) (hl:l.length<4611686018427387904):PSpec Tryz.prog X 122 [Ls l,Ls [0]] (Ls (Lib.trimB l 0)):=by
 refine cC Tryz.func122 rfl y5 rfl rfl ?_
 intro C
 by_cases h:l=[]
 ·subst h
  (refine aA<|rgN<|kas O<|aB<|aA<|aA<|rgN<|kmv O<|kse O O (strs_eq (r:=true) yA)<|kmv O<|aC O O O<|aC O O O<|kpt O O<|aB ?_;refine aE O ?_;refine aA<|rgN<|kmv O<|kas O<|aB<|aI ?_)
  exact y6
 ·have hR:=trimRight_spec X l hl
  have hL:=trimLeft_spec X (Lib.trimRightB l 0) (Nat.lt_of_le_of_lt (trimRight_len l) hl)
  (refine aA<|rgN<|kas O<|aB<|aA<|aA<|rgN<|kmv O<|kse O O (strs_eq (r:=false) (cN h))<|kmv O<|gmv O O O<|K.strEq O O (strs_eq (r:=false) yA) (dP O O) ?_;refine kpf O O<|aB<|aF O ?_;refine aH ?_;refine aA<|aA<|rgN<|kmv O<|kln O<|keq O O O<|kmv O<|gmv O O O<|bB O O y3 (str_at O) (dP O O) ?_;refine bK O O O (dP O O) ?_;refine kpt O O<|aB<|aE O ?_;refine aA<|rgD mixed<|kmv O<|kmv O<|bB O O y3 (str_at O) dO<|kca O O (hR)<|kmv O<|bB O O y3 (str_at O) dO<|kca O O (hL)<|kas O<|aB<|rgA ?_;refine aI ?_)
  exact y6
theorem isBlank_spec (l:List UInt8) (hl:l.length<4611686018427387904) (r:Bool) (hr:blankB l=r):PSpec Tryz.prog X 82 [Ls l] (Lb r):=by
 subst hr
 have hT:=trim_spec X l hl
 rw [← trim_blank]
 refine cC Tryz.func82 rfl y5 rfl rfl ?_
 intro C
 (refine aA<|rgN<|kas O<|aB<|aA<|rgN<|kmv O<|kca O O (hT)<|kse O O (strs_eq O)<|kas O<|aB<|aI ?_)
 exact y6
theorem multipleFrom_spec (a w:Nat) (hw:isWd w) (ha:a<1000000):PSpec Tryz.prog X 117 [Ln .i64 (a:Nat),Ln .i64 (w:Nat)] (Ln .i64 (roundUp a w:Nat)):=by
 rw [← round_up hw]
 have hw8:1≤w∧w≤8:=by rcases hw with e|e|e|e<;>omega
 have hq:((a+w-1:Nat):Int)/((w:Nat):Int)=(((a+w-1)/w:Nat):Int):=(Int.natCast_ediv _ _).symm
 have hs:IntKind.i64.wrap ((a:Nat)+(w:Nat)-1:Int)=((a+w-1:Nat):Int):=by rw [cE y3];omega
 have hd:IntKind.i64.wrap (((a+w-1:Nat):Int).tdiv ((w:Nat):Int))=(((a+w-1)/w:Nat):Int):=by rw [quo_i64 y3 y3];exact hq
 have hb:(a+w-1)/w*w≤a+w-1:=Nat.div_mul_le_self _ _
 have hm:IntKind.i64.wrap ((((a+w-1)/w:Nat):Int)*((w:Nat):Int))=(((a+w-1)/w*w:Nat):Int):=by
  rw [← Int.natCast_mul,cE (by omega)]
 refine cC Tryz.func117 rfl y5 rfl rfl ?_
 intro C
 (refine aA<|rgN<|kas O<|aB<|aA<|rgN<|kmv O<|kmv O<|kad O O (cE y3)<|bA O O hs dO<|kmv O<|K.quo O O y3 hd dO<|kmv O<|bL O O hm dO ?_;refine kas O<|aB<|aI ?_)
 exact y6
theorem sumOfCounts_spec (ad:Option Addr) (cap:Nat) (fs:List Fl) (hin:FieldsIn X ad fs) (h8:fs.length≤8) (hall:fs.all Fl.ok=true):PSpec Tryz.prog X 69 [Lx ad fs.length cap] (Ln .i64 (sumC fs:Nat)):=by
 refine cC Tryz.func69 rfl y5 rfl rfl ?_
 intro C
 (refine aA<|rgN<|kas O<|aB<|aA<|rgN<|kas O<|aB<|aA<|aA<|rgN<|kmv O<|aQ O bZ O dO ?_;refine kmv O<|aB<|aG ?_)
 refine cG (fun m σ=>∃ i:Nat,i≤fs.length∧m=fs.length-i∧σ=⟨[(3,Ln .i64 (sumC (fs.take i):Nat)),(6,Lx ad fs.length cap),(7,Ln .i64 (fs.length:Nat)),(8,Ln .i64 (i:Nat))],[],X⟩) fs.length
  ⟨_,Le.of y8 yC y2 y2 y2,0,by omega,by omega,rfl⟩ ?_
 rintro m σ ⟨i,hi,rfl,rfl⟩
 have hs:=sum_le (fs.take i) (by rw [List.all_eq_true] at hall ⊢;exact fun f hf=>hall f (List.mem_of_mem_take hf))
 rw [cW] at hs
 by_cases hlt:i<fs.length
 ·obtain ⟨f,hf⟩:=wg hlt
  obtain ⟨blk,off,arr,el,fr,rfl,hX,hsz,hcells⟩:=hin.at hf
  have hio:=wo off i 3
  obtain ⟨hw,hn1,hn8,hnc⟩:=ok_w (List.all_eq_true.1 hall f (cZ hf))
  have hfc:f.vals.map CV.val=[.val (.string ⟨f.nm.toArray⟩),.val (.int .i64 f.kind),.val (.int .i64 (f.n:Nat))]:=by rw [hnc];rfl
  rw [hfc] at hcells
  have hadd:IntKind.i64.wrap (((sumC (fs.take i):Nat):Int)+((f.n:Nat):Int))=((sumC (fs.take (i+1)):Nat):Int):=by
   rw [take_snoc hf,sum_snoc,cE (by omega)];omega
  (refine aA<|rgN<|klt O O (cL y3)<|aB<|aA<|aE O ?_;refine aH ?_;refine aA<|aG<|aA<|rgN<|aR O O bZ y3 hio dO<|aY O hX y5 hsz hcells dO<|aP O dO ?_;refine aM O O O O O O dO ?_;refine aB<|rgN<|kmv O<|kfa O O ?_;refine kl1 O O O<|kad O O hadd<|kas O<|aB<|rgN<|kad O O (cE y3)<|kmv O<|aB ?_)
  exact ⟨_,_,by omega,Le.of y8 yC y2 y2 y2,i+1,by omega,O,O⟩
 ·have e:i=fs.length:=by omega
  subst e
  rw [dC]
  (refine aA<|rgN<|klt O O (cK y3)<|aB<|aA<|aF O ?_;refine aJ<|aA<|rgN<|kmv O<|kas O<|aB<|aI ?_)
  exact y6
end Go.Proofs.YtopiioklkkiedaaGreatDoor
end
section
set_option maxHeartbeats 12800000
set_option maxRecDepth 100000
namespace Go.Lg.Fld
open Go Go.Lg
theorem take_ok {fs:List Fl} (h:fs.all Fl.ok=true) (i:Nat):(fs.take i).all Fl.ok=true:=by
 rw [List.all_eq_true] at h ⊢
 exact fun f hf=>h f (List.mem_of_mem_take hf)
theorem drop_at {α:Type} {l:List α} {i:Nat} {x:α} (h:l[i]? = some x):l.drop i=x::l.drop (i+1):=by
 obtain ⟨hi,e⟩:=List.getElem?_eq_some_iff.1 h
 rw [List.drop_eq_getElem_cons hi,e]
theorem fill_set {α:Type} {S:List α} {z x:α} {n i:Nat} (hS:S.length=i) (hi:i<n):(S++List.replicate (n-i) z).set i x=(S++[x])++List.replicate (n-(i+1)) z:=by
 rw [List.set_append_right _ _ (by omega),hS,Nat.sub_self]
 have:n-i=(n-(i+1))+1:=by omega
 rw [this,List.replicate_succ,List.set_cons_zero,dJ]
 rfl
theorem fill_at {α:Type} {S:List α} {z x:α} {n i:Nat} (hS:S.length=i):((S++[x])++List.replicate n z)[i]? = some x:=by
 rw [dJ,List.getElem?_append_right (by omega),hS,Nat.sub_self]
 rfl
theorem fields_take {X:Nat→Option Obj} {ad:Option Addr} {fs:List Fl} (h:FieldsIn X ad fs) (i:Nat):FieldsIn X ad (fs.take i):=
 ⟨fun j r hr=>h.rows j r (by
  rw [List.map_take,List.getElem?_take] at hr
  split at hr
  ·exact hr
  ·cases hr),fun f hf=>h.small f (List.mem_of_mem_take hf)⟩
end Go.Lg.Fld
namespace Go.Proofs.YtopiioklkkiedaaGreatDoor
open Go Go.Lg Go.Lg.Fld
set_option maxRecDepth 100000
variable (X:Nat→Option Obj)
theorem canBe_spec (ad:Option Addr) (cap:Nat) (fs:List Fl) (hin:FieldsIn X ad fs) (hbig:fs.length<4611686018427387904) (r:Bool) (hr:canB fs=r):PSpec Tryz.prog X 115 [Lx ad fs.length cap] (Lb r):=by
 subst hr
 refine cC Tryz.func115 rfl y5 rfl rfl ?_
 intro C
 by_cases hlong:8<fs.length
 ·have hc:canB fs=false:=by unfold canB;rw [cK y3,Bool.false_and]
  rw [hc]
  (refine aA<|rgN<|kas O<|aB<|aA<|aA<|rgN<|kmv O<|aQ O bZ O dO ?_;refine aS O O (cL y3) dO<|aB<|aE O ?_;refine aA<|rgN<|kas O<|aB<|aI ?_)
  exact y6
 have h8:fs.length≤8:=by omega
 have hcb:canB fs=fs.all Fl.ok:=by unfold canB;rw [cL h8,Bool.true_and]
 rw [hcb]
 (refine aA<|rgN<|kas O<|aB<|aA<|aA<|rgN<|kmv O<|aQ O bZ O dO ?_;refine aS O O (cK y3) dO<|aB<|aF O ?_;refine aH ?_;refine aA<|aA<|rgN<|kmv O<|aQ O bZ O dO ?_;refine kmv O<|aB<|aG ?_)
 refine cG (fun m σ=>∃ i:Nat,i≤fs.length∧m=fs.length-i∧(fs.take i).all Fl.ok=true∧σ=⟨[(8,Lx ad fs.length cap),(9,Ln .i64 (fs.length:Nat)),(10,Ln .i64 (i:Nat))],[],X⟩) fs.length
  ⟨_,Le.of y9 yC y2 y2 y2,0,by omega,by omega,rfl,rfl⟩ ?_
 rintro m σ ⟨i,hi,rfl,hall,rfl⟩
 by_cases hlt:i<fs.length
 ·obtain ⟨f,hf⟩:=wg hlt
  obtain ⟨blk,off,arr,el,fr,rfl,hX,hsz,hcells⟩:=hin.at hf
  have hio:=wo off i 3
  have hmem:f∈fs:=cZ hf
  have hsm:=hin.small f hmem
  have hB:=fSize_spec X f.kind
  cases hok:f.ok with
  | false =>
   have hno:fs.all Fl.ok=false:=by
    cases e:fs.all Fl.ok with
    | false=>rfl
    | true=>rw [List.all_eq_true.1 e f hmem] at hok;cases hok
   rw [hno]
   by_cases h0:kW f.kind=0
   ·rw [h0] at hB
    (refine aA<|rgN<|klt O O (cL y3)<|aB<|aA<|aE O ?_;refine aH ?_;refine aA<|aG<|aA<|rgN<|aR O O bZ y3 hio dO<|aY O hX y5 hsz hcells dO<|aP O dO ?_;refine aM O O O O O O dO ?_;refine aB<|aA<|rgN<|kfa O O ?_;refine kl1 O O O<|kca O O (hB)<|keq O O (cR y3)<|kmv O<|aC O O O<|aC O O O<|aC O O O<|kpt O O<|kmv O<|aC O O O<|aC O O O<|aC O O O<|kpt O O<|aB ?_;refine aE O ?_;refine aA<|rgN<|kas O<|aB<|aI ?_)
    exact y6
   ·have hk:kK f.kind=true:=by
     cases e:kK f.kind with
     | true=>rfl
     | false=>exact absurd ((kW_zero f.kind).2 e) h0
    by_cases h1:f.count<1
    ·(refine aA<|rgN<|klt O O (cL y3)<|aB<|aA<|aE O ?_;refine aH ?_;refine aA<|aG<|aA<|rgN<|aR O O bZ y3 hio dO<|aY O hX y5 hsz hcells dO<|aP O dO ?_;refine aM O O O O O O dO ?_;refine aB<|aA<|rgN<|kfa O O ?_;refine kl1 O O O<|kca O O (hB)<|keq O O (cN y3)<|kmv O<|aN O O (dP O O) ?_;refine aO O O O (dP O O) ?_;refine bK O O (cL y3) (dP O O) ?_;refine kpf O O<|kmv O<|aC O O O<|aC O O O<|aC O O O<|kpt O O<|aB<|aE O ?_;refine aA<|rgN<|kas O<|aB<|aI ?_)
     exact y6
    ·have h2:8<f.count:=by
      unfold Fl.ok at hok
      rw [hk,cL (show 1≤f.count by omega)] at hok
      simpa using hok
     (refine aA<|rgN<|klt O O (cL y3)<|aB<|aA<|aE O ?_;refine aH ?_;refine aA<|aG<|aA<|rgN<|aR O O bZ y3 hio dO<|aY O hX y5 hsz hcells dO<|aP O dO ?_;refine aM O O O O O O dO ?_;refine aB<|aA<|rgN<|kfa O O ?_;refine kl1 O O O<|kca O O (hB)<|keq O O (cN y3)<|kmv O<|aN O O (dP O O) ?_;refine aO O O O (dP O O) ?_;refine bK O O (cK y3) (dP O O) ?_;refine kpf O O<|kmv O<|aN O O (dP O O) ?_;refine aO O O O (dP O O) ?_;refine aS O O (cL y3) (dP O O) ?_;refine kpf O O<|aB<|aE O ?_;refine aA<|rgN<|kas O<|aB<|aI ?_)
     exact y6
  | true =>
   have hall':=take_all hall hf hok
   obtain ⟨hw,hn1,hn8,hnc⟩:=ok_w hok
   have hw1:1≤kW f.kind:=by have hwk:kW f.kind=f.w:=rfl;rcases hw with e|e|e|e<;>omega
   (refine aA<|rgN<|klt O O (cL y3)<|aB<|aA<|aE O ?_;refine aH ?_;refine aA<|aG<|aA<|rgN<|aR O O bZ y3 hio dO<|aY O hX y5 hsz hcells dO<|aP O dO ?_;refine aM O O O O O O dO ?_;refine aB<|aA<|rgN<|kfa O O ?_;refine kl1 O O O<|kca O O (hB)<|keq O O (cN y3)<|kmv O<|aN O O (dP O O) ?_;refine aO O O O (dP O O) ?_;refine bK O O (cK y3) (dP O O) ?_;refine kpf O O<|kmv O<|aN O O (dP O O) ?_;refine aO O O O (dP O O) ?_;refine aS O O (cK y3) (dP O O) ?_;refine kpf O O<|aB<|aF O ?_;refine aH ?_;refine rgN<|kad O O (cE y3)<|kmv O<|aB ?_)
   exact ⟨_,_,by omega,Le.of y9 yC y2 y2 y2,i+1,by omega,O,hall',O⟩
 ·have e:i=fs.length:=by omega
  subst e
  rw [dC] at hall
  rw [hall]
  (refine aA<|rgN<|klt O O (cK y3)<|aB<|aA<|aF O ?_;refine aJ<|aA<|rgN<|kas O<|aB<|aI ?_)
  exact y6
theorem Of_no (ad:Option Addr) (cap:Nat) (fs:List Fl) (hin:FieldsIn X ad fs) (hbig:fs.length<4611686018427387904) (h:canB fs=false):
  PSpec Tryz.prog X 78 [Lx ad fs.length cap] (.tup [planV 0 (.val (.slice none 0 0)),Sn .i64 1]):=by
 have hc:=canBe_spec X ad cap fs hin hbig false h
 refine cC Tryz.func78 rfl y5 rfl rfl ?_
 intro C
 (refine aA<|rgN<|aP O dO ?_;refine kas O<|aB<|aA<|aA<|rgN<|kmv O<|kca O O (hc)<|aV O O dO<|aB<|aE O ?_;refine aA<|rgN<|aT O O y2 y36 dO ?_;refine aM O O O O O O dO ?_;refine kas O<|aB<|aI ?_)
 exact y4
def ofR (fs:List Fl):LV:=if layErr fs=0 then .tup [planV (rowSize fs:Nat) (.slc 1000001 0 fs.length 1),Sn .i64 0] else .tup [planV 0 (.val (.slice none 0 0)),Sn .i64 (layErr fs)]
def ofBx (fs:List Fl):List (Nat×Option Box):=if layErr fs=0 then [(1000001,some ⟨3,(ntV (startsAt 0 fs)).map .val,false⟩)] else []
set_option maxHeartbeats 3200000 in
theorem Of_can (ad:Option Addr) (cap:Nat) (fs:List Fl) (hin:FieldsIn X ad fs) (hbig:fs.length<4611686018427387904) (h:canB fs=true):
  MSpec Tryz.prog X 78 [Lx ad fs.length cap] [] (ofR fs) (ofBx fs):=by
 have hc:=canBe_spec X ad cap fs hin hbig true h
 obtain ⟨h8,hall,hle⟩:=canB_ok h
 refine cD Tryz.func78 rfl y5 rfl (by unfold ofR ofBx;split<;>rfl) (by unfold ofBx;split<;>exact y0) rfl rfl ?_
 intro C
 have hmk:slcBuild Tryz.prog 103 fs.length=some (List.replicate fs.length (.int .i64 0),1,3):=slcBuild_one y5 y5 y3
 (refine aA<|rgN<|aP O dO ?_;refine kas O<|aB<|aA<|aA<|rgN<|kmv O<|kca O O (hc)<|aV O O dO<|aB<|aF O ?_;refine aH ?_;refine aA<|rgN<|kmv O<|aQ O bZ O dO ?_;refine K.makeSlc (m:=fs.length) (bytes:=8) O O hmk y5 y3 O O dO<|kas O<|aB<|aA<|rgN<|kas O<|kas O<|aB<|aA<|aA<|rgN<|kmv O<|aQ O bZ O dO ?_;refine kmv O<|aB<|aG ?_)
 refine cG (fun m σ=>∃ i:Nat,i≤fs.length∧m=fs.length-i∧σ=⟨[(2,.sv (.one (.ptr 2 0))),(4,.sv (.one (.slc 17 0 fs.length 1))),(5,Ln .i64 (endAt 0 (fs.take i):Nat)),(6,Ln .i64 (greatW (fs.take i):Nat)),(18,Lx ad fs.length cap),(19,Ln .i64 (fs.length:Nat)),(20,Ln .i64 (i:Nat))],[(2,some ⟨155,[.val (.int .i64 0),.val (.slice none 0 0)],false⟩),(17,some ⟨3,(ntV (startsAt 0 (fs.take i))++List.replicate (fs.length-i) (Value.int .i64 0)).map .val,false⟩)],X⟩) fs.length
  ⟨_,Le.of y14 yE y2 y2 y0,0,by omega,by omega,rfl⟩ ?_
 rintro m σ ⟨i,hi,rfl,rfl⟩
 have ht:=take_ok hall i
 have hSl:=starts_len (fs.take i) 0
 have hend:=end_le (fs.take i) 0 ht
 have hgw:=great_wd (fs.take i) ht
 have htl:(fs.take i).length=i:=by rw [cW];omega
 rw [htl] at hSl hend
 by_cases hlt:i<fs.length
 ·obtain ⟨f,hf⟩:=wg hlt
  obtain ⟨blk,off,arr,el,fr,rfl,hX,hsz,hcells⟩:=hin.at hf
  have hio:=wo off i 3
  have hi1:0+Int.toNat (i:Int)*1=i:=by simp
  have hB:=fSize_spec X f.kind
  have hS:startsAt 0 (fs.take (i+1))=startsAt 0 (fs.take i)++[roundUp (endAt 0 (fs.take i)) f.w]:=by rw [take_snoc hf,starts_snoc]
  have hA:endAt 0 (fs.take (i+1))=roundUp (endAt 0 (fs.take i)) f.w+f.w*f.n:=by rw [take_snoc hf,end_snoc]
  have hG:greatW (fs.take (i+1))=max (greatW (fs.take i)) f.w:=by rw [take_snoc hf,great_snoc]
  obtain ⟨hw,hn1,hn8,hnc⟩:=ok_w (List.all_eq_true.1 hall f (cZ hf))
  have hM:=multipleFrom_spec X (endAt 0 (fs.take i)) f.w hw y3
  have hR:=round_facts hw (endAt 0 (fs.take i))
  have hwk:kW f.kind=f.w:=rfl
  rw [hwk] at hB
  have hw8:1≤f.w∧f.w≤8:=by rcases hw with e|e|e|e<;>omega
  have hwn:f.w*f.n≤64:=Nat.le_trans (Nat.mul_le_mul hw8.2 hn8) yA
  have hfc:f.vals.map CV.val=[.val (.string ⟨f.nm.toArray⟩),.val (.int .i64 f.kind),.val (.int .i64 (f.n:Nat))]:=by rw [hnc];rfl
  rw [hfc] at hcells
  generalize startsAt 0 (fs.take i)=S at *
  generalize endAt 0 (fs.take i)=a at *
  generalize greatW (fs.take i)=g at *
  generalize f.w=w at *
  generalize f.n=n at *
  generalize hT:roundUp a w=T at *
  have hnS:(ntV S).length=i:=by simp [ntV,hSl]
  have hlt2:Nat.blt i (((ntV S++List.replicate (fs.length-i) (Value.int .i64 0)).map CV.val).length)=true:=by rw [Nat.blt_eq,cT,cS,hnS,dA];omega
  have hset:((ntV S++List.replicate (fs.length-i) (Value.int .i64 0)).map CV.val).set i (.val (.int .i64 (T:Nat)))=(ntV (S++[T])++List.replicate (fs.length-(i+1)) (Value.int .i64 0)).map CV.val:=by
   rw [← List.map_set,fill_set hnS hlt];simp [ntV]
  have hget:((ntV (S++[T])++List.replicate (fs.length-(i+1)) (Value.int .i64 0)).map CV.val)[i]? = some (.val (.int .i64 (T:Nat))):=by
   rw [dI,show ntV (S++[T])=ntV S++[.int .i64 (T:Nat)] by simp [ntV],fill_at hnS];rfl
  have hmul:IntKind.i64.wrap (((w:Nat):Int)*((n:Nat):Int))=((w*n:Nat):Int):=by rw [← Int.natCast_mul,cE y3]
  have hadd:IntKind.i64.wrap (((T:Nat):Int)+((w*n:Nat):Int))=((T+w*n:Nat):Int):=by rw [cE y3];omega
  have hmx:(if ((w:Nat):Int)>((g:Nat):Int) then ((w:Nat):Int) else ((g:Nat):Int))=((max g w:Nat):Int):=by split<;>omega
  (refine aA<|rgN<|klt O O (cL y3)<|aB<|aA<|aE O ?_;refine aH ?_;refine aA<|aG<|aA<|rgN<|kmv O<|aR O O bZ y3 hio dO<|aY O hX y5 hsz hcells dO<|aP O dO ?_;refine kas O<|aM O O O O O O dO ?_;refine aB<|aA<|rgN<|kfa O O ?_;refine kl1 O O O<|kca O O (hB)<|kas O<|aB<|aA<|rgN<|kmv O<|kmv O<|kmv O<|kmv O<|kca O O (hM)<|K.indexSlc O O y3 hi1 dO ?_;refine bG O O O O hlt2 hset dO<|aB<|aA<|rgD mixed<|kmv O<|kmv O<|K.indexSlc O O y3 hi1 dO ?_;refine kl1 O O hget<|kmv O<|kfa O O ?_;refine kl1 O O O<|bL O O hmul dO<|kad O O hadd<|kas O<|aB<|rgA ?_;refine rgN<|kmv O<|kmv O<|K.max2 O O hmx dO ?_;refine kas O<|aB<|rgN<|kad O O (cE y3)<|kmv O<|aB ?_)
  exact ⟨_,_,by omega,Le.of (by exact ⟨rfl,rfl,by rw [hA];rfl,by rw [hG];rfl,rfl,rfl,rfl,trivial⟩) (by exact ⟨rfl,by rw [hS];rfl,trivial⟩) y2 y2 y0,i+1,by omega,rfl,rfl⟩
 ·have e:i=fs.length:=by omega
  subst e
  rw [dC] at *
  have hM:=multipleFrom_spec X (endAt 0 fs) (greatW fs) hgw y3
  rw [show roundUp (endAt 0 fs) (greatW fs)=rowSize fs from rfl] at hM
  unfold ofR ofBx
  rw [hle]
  have hz:(ntV (startsAt 0 fs)++List.replicate (fs.length-fs.length) (Value.int .i64 0)).map CV.val=(ntV (startsAt 0 fs)).map CV.val:=by rw [Nat.sub_self,List.replicate_zero,dG]
  rw [hz]
  have hT:rowSize fs<1000000:=by
   have h1:=round_facts hgw (endAt 0 fs)
   have h2:greatW fs≤8:=by rcases hgw with e|e|e|e<;>omega
   have h3:rowSize fs=roundUp (endAt 0 fs) (greatW fs):=rfl
   omega
  generalize rowSize fs=T at *
  by_cases h256:256<T
  ·rw [if_pos h256,if_neg yA,if_neg yA]
   (refine aA<|rgN<|klt O O (cK y3)<|aB<|aA<|aF O ?_;refine aJ<|aA<|rgN<|kmv O<|kmv O<|kca O O (hM)<|kas O<|aB<|aA<|aA<|rgN<|kmv O<|aS O O (cL y3) dO<|aB ?_;refine aE O ?_;refine aA<|rgN<|aT O O y2 y36 dO ?_;refine aM O O O O O O dO ?_;refine kas O<|aB<|aI ?_)
   exact ⟨[],⟨[_,_],⟨⟨_,_,O,O,O,.inl ⟨AggT.h,O⟩⟩,O,trivial⟩,O⟩,trivial,O,O⟩
  ·rw [if_neg h256,if_pos rfl,if_pos rfl]
   (refine aA<|rgN<|klt O O (cK y3)<|aB<|aA<|aF O ?_;refine aJ<|aA<|rgN<|kmv O<|kmv O<|kca O O (hM)<|kas O<|aB<|aA<|aA<|rgN<|kmv O<|aS O O (cK y3) dO<|aB ?_;refine aF O ?_;refine aH ?_;refine aA<|rgN<|kmv O<|kmv O<|aT O O y2 y36 dO ?_;refine aM O O O O O O dO ?_;refine kas O<|aB<|aI ?_)
   exact ⟨[(1000001,17)],⟨[_,_],⟨⟨_,_,O,O,O,.inl ⟨AggT.h,O⟩⟩,O,trivial⟩,O⟩,y1,O,O⟩
end Go.Proofs.YtopiioklkkiedaaGreatDoor
end
section
set_option maxHeartbeats 12800000
set_option maxRecDepth 100000
namespace Go.Lg.Fld
open Go Go.Lg
theorem elVs_fit {l:List (Int×Nat)} {i:Nat} {e:Int×Nat} (h:l[i]? = some e):Nat.ble (i*2+2) ((elVs l).map CV.val).length=true:=by
 have:=(wl h)
 rw [Nat.ble_eq,cT,elVs_len];omega
theorem elVs_row {l:List (Int×Nat)} {i:Nat} {e:Int×Nat} (h:l[i]? = some e):(((elVs l).map CV.val).drop (i*2)).take 2=[.val (.int .i64 e.1),.val (.int .i64 (e.2:Nat))]:=by
 obtain ⟨h1,h2⟩:=elVs_at h
 rw [drop_at h1,List.take_succ_cons,drop_at h2]
 rfl
end Go.Lg.Fld
namespace Go.Proofs.YtopiioklkkiedaaGreatDoor
open Go Go.Lg Go.Lg.Fld
set_option maxRecDepth 100000
variable (X:Nat→Option Obj)
theorem Of_err (ad:Option Addr) (cap:Nat) (fs:List Fl) (hin:FieldsIn X ad fs) (hbig:fs.length<4611686018427387904) (h:layErr fs≠0):
  PSpec Tryz.prog X 78 [Lx ad fs.length cap] (.tup [planV 0 (.val (.slice none 0 0)),Sn .i64 (layErr fs)]):=by
 cases hc:canB fs with
 | false=>rw [canB_err hc];exact Of_no X ad cap fs hin hbig hc
 | true =>
  have:=Of_can X ad cap fs hin hbig hc
  unfold ofR ofBx at this
  rw [if_neg h,if_neg h] at this
  exact this.plain
theorem Of_ok (ad:Option Addr) (cap:Nat) (fs:List Fl) (hin:FieldsIn X ad fs) (hbig:fs.length<4611686018427387904) (h:layErr fs=0):
  MSpec Tryz.prog X 78 [Lx ad fs.length cap] [] (.tup [planV (rowSize fs:Nat) (.slc 1000001 0 fs.length 1),Sn .i64 0]) [(1000001,some ⟨3,(ntV (startsAt 0 fs)).map .val,false⟩)]:=by
 cases hc:canB fs with
 | false=>rw [canB_err hc] at h;exact absurd h yA
 | true =>
  have:=Of_can X ad cap fs hin hbig hc
  unfold ofR ofBx at this
  rw [if_pos h,if_pos h] at this
  exact this
theorem Check_spec (ad:Option Addr) (cap:Nat) (fs:List Fl) (hin:FieldsIn X ad fs) (hbig:fs.length<4611686018427387904):PSpec Tryz.prog X 66 [Lx ad fs.length cap] (Ln .i64 (layErr fs)):=by
 refine cC Tryz.func66 rfl y5 rfl rfl ?_
 intro C
 by_cases h:layErr fs=0
 ·have hO:=Of_ok X ad cap fs hin hbig h
  rw [h]
  generalize rowSize fs=T at *
  generalize startsAt 0 fs=S at *
  (refine aA<|rgN<|kas O<|aB<|aA<|rgN<|kmv O<|bE [(1000001,501)] (.tup [planV (T:Nat) (.slc 501 0 fs.length 1),Sn .i64 0]) [(501,some ⟨3,(ntV S).map .val,false⟩)] (hO) O O yC O O O O O y18 dO<|kmv O<|kex O O<|kex O O<|aP O dO ?_;refine aM O O O O O O dO ?_;refine kas O<|aB<|aA<|rgN<|kmv O<|kas O<|aB<|aI ?_)
  exact y6
 ·have hO:=Of_err X ad cap fs hin hbig h
  generalize layErr fs=e at *
  (refine aA<|rgN<|kas O<|aB<|aA<|rgN<|kmv O<|kca O O (hO)<|kmv O<|kex O O<|kex O O<|aP O dO ?_;refine aM O O O O O O dO ?_;refine kas O<|aB<|aA<|rgN<|kmv O<|kas O<|aB<|aI ?_)
  exact y6
theorem Elems_spec (ad:Option Addr) (cap:Nat) (fs:List Fl) (hin:FieldsIn X ad fs) (hbig:fs.length<4611686018427387904):PSpec Tryz.prog X 34 [Lx ad fs.length cap] (Ln .i64 (elemsN fs:Nat)):=by
 have hC:=Check_spec X ad cap fs hin hbig
 refine cC Tryz.func34 rfl y5 rfl rfl ?_
 intro C
 unfold elemsN
 rw [elems_sum]
 by_cases h:layErr fs=0
 ·obtain ⟨h8,hall,_⟩:=layErr_facts h
  have hS:=sumOfCounts_spec X ad cap fs hin h8 hall
  rw [if_pos h]
  rw [h] at hC
  (refine aA<|rgN<|kas O<|aB<|aA<|aA<|rgN<|kmv O<|kca O O (hC)<|kne O O ((cO y3))<|aB<|aF O ?_;refine aH ?_;refine aA<|rgN<|kmv O<|kca O O (hS)<|kas O<|aB<|aI ?_)
  exact y6
 ·rw [if_neg h]
  generalize layErr fs=e at *
  (refine aA<|rgN<|kas O<|aB<|aA<|aA<|rgN<|kmv O<|kca O O (hC)<|kne O O (cP y3)<|aB<|aE O ?_;refine aA<|rgN<|kas O<|aB<|aI ?_)
  exact y6
theorem Start_spec (ad:Option Addr) (cap:Nat) (fs:List Fl) (hcap:fs.length≤cap) (i:Int) (hi : -9223372036854775808≤i∧i<9223372036854775808) (hin:FieldsIn X ad fs) (hbig:fs.length<4611686018427387904):PSpec Tryz.prog X 68 [Lx ad fs.length cap,Ln .i64 i] (Ln .i64 (startN fs i:Nat)):=by
 have hC:=Check_spec X ad cap fs hin hbig
 refine cC Tryz.func68 rfl y5 rfl rfl ?_
 intro C
 unfold startN
 by_cases h0:0≤i
 ·by_cases h1:i<fs.length
  ·by_cases h:layErr fs=0
   ·obtain ⟨h8,hall,_⟩:=layErr_facts h
    obtain ⟨j,rfl⟩:∃ j:Nat,i=(j:Nat):=⟨i.toNat,by omega⟩
    rw [dD]
    have hj:j<fs.length:=by omega
    obtain ⟨f,hf⟩:=wg hj
    obtain ⟨blk,off,arr,el,fr,rfl,_⟩:=hin.at hf
    have hS:=sumOfCounts_spec X (some ⟨blk,off,none⟩) cap (fs.take j) (fields_take hin j) (by rw [cW];omega) (take_ok hall j)
    rw [cW,Nat.min_eq_left (Nat.le_of_lt hj)] at hS
    rw [if_pos ⟨h,by omega,by omega⟩]
    rw [h] at hC
    (refine aA<|rgN<|kas O<|aB<|aA<|aA<|rgN<|kmv O<|klt O O (cK y3)<|kmv O<|gmv O O O<|gmv O O O<|aQ O bZ O (dP O O) ?_;refine bD O O (cK y3) (dP O O) ?_;refine kpf O O<|kmv O<|gmv O O O<|gca O O (hC) O O<|aX O O ((cO y3)) (dP O O) ?_;refine kpf O O<|aB<|aF O ?_;refine aH ?_;refine aA<|rgN<|kmv O<|kmv O<|K.cutX (h:=j) (kh:=.i64) O O bZ y3 y3 dO ?_;refine kca O O (hS)<|kas O<|aB<|aI ?_)
    exact y6
   ·rw [if_neg (fun hc=>h hc.1)]
    generalize layErr fs=e at *
    (refine aA<|rgN<|kas O<|aB<|aA<|aA<|rgN<|kmv O<|klt O O (cK y3)<|kmv O<|gmv O O O<|gmv O O O<|aQ O bZ O (dP O O) ?_;refine bD O O (cK y3) (dP O O) ?_;refine kpf O O<|kmv O<|gmv O O O<|gca O O (hC) O O<|aX O O (cP y3) (dP O O) ?_;refine kpf O O<|aB<|aE O ?_;refine aA<|rgN<|kas O<|aB<|aI ?_)
    exact y6
  ·rw [if_neg (fun hc=>h1 hc.2.2)]
   (refine aA<|rgN<|kas O<|aB<|aA<|aA<|rgN<|kmv O<|klt O O (cK y3)<|kmv O<|gmv O O O<|gmv O O O<|aQ O bZ O (dP O O) ?_;refine bD O O (cL y3) (dP O O) ?_;refine kpf O O<|kmv O<|aC O O O<|aC O O O<|aC O O O<|kpt O O<|aB<|aE O ?_;refine aA<|rgN<|kas O<|aB<|aI ?_)
   exact y6
 ·rw [if_neg (fun hc=>h0 hc.2.1)]
  (refine aA<|rgN<|kas O<|aB<|aA<|aA<|rgN<|kmv O<|klt O O (cL y3)<|kmv O<|aC O O O<|aC O O O<|aC O O O<|aC O O O ?_;refine kpt O O<|kmv O<|aC O O O<|aC O O O<|aC O O O<|kpt O O<|aB<|aE O ?_;refine aA<|rgN<|kas O<|aB<|aI ?_)
  exact y6
theorem zeroNums (n:Nat):(List.replicate n (nmV (qn 0))).flatten=nsV (List.replicate n 0):=by
 unfold nsV
 rw [List.map_replicate]
theorem starts_at:∀ {l:List Fl} {a i:Nat} {f:Fl},l[i]? = some f→(startsAt a l)[i]? = some (roundUp (endAt a (l.take i)) f.w)
 | [],_,i,f,h=>by simp at h
 | g::t,a,0,f,h=>by
  simp only [List.getElem?_cons_zero,Option.some.injEq] at h
  subst h;rfl
 | g::t,a,i+1,f,h=>by
  have:=starts_at (l:=t) (a:=roundUp a g.w+g.w*g.n) (i:=i) (f:=f) y2E
  simpa [startsAt,endAt] using this
set_option maxHeartbeats 3200000 in
theorem slotsOf_spec (ad:Option Addr) (cap:Nat) (fs:List Fl) (T:Nat) (hin:FieldsIn X ad fs) (h8:fs.length≤8) (hall:fs.all Fl.ok=true):
  MSpec Tryz.prog X 79 [Lx ad fs.length cap,.sv (planV (T:Nat) (.slc 1000001 0 fs.length 1))] [(1000001,some ⟨3,(ntV (startsAt 0 fs)).map .val,false⟩)] (.sv (.one (.slc 1000002 0 (elemsAt 0 fs).length 2)))
   [(1000001,some ⟨3,(ntV (startsAt 0 fs)).map .val,false⟩),(1000002,some ⟨161,(elVs (elemsAt 0 fs)).map .val,Nat.blt 0 (elemsAt 0 fs).length⟩)]:=by
 have hst:∀ {i:Nat} {f:Fl},fs[i]? = some f→(startsAt 0 fs)[i]? = some (roundUp (endAt 0 (fs.take i)) f.w):=fun h=>starts_at h
 refine cD Tryz.func79 rfl y5 rfl rfl y7 rfl rfl ?_
 intro C
 generalize startsAt 0 fs=S at *
 (refine aA<|rgN<|aL O O O dO<|kas O<|aB<|aA<|rgN<|aZ (zs:=[]) (sz:=2) (e:=161) y5 O O O O O O dO<|kas O<|aB<|aA<|aA<|rgN<|kmv O ?_;refine aQ O bZ O dO ?_;refine kmv O<|aB<|aG ?_)
 refine cG (fun m σ=>∃ i:Nat,i≤fs.length∧m=fs.length-i∧σ=⟨[(3,.sv (.one (.ptr 3 0))),(5,.sv (.one (.slc 500 0 (elemsAt 0 (fs.take i)).length 2))),(10,Lx ad fs.length cap),(11,Ln .i64 (fs.length:Nat)),(12,Ln .i64 (i:Nat))],[(1000001,some ⟨3,(ntV S).map .val,false⟩),(3,some ⟨155,[.val (.int .i64 (T:Nat)),.slc 1000001 0 fs.length 1],false⟩),(500,some ⟨161,(elVs (elemsAt 0 (fs.take i))).map .val,Nat.blt 0 (elemsAt 0 (fs.take i)).length⟩)],X⟩) fs.length
  ⟨_,Le.ofR [(500,9)] y10 y1 y2 y2 y0 y2 y2,0,by omega,by omega,rfl⟩ ?_
 rintro m σ ⟨i,hi,rfl,rfl⟩
 have ht:=take_ok hall i
 have hend:=end_le (fs.take i) 0 ht
 have hEl:=elems_len (fs.take i) 0 ht
 have htl:(fs.take i).length=i:=by rw [cW];omega
 rw [htl] at hend hEl
 by_cases hlt:i<fs.length
 ·obtain ⟨f,hf⟩:=wg hlt
  obtain ⟨blk,off,arr,el,fr,rfl,hX,hsz,hcells⟩:=hin.at hf
  have hio:=wo off i 3
  have hi1:0+Int.toNat (i:Int)*1=i:=by simp
  have hB:=fSize_spec X f.kind
  obtain ⟨hw,hn1,hn8,hnc⟩:=ok_w (List.all_eq_true.1 hall f (cZ hf))
  have hR:=round_facts hw (endAt 0 (fs.take i))
  have hwk:kW f.kind=f.w:=rfl
  rw [hwk] at hB
  have hw8:1≤f.w∧f.w≤8:=by rcases hw with e|e|e|e<;>omega
  have hE:elemsAt 0 (fs.take (i+1))=elemsAt 0 (fs.take i)++(List.range f.n).map (fun j=>(f.kind,roundUp (endAt 0 (fs.take i)) f.w+f.w*j)):=by rw [take_snoc hf,elems_snoc]
  have hfc:f.vals.map CV.val=[.val (.string ⟨f.nm.toArray⟩),.val (.int .i64 f.kind),.val (.int .i64 (f.n:Nat))]:=by rw [hnc];rfl
  rw [hfc] at hcells
  have hgetS:((ntV S).map CV.val)[i]? = some (.val (.int .i64 (roundUp (endAt 0 (fs.take i)) f.w:Nat))):=by
   rw [dI,show ntV S=S.map (fun n:Nat=>Value.int .i64 (n:Nat)) from rfl,dI,hst hf];rfl
  generalize elemsAt 0 (fs.take i)=E at *
  generalize hT:roundUp (endAt 0 (fs.take i)) f.w=b at *
  generalize endAt 0 (fs.take i)=a at *
  generalize f.w=w at *
  generalize f.n=n at *
  (refine aA<|rgN<|klt O O (cL y3)<|aB<|aA<|aE O ?_;refine aH ?_;refine aA<|aG<|aA<|rgN<|kmv O<|aR O O bZ y3 hio dO<|aY O hX y5 hsz hcells dO<|aP O dO ?_;refine kas O<|aM O O O O O O dO ?_;refine aB<|aA<|rgN<|kfa O O ?_;refine kl1 O O O<|kmv O<|aB<|aG ?_)
  refine cG (fun m σ=>∃ j:Nat,j≤n∧m=n-j∧σ=⟨[(3,.sv (.one (.ptr 3 0))),(5,.sv (.one (.slc 500 0 (E.length+j) 2))),(6,Ln .i64 (i:Nat)),(7,.sv (.one (.ptr 7 0))),(10,Lx (some ⟨blk,off,none⟩) fs.length cap),(11,Ln .i64 (fs.length:Nat)),(12,Ln .i64 (i:Nat)),(18,Ln .i64 (n:Nat)),(19,Ln .i64 (j:Nat))],[(1000001,some ⟨3,(ntV S).map .val,false⟩),(3,some ⟨155,[.val (.int .i64 (T:Nat)),.slc 1000001 0 fs.length 1],false⟩),(500,some ⟨161,(elVs (E++(List.range j).map (fun q=>(f.kind,b+w*q)))).map .val,Nat.blt 0 (E.length+j)⟩),(7,some ⟨83,[.val (.string ⟨f.nm.toArray⟩),.val (.int .i64 f.kind),.val (.int .i64 (n:Nat))],false⟩)],X⟩) n
   ⟨_,Le.ofR [] y1B (by rw [List.range_zero,List.map_nil,dG];exact y1) y2 y2 y0 y2 y2,0,by omega,rfl,rfl⟩ ?_
  rintro m σ ⟨j,hj,rfl,rfl⟩
  have hwj:w*j≤64:=Nat.le_trans (Nat.mul_le_mul hw8.2 (Nat.le_trans hj hn8)) yA
  by_cases hjn:j<n
  ·have hrg:(List.range (j+1)).map (fun q=>(f.kind,b+w*q))=(List.range j).map (fun q=>(f.kind,b+w*q))++[(f.kind,b+w*j)]:=by rw [List.range_succ,dE];rfl
   have hcl2:((elVs (E++(List.range j).map (fun q=>(f.kind,b+w*q)))).map CV.val).length=(E.length+j)*2:=by rw [cT,elVs_len];simp
   have hnc2:(elVs (E++(List.range j).map (fun q=>(f.kind,b+w*q)))).map CV.val++[.val (.int .i64 f.kind),.val (.int .i64 (b+w*j:Nat))]=(elVs (E++(List.range (j+1)).map (fun q=>(f.kind,b+w*q)))).map CV.val:=by
    rw [hrg,← dJ,elVs_app (E++_) [_],dE]
    rfl
   have hmul:IntKind.i64.wrap (((j:Nat):Int)*((w:Nat):Int))=((w*j:Nat):Int):=by rw [← Int.natCast_mul,Nat.mul_comm,cE y3]
   have hadd:IntKind.i64.wrap (((b:Nat):Int)+((w*j:Nat):Int))=((b+w*j:Nat):Int):=by rw [cE y3];omega
   (refine aA<|rgN<|klt O O (cL y3)<|aB<|aA<|aE O ?_;refine aH ?_;refine aA<|aG<|aA<|rgN<|kmv O<|kas O<|aB<|rgD mixed<|kmv O<|kfa O O ?_;refine kl1 O O O<|kfa O O ?_;refine kl1 O O O<|kmv O<|K.indexSlc O O y3 hi1 dO ?_;refine kl1 O O hgetS<|kmv O<|kfa O O ?_;refine kl1 O O O<|kca O O (hB)<|bL O O hmul dO<|kad O O hadd<|aT O O y2 y36 dO ?_;refine aZ (zs:=[.int .i64 0,.int .i64 0]) (sz:=2) (e:=161) y5 O O O O O O dO<|bP (by_:=16) (e2:=161) (l2:=[.val (.int .i64 f.kind),.val (.int .i64 (b+w*j:Nat))]) (nl:=E.length+(j+1)) O O hcl2 O O (dK _) O O y5 y5 y3 y3 O O hnc2 dO<|kas O<|aB<|rgA ?_;refine rgN<|kad O O (cE y3)<|kmv O<|aB ?_)
   exact ⟨_,_,by omega,Le.ofR [(500,38)] y1B y1 y2 y2 y0 y2 y2,j+1,by omega,O,O⟩
  ·have e:j=n:=by omega
   subst e
   have hEn:(E++(List.range j).map (fun q=>(f.kind,b+w*q))).length=E.length+j:=by simp
   (refine aA<|rgN<|klt O O (cK y3)<|aB<|aA<|aF O ?_;refine aJ<|rgN<|kad O O (cE y3)<|kmv O<|aB ?_)
   exact ⟨_,_,by omega,Le.ofR [] (by exact ⟨rfl,by rw [hE,hEn];rfl,rfl,rfl,rfl,trivial⟩) (by rw [hE,hEn];exact y1) y2 y2 y0 y2 y2,i+1,by omega,rfl,rfl⟩
 ·have e:i=fs.length:=by omega
  subst e
  rw [dC] at *
  generalize elemsAt 0 fs=E at *
  (refine aA<|rgN<|klt O O (cK y3)<|aB<|aA<|aF O ?_;refine aJ<|aA<|rgN<|kmv O<|kas O<|aB<|aI ?_)
  exact ⟨[(1000002,500)],⟨[_],⟨O,trivial⟩,O⟩,y1,O,O⟩
theorem slotEnd_spec (k:Int) (at_:Nat) (ha:at_<1000000):PSpec Tryz.prog X 81 [.sv (.agg [.val (.int .i64 k),.val (.int .i64 (at_:Nat))])] (Ln .i64 (at_+kW k:Nat)):=by
 have hB:=fSize_spec X k
 have hw8:=(kfacts k).2.2.2.2
 have hadd:IntKind.i64.wrap (((at_:Nat):Int)+((kW k:Nat):Int))=((at_+kW k:Nat):Int):=by rw [cE y3];omega
 refine cC Tryz.func81 rfl y5 rfl rfl ?_
 intro C
 (refine aA<|rgN<|aL O O O dO<|kas O<|aB<|aA<|rgD mixed<|kfa O O ?_;refine kl1 O O O<|kfa O O ?_;refine kl1 O O O<|kca O O (hB)<|kad O O hadd<|kas O<|aB<|rgA ?_;refine aI ?_)
 exact y6
end Go.Proofs.YtopiioklkkiedaaGreatDoor
end
