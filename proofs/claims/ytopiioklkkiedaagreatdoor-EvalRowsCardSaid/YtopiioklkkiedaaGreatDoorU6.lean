/- A piece of a proof over this program: contracts of its functions, and a logic to prove them by. -/
import Derived.Test.YtopiioklkkiedaaGreatDoorU2
import Derived.Test.YtopiioklkkiedaaGreatDoorU3
import Derived.Test.YtopiioklkkiedaaGreatDoorU5
import Derived.ChangeKeysEq
import Derived.Lib.ItoaNum
import Derived.Lib.Walk
import Derived.Lib.ItoaMem
import Derived.Lib.AppendIntMem
import Derived.WalkKit
import Derived.BigCall
import Derived.BigGuard
import Derived.Lib.Repeat
section
set_option maxHeartbeats 12800000
set_option maxRecDepth 100000
namespace Go.Proofs.YtopiioklkkiedaaGreatDoor
open Go Go.Lg Go.Lg.Arith Go.Lg.Dig Go.RowKit
variable (X:Nat→Option Obj)
theorem Sum_any (a b:Bool) (M N:Nat) (hM:M<340282366920938463463374607431768211456) (hN:N<340282366920938463463374607431768211456):
  ∃ (s:Bool) (n:Nat),PSpec Tryz.prog X 200 [LN a (dg M),LN b (dg N)] (LN s (dg n))∧zv s (n:Nat)=zv a (M:Nat)+zv b (N:Nat)∧n<T40:=by
 have big:=pow40
 have l40:∀ n:Nat,n<680564733841876926926749214863536422912→n<T40:=fun n h=>by unfold T40;rw [big];omega
 cases h:(a != b) with
 | false =>
  have e:a=b:=by simpa using h
  subst e
  refine ⟨a,M+N,Sum_same X a a h M N,?_,l40 _ y3⟩
  cases a
  ·show (((M+N:Nat):Int))=(M:Int)+N;omega
  ·show -(((M+N:Nat):Int)) = -(M:Int) + -(N:Int);omega
 | true =>
  by_cases c:N≤M
  ·refine ⟨a,M-N,Sum_more X a b h M N (l40 _ y3) (l40 _ y3) c,?_,l40 _ y3⟩
   cases a<;>cases b<;>first|cases h|skip
   ·show (((M-N:Nat):Int))=(M:Int) + -(N:Int);omega
   ·show -(((M-N:Nat):Int)) = -(M:Int)+(N:Int);omega
  ·refine ⟨b,N-M,Sum_less X a b h M N (l40 _ y3) (l40 _ y3) y3,?_,l40 _ y3⟩
   cases a<;>cases b<;>first|cases h|skip
   ·show -(((N-M:Nat):Int))=(M:Int) + -(N:Int);omega
   ·show (((N-M:Nat):Int)) = -(M:Int)+(N:Int);omega
theorem toR_iff {s:Bool} {n:Nat} {z:Int} (h:zv s (n:Nat)=z):R127 z↔n<170141183460469231731687303715884105728:=by
 obtain ⟨_,h2⟩:=sg_q (b:=s) (N:=(n:Nat)) y3 h
 unfold R127
 unfold mg at h2
 split at h2<;>omega
theorem toR_in {s:Bool} {n:Nat} {z:Int} (h:zv s (n:Nat)=z) (hR:R127 z):toR s n = .tup [SQ z,Sb true]:=by
 obtain ⟨h1,h2⟩:=sg_q (b:=s) (N:=(n:Nat)) y3 h
 unfold toR
 rw [if_pos ((toR_iff h).1 hR),h1]
 unfold SQ
 rw [← h2]
theorem toR_out {s:Bool} {n:Nat} {z:Int} (h:zv s (n:Nat)=z) (hR:¬ R127 z):toR s n = .tup [S0,Sb false]:=by
 unfold toR
 rw [if_neg (fun c=>hR ((toR_iff h).2 c))]
theorem zv_q (x:Int):zv (decide (x<0)) (((mg x).toNat:Nat):Int)=x:=by
 rw [mg_nat]
 by_cases c:x<0
 ·rw [cL c,mg_neg c];show - -x=x;omega
 ·rw [cK c,mg_pos (Int.not_lt.1 c)];rfl
theorem zv_not (b:Bool) (N:Int):zv (!b) N = -zv b N:=by
 cases b
 ·rfl
 ·show N = - -N;omega
theorem zv_prod (a b:Bool) (M N:Nat):zv (a != b) ((M*N:Nat):Int)=zv a (M:Nat)*zv b (N:Nat):=by
 rw [Int.natCast_mul]
 cases a<;>cases b
 ·rfl
 ·show -((M:Int)*N)=(M:Int) * -(N:Int);rw [Int.mul_neg]
 ·show -((M:Int)*N) = -(M:Int)*(N:Int);rw [Int.neg_mul]
 ·show (M:Int)*N = -(M:Int) * -(N:Int);rw [Int.neg_mul_neg]
theorem mg_128 {x:Int} (hx:R127 x):(mg x).toNat<340282366920938463463374607431768211456:=by have:=mg_lim hx;have:=mg_nonneg x;omega
theorem Do_1 (x y:Int) (hx:R127 x) (hy:R127 y) (z:Int) (hz:(if 1=1 then x+y else x-y)=z):PSpec Tryz.prog X 152 [Ln .i64 1,LQ x,LQ y] (addR z):=by
 have hF1:=Good_spec X _ _ (mg_in2 hx) true (formB_q hx)
 have hF2:=Good_spec X _ _ (mg_in2 hy) true (formB_q hy)
 have f1:=From_q X x hx
 have f2:=From_q X y hy
 obtain ⟨s,n,hA,hv,hn⟩:=Sum_any X (decide (x<0)) (if 1=1 then decide (y<0) else !decide (y<0)) (mg x).toNat (mg y).toNat (mg_128 hx) (mg_128 hy)
 have hv':zv s (n:Nat)=z:=by
  rw [hv,← hz]
  first
   | (show zv (decide (x<0)) _+zv (decide (y<0)) _=x+y;rw [zv_q,zv_q])
   | (show zv (decide (x<0)) _+zv (!decide (y<0)) _=x-y;rw [zv_not,zv_q,zv_q];omega)
 have hT:=To_spec X s n hn
 by_cases hr:R127 z
 ·rw [toR_in hv' hr] at hT
  rw [addR_in hr]
  refine cC Tryz.func152 rfl y5 rfl rfl ?_
  intro C
  ((refine aA<|rgN<|aL O O O dO<|aL O O O dO<|aP O dO ?_;refine kas O<|aB<|aA<|aA<|rgN<|aK O O O dO ?_;refine kca O O (hF1)<|aV O O dO<|kmv O<|aK O O O (dP O O) ?_;refine gca O O (hF2) O O<|aV O O (dP O O) ?_;refine kpf O O<|kmv O<|gmv O O O<|aS O O (cK y3) (dP O O) ?_;refine gmv O O O<|aC O O O<|aC O O O<|aC O O O<|bO O O (dP O O) ?_;refine gmv O O O<|aC O O O<|aC O O O<|aC O O O<|bO O O (dP O O) ?_;refine kpf O O<|aB<|aF O ?_;refine aH ?_;refine aA<|rgN<|aK O O O dO ?_;refine kca O O (f1)<|aP O dO ?_;refine aM O O O O O O dO ?_);(refine aB<|aA<|rgN<|aK O O O dO ?_;refine kca O O (f2)<|aP O dO ?_;refine aM O O O O O O dO ?_;refine aB<|aA<|rgN<|aT O O y2 y2 dO ?_;refine aP O dO ?_;refine aM O O O O O O dO ?_;refine aB<|aA<|aA<|rgN<|kmv O<|aB<|aG<|aA<|rgN<|keq O O (cR y3)<|kas O<|aB<|aE O ?_;refine rgN<|aK O O O dO ?_;refine aK O O O dO ?_;refine kca O O (hA)<|aM O O O O O O dO ?_;refine aB<|aA<|rgN<|aK O O O dO ?_;refine kca O O (hT)<|kmv O<|kex O O<|kex O O<|aP O dO ?_);(refine aM O O O O O O dO ?_;refine kas O<|aB<|aA<|aA<|rgN<|kmv O<|aV O O dO<|aB<|aF O ?_;refine aH ?_;refine aA<|rgN<|aK O O O dO ?_;refine aM O O O O O O dO ?_;refine kas O<|aB<|aI ?_))
  exact y4
 ·rw [toR_out hv' hr] at hT
  rw [addR_out hr]
  refine cC Tryz.func152 rfl y5 rfl rfl ?_
  intro C
  ((refine aA<|rgN<|aL O O O dO<|aL O O O dO<|aP O dO ?_;refine kas O<|aB<|aA<|aA<|rgN<|aK O O O dO ?_;refine kca O O (hF1)<|aV O O dO<|kmv O<|aK O O O (dP O O) ?_;refine gca O O (hF2) O O<|aV O O (dP O O) ?_;refine kpf O O<|kmv O<|gmv O O O<|aS O O (cK y3) (dP O O) ?_;refine gmv O O O<|aC O O O<|aC O O O<|aC O O O<|bO O O (dP O O) ?_;refine gmv O O O<|aC O O O<|aC O O O<|aC O O O<|bO O O (dP O O) ?_;refine kpf O O<|aB<|aF O ?_;refine aH ?_;refine aA<|rgN<|aK O O O dO ?_;refine kca O O (f1)<|aP O dO ?_;refine aM O O O O O O dO ?_);(refine aB<|aA<|rgN<|aK O O O dO ?_;refine kca O O (f2)<|aP O dO ?_;refine aM O O O O O O dO ?_;refine aB<|aA<|rgN<|aT O O y2 y2 dO ?_;refine aP O dO ?_;refine aM O O O O O O dO ?_;refine aB<|aA<|aA<|rgN<|kmv O<|aB<|aG<|aA<|rgN<|keq O O (cR y3)<|kas O<|aB<|aE O ?_;refine rgN<|aK O O O dO ?_;refine aK O O O dO ?_;refine kca O O (hA)<|aM O O O O O O dO ?_;refine aB<|aA<|rgN<|aK O O O dO ?_;refine kca O O (hT)<|kmv O<|kex O O<|kex O O<|aP O dO ?_);(refine aM O O O O O O dO ?_;refine kas O<|aB<|aA<|aA<|rgN<|kmv O<|aV O O dO<|aB<|aE O ?_;refine aA<|rgN<|aT O O y2 y28 dO ?_;refine aM O O O O O O dO ?_;refine kas O<|aB<|aI ?_))
  exact y4
theorem Do_3 (x y:Int) (hx:R127 x) (hy:R127 y):PSpec Tryz.prog X 152 [Ln .i64 3,LQ x,LQ y] (addR (x*y)):=by
 have hF1:=Good_spec X _ _ (mg_in2 hx) true (formB_q hx)
 have hF2:=Good_spec X _ _ (mg_in2 hy) true (formB_q hy)
 have f1:=From_q X x hx
 have f2:=From_q X y hy
 have e16:(256:Nat)^16=340282366920938463463374607431768211456:=by decide
 have hA:=Times_spec X (decide (x<0)) (decide (y<0)) _ rfl (mg x).toNat (mg y).toNat (by rw [e16];exact mg_128 hx) (by rw [e16];exact mg_128 hy)
 have hv:zv (decide (x<0) != decide (y<0)) (((mg x).toNat*(mg y).toNat:Nat):Int)=x*y:=by rw [zv_prod,zv_q,zv_q]
 have hn:(mg x).toNat*(mg y).toNat<T40:=by
  refine Nat.lt_of_lt_of_le (Nat.mul_lt_mul'' (mg_128 hx) (mg_128 hy)) ?_
  unfold T40
  decide
 have hT:=To_spec X (decide (x<0) != decide (y<0)) _ hn
 by_cases hr:R127 (x*y)
 ·rw [toR_in hv hr] at hT
  rw [addR_in hr]
  refine cC Tryz.func152 rfl y5 rfl rfl ?_
  intro C
  ((refine aA<|rgN<|aL O O O dO<|aL O O O dO<|aP O dO ?_;refine kas O<|aB<|aA<|aA<|rgN<|aK O O O dO ?_;refine kca O O (hF1)<|aV O O dO<|kmv O<|aK O O O (dP O O) ?_;refine gca O O (hF2) O O<|aV O O (dP O O) ?_;refine kpf O O<|kmv O<|gmv O O O<|aS O O (cK y3) (dP O O) ?_;refine gmv O O O<|aC O O O<|aC O O O<|aC O O O<|bO O O (dP O O) ?_;refine gmv O O O<|aC O O O<|aC O O O<|aC O O O<|bO O O (dP O O) ?_;refine kpf O O<|aB<|aF O ?_;refine aH ?_;refine aA<|rgN<|aK O O O dO ?_;refine kca O O (f1)<|aP O dO ?_;refine aM O O O O O O dO ?_);(refine aB<|aA<|rgN<|aK O O O dO ?_;refine kca O O (f2)<|aP O dO ?_;refine aM O O O O O O dO ?_;refine aB<|aA<|rgN<|aT O O y2 y2 dO ?_;refine aP O dO ?_;refine aM O O O O O O dO ?_;refine aB<|aA<|aA<|rgN<|kmv O<|aB<|aG<|aA<|rgN<|keq O O (cN y3)<|kas O<|aB<|aF O ?_;refine aA<|rgN<|keq O O (cN y3)<|kas O<|aB<|aF O ?_;refine aA<|rgN<|keq O O (cR y3)<|kas O<|aB<|aE O ?_;refine rgN<|aK O O O dO ?_;refine aK O O O dO ?_;refine kca O O (hA)<|aM O O O O O O dO ?_);(refine aB<|aA<|rgN<|aK O O O dO ?_;refine kca O O (hT)<|kmv O<|kex O O<|kex O O<|aP O dO ?_;refine aM O O O O O O dO ?_;refine kas O<|aB<|aA<|aA<|rgN<|kmv O<|aV O O dO<|aB<|aF O ?_;refine aH ?_;refine aA<|rgN<|aK O O O dO ?_;refine aM O O O O O O dO ?_;refine kas O<|aB<|aI ?_))
  exact y4
 ·rw [toR_out hv hr] at hT
  rw [addR_out hr]
  refine cC Tryz.func152 rfl y5 rfl rfl ?_
  intro C
  ((refine aA<|rgN<|aL O O O dO<|aL O O O dO<|aP O dO ?_;refine kas O<|aB<|aA<|aA<|rgN<|aK O O O dO ?_;refine kca O O (hF1)<|aV O O dO<|kmv O<|aK O O O (dP O O) ?_;refine gca O O (hF2) O O<|aV O O (dP O O) ?_;refine kpf O O<|kmv O<|gmv O O O<|aS O O (cK y3) (dP O O) ?_;refine gmv O O O<|aC O O O<|aC O O O<|aC O O O<|bO O O (dP O O) ?_;refine gmv O O O<|aC O O O<|aC O O O<|aC O O O<|bO O O (dP O O) ?_;refine kpf O O<|aB<|aF O ?_;refine aH ?_;refine aA<|rgN<|aK O O O dO ?_;refine kca O O (f1)<|aP O dO ?_;refine aM O O O O O O dO ?_);(refine aB<|aA<|rgN<|aK O O O dO ?_;refine kca O O (f2)<|aP O dO ?_;refine aM O O O O O O dO ?_;refine aB<|aA<|rgN<|aT O O y2 y2 dO ?_;refine aP O dO ?_;refine aM O O O O O O dO ?_;refine aB<|aA<|aA<|rgN<|kmv O<|aB<|aG<|aA<|rgN<|keq O O (cN y3)<|kas O<|aB<|aF O ?_;refine aA<|rgN<|keq O O (cN y3)<|kas O<|aB<|aF O ?_;refine aA<|rgN<|keq O O (cR y3)<|kas O<|aB<|aE O ?_;refine rgN<|aK O O O dO ?_;refine aK O O O dO ?_;refine kca O O (hA)<|aM O O O O O O dO ?_);(refine aB<|aA<|rgN<|aK O O O dO ?_;refine kca O O (hT)<|kmv O<|kex O O<|kex O O<|aP O dO ?_;refine aM O O O O O O dO ?_;refine kas O<|aB<|aA<|aA<|rgN<|kmv O<|aV O O dO<|aB<|aE O ?_;refine aA<|rgN<|aT O O y2 y28 dO ?_;refine aM O O O O O O dO ?_;refine kas O<|aB<|aI ?_))
  exact y4
end Go.Proofs.YtopiioklkkiedaaGreatDoor
end
section
set_option maxHeartbeats 12800000
set_option maxRecDepth 100000
namespace Go.Lg
open Go Go.RowKit Go.Lg.Dig
end Go.Lg
namespace Go.Proofs.YtopiioklkkiedaaGreatDoor
open Go Go.Lg Go.Lg.Arith Go.Lg.Dig Go.RowKit
variable (X:Nat→Option Obj)
instance:ArrB Tryz.prog 200 (List.replicate 40 (.int .i64 0)) 1:=⟨by kernel_rfl⟩
end Go.Proofs.YtopiioklkkiedaaGreatDoor
end
section
set_option maxHeartbeats 12800000
set_option maxRecDepth 100000
namespace Go.Proofs.YtopiioklkkiedaaGreatDoor
open Go Go.Lg Go.Lg.Arith Go.Lg.Dig Go.RowKit
variable (X:Nat→Option Obj)
structure Half (M n:Nat) (s:List UInt8):Prop where
 more:s=[]∨n≠0→Lib.decDigits M=Lib.decDigits n++s
 done:s≠[]→n=0→Lib.decDigits M=s
end Go.Proofs.YtopiioklkkiedaaGreatDoor
end
section
set_option maxHeartbeats 12800000
set_option maxRecDepth 100000
namespace Go.Proofs.YtopiioklkkiedaaGreatDoor
open Go Go.Lg Go.Lg.Fml Go.Lg.Fld
structure CodesIn (X:Nat→Option Obj) (ad:Option Addr) (cs:List (List Ins)):Prop where
 at_:∀ (i:Nat) (c:List Ins),cs[i]? = some c→∃ (blk off:Nat) (arr:Array Value) (el:TypeId) (fr:Nat×Nat) (vad:Option Addr) (vcap:Nat),ad=some ⟨blk,off,none⟩∧X blk=some (.cells arr el fr)∧off+i*1+1≤arr.size∧arr[off+i]? = some (.slice vad c.length vcap)∧InsIn X vad c
theorem CodesIn.mono {X Y:Nat→Option Obj} (hXY:∀ b o,X b=some o→Y b=some o) {ad:Option Addr} {cs:List (List Ins)} (h:CodesIn X ad cs):CodesIn Y ad cs:=⟨fun i c hc=>by
 obtain ⟨blk,off,arr,el,fr,vad,vcap,h1,h2,h3,h4,h5⟩:=h.at_ i c hc
 exact ⟨blk,off,arr,el,fr,vad,vcap,h1,hXY _ _ h2,h3,h4,h5.mono hXY⟩⟩
theorem CodesIn.nil {X:Nat→Option Obj} {ad:Option Addr}:CodesIn X ad []:=⟨fun i c h=>by simp at h⟩
def smallR (r:Rl):Prop:=(-9223372036854775808≤r.nw∧r.nw<9223372036854775808)∧(-9223372036854775808≤r.old∧r.old<9223372036854775808)
structure RulesIn (X:Nat→Option Obj) (ad:Option Addr) (rs:List Rl):Prop where
 at_:∀ (i:Nat) (r:Rl),rs[i]? = some r→∃ (blk off:Nat) (arr:Array Value) (el:TypeId) (fr:Nat×Nat) (ead:Option Addr) (ecap:Nat),ad=some ⟨blk,off,none⟩∧X blk=some (.cells arr el fr)∧off+i*3+3≤arr.size∧(arr.toList.drop (off+i*3)).take 3=[.int .i64 r.nw,.int .i64 r.old,.slice ead r.ex.length ecap]∧CodesIn X ead r.ex
 small:∀ r∈rs,smallR r
theorem RulesIn.get {X:Nat→Option Obj} {ad:Option Addr} {rs:List Rl} (h:RulesIn X ad rs) {i:Nat} {r:Rl} (hr:rs[i]? = some r):∃ (blk off:Nat) (arr:Array Value) (el:TypeId) (fr:Nat×Nat) (ead:Option Addr) (ecap:Nat),ad=some ⟨blk,off,none⟩∧X blk=some (.cells arr el fr)∧off+i*3+3≤arr.size ∧
  ((arr.toList.drop (off+i*3)).take 3).map CV.val=[.val (.int .i64 r.nw),.val (.int .i64 r.old),.val (.slice ead r.ex.length ecap)]∧arr[off+i*3]? = some (.int .i64 r.nw)∧arr[off+i*3+1]? = some (.int .i64 r.old)∧arr[off+i*3+2]? = some (.slice ead r.ex.length ecap)∧CodesIn X ead r.ex:=by
 obtain ⟨blk,off,arr,el,fr,ead,ecap,h1,h2,h3,h4,h5⟩:=h.at_ i r hr
 have key:∀ j,j<3→arr[off+i*3+j]? = ([.int .i64 r.nw,.int .i64 r.old,.slice ead r.ex.length ecap]:List Value)[j]? := fun j hj=>by
  rw [← h4,List.getElem?_take,if_pos hj,List.getElem?_drop,Array.getElem?_toList]
 exact ⟨blk,off,arr,el,fr,ead,ecap,h1,h2,h3,by rw [h4];rfl,key 0 y3,key 1 y3,key 2 y3,h5⟩
def sizeR (rs:List Rl):Prop := ∀ r∈rs,r.ex.length<1152921504606846976∧∀ c∈r.ex,c.length<1152921504606846976
end Go.Proofs.YtopiioklkkiedaaGreatDoor
end
section
set_option maxHeartbeats 12800000
set_option maxRecDepth 100000
namespace Go.Proofs.YtopiioklkkiedaaGreatDoor
open Go Go.Lg Go.Lg.Arith Go.Lg.Dig Go.RowKit
variable (X:Nat→Option Obj)
theorem Do_bad (op:Int) (a b:Bool) (M N:Int) (hM:In2 M) (hN:In2 N) (hf:(formB a M&&formB b N)=false):PSpec Tryz.prog X 152 [Ln .i64 op,LI a M,LI b N] (.tup [S0,Sn .i64 1]):=by
 have hF1:=Good_spec X a M hM _ rfl
 have hF2:=Good_spec X b N hN _ rfl
 refine cC Tryz.func152 rfl y5 rfl rfl ?_
 intro C
 by_cases h1:formB a M=true
 ·have h2:formB b N=false:=by rw [h1] at hf;simpa using hf
  rw [h1] at hF1
  rw [h2] at hF2
  (refine aA<|rgN<|aL O O O dO<|aL O O O dO<|aP O dO ?_;refine kas O<|aB<|aA<|aA<|rgN<|aK O O O dO ?_;refine kca O O (hF1)<|aV O O dO<|kmv O<|aK O O O (dP O O) ?_;refine gca O O (hF2) O O<|aV O O (dP O O) ?_;refine kpf O O<|kmv O<|aC O O O<|aC O O O<|aC O O O<|aD O O<|aD O O<|aD O O<|aC O O O<|aC O O O<|aD O O<|aD O O<|aD O O<|aC O O O ?_;refine kpt O O<|aB<|aE O ?_;refine aA<|rgN<|aT O O y2 y28 dO ?_;refine aM O O O O O O dO ?_;refine kas O<|aB<|aI ?_)
  exact y4
 ·have h1:formB a M=false:=by simpa using h1
  rw [h1] at hF1
  (refine aA<|rgN<|aL O O O dO<|aL O O O dO<|aP O dO ?_;refine kas O<|aB<|aA<|aA<|rgN<|aK O O O dO ?_;refine kca O O (hF1)<|aV O O dO<|kmv O<|aC O O O<|aC O O O<|aC O O O<|kpt O O<|kmv O<|aC O O O<|aC O O O<|aC O O O<|aD O O<|aD O O<|aD O O ?_;refine aC O O O<|aC O O O<|aD O O<|aD O O<|aD O O<|aC O O O<|kpt O O<|aB<|aE O ?_;refine aA<|rgN<|aT O O y2 y28 dO ?_;refine aM O O O O O O dO ?_;refine kas O<|aB<|aI ?_)
  exact y4
theorem Do_2 (x y:Int) (hx:R127 x) (hy:R127 y) (z:Int) (hz:(if 2=1 then x+y else x-y)=z):PSpec Tryz.prog X 152 [Ln .i64 2,LQ x,LQ y] (addR z):=by
 have hF1:=Good_spec X _ _ (mg_in2 hx) true (formB_q hx)
 have hF2:=Good_spec X _ _ (mg_in2 hy) true (formB_q hy)
 have f1:=From_q X x hx
 have f2:=From_q X y hy
 obtain ⟨s,n,hA,hv,hn⟩:=Sum_any X (decide (x<0)) (if 2=1 then decide (y<0) else !decide (y<0)) (mg x).toNat (mg y).toNat (mg_128 hx) (mg_128 hy)
 have hv':zv s (n:Nat)=z:=by
  rw [hv,← hz]
  first
   | (show zv (decide (x<0)) _+zv (decide (y<0)) _=x+y;rw [zv_q,zv_q])
   | (show zv (decide (x<0)) _+zv (!decide (y<0)) _=x-y;rw [zv_not,zv_q,zv_q];omega)
 have hT:=To_spec X s n hn
 by_cases hr:R127 z
 ·rw [toR_in hv' hr] at hT
  rw [addR_in hr]
  refine cC Tryz.func152 rfl y5 rfl rfl ?_
  intro C
  ((refine aA<|rgN<|aL O O O dO<|aL O O O dO<|aP O dO ?_;refine kas O<|aB<|aA<|aA<|rgN<|aK O O O dO ?_;refine kca O O (hF1)<|aV O O dO<|kmv O<|aK O O O (dP O O) ?_;refine gca O O (hF2) O O<|aV O O (dP O O) ?_;refine kpf O O<|kmv O<|gmv O O O<|aS O O (cK y3) (dP O O) ?_;refine gmv O O O<|aC O O O<|aC O O O<|aC O O O<|bO O O (dP O O) ?_;refine gmv O O O<|aC O O O<|aC O O O<|aC O O O<|bO O O (dP O O) ?_;refine kpf O O<|aB<|aF O ?_;refine aH ?_;refine aA<|rgN<|aK O O O dO ?_;refine kca O O (f1)<|aP O dO ?_;refine aM O O O O O O dO ?_);(refine aB<|aA<|rgN<|aK O O O dO ?_;refine kca O O (f2)<|aP O dO ?_;refine aM O O O O O O dO ?_;refine aB<|aA<|rgN<|aT O O y2 y2 dO ?_;refine aP O dO ?_;refine aM O O O O O O dO ?_;refine aB<|aA<|aA<|rgN<|kmv O<|aB<|aG<|aA<|rgN<|keq O O (cN y3)<|kas O<|aB<|aF O ?_;refine aA<|rgN<|keq O O (cR y3)<|kas O<|aB<|aE O ?_;refine aA<|rgN<|kfa O O ?_;refine kl1 O O O<|aV O O dO<|kfa O O ?_;refine bG O O O O num_blt0 num_sign dO<|aB<|rgN<|aK O O O dO ?_;refine aK O O O dO ?_);(refine kca O O (hA)<|aM O O O O O O dO ?_;refine aB<|aA<|rgN<|aK O O O dO ?_;refine kca O O (hT)<|kmv O<|kex O O<|kex O O<|aP O dO ?_;refine aM O O O O O O dO ?_;refine kas O<|aB<|aA<|aA<|rgN<|kmv O<|aV O O dO<|aB<|aF O ?_;refine aH ?_;refine aA<|rgN<|aK O O O dO ?_;refine aM O O O O O O dO ?_;refine kas O<|aB<|aI ?_))
  exact y4
 ·rw [toR_out hv' hr] at hT
  rw [addR_out hr]
  refine cC Tryz.func152 rfl y5 rfl rfl ?_
  intro C
  ((refine aA<|rgN<|aL O O O dO<|aL O O O dO<|aP O dO ?_;refine kas O<|aB<|aA<|aA<|rgN<|aK O O O dO ?_;refine kca O O (hF1)<|aV O O dO<|kmv O<|aK O O O (dP O O) ?_;refine gca O O (hF2) O O<|aV O O (dP O O) ?_;refine kpf O O<|kmv O<|gmv O O O<|aS O O (cK y3) (dP O O) ?_;refine gmv O O O<|aC O O O<|aC O O O<|aC O O O<|bO O O (dP O O) ?_;refine gmv O O O<|aC O O O<|aC O O O<|aC O O O<|bO O O (dP O O) ?_;refine kpf O O<|aB<|aF O ?_;refine aH ?_;refine aA<|rgN<|aK O O O dO ?_;refine kca O O (f1)<|aP O dO ?_;refine aM O O O O O O dO ?_);(refine aB<|aA<|rgN<|aK O O O dO ?_;refine kca O O (f2)<|aP O dO ?_;refine aM O O O O O O dO ?_;refine aB<|aA<|rgN<|aT O O y2 y2 dO ?_;refine aP O dO ?_;refine aM O O O O O O dO ?_;refine aB<|aA<|aA<|rgN<|kmv O<|aB<|aG<|aA<|rgN<|keq O O (cN y3)<|kas O<|aB<|aF O ?_;refine aA<|rgN<|keq O O (cR y3)<|kas O<|aB<|aE O ?_;refine aA<|rgN<|kfa O O ?_;refine kl1 O O O<|aV O O dO<|kfa O O ?_;refine bG O O O O num_blt0 num_sign dO<|aB<|rgN<|aK O O O dO ?_;refine aK O O O dO ?_);(refine kca O O (hA)<|aM O O O O O O dO ?_;refine aB<|aA<|rgN<|aK O O O dO ?_;refine kca O O (hT)<|kmv O<|kex O O<|kex O O<|aP O dO ?_;refine aM O O O O O O dO ?_;refine kas O<|aB<|aA<|aA<|rgN<|kmv O<|aV O O dO<|aB<|aE O ?_;refine aA<|rgN<|aT O O y2 y28 dO ?_;refine aM O O O O O O dO ?_;refine kas O<|aB<|aI ?_))
  exact y4
theorem Do_zero4 (x y:Int) (hx:R127 x) (hy:R127 y) (h0:y=0):PSpec Tryz.prog X 152 [Ln .i64 4,LQ x,LQ y] (.tup [S0,Sn .i64 1]):=by
 have hF1:=Good_spec X _ _ (mg_in2 hx) true (formB_q hx)
 have hF2:=Good_spec X _ _ (mg_in2 hy) true (formB_q hy)
 have m0:mg y=0:=by subst h0;rfl
 refine cC Tryz.func152 rfl y5 rfl rfl ?_
 intro C
 (refine aA<|rgN<|aL O O O dO<|aL O O O dO<|aP O dO ?_;refine kas O<|aB<|aA<|aA<|rgN<|aK O O O dO ?_;refine kca O O (hF1)<|aV O O dO<|kmv O<|aK O O O (dP O O) ?_;refine gca O O (hF2) O O<|aV O O (dP O O) ?_;refine kpf O O<|kmv O<|gmv O O O<|aS O O (cL y3) (dP O O) ?_;refine gmv O O O<|aN O O (dP O O) ?_;refine aO O O O (dP O O) ?_;refine bC O O (cR y3) (dP O O) ?_;refine bF O O (dP O O) ?_;refine gmv O O O<|aN O O (dP O O) ?_;refine aO O O O (dP O O) ?_;refine bC O O (cR y3) (dP O O) ?_;refine bF O O (dP O O) ?_;refine kpf O O<|aB<|aE O ?_;refine aA<|rgN<|aT O O y2 y28 dO ?_;refine aM O O O O O O dO ?_;refine kas O<|aB<|aI ?_)
 exact y4
theorem Do_4 (x y:Int) (hx:R127 x) (hy:R127 y) (h0:y≠0) (z:Int) (hz:(if 4=4 then x.tdiv y else x.tmod y)=z) (hr:R127 z):PSpec Tryz.prog X 152 [Ln .i64 4,LQ x,LQ y] (.tup [SQ z,Sn .i64 0]):=by
 have hF1:=Good_spec X _ _ (mg_in2 hx) true (formB_q hx)
 have hF2:=Good_spec X _ _ (mg_in2 hy) true (formB_q hy)
 have f1:=From_q X x hx
 have f2:=From_q X y hy
 have m0:=mg_zero h0
 have hx0:=mg_nonneg x
 have b1:=mg_128 hx
 have b2:=mg_128 hy
 obtain ⟨q1,q2⟩:=zv_quo x y h0
 have hA:=Parted_spec X (decide (x<0)) (decide (y<0)) (mg x).toNat (mg y).toNat (lim40 b1) y3 b2
 have e1:(((mg x).toNat/(mg y).toNat:Nat):Int)=mg x/mg y:=by rw [Int.natCast_ediv,mg_nat,mg_nat]
 have e2:(((mg x).toNat%(mg y).toNat:Nat):Int)=mg x%mg y:=by rw [Int.natCast_emod,mg_nat,mg_nat]
 have l1:(mg x).toNat/(mg y).toNat≤(mg x).toNat:=Nat.div_le_self _ _
 have l2:(mg x).toNat%(mg y).toNat<(mg y).toNat:=Nat.mod_lt _ y3
 have hT:=To_spec X (if 4=4 then decide (x<0) != decide (y<0) else decide (x<0)) (if 4=4 then (mg x).toNat/(mg y).toNat else (mg x).toNat%(mg y).toNat) (lim40 (by split<;>omega))
 have hv:zv (if 4=4 then decide (x<0) != decide (y<0) else decide (x<0)) ((if 4=4 then (mg x).toNat/(mg y).toNat else (mg x).toNat%(mg y).toNat:Nat):Int)=z:=by
  rw [← hz]
  first
   | (show zv (decide (x<0) != decide (y<0)) (((mg x).toNat/(mg y).toNat:Nat):Int)=x.tdiv y;rw [e1];exact q1)
   | (show zv (decide (x<0)) (((mg x).toNat%(mg y).toNat:Nat):Int)=x.tmod y;rw [e2];exact q2)
 rw [toR_in hv hr] at hT
 refine cC Tryz.func152 rfl y5 rfl rfl ?_
 intro C
 by_cases zh:mg y/18446744073709551616=0
 ·((refine aA<|rgN<|aL O O O dO<|aL O O O dO<|aP O dO ?_;refine kas O<|aB<|aA<|aA<|rgN<|aK O O O dO ?_;refine kca O O (hF1)<|aV O O dO<|kmv O<|aK O O O (dP O O) ?_;refine gca O O (hF2) O O<|aV O O (dP O O) ?_;refine kpf O O<|kmv O<|gmv O O O<|aS O O (cL y3) (dP O O) ?_;refine gmv O O O<|aN O O (dP O O) ?_;refine aO O O O (dP O O) ?_;refine bC O O (cR y3) (dP O O) ?_;refine bF O O (dP O O) ?_;refine gmv O O O<|aN O O (dP O O) ?_;refine aO O O O (dP O O) ?_;refine bC O O (cN y3) (dP O O) ?_);(refine bF O O (dP O O) ?_;refine kpf O O<|aB<|aF O ?_;refine aH ?_;refine aA<|rgN<|aK O O O dO ?_;refine kca O O (f1)<|aP O dO ?_;refine aM O O O O O O dO ?_;refine aB<|aA<|rgN<|aK O O O dO ?_;refine kca O O (f2)<|aP O dO ?_;refine aM O O O O O O dO ?_;refine aB<|aA<|rgN<|aT O O y2 y2 dO ?_;refine aP O dO ?_;refine aM O O O O O O dO ?_);(refine aB<|aA<|aA<|rgN<|kmv O<|aB<|aG<|aA<|rgN<|keq O O (cN y3)<|kas O<|aB<|aF O ?_;refine aA<|rgN<|keq O O (cN y3)<|kas O<|aB<|aF O ?_;refine aA<|rgN<|keq O O (cN y3)<|kas O<|aB<|aF O ?_;refine aA<|rgN<|aK O O O dO ?_;refine aK O O O dO ?_;refine kca O O (hA)<|kmv O<|kex O O<|kex O O<|aP O dO ?_;refine aP O dO ?_;refine aM O O O O O O dO ?_;refine aM O O O O O O dO ?_;refine aB<|aA<|rgN<|aK O O O dO ?_;refine aM O O O O O O dO ?_;refine aB<|aA<|rgN<|kfa O O ?_);(refine kl1 O O O<|kfa O O ?_;refine kl1 O O O<|K.neqB O O O dO<|kfa O O ?_;refine bG O O O O num_blt0 num_sign dO<|aB<|aA<|rgN<|kmv O<|keq O O (cN y3)<|aB<|aF O ?_;refine aH ?_;refine aA<|rgN<|aK O O O dO ?_;refine kca O O (hT)<|kmv O<|kex O O<|kex O O<|aP O dO ?_;refine aM O O O O O O dO ?_;refine kas O<|aB<|aA<|aA<|rgN<|kmv O<|aV O O dO<|aB<|aF O ?_;refine aH ?_;refine aA<|rgN<|aK O O O dO ?_;refine aM O O O O O O dO ?_;refine kas O<|aB<|aI ?_))
  exact y4
 ·((refine aA<|rgN<|aL O O O dO<|aL O O O dO<|aP O dO ?_;refine kas O<|aB<|aA<|aA<|rgN<|aK O O O dO ?_;refine kca O O (hF1)<|aV O O dO<|kmv O<|aK O O O (dP O O) ?_;refine gca O O (hF2) O O<|aV O O (dP O O) ?_;refine kpf O O<|kmv O<|gmv O O O<|aS O O (cL y3) (dP O O) ?_;refine gmv O O O<|aN O O (dP O O) ?_;refine aO O O O (dP O O) ?_;refine bC O O (cN y3) (dP O O) ?_;refine bF O O (dP O O) ?_;refine gmv O O O<|aC O O O<|aC O O O<|aC O O O<|bO O O (dP O O) ?_;refine kpf O O<|aB<|aF O ?_;refine aH ?_);(refine aA<|rgN<|aK O O O dO ?_;refine kca O O (f1)<|aP O dO ?_;refine aM O O O O O O dO ?_;refine aB<|aA<|rgN<|aK O O O dO ?_;refine kca O O (f2)<|aP O dO ?_;refine aM O O O O O O dO ?_;refine aB<|aA<|rgN<|aT O O y2 y2 dO ?_;refine aP O dO ?_;refine aM O O O O O O dO ?_;refine aB<|aA<|aA<|rgN<|kmv O<|aB<|aG<|aA<|rgN<|keq O O (cN y3)<|kas O<|aB<|aF O ?_;refine aA<|rgN<|keq O O (cN y3)<|kas O<|aB<|aF O ?_;refine aA<|rgN<|keq O O (cN y3)<|kas O<|aB<|aF O ?_);(refine aA<|rgN<|aK O O O dO ?_;refine aK O O O dO ?_;refine kca O O (hA)<|kmv O<|kex O O<|kex O O<|aP O dO ?_;refine aP O dO ?_;refine aM O O O O O O dO ?_;refine aM O O O O O O dO ?_;refine aB<|aA<|rgN<|aK O O O dO ?_;refine aM O O O O O O dO ?_;refine aB<|aA<|rgN<|kfa O O ?_;refine kl1 O O O<|kfa O O ?_;refine kl1 O O O<|K.neqB O O O dO<|kfa O O ?_;refine bG O O O O num_blt0 num_sign dO<|aB<|aA<|rgN<|kmv O<|keq O O (cN y3)<|aB<|aF O ?_);(refine aH ?_;refine aA<|rgN<|aK O O O dO ?_;refine kca O O (hT)<|kmv O<|kex O O<|kex O O<|aP O dO ?_;refine aM O O O O O O dO ?_;refine kas O<|aB<|aA<|aA<|rgN<|kmv O<|aV O O dO<|aB<|aF O ?_;refine aH ?_;refine aA<|rgN<|aK O O O dO ?_;refine aM O O O O O O dO ?_;refine kas O<|aB<|aI ?_))
  exact y4
theorem Do_zero5 (x y:Int) (hx:R127 x) (hy:R127 y) (h0:y=0):PSpec Tryz.prog X 152 [Ln .i64 5,LQ x,LQ y] (.tup [S0,Sn .i64 1]):=by
 have hF1:=Good_spec X _ _ (mg_in2 hx) true (formB_q hx)
 have hF2:=Good_spec X _ _ (mg_in2 hy) true (formB_q hy)
 have m0:mg y=0:=by subst h0;rfl
 refine cC Tryz.func152 rfl y5 rfl rfl ?_
 intro C
 (refine aA<|rgN<|aL O O O dO<|aL O O O dO<|aP O dO ?_;refine kas O<|aB<|aA<|aA<|rgN<|aK O O O dO ?_;refine kca O O (hF1)<|aV O O dO<|kmv O<|aK O O O (dP O O) ?_;refine gca O O (hF2) O O<|aV O O (dP O O) ?_;refine kpf O O<|kmv O<|gmv O O O<|aS O O (cL y3) (dP O O) ?_;refine gmv O O O<|aN O O (dP O O) ?_;refine aO O O O (dP O O) ?_;refine bC O O (cR y3) (dP O O) ?_;refine bF O O (dP O O) ?_;refine gmv O O O<|aN O O (dP O O) ?_;refine aO O O O (dP O O) ?_;refine bC O O (cR y3) (dP O O) ?_;refine bF O O (dP O O) ?_;refine kpf O O<|aB<|aE O ?_;refine aA<|rgN<|aT O O y2 y28 dO ?_;refine aM O O O O O O dO ?_;refine kas O<|aB<|aI ?_)
 exact y4
theorem Do_5 (x y:Int) (hx:R127 x) (hy:R127 y) (h0:y≠0) (z:Int) (hz:(if 5=4 then x.tdiv y else x.tmod y)=z) (hr:R127 z):PSpec Tryz.prog X 152 [Ln .i64 5,LQ x,LQ y] (.tup [SQ z,Sn .i64 0]):=by
 have hF1:=Good_spec X _ _ (mg_in2 hx) true (formB_q hx)
 have hF2:=Good_spec X _ _ (mg_in2 hy) true (formB_q hy)
 have f1:=From_q X x hx
 have f2:=From_q X y hy
 have m0:=mg_zero h0
 have hx0:=mg_nonneg x
 have b1:=mg_128 hx
 have b2:=mg_128 hy
 obtain ⟨q1,q2⟩:=zv_quo x y h0
 have hA:=Parted_spec X (decide (x<0)) (decide (y<0)) (mg x).toNat (mg y).toNat (lim40 b1) y3 b2
 have e1:(((mg x).toNat/(mg y).toNat:Nat):Int)=mg x/mg y:=by rw [Int.natCast_ediv,mg_nat,mg_nat]
 have e2:(((mg x).toNat%(mg y).toNat:Nat):Int)=mg x%mg y:=by rw [Int.natCast_emod,mg_nat,mg_nat]
 have l1:(mg x).toNat/(mg y).toNat≤(mg x).toNat:=Nat.div_le_self _ _
 have l2:(mg x).toNat%(mg y).toNat<(mg y).toNat:=Nat.mod_lt _ y3
 have hT:=To_spec X (if 5=4 then decide (x<0) != decide (y<0) else decide (x<0)) (if 5=4 then (mg x).toNat/(mg y).toNat else (mg x).toNat%(mg y).toNat) (lim40 (by split<;>omega))
 have hv:zv (if 5=4 then decide (x<0) != decide (y<0) else decide (x<0)) ((if 5=4 then (mg x).toNat/(mg y).toNat else (mg x).toNat%(mg y).toNat:Nat):Int)=z:=by
  rw [← hz]
  first
   | (show zv (decide (x<0) != decide (y<0)) (((mg x).toNat/(mg y).toNat:Nat):Int)=x.tdiv y;rw [e1];exact q1)
   | (show zv (decide (x<0)) (((mg x).toNat%(mg y).toNat:Nat):Int)=x.tmod y;rw [e2];exact q2)
 rw [toR_in hv hr] at hT
 refine cC Tryz.func152 rfl y5 rfl rfl ?_
 intro C
 by_cases zh:mg y/18446744073709551616=0
 ·((refine aA<|rgN<|aL O O O dO<|aL O O O dO<|aP O dO ?_;refine kas O<|aB<|aA<|aA<|rgN<|aK O O O dO ?_;refine kca O O (hF1)<|aV O O dO<|kmv O<|aK O O O (dP O O) ?_;refine gca O O (hF2) O O<|aV O O (dP O O) ?_;refine kpf O O<|kmv O<|gmv O O O<|aS O O (cL y3) (dP O O) ?_;refine gmv O O O<|aN O O (dP O O) ?_;refine aO O O O (dP O O) ?_;refine bC O O (cR y3) (dP O O) ?_;refine bF O O (dP O O) ?_;refine gmv O O O<|aN O O (dP O O) ?_;refine aO O O O (dP O O) ?_;refine bC O O (cN y3) (dP O O) ?_);(refine bF O O (dP O O) ?_;refine kpf O O<|aB<|aF O ?_;refine aH ?_;refine aA<|rgN<|aK O O O dO ?_;refine kca O O (f1)<|aP O dO ?_;refine aM O O O O O O dO ?_;refine aB<|aA<|rgN<|aK O O O dO ?_;refine kca O O (f2)<|aP O dO ?_;refine aM O O O O O O dO ?_;refine aB<|aA<|rgN<|aT O O y2 y2 dO ?_;refine aP O dO ?_;refine aM O O O O O O dO ?_);(refine aB<|aA<|aA<|rgN<|kmv O<|aB<|aG<|aA<|rgN<|keq O O (cN y3)<|kas O<|aB<|aF O ?_;refine aA<|rgN<|keq O O (cN y3)<|kas O<|aB<|aF O ?_;refine aA<|rgN<|keq O O (cN y3)<|kas O<|aB<|aF O ?_;refine aA<|rgN<|aK O O O dO ?_;refine aK O O O dO ?_;refine kca O O (hA)<|kmv O<|kex O O<|kex O O<|aP O dO ?_;refine aP O dO ?_;refine aM O O O O O O dO ?_;refine aM O O O O O O dO ?_;refine aB<|aA<|rgN<|aK O O O dO ?_;refine aM O O O O O O dO ?_;refine aB<|aA<|rgN<|kfa O O ?_);(refine kl1 O O O<|kfa O O ?_;refine kl1 O O O<|K.neqB O O O dO<|kfa O O ?_;refine bG O O O O num_blt0 num_sign dO<|aB<|aA<|rgN<|kmv O<|keq O O (cR y3)<|aB<|aE O ?_;refine aA<|rgN<|aK O O O dO ?_;refine aM O O O O O O dO ?_;refine aB<|rgN<|kfa O O ?_;refine kl1 O O O<|kfa O O ?_;refine bG O O O O num_blt0 num_sign dO<|aB<|aA<|rgN<|aK O O O dO ?_;refine kca O O (hT)<|kmv O<|kex O O<|kex O O<|aP O dO ?_;refine aM O O O O O O dO ?_;refine kas O<|aB<|aA<|aA<|rgN<|kmv O<|aV O O dO<|aB<|aF O ?_;refine aH ?_);(refine aA<|rgN<|aK O O O dO ?_;refine aM O O O O O O dO ?_;refine kas O<|aB<|aI ?_))
  exact y4
 ·((refine aA<|rgN<|aL O O O dO<|aL O O O dO<|aP O dO ?_;refine kas O<|aB<|aA<|aA<|rgN<|aK O O O dO ?_;refine kca O O (hF1)<|aV O O dO<|kmv O<|aK O O O (dP O O) ?_;refine gca O O (hF2) O O<|aV O O (dP O O) ?_;refine kpf O O<|kmv O<|gmv O O O<|aS O O (cL y3) (dP O O) ?_;refine gmv O O O<|aN O O (dP O O) ?_;refine aO O O O (dP O O) ?_;refine bC O O (cN y3) (dP O O) ?_;refine bF O O (dP O O) ?_;refine gmv O O O<|aC O O O<|aC O O O<|aC O O O<|bO O O (dP O O) ?_;refine kpf O O<|aB<|aF O ?_;refine aH ?_);(refine aA<|rgN<|aK O O O dO ?_;refine kca O O (f1)<|aP O dO ?_;refine aM O O O O O O dO ?_;refine aB<|aA<|rgN<|aK O O O dO ?_;refine kca O O (f2)<|aP O dO ?_;refine aM O O O O O O dO ?_;refine aB<|aA<|rgN<|aT O O y2 y2 dO ?_;refine aP O dO ?_;refine aM O O O O O O dO ?_;refine aB<|aA<|aA<|rgN<|kmv O<|aB<|aG<|aA<|rgN<|keq O O (cN y3)<|kas O<|aB<|aF O ?_;refine aA<|rgN<|keq O O (cN y3)<|kas O<|aB<|aF O ?_;refine aA<|rgN<|keq O O (cN y3)<|kas O<|aB<|aF O ?_);(refine aA<|rgN<|aK O O O dO ?_;refine aK O O O dO ?_;refine kca O O (hA)<|kmv O<|kex O O<|kex O O<|aP O dO ?_;refine aP O dO ?_;refine aM O O O O O O dO ?_;refine aM O O O O O O dO ?_;refine aB<|aA<|rgN<|aK O O O dO ?_;refine aM O O O O O O dO ?_;refine aB<|aA<|rgN<|kfa O O ?_;refine kl1 O O O<|kfa O O ?_;refine kl1 O O O<|K.neqB O O O dO<|kfa O O ?_;refine bG O O O O num_blt0 num_sign dO<|aB<|aA<|rgN<|kmv O<|keq O O (cR y3)<|aB<|aE O ?_);(refine aA<|rgN<|aK O O O dO ?_;refine aM O O O O O O dO ?_;refine aB<|rgN<|kfa O O ?_;refine kl1 O O O<|kfa O O ?_;refine bG O O O O num_blt0 num_sign dO<|aB<|aA<|rgN<|aK O O O dO ?_;refine kca O O (hT)<|kmv O<|kex O O<|kex O O<|aP O dO ?_;refine aM O O O O O O dO ?_;refine kas O<|aB<|aA<|aA<|rgN<|kmv O<|aV O O dO<|aB<|aF O ?_;refine aH ?_;refine aA<|rgN<|aK O O O dO ?_;refine aM O O O O O O dO ?_;refine kas O<|aB<|aI ?_))
  exact y4
end Go.Proofs.YtopiioklkkiedaaGreatDoor
end
section
set_option maxHeartbeats 12800000
set_option maxRecDepth 100000
namespace Go.Proofs.YtopiioklkkiedaaGreatDoor
open Go Go.Lg Go.Lg.Arith Go.RowKit
theorem parts_facts {x y:Int} (hx:R127 x) (hy:R127 y) (h0:y≠0):
  R127 (x.tdiv y)∧R127 (x.tmod y)∧R127 (x.tdiv y*y)∧x.tdiv y*y+x.tmod y=x∧mg (x.tmod y)<mg y∧(x.tmod y<0→x<0)∧(0<x.tmod y→0<x):=by
 obtain ⟨h1,h2⟩:=zv_quo x y h0
 have hB:=mg_zero h0
 have hA0:=mg_nonneg x
 have hR0:=Int.emod_nonneg (mg x) (show mg y≠0 by omega)
 have hR1:=Int.emod_lt_of_pos (mg x) hB
 have hQ0:=Int.ediv_nonneg hA0 (Int.le_of_lt hB)
 have hQ1:=Int.ediv_le_self (mg y) hA0
 have hE:=Int.emod_add_mul_ediv (mg x) (mg y)
 have hT0:=Int.mul_nonneg hQ0 (Int.le_of_lt hB)
 rw [Int.mul_comm (mg y) (mg x/mg y)] at hE
 rw [← h1,← h2]
 have key:zv (decide (x<0) != decide (y<0)) (mg x/mg y)*y=zv (decide (x<0)) (mg x/mg y*mg y):=by
  by_cases cy:y<0
  ·have hy':mg y = -y:=mg_neg cy
   generalize mg x/mg y=Q
   by_cases cx:x<0<;>simp only [cx,cy,decide_true,decide_false,zv,bne_self_eq_false,Bool.false_bne,if_true,if_false,Bool.false_eq_true]
   ·rw [hy',Int.mul_neg,Int.neg_neg]
   ·rw [hy',Int.mul_neg,Int.neg_mul]
  ·have hy':mg y=y:=mg_pos y3
   generalize mg x/mg y=Q
   by_cases cx:x<0<;>simp only [cx,cy,decide_true,decide_false,zv,bne_self_eq_false,Bool.true_bne,Bool.not_false,if_true,if_false,Bool.false_eq_true]
   ·rw [hy',Int.neg_mul]
   ·rw [hy']
 have zR:∀ (b:Bool) (n:Int),0≤n→n<170141183460469231731687303715884105728→R127 (zv b n):=by
  intro b n h1 h2
  unfold R127 zv
  cases b<;>simp only [if_true,if_false,Bool.false_eq_true]<;>omega
 have hlx:=mg_lim hx
 have hly:=mg_lim hy
 rw [key]
 generalize mg x/mg y*mg y=T at *
 generalize mg x/mg y=Q at *
 generalize mg x%mg y=R at *
 refine ⟨zR _ _ hQ0 y3,zR _ _ hR0 y3,zR _ _ hT0 y3,?_,?_,?_,?_⟩
 ·by_cases cx:x<0
  ·rw [cL cx]
   have:=mg_neg cx
   show -T + -R=x
   omega
  ·rw [cK cx]
   have:=mg_pos (Int.not_lt.1 cx)
   show T+R=x
   omega
 ·by_cases cx:x<0
  ·rw [cL cx]
   show mg (-R)<mg y
   by_cases c:R=0
   ·subst c;exact hB
   ·rw [mg_neg (z := -R) y3];omega
  ·rw [cK cx]
   show mg R<mg y
   rw [mg_pos hR0];exact hR1
 ·intro h
  by_cases cx:x<0
  ·exact cx
  ·rw [cK cx] at h
   have h:R<0:=h
   omega
 ·intro h
  by_cases cx:x<0
  ·rw [cL cx] at h
   have h:0 < -R:=h
   omega
  ·rw [cK cx] at h
   have h:0<R:=h
   have:=mg_pos (Int.not_lt.1 cx)
   omega
end Go.Proofs.YtopiioklkkiedaaGreatDoor
end
section
set_option maxHeartbeats 12800000
set_option maxRecDepth 100000
namespace Go.Proofs.YtopiioklkkiedaaGreatDoor
open Go Go.Lg Go.Lg.Fml Go.Lg.Fld Go.Lg.Arith
set_option maxRecDepth 100000
variable (X:Nat→Option Obj)
def exR:Except Int Nm→LV
 | .ok v=>.tup [SI v.1 v.2,Sn .i64 0]
 | .error e=>.tup [S0,Sn .i64 e]
theorem SI_small {b:Bool} {n:Int} (h:0≤n∧n<18446744073709551616):SI b n = .agg [.val (.bool b),.val (.int .u64 0),.val (.int .u64 n)]:=by
 unfold SI
 rw [show n/18446744073709551616=0 by omega,show n%18446744073709551616=n by omega]
theorem NumsIn.all {X:Nat→Option Obj} {ad:Option Addr} {ns:List Nm} (h:NumsIn X ad ns) (hpos:0<ns.length):
  ∃ (blk off:Nat) (arr:Array Value) (el:TypeId) (fr:Nat×Nat),ad=some ⟨blk,off,none⟩∧X blk=some (.cells arr el fr)∧∀ i b N,ns[i]? = some (b,N)→In2 N∧off+i*3+3≤arr.size∧((arr.toList.drop (off+i*3)).take 3).map CV.val=cI b N:=by
 obtain ⟨_,blk,off,arr,el,fr,rfl,hX,_,_⟩:=h.at (i:=0) (b:=(ns[0]'hpos).1) (N:=(ns[0]'hpos).2) (cU hpos)
 refine ⟨blk,off,arr,el,fr,O,hX,fun i b N hi => ?_⟩
 obtain ⟨h1,blk',off',arr',el',fr',h2,h3,h4,h5⟩:=h.at hi
 simp only [Option.some.injEq,Addr.mk.injEq] at h2
 obtain ⟨rfl,rfl,_⟩:=h2
 rw [hX] at h3
 simp only [Option.some.injEq,Obj.cells.injEq] at h3
 obtain ⟨rfl,_,_⟩:=h3
 exact ⟨h1,h4,h5⟩
theorem rTruth_spec (b:Bool):PSpec Tryz.prog X 153 [Lb b] (exR (.ok (truth b))):=by
 cases b with
 | true =>
  refine cC Tryz.func153 rfl y5 rfl rfl ?_
  intro C
  (refine aA<|rgN<|aP O dO ?_;refine kas O<|aB<|aA<|aA<|rgN<|kmv O<|aB<|aE O ?_;refine aA<|rgN<|aT O O y2 y28 dO ?_;refine aM O O O O O O dO ?_;refine kas O<|aB<|aI ?_)
  exact y4
 | false =>
  refine cC Tryz.func153 rfl y5 rfl rfl ?_
  intro C
  (refine aA<|rgN<|aP O dO ?_;refine kas O<|aB<|aA<|aA<|rgN<|kmv O<|aB<|aF O ?_;refine aH ?_;refine aA<|rgN<|aT O O y2 y28 dO ?_;refine aM O O O O O O dO ?_;refine kas O<|aB<|aI ?_)
  exact y4
theorem gd_q {u:Nm} (h:gd u=true) (hu:In2 u.2):LI u.1 u.2=LQ (zz u)∧R127 (zz u):=⟨LI_q hu h,(zv_in hu h).1⟩
theorem rDo_spec (op:Int) (ho:5≤op∧op≤9) (k:Int) (hk:op-4=k) (u v:Nm) (hu:In2 u.2) (hv:In2 v.2):PSpec Tryz.prog X 152 [Ln .i64 k,LI u.1 u.2,LI v.1 v.2] (exR (doX op u v)):=by
 cases hg:(gd u&&gd v) with
 | false =>
  rw [doX_bad hg]
  exact Do_bad X k u.1 v.1 u.2 v.2 hu hv hg
 | true =>
  obtain ⟨gu,gv⟩:=Bool.and_eq_true_iff.1 hg
  obtain ⟨e1,r1⟩:=gd_q gu hu
  obtain ⟨e2,r2⟩:=gd_q gv hv
  rw [e1,e2]
  unfold doX
  rw [hg,if_neg (by decide)]
  generalize zz u=x at *
  generalize zz v=y at *
  have fin:∀ z,R127 z→(if R127 z then Except.ok (qn z) else Except.error 3:Except Int Nm) = .ok (qn z):=fun z h=>if_pos h
  have fadd:∀ z,addR z=exR (if R127 z then Except.ok (qn z) else Except.error 3:Except Int Nm):=fun z=>by
   by_cases h:R127 z
   ·rw [addR_in h,if_pos h];rfl
   ·rw [addR_out h,if_neg h];rfl
  rcases (show op=5∨op=6∨op=7∨op=8∨op=9 by omega) with rfl|rfl|rfl|rfl|rfl<;>subst hk
  ·rw [if_neg y3]
   have:=Do_1 X x y r1 r2 (x+y) rfl
   rw [fadd] at this
   exact this
  ·rw [if_neg y3]
   have:=Do_2 X x y r1 r2 (x-y) rfl
   rw [fadd] at this
   exact this
  ·rw [if_neg y3]
   have:=Do_3 X x y r1 r2
   rw [fadd] at this
   exact this
  ·by_cases h0:y=0
   ·rw [if_pos ⟨by decide,h0⟩]
    exact Do_zero4 X x y r1 r2 h0
   ·rw [if_neg (fun h=>h0 h.2)]
    have hq:=(parts_facts r1 r2 h0).1
    rw [show arith 8 x y=x.tdiv y from rfl,fin _ hq]
    exact Do_4 X x y r1 r2 h0 _ O hq
  ·by_cases h0:y=0
   ·rw [if_pos ⟨by decide,h0⟩]
    exact Do_zero5 X x y r1 r2 h0
   ·rw [if_neg (fun h=>h0 h.2)]
    have hq:=(parts_facts r1 r2 h0).2.1
    rw [show arith 9 x y=x.tmod y from rfl,fin _ hq]
    exact Do_5 X x y r1 r2 h0 _ O hq
set_option maxHeartbeats 6400000 in
theorem rLeaf_spec (x:Ins) (hx:smallI x) (hok:okI x=true) (ht:takes x.op=0) (fad:Option Addr) (fcap:Nat) (fs:List (List Nm)) (hfs:FssIn X fad fs) (hfl:fs.length<4611686018427387904) (hrl:∀ r∈fs,r.length<4611686018427387904) (at_:Int) (hat : -9223372036854775808≤at_∧at_<9223372036854775808):
  PSpec Tryz.prog X 110 [LIn x,Lx fad fs.length fcap,Ln .i64 at_] (exR (leafX fs at_ x)):=by
 obtain ⟨h17,hgk,ha7,hb7⟩:=okI_facts hok
 obtain ⟨op,a,b,k⟩:=x
 simp only at h17 hgk ha7 hb7 ht hx
 have h4:op=1∨op=2∨op=3∨op=4:=by
  unfold takes at ht
  split at ht
  ·omega
  ·split at ht
   ·omega
   ·split at ht<;>omega
 rcases h4 with rfl|rfl|rfl|rfl
 ·show PSpec _ _ _ _ (exR (.ok k))
  refine cC Tryz.func110 rfl y5 rfl rfl ?_
  intro C
  (refine aA<|rgN<|aL O O O dO<|aP O dO ?_;refine kas O<|aB<|aA<|aA<|rgN<|kfa O O ?_;refine kl1 O O O<|keq O O (r:=true) O<|aB<|aE O ?_;refine aA<|rgN<|kfa O O ?_;refine bJ O O O y28 dO ?_;refine aM O O O O O O dO ?_;refine kas O<|aB<|aI ?_)
  exact y4
 ·show PSpec _ _ _ _ (exR (elemX fs a b))
  by_cases c1:fs.length≤a
  ·have e:elemX fs a b = .error 3:=by
    unfold elemX
    split
    ·rfl
    ·rw [List.getElem?_eq_none y3]
   rw [e]
   refine cC Tryz.func110 rfl y5 rfl rfl ?_
   intro C
   (refine aA<|rgN<|aL O O O dO<|aP O dO ?_;refine kas O<|aB<|aA<|aA<|rgN<|kfa O O ?_;refine kl1 O O O<|keq O O (r:=false) O<|aB<|aF O ?_;refine aH ?_;refine aA<|aA<|rgN<|kfa O O ?_;refine kl1 O O O<|keq O O (r:=false) O<|aB<|aF O ?_;refine aH ?_;refine aA<|rgN<|kfa O O ?_;refine kl1 O O O<|kas O<|aB<|aA<|aA<|rgN<|kfa O O ?_;refine kl1 O O O<|keq O O (r:=false) O<|aB<|aF O ?_;refine aH ?_;refine aA<|aA<|rgN<|kfa O O ?_;refine kl1 O O O<|kmv O<|aQ O bZ O dO ?_;refine bD O O (cL c1) dO<|kmv O<|aC O O O<|aC O O O<|kpt O O<|kmv O<|aC O O O<|aC O O O<|aC O O O<|aC O O O<|aC O O O<|aC O O O<|aC O O O<|aC O O O ?_;refine kpt O O<|aB<|aE O ?_;refine aA<|rgN<|aT O O y2 y28 dO ?_;refine aM O O O O O O dO ?_;refine kas O<|aB<|aI ?_)
   exact y4
  by_cases c2:b<0
  ·have e:elemX fs a b = .error 3:=by unfold elemX;rw [if_pos (.inr c2)]
   rw [e]
   refine cC Tryz.func110 rfl y5 rfl rfl ?_
   intro C
   (refine aA<|rgN<|aL O O O dO<|aP O dO ?_;refine kas O<|aB<|aA<|aA<|rgN<|kfa O O ?_;refine kl1 O O O<|keq O O (r:=false) O<|aB<|aF O ?_;refine aH ?_;refine aA<|aA<|rgN<|kfa O O ?_;refine kl1 O O O<|keq O O (r:=false) O<|aB<|aF O ?_;refine aH ?_;refine aA<|rgN<|kfa O O ?_;refine kl1 O O O<|kas O<|aB<|aA<|aA<|rgN<|kfa O O ?_;refine kl1 O O O<|keq O O (r:=false) O<|aB<|aF O ?_;refine aH ?_;refine aA<|aA<|rgN<|kfa O O ?_;refine kl1 O O O<|kmv O<|aQ O bZ O dO ?_;refine bD O O (cK c1) dO<|kmv O<|gmv O O O<|bK O O (cL c2) (dP O O) ?_;refine kpf O O<|kmv O<|aC O O O<|aC O O O<|aC O O O<|aC O O O<|aC O O O<|aC O O O<|aC O O O<|aC O O O<|kpt O O<|aB<|aE O ?_;refine aA<|rgN<|aT O O y2 y28 dO ?_;refine aM O O O O O O dO ?_;refine kas O<|aB<|aI ?_)
   exact y4
  obtain ⟨r,hr⟩:∃ r,fs[a.toNat]? = some r:=wg y3
  have hrl:=hrl r (cZ hr)
  obtain ⟨blk,off,arr,el,fr,vad,vcap,rfl,hX,hsz,hc,hN⟩:=hfs.at_ _ r hr
  have hio:off+Int.toNat a*1=off+a.toNat:=by omega
  have hia:0≤a∧a<(fs.length:Nat):=by omega
  have he:elemX fs a b=match r[(b).toNat]? with|none=>.error 3|some v=>.ok v:=by
   simp only [elemX,if_neg (show ¬ (a<0∨b<0) by omega),hr]
   cases r[(b).toNat]? <;> rfl
  by_cases c3:r.length≤b
  ·rw [he,List.getElem?_eq_none y3]
   refine cC Tryz.func110 rfl y5 rfl rfl ?_
   intro C
   ((refine aA<|rgN<|aL O O O dO<|aP O dO ?_;refine kas O<|aB<|aA<|aA<|rgN<|kfa O O ?_;refine kl1 O O O<|keq O O (r:=false) O<|aB<|aF O ?_;refine aH ?_;refine aA<|aA<|rgN<|kfa O O ?_;refine kl1 O O O<|keq O O (r:=false) O<|aB<|aF O ?_;refine aH ?_;refine aA<|rgN<|kfa O O ?_;refine kl1 O O O<|kas O<|aB<|aA<|aA<|rgN<|kfa O O ?_;refine kl1 O O O<|keq O O (r:=false) O<|aB<|aF O ?_;refine aH ?_;refine aA<|aA<|rgN<|kfa O O ?_);(refine kl1 O O O<|kmv O<|aQ O bZ O dO ?_;refine bD O O (cK c1) dO<|kmv O<|gmv O O O<|bK O O (cK c2) (dP O O) ?_;refine kpf O O<|kmv O<|gmv O O O<|gmv O O O<|aN O O (dP O O) ?_;refine aO O O O (dP O O) ?_;refine aR O O bZ hia hio (dP O O) ?_;refine aW O hX O hc (dP O O) ?_;refine aQ O bZ O (dP O O) ?_;refine bD O O (cL c3) (dP O O) ?_;refine kpf O O<|aB<|aE O ?_;refine aA<|rgN<|aT O O y2 y28 dO ?_;refine aM O O O O O O dO ?_;refine kas O<|aB<|aI ?_))
   exact y4
  obtain ⟨v,hv⟩:∃ v,r[(b).toNat]? = some v:=wg y3
  obtain ⟨vb,vN⟩:=v
  obtain ⟨_,blk2,off2,arr2,el2,fr2,rfl,hX2,hsz2,hcs2⟩:=hN.at hv
  have hib:0≤b∧b<(r.length:Nat):=by omega
  have hio2:off2+Int.toNat (b)*3=off2+(b).toNat*3:=rfl
  rw [he,hv]
  refine cC Tryz.func110 rfl y5 rfl rfl ?_
  intro C
  ((refine aA<|rgN<|aL O O O dO<|aP O dO ?_;refine kas O<|aB<|aA<|aA<|rgN<|kfa O O ?_;refine kl1 O O O<|keq O O (r:=false) O<|aB<|aF O ?_;refine aH ?_;refine aA<|aA<|rgN<|kfa O O ?_;refine kl1 O O O<|keq O O (r:=false) O<|aB<|aF O ?_;refine aH ?_;refine aA<|rgN<|kfa O O ?_;refine kl1 O O O<|kas O<|aB<|aA<|aA<|rgN<|kfa O O ?_;refine kl1 O O O<|keq O O (r:=false) O<|aB<|aF O ?_;refine aH ?_;refine aA<|aA<|rgN<|kfa O O ?_);(refine kl1 O O O<|kmv O<|aQ O bZ O dO ?_;refine bD O O (cK c1) dO<|kmv O<|gmv O O O<|bK O O (cK c2) (dP O O) ?_;refine kpf O O<|kmv O<|gmv O O O<|gmv O O O<|aN O O (dP O O) ?_;refine aO O O O (dP O O) ?_;refine aR O O bZ hia hio (dP O O) ?_;refine aW O hX O hc (dP O O) ?_;refine aQ O bZ O (dP O O) ?_;refine bD O O (cK c3) (dP O O) ?_;refine kpf O O<|aB<|aF O ?_;refine aH ?_;refine aA<|rgN<|kmv O<|kfa O O ?_;refine kl1 O O O<|aR O O bZ hia hio dO<|aW O hX O hc dO<|kmv O<|aR O O bZ hib hio2 dO<|aY O hX2 y5 hsz2 hcs2 dO<|aM O O O O O O dO ?_);(refine kas O<|aB<|aI ?_))
  exact y4
 ·show PSpec _ _ _ _ (exR (elemX fs a at_))
  by_cases c1:fs.length≤a
  ·have e:elemX fs a at_ = .error 3:=by
    unfold elemX
    split
    ·rfl
    ·rw [List.getElem?_eq_none y3]
   rw [e]
   refine cC Tryz.func110 rfl y5 rfl rfl ?_
   intro C
   (refine aA<|rgN<|aL O O O dO<|aP O dO ?_;refine kas O<|aB<|aA<|aA<|rgN<|kfa O O ?_;refine kl1 O O O<|keq O O (r:=false) O<|aB<|aF O ?_;refine aH ?_;refine aA<|aA<|rgN<|kfa O O ?_;refine kl1 O O O<|keq O O (r:=false) O<|aB<|aF O ?_;refine aH ?_;refine aA<|rgN<|kfa O O ?_;refine kl1 O O O<|kas O<|aB<|aA<|aA<|rgN<|kfa O O ?_;refine kl1 O O O<|keq O O (r:=true) O<|aB<|aE O ?_;refine rgN<|kmv O<|kas O<|aB<|aA<|aA<|rgN<|kfa O O ?_;refine kl1 O O O<|kmv O<|aQ O bZ O dO ?_;refine bD O O (cL c1) dO<|kmv O<|aC O O O<|aC O O O<|kpt O O<|kmv O<|aC O O O<|aC O O O<|aC O O O<|aC O O O<|aC O O O<|aC O O O<|aC O O O<|aC O O O ?_;refine kpt O O<|aB<|aE O ?_;refine aA<|rgN<|aT O O y2 y28 dO ?_;refine aM O O O O O O dO ?_;refine kas O<|aB<|aI ?_)
   exact y4
  by_cases c2:at_<0
  ·have e:elemX fs a at_ = .error 3:=by unfold elemX;rw [if_pos (.inr c2)]
   rw [e]
   refine cC Tryz.func110 rfl y5 rfl rfl ?_
   intro C
   (refine aA<|rgN<|aL O O O dO<|aP O dO ?_;refine kas O<|aB<|aA<|aA<|rgN<|kfa O O ?_;refine kl1 O O O<|keq O O (r:=false) O<|aB<|aF O ?_;refine aH ?_;refine aA<|aA<|rgN<|kfa O O ?_;refine kl1 O O O<|keq O O (r:=false) O<|aB<|aF O ?_;refine aH ?_;refine aA<|rgN<|kfa O O ?_;refine kl1 O O O<|kas O<|aB<|aA<|aA<|rgN<|kfa O O ?_;refine kl1 O O O<|keq O O (r:=true) O<|aB<|aE O ?_;refine rgN<|kmv O<|kas O<|aB<|aA<|aA<|rgN<|kfa O O ?_;refine kl1 O O O<|kmv O<|aQ O bZ O dO ?_;refine bD O O (cK c1) dO<|kmv O<|gmv O O O<|bK O O (cL c2) (dP O O) ?_;refine kpf O O<|kmv O<|aC O O O<|aC O O O<|aC O O O<|aC O O O<|aC O O O<|aC O O O<|aC O O O<|aC O O O<|kpt O O<|aB<|aE O ?_;refine aA<|rgN<|aT O O y2 y28 dO ?_;refine aM O O O O O O dO ?_;refine kas O<|aB<|aI ?_)
   exact y4
  obtain ⟨r,hr⟩:∃ r,fs[a.toNat]? = some r:=wg y3
  have hrl:=hrl r (cZ hr)
  obtain ⟨blk,off,arr,el,fr,vad,vcap,rfl,hX,hsz,hc,hN⟩:=hfs.at_ _ r hr
  have hio:off+Int.toNat a*1=off+a.toNat:=by omega
  have hia:0≤a∧a<(fs.length:Nat):=by omega
  have he:elemX fs a at_=match r[(at_).toNat]? with|none=>.error 3|some v=>.ok v:=by
   simp only [elemX,if_neg (show ¬ (a<0∨at_<0) by omega),hr]
   cases r[(at_).toNat]? <;> rfl
  by_cases c3:r.length≤at_
  ·rw [he,List.getElem?_eq_none y3]
   refine cC Tryz.func110 rfl y5 rfl rfl ?_
   intro C
   ((refine aA<|rgN<|aL O O O dO<|aP O dO ?_;refine kas O<|aB<|aA<|aA<|rgN<|kfa O O ?_;refine kl1 O O O<|keq O O (r:=false) O<|aB<|aF O ?_;refine aH ?_;refine aA<|aA<|rgN<|kfa O O ?_;refine kl1 O O O<|keq O O (r:=false) O<|aB<|aF O ?_;refine aH ?_;refine aA<|rgN<|kfa O O ?_;refine kl1 O O O<|kas O<|aB<|aA<|aA<|rgN<|kfa O O ?_;refine kl1 O O O<|keq O O (r:=true) O<|aB<|aE O ?_;refine rgN<|kmv O<|kas O<|aB<|aA<|aA<|rgN<|kfa O O ?_;refine kl1 O O O<|kmv O<|aQ O bZ O dO ?_);(refine bD O O (cK c1) dO<|kmv O<|gmv O O O<|bK O O (cK c2) (dP O O) ?_;refine kpf O O<|kmv O<|gmv O O O<|gmv O O O<|aN O O (dP O O) ?_;refine aO O O O (dP O O) ?_;refine aR O O bZ hia hio (dP O O) ?_;refine aW O hX O hc (dP O O) ?_;refine aQ O bZ O (dP O O) ?_;refine bD O O (cL c3) (dP O O) ?_;refine kpf O O<|aB<|aE O ?_;refine aA<|rgN<|aT O O y2 y28 dO ?_;refine aM O O O O O O dO ?_;refine kas O<|aB<|aI ?_))
   exact y4
  obtain ⟨v,hv⟩:∃ v,r[(at_).toNat]? = some v:=wg y3
  obtain ⟨vb,vN⟩:=v
  obtain ⟨_,blk2,off2,arr2,el2,fr2,rfl,hX2,hsz2,hcs2⟩:=hN.at hv
  have hib:0≤at_∧at_<(r.length:Nat):=by omega
  have hio2:off2+Int.toNat (at_)*3=off2+(at_).toNat*3:=rfl
  rw [he,hv]
  refine cC Tryz.func110 rfl y5 rfl rfl ?_
  intro C
  ((refine aA<|rgN<|aL O O O dO<|aP O dO ?_;refine kas O<|aB<|aA<|aA<|rgN<|kfa O O ?_;refine kl1 O O O<|keq O O (r:=false) O<|aB<|aF O ?_;refine aH ?_;refine aA<|aA<|rgN<|kfa O O ?_;refine kl1 O O O<|keq O O (r:=false) O<|aB<|aF O ?_;refine aH ?_;refine aA<|rgN<|kfa O O ?_;refine kl1 O O O<|kas O<|aB<|aA<|aA<|rgN<|kfa O O ?_;refine kl1 O O O<|keq O O (r:=true) O<|aB<|aE O ?_;refine rgN<|kmv O<|kas O<|aB<|aA<|aA<|rgN<|kfa O O ?_;refine kl1 O O O<|kmv O<|aQ O bZ O dO ?_);(refine bD O O (cK c1) dO<|kmv O<|gmv O O O<|bK O O (cK c2) (dP O O) ?_;refine kpf O O<|kmv O<|gmv O O O<|gmv O O O<|aN O O (dP O O) ?_;refine aO O O O (dP O O) ?_;refine aR O O bZ hia hio (dP O O) ?_;refine aW O hX O hc (dP O O) ?_;refine aQ O bZ O (dP O O) ?_;refine bD O O (cK c3) (dP O O) ?_;refine kpf O O<|aB<|aF O ?_;refine aH ?_;refine aA<|rgN<|kmv O<|kfa O O ?_;refine kl1 O O O<|aR O O bZ hia hio dO<|aW O hX O hc dO<|kmv O<|aR O O bZ hib hio2 dO<|aY O hX2 y5 hsz2 hcs2 dO<|aM O O O O O O dO ?_;refine kas O<|aB<|aI ?_))
  exact y4
 ·by_cases c:at_<0
  ·show PSpec _ _ _ _ (exR (if at_<0 then .error 3 else .ok (false,at_)))
   rw [if_pos c]
   refine cC Tryz.func110 rfl y5 rfl rfl ?_
   intro C
   (refine aA<|rgN<|aL O O O dO<|aP O dO ?_;refine kas O<|aB<|aA<|aA<|rgN<|kfa O O ?_;refine kl1 O O O<|keq O O (r:=false) O<|aB<|aF O ?_;refine aH ?_;refine aA<|aA<|rgN<|kfa O O ?_;refine kl1 O O O<|keq O O (r:=true) O<|aB<|aE O ?_;refine aA<|aA<|rgN<|kmv O<|klt O O (cL c)<|aB<|aE O ?_;refine aA<|rgN<|aT O O y2 y28 dO ?_;refine aM O O O O O O dO ?_;refine kas O<|aB<|aI ?_)
   exact y4
  ·show PSpec _ _ _ _ (exR (if at_<0 then .error 3 else .ok (false,at_)))
   rw [if_neg c]
   show PSpec _ _ _ _ (.tup [SI false at_,Sn .i64 0])
   rw [SI_small (by omega)]
   have hcv:IntKind.u64.wrap at_=at_:=by rw [IntKind.wrap_u64];omega
   refine cC Tryz.func110 rfl y5 rfl rfl ?_
   intro C
   (refine aA<|rgN<|aL O O O dO<|aP O dO ?_;refine kas O<|aB<|aA<|aA<|rgN<|kfa O O ?_;refine kl1 O O O<|keq O O (r:=false) O<|aB<|aF O ?_;refine aH ?_;refine aA<|aA<|rgN<|kfa O O ?_;refine kl1 O O O<|keq O O (r:=true) O<|aB<|aE O ?_;refine aA<|aA<|rgN<|kmv O<|klt O O (cK c)<|aB<|aF O ?_;refine aH ?_;refine aA<|rgN<|kmv O<|kcv O hcv ?_;refine aT O O y2 y28 dO ?_;refine aM O O O O O O dO ?_;refine kas O<|aB<|aI ?_)
   exact y4
end Go.Proofs.YtopiioklkkiedaaGreatDoor
end
section
set_option maxHeartbeats 12800000
set_option maxRecDepth 100000
namespace Go.Proofs.YtopiioklkkiedaaGreatDoor
open Go Go.Lg Go.Lg.Fml Go.Lg.Fld Go.Lg.Arith
set_option maxRecDepth 100000
variable (X:Nat→Option Obj)
theorem eqN {b b':Bool} {M N:Int} (hM:In2 M) (hN:In2 N):(b==b'&&(M/18446744073709551616==N/18446744073709551616&&M%18446744073709551616==N%18446744073709551616))=decide (((b,M):Nm)=(b',N)):=by
 by_cases h:b=b'∧M=N
 ·obtain ⟨rfl,rfl⟩:=h
  simp
 ·rw [cK (fun e=>h (by simpa using e))]
  cases hc:(b==b'&&(M/18446744073709551616==N/18446744073709551616&&M%18446744073709551616==N%18446744073709551616)) with
  | false=>rfl
  | true =>
   simp only [Bool.and_eq_true,beq_iff_eq] at hc
   exact absurd ⟨hc.1,by omega⟩ h
theorem eqZ {b:Bool} {M:Int} (hM:In2 M):(b==false&&(M/18446744073709551616==0&&M%18446744073709551616==0))=decide (((b,M):Nm)=(false,0)):=by
 have:=eqN (b:=b) (b':=false) hM (N:=0) (by show 0≤(0:Int)∧(0:Int)<_;omega)
 exact this
theorem cmp_lz {u v:Nm}:decide (cmpI (zz u) (zz v)<0)=decide (zz u<zz v)∧decide (0<cmpI (zz u) (zz v))=decide (zz v<zz u):=by
 unfold cmpI
 by_cases h:zz u<zz v
 ·rw [if_pos h,cL h,cK (show ¬ zz v<zz u by omega)]
  exact y30
 ·rw [if_neg h,cK h]
  by_cases h2:zz v<zz u
  ·rw [if_pos h2,cL h2];exact y30
  ·rw [if_neg h2,cK h2];exact y30
set_option maxHeartbeats 3200000 in
theorem rNode_do (op:Int) (ho:5≤op∧op≤9) (b0:Bool) (M0:Int) (b1:Bool) (M1:Int) (ad:Option Addr) (cap:Nat) (hin:NumsIn X ad [(b0,M0),(b1,M1)]):PSpec Tryz.prog X 112 [Ln .i64 op,Lx ad 2 cap] (exR (nodeX op [(b0,M0),(b1,M1)])):=by
  have hall:=hin.all y2F
  obtain ⟨blk,off,arr,el,fr,rfl,hX,hall⟩:=hall
  obtain ⟨i0,s0,c0⟩:=hall 0 _ _ rfl
  have h0:off+Int.toNat 0*3=off+0*3:=rfl
  have hb0:0≤(0:Int)∧(0:Int)<(2:Nat):=by omega
  obtain ⟨i1,s1,c1⟩:=hall 1 _ _ rfl
  have h1:off+Int.toNat 1*3=off+1*3:=rfl
  have hb1:0≤(1:Int)∧(1:Int)<(2:Nat):=by omega
  have hD:=rDo_spec X op ho (op-4) rfl (b0,M0) (b1,M1) i0 i1
  have hs:IntKind.i64.wrap (op-4)=op-4:=cE y3
  rw [show nodeX op [(b0,M0),(b1,M1)]=doX op (b0,M0) (b1,M1) from if_pos ho]
  cases hd:doX op (b0,M0) (b1,M1) with
  | error e =>
   rw [hd] at hD
   refine cC Tryz.func112 rfl y5 rfl rfl ?_
   intro C
   (refine aA<|rgN<|aP O dO ?_;refine kas O<|aB<|aA<|aA<|rgN<|kmv O<|bD O O (cL y3) dO<|kmv O<|gmv O O O<|K.leq O O (cL y3) (dP O O) ?_;refine kpt O O<|aB<|aE O ?_;refine aA<|rgD mixed<|kmv O<|bA O O hs dO<|kmv O<|aR O O bZ hb0 h0 dO<|aY O hX y5 s0 c0 dO<|kmv O<|aR O O bZ hb1 h1 dO<|aY O hX y5 s1 c1 dO<|kca O O (hD)<|kex O O<|kex O O<|aM O O O O O O dO ?_;refine kas O<|aB<|rgA ?_;refine aI ?_)
   exact y4
  | ok v =>
   rw [hd] at hD
   refine cC Tryz.func112 rfl y5 rfl rfl ?_
   intro C
   (refine aA<|rgN<|aP O dO ?_;refine kas O<|aB<|aA<|aA<|rgN<|kmv O<|bD O O (cL y3) dO<|kmv O<|gmv O O O<|K.leq O O (cL y3) (dP O O) ?_;refine kpt O O<|aB<|aE O ?_;refine aA<|rgD mixed<|kmv O<|bA O O hs dO<|kmv O<|aR O O bZ hb0 h0 dO<|aY O hX y5 s0 c0 dO<|kmv O<|aR O O bZ hb1 h1 dO<|aY O hX y5 s1 c1 dO<|kca O O (hD)<|kex O O<|kex O O<|aM O O O O O O dO ?_;refine kas O<|aB<|rgA ?_;refine aI ?_)
   exact y4
set_option maxHeartbeats 3200000 in
theorem rNode_10 (b0:Bool) (M0:Int) (ad:Option Addr) (cap:Nat) (hin:NumsIn X ad [(b0,M0)]):PSpec Tryz.prog X 112 [Ln .i64 10,Lx ad 1 cap] (exR (nodeX 10 [(b0,M0)])):=by
  have hall:=hin.all (by show 0<1;omega)
  obtain ⟨blk,off,arr,el,fr,rfl,hX,hall⟩:=hall
  obtain ⟨i0,s0,c0⟩:=hall 0 _ _ rfl
  have h0:off+Int.toNat 0*3=off+0*3:=rfl
  have hb0:0≤(0:Int)∧(0:Int)<(1:Nat):=by omega
  have hG0:=Good_spec X b0 M0 i0
  cases g0:formB b0 M0 with
  | false =>
   have hG0:=hG0 false g0
   rw [show nodeX 10 [(b0,M0)] = .error 1 by simp [nodeX,gd,g0]]
   refine cC Tryz.func112 rfl y5 rfl rfl ?_
   intro C
   (refine aA<|rgN<|aP O dO ?_;refine kas O<|aB<|aA<|aA<|rgN<|kmv O<|bD O O (r:=true) O dO<|kmv O<|gmv O O O<|K.leq O O (r:=false) O (dP O O) ?_;refine kpt O O<|aB<|aF O ?_;refine aH ?_;refine aA<|aA<|rgN<|kmv O<|keq O O (r:=false) O<|aB<|aF O ?_;refine aH ?_;refine aA<|aA<|rgN<|kmv O<|aR O O bZ hb0 h0 dO<|aY O hX y5 s0 c0 dO<|kca O O (hG0)<|aV O O dO<|kmv O<|aC O O O<|aC O O O<|aC O O O<|aC O O O<|aD O O ?_;refine aD O O<|aD O O<|aD O O<|aD O O<|aC O O O<|kpt O O<|aB<|aE O ?_;refine aA<|rgN<|aT O O y2 y28 dO ?_;refine aM O O O O O O dO ?_;refine kas O<|aB<|aI ?_)
   exact y4
  | true =>
  have hG0:=hG0 true g0
  obtain ⟨e1,r1⟩:=gd_q (u:=(b0,M0)) g0 i0
  have hD:PSpec Tryz.prog X 152 [Ln .i64 2,.sv S0,LI b0 M0] (.tup [SQ (-(zz (b0,M0))),Sn .i64 0]):=by
   have hR:R127 (-(zz (b0,M0))):=by unfold R127 at *;omega
   have h:=Do_2 X 0 (zz (b0,M0)) y2A r1 (-(zz (b0,M0))) (by show 0-zz (b0,M0)=_;omega)
   rw [addR_in hR,← e1] at h
   exact h
  rw [show nodeX 10 [(b0,M0)] = .ok (qn (-(zz (b0,M0)))) by simp [nodeX,gd,g0]]
  clear e1 r1
  refine cC Tryz.func112 rfl y5 rfl rfl ?_
  intro C
  (refine aA<|rgN<|aP O dO ?_;refine kas O<|aB<|aA<|aA<|rgN<|kmv O<|bD O O (r:=true) O dO<|kmv O<|gmv O O O<|K.leq O O (r:=false) O (dP O O) ?_;refine kpt O O<|aB<|aF O ?_;refine aH ?_;refine aA<|aA<|rgN<|kmv O<|keq O O (r:=false) O<|aB<|aF O ?_;refine aH ?_;refine aA<|aA<|rgN<|kmv O<|aR O O bZ hb0 h0 dO<|aY O hX y5 s0 c0 dO<|kca O O (hG0)<|aV O O dO<|kmv O<|gmv O O O<|aQ O bZ O (dP O O) ?_;refine bC O O (r:=false) O (dP O O) ?_;refine gmv O O O<|aC O O O<|aC O O O<|aC O O O<|aC O O O<|aC O O O<|bO O O (dP O O) ?_;refine kpf O O<|aB<|aF O ?_;refine aH ?_;refine aA<|aA<|rgN<|kmv O<|aB<|aG<|aA<|rgN<|keq O O (r:=true) O<|kas O<|aB<|aE O ?_;refine aA<|rgN<|aT O O y2 y28 dO ?_;refine kmv O<|aR O O bZ hb0 h0 dO<|aY O hX y5 s0 c0 dO<|kca O O (hD)<|kex O O<|kex O O<|aM O O O O O O dO ?_;refine kas O<|aB<|aI ?_)
  exact y4
set_option maxHeartbeats 3200000 in
theorem rNode_15 (b0:Bool) (M0:Int) (ad:Option Addr) (cap:Nat) (hin:NumsIn X ad [(b0,M0)]):PSpec Tryz.prog X 112 [Ln .i64 15,Lx ad 1 cap] (exR (nodeX 15 [(b0,M0)])):=by
  have hall:=hin.all (by show 0<1;omega)
  obtain ⟨blk,off,arr,el,fr,rfl,hX,hall⟩:=hall
  obtain ⟨i0,s0,c0⟩:=hall 0 _ _ rfl
  have h0:off+Int.toNat 0*3=off+0*3:=rfl
  have hb0:0≤(0:Int)∧(0:Int)<(1:Nat):=by omega
  have hG0:=Good_spec X b0 M0 i0
  cases g0:formB b0 M0 with
  | false =>
   have hG0:=hG0 false g0
   rw [show nodeX 15 [(b0,M0)] = .error 1 by simp [nodeX,gd,g0]]
   refine cC Tryz.func112 rfl y5 rfl rfl ?_
   intro C
   (refine aA<|rgN<|aP O dO ?_;refine kas O<|aB<|aA<|aA<|rgN<|kmv O<|bD O O (r:=true) O dO<|kmv O<|gmv O O O<|K.leq O O (r:=false) O (dP O O) ?_;refine kpt O O<|aB<|aF O ?_;refine aH ?_;refine aA<|aA<|rgN<|kmv O<|keq O O (r:=false) O<|aB<|aF O ?_;refine aH ?_;refine aA<|aA<|rgN<|kmv O<|aR O O bZ hb0 h0 dO<|aY O hX y5 s0 c0 dO<|kca O O (hG0)<|aV O O dO<|kmv O<|aC O O O<|aC O O O<|aC O O O<|aC O O O<|aD O O ?_;refine aD O O<|aD O O<|aD O O<|aD O O<|aC O O O<|kpt O O<|aB<|aE O ?_;refine aA<|rgN<|aT O O y2 y28 dO ?_;refine aM O O O O O O dO ?_;refine kas O<|aB<|aI ?_)
   exact y4
  | true =>
  have hG0:=hG0 true g0
  have q:=eqI (b:=b0) (b':=false) (h:=M0/18446744073709551616) (h':=0) (l:=M0%18446744073709551616) (l':=0) _ (eqZ i0)
  have hTr:=rTruth_spec X (decide (((b0,M0):Nm)=(false,0)))
  rw [show nodeX 15 [(b0,M0)] = .ok (truth (decide (((b0,M0):Nm)=(false,0)))) by simp [nodeX,gd,g0]]
  generalize decide (((b0,M0):Nm)=(false,0))=z at *
  refine cC Tryz.func112 rfl y5 rfl rfl ?_
  intro C
  (refine aA<|rgN<|aP O dO ?_;refine kas O<|aB<|aA<|aA<|rgN<|kmv O<|bD O O (r:=true) O dO<|kmv O<|gmv O O O<|K.leq O O (r:=false) O (dP O O) ?_;refine kpt O O<|aB<|aF O ?_;refine aH ?_;refine aA<|aA<|rgN<|kmv O<|keq O O (r:=false) O<|aB<|aF O ?_;refine aH ?_;refine aA<|aA<|rgN<|kmv O<|aR O O bZ hb0 h0 dO<|aY O hX y5 s0 c0 dO<|kca O O (hG0)<|aV O O dO<|kmv O<|gmv O O O<|aQ O bZ O (dP O O) ?_;refine bC O O (r:=false) O (dP O O) ?_;refine gmv O O O<|aC O O O<|aC O O O<|aC O O O<|aC O O O<|aC O O O<|bO O O (dP O O) ?_;refine kpf O O<|aB<|aF O ?_;refine aH ?_;refine aA<|aA<|rgN<|kmv O<|aB<|aG<|aA<|rgN<|keq O O (r:=false) O<|kas O<|aB<|aF O ?_;refine aA<|rgN<|keq O O (r:=false) O<|kas O<|aB<|aF O ?_;refine aA<|rgN<|keq O O (r:=false) O<|kas O<|aB<|aF O ?_;refine aA<|rgN<|keq O O (r:=false) O<|kas O<|aB<|aF O ?_;refine aA<|rgN<|keq O O (r:=false) O<|kas O<|aB<|aF O ?_;refine aA<|rgN<|keq O O (r:=true) O<|kas O<|aB<|aE O ?_;refine aA<|rgN<|kmv O<|aR O O bZ hb0 h0 dO<|aY O hX y5 s0 c0 dO<|aT O O y2 y28 dO ?_;refine bQ O O O O y5 q (.inl ⟨O,O⟩) dO<|kca O O (hTr)<|kex O O<|kex O O<|aM O O O O O O dO ?_;refine kas O<|aB<|aI ?_)
  exact y4
theorem nodeX_11 (b0 b1:Bool) (M0 M1:Int) (g0:formB b0 M0=true) (g1:formB b1 M1=true):nodeX 11 [(b0,M0),(b1,M1)] = .ok (if zz (b1,M1)<zz (b0,M0) then (b1,M1) else (b0,M0)):=by
 simp [nodeX,gd,g0,g1]
set_option maxHeartbeats 3200000 in
theorem rNode_11 (b0:Bool) (M0:Int) (b1:Bool) (M1:Int) (ad:Option Addr) (cap:Nat) (hin:NumsIn X ad [(b0,M0),(b1,M1)]):PSpec Tryz.prog X 112 [Ln .i64 11,Lx ad 2 cap] (exR (nodeX 11 [(b0,M0),(b1,M1)])):=by
  have hall:=hin.all y2F
  obtain ⟨blk,off,arr,el,fr,rfl,hX,hall⟩:=hall
  obtain ⟨i0,s0,c0⟩:=hall 0 _ _ rfl
  have h0:off+Int.toNat 0*3=off+0*3:=rfl
  have hb0:0≤(0:Int)∧(0:Int)<(2:Nat):=by omega
  obtain ⟨i1,s1,c1⟩:=hall 1 _ _ rfl
  have h1:off+Int.toNat 1*3=off+1*3:=rfl
  have hb1:0≤(1:Int)∧(1:Int)<(2:Nat):=by omega
  have hG0:=Good_spec X b0 M0 i0
  have hG1:=Good_spec X b1 M1 i1
  cases g0:formB b0 M0 with
  | false =>
   have hG0:=hG0 false g0
   rw [show nodeX 11 [(b0,M0),(b1,M1)] = .error 1 by simp [nodeX,gd,g0]]
   refine cC Tryz.func112 rfl y5 rfl rfl ?_
   intro C
   (refine aA<|rgN<|aP O dO ?_;refine kas O<|aB<|aA<|aA<|rgN<|kmv O<|bD O O (r:=true) O dO<|kmv O<|gmv O O O<|K.leq O O (r:=false) O (dP O O) ?_;refine kpt O O<|aB<|aF O ?_;refine aH ?_;refine aA<|aA<|rgN<|kmv O<|keq O O (r:=false) O<|aB<|aF O ?_;refine aH ?_;refine aA<|aA<|rgN<|kmv O<|aR O O bZ hb0 h0 dO<|aY O hX y5 s0 c0 dO<|kca O O (hG0)<|aV O O dO<|kmv O<|aC O O O<|aC O O O<|aC O O O<|aC O O O<|aD O O ?_;refine aD O O<|aD O O<|aD O O<|aD O O<|aC O O O<|kpt O O<|aB<|aE O ?_;refine aA<|rgN<|aT O O y2 y28 dO ?_;refine aM O O O O O O dO ?_;refine kas O<|aB<|aI ?_)
   exact y4
  | true =>
  have hG0:=hG0 true g0
  cases g1:formB b1 M1 with
  | false =>
   have hG1:=hG1 false g1
   rw [show nodeX 11 [(b0,M0),(b1,M1)] = .error 1 by simp [nodeX,gd,g0,g1]]
   refine cC Tryz.func112 rfl y5 rfl rfl ?_
   intro C
   (refine aA<|rgN<|aP O dO ?_;refine kas O<|aB<|aA<|aA<|rgN<|kmv O<|bD O O (r:=true) O dO<|kmv O<|gmv O O O<|K.leq O O (r:=false) O (dP O O) ?_;refine kpt O O<|aB<|aF O ?_;refine aH ?_;refine aA<|aA<|rgN<|kmv O<|keq O O (r:=false) O<|aB<|aF O ?_;refine aH ?_;refine aA<|aA<|rgN<|kmv O<|aR O O bZ hb0 h0 dO<|aY O hX y5 s0 c0 dO<|kca O O (hG0)<|aV O O dO<|kmv O<|gmv O O O<|aQ O bZ O (dP O O) ?_;refine bC O O (r:=true) O (dP O O) ?_;refine gmv O O O<|gmv O O O<|aR O O bZ hb1 h1 (dP O O) ?_;refine aY O hX y5 s1 c1 (dP O O) ?_;refine gca O O (hG1) O O<|aV O O (dP O O) ?_;refine bF O O (dP O O) ?_;refine kpf O O<|aB<|aE O ?_;refine aA<|rgN<|aT O O y2 y28 dO ?_;refine aM O O O O O O dO ?_;refine kas O<|aB<|aI ?_)
   exact y4
  | true =>
  have hG1:=hG1 true g1
  obtain ⟨e0,r0⟩:=gd_q (u:=(b0,M0)) g0 i0
  obtain ⟨e1,r1⟩:=gd_q (u:=(b1,M1)) g1 i1
  have hC:=RCmp_spec X (zz (b1,M1)) (zz (b0,M0)) r1 r0 _ rfl
  rw [← e0,← e1] at hC
  obtain ⟨k1,k2⟩:=cmp_lz (u:=(b1,M1)) (v:=(b0,M0))
  have hk:=nodeX_11 b0 b1 M0 M1 g0 g1
  rw [hk]
  clear e0 e1 hk
  by_cases c:zz (b1,M1)<zz (b0,M0)
  ·rw [if_pos c]
   rw [cL c] at k1
   generalize cmpI (zz (b1,M1)) (zz (b0,M0))=z at *
   refine cC Tryz.func112 rfl y5 rfl rfl ?_
   intro C
   (refine aA<|rgN<|aP O dO ?_;refine kas O<|aB<|aA<|aA<|rgN<|kmv O<|bD O O (r:=true) O dO<|kmv O<|gmv O O O<|K.leq O O (r:=false) O (dP O O) ?_;refine kpt O O<|aB<|aF O ?_;refine aH ?_;refine aA<|aA<|rgN<|kmv O<|keq O O (r:=false) O<|aB<|aF O ?_;refine aH ?_;refine aA<|aA<|rgN<|kmv O<|aR O O bZ hb0 h0 dO<|aY O hX y5 s0 c0 dO<|kca O O (hG0)<|aV O O dO<|kmv O<|gmv O O O<|aQ O bZ O (dP O O) ?_;refine bC O O (r:=true) O (dP O O) ?_;refine gmv O O O<|gmv O O O<|aR O O bZ hb1 h1 (dP O O) ?_;refine aY O hX y5 s1 c1 (dP O O) ?_;refine gca O O (hG1) O O<|aV O O (dP O O) ?_;refine bF O O (dP O O) ?_;refine kpf O O<|aB<|aF O ?_;refine aH ?_;refine aA<|aA<|rgN<|kmv O<|aB<|aG<|aA<|rgN<|keq O O (r:=false) O<|kas O<|aB<|aF O ?_;refine aA<|rgN<|keq O O (r:=true) O<|kas O<|aB<|aE O ?_;refine aA<|aA<|rgD mixed<|kmv O<|aR O O bZ hb1 h1 dO<|aY O hX y5 s1 c1 dO<|kmv O<|aR O O bZ hb0 h0 dO<|aY O hX y5 s0 c0 dO<|kca O O (hC)<|klt O O k1<|aB<|rgA ?_;refine aE O ?_;refine aA<|rgN<|kmv O<|aR O O bZ hb1 h1 dO<|aY O hX y5 s1 c1 dO<|aM O O O O O O dO ?_;refine kas O<|aB<|aI ?_)
   exact y4
  ·rw [if_neg c]
   rw [cK c] at k1
   generalize cmpI (zz (b1,M1)) (zz (b0,M0))=z at *
   refine cC Tryz.func112 rfl y5 rfl rfl ?_
   intro C
   ((refine aA<|rgN<|aP O dO ?_;refine kas O<|aB<|aA<|aA<|rgN<|kmv O<|bD O O (r:=true) O dO<|kmv O<|gmv O O O<|K.leq O O (r:=false) O (dP O O) ?_;refine kpt O O<|aB<|aF O ?_;refine aH ?_;refine aA<|aA<|rgN<|kmv O<|keq O O (r:=false) O<|aB<|aF O ?_;refine aH ?_;refine aA<|aA<|rgN<|kmv O<|aR O O bZ hb0 h0 dO<|aY O hX y5 s0 c0 dO<|kca O O (hG0)<|aV O O dO<|kmv O<|gmv O O O<|aQ O bZ O (dP O O) ?_;refine bC O O (r:=true) O (dP O O) ?_;refine gmv O O O<|gmv O O O<|aR O O bZ hb1 h1 (dP O O) ?_;refine aY O hX y5 s1 c1 (dP O O) ?_;refine gca O O (hG1) O O<|aV O O (dP O O) ?_;refine bF O O (dP O O) ?_);(refine kpf O O<|aB<|aF O ?_;refine aH ?_;refine aA<|aA<|rgN<|kmv O<|aB<|aG<|aA<|rgN<|keq O O (r:=false) O<|kas O<|aB<|aF O ?_;refine aA<|rgN<|keq O O (r:=true) O<|kas O<|aB<|aE O ?_;refine aA<|aA<|rgD mixed<|kmv O<|aR O O bZ hb1 h1 dO<|aY O hX y5 s1 c1 dO<|kmv O<|aR O O bZ hb0 h0 dO<|aY O hX y5 s0 c0 dO<|kca O O (hC)<|klt O O k1<|aB<|rgA ?_;refine aF O ?_;refine aH ?_;refine aA<|rgN<|kmv O<|aR O O bZ hb0 h0 dO<|aY O hX y5 s0 c0 dO<|aM O O O O O O dO ?_;refine kas O<|aB<|aI ?_))
   exact y4
theorem nodeX_12 (b0 b1:Bool) (M0 M1:Int) (g0:formB b0 M0=true) (g1:formB b1 M1=true):nodeX 12 [(b0,M0),(b1,M1)] = .ok (if zz (b0,M0)<zz (b1,M1) then (b1,M1) else (b0,M0)):=by
 simp [nodeX,gd,g0,g1]
set_option maxHeartbeats 3200000 in
theorem rNode_12 (b0:Bool) (M0:Int) (b1:Bool) (M1:Int) (ad:Option Addr) (cap:Nat) (hin:NumsIn X ad [(b0,M0),(b1,M1)]):PSpec Tryz.prog X 112 [Ln .i64 12,Lx ad 2 cap] (exR (nodeX 12 [(b0,M0),(b1,M1)])):=by
  have hall:=hin.all y2F
  obtain ⟨blk,off,arr,el,fr,rfl,hX,hall⟩:=hall
  obtain ⟨i0,s0,c0⟩:=hall 0 _ _ rfl
  have h0:off+Int.toNat 0*3=off+0*3:=rfl
  have hb0:0≤(0:Int)∧(0:Int)<(2:Nat):=by omega
  obtain ⟨i1,s1,c1⟩:=hall 1 _ _ rfl
  have h1:off+Int.toNat 1*3=off+1*3:=rfl
  have hb1:0≤(1:Int)∧(1:Int)<(2:Nat):=by omega
  have hG0:=Good_spec X b0 M0 i0
  have hG1:=Good_spec X b1 M1 i1
  cases g0:formB b0 M0 with
  | false =>
   have hG0:=hG0 false g0
   rw [show nodeX 12 [(b0,M0),(b1,M1)] = .error 1 by simp [nodeX,gd,g0]]
   refine cC Tryz.func112 rfl y5 rfl rfl ?_
   intro C
   (refine aA<|rgN<|aP O dO ?_;refine kas O<|aB<|aA<|aA<|rgN<|kmv O<|bD O O (r:=true) O dO<|kmv O<|gmv O O O<|K.leq O O (r:=false) O (dP O O) ?_;refine kpt O O<|aB<|aF O ?_;refine aH ?_;refine aA<|aA<|rgN<|kmv O<|keq O O (r:=false) O<|aB<|aF O ?_;refine aH ?_;refine aA<|aA<|rgN<|kmv O<|aR O O bZ hb0 h0 dO<|aY O hX y5 s0 c0 dO<|kca O O (hG0)<|aV O O dO<|kmv O<|aC O O O<|aC O O O<|aC O O O<|aC O O O<|aD O O ?_;refine aD O O<|aD O O<|aD O O<|aD O O<|aC O O O<|kpt O O<|aB<|aE O ?_;refine aA<|rgN<|aT O O y2 y28 dO ?_;refine aM O O O O O O dO ?_;refine kas O<|aB<|aI ?_)
   exact y4
  | true =>
  have hG0:=hG0 true g0
  cases g1:formB b1 M1 with
  | false =>
   have hG1:=hG1 false g1
   rw [show nodeX 12 [(b0,M0),(b1,M1)] = .error 1 by simp [nodeX,gd,g0,g1]]
   refine cC Tryz.func112 rfl y5 rfl rfl ?_
   intro C
   (refine aA<|rgN<|aP O dO ?_;refine kas O<|aB<|aA<|aA<|rgN<|kmv O<|bD O O (r:=true) O dO<|kmv O<|gmv O O O<|K.leq O O (r:=false) O (dP O O) ?_;refine kpt O O<|aB<|aF O ?_;refine aH ?_;refine aA<|aA<|rgN<|kmv O<|keq O O (r:=false) O<|aB<|aF O ?_;refine aH ?_;refine aA<|aA<|rgN<|kmv O<|aR O O bZ hb0 h0 dO<|aY O hX y5 s0 c0 dO<|kca O O (hG0)<|aV O O dO<|kmv O<|gmv O O O<|aQ O bZ O (dP O O) ?_;refine bC O O (r:=true) O (dP O O) ?_;refine gmv O O O<|gmv O O O<|aR O O bZ hb1 h1 (dP O O) ?_;refine aY O hX y5 s1 c1 (dP O O) ?_;refine gca O O (hG1) O O<|aV O O (dP O O) ?_;refine bF O O (dP O O) ?_;refine kpf O O<|aB<|aE O ?_;refine aA<|rgN<|aT O O y2 y28 dO ?_;refine aM O O O O O O dO ?_;refine kas O<|aB<|aI ?_)
   exact y4
  | true =>
  have hG1:=hG1 true g1
  obtain ⟨e0,r0⟩:=gd_q (u:=(b0,M0)) g0 i0
  obtain ⟨e1,r1⟩:=gd_q (u:=(b1,M1)) g1 i1
  have hC:=RCmp_spec X (zz (b1,M1)) (zz (b0,M0)) r1 r0 _ rfl
  rw [← e0,← e1] at hC
  obtain ⟨k1,k2⟩:=cmp_lz (u:=(b1,M1)) (v:=(b0,M0))
  have hk:=nodeX_12 b0 b1 M0 M1 g0 g1
  rw [hk]
  clear e0 e1 hk
  by_cases c:zz (b0,M0)<zz (b1,M1)
  ·rw [if_pos c]
   rw [cL c] at k2
   generalize cmpI (zz (b1,M1)) (zz (b0,M0))=z at *
   refine cC Tryz.func112 rfl y5 rfl rfl ?_
   intro C
   ((refine aA<|rgN<|aP O dO ?_;refine kas O<|aB<|aA<|aA<|rgN<|kmv O<|bD O O (r:=true) O dO<|kmv O<|gmv O O O<|K.leq O O (r:=false) O (dP O O) ?_;refine kpt O O<|aB<|aF O ?_;refine aH ?_;refine aA<|aA<|rgN<|kmv O<|keq O O (r:=false) O<|aB<|aF O ?_;refine aH ?_;refine aA<|aA<|rgN<|kmv O<|aR O O bZ hb0 h0 dO<|aY O hX y5 s0 c0 dO<|kca O O (hG0)<|aV O O dO<|kmv O<|gmv O O O<|aQ O bZ O (dP O O) ?_;refine bC O O (r:=true) O (dP O O) ?_;refine gmv O O O<|gmv O O O<|aR O O bZ hb1 h1 (dP O O) ?_;refine aY O hX y5 s1 c1 (dP O O) ?_;refine gca O O (hG1) O O<|aV O O (dP O O) ?_;refine bF O O (dP O O) ?_);(refine kpf O O<|aB<|aF O ?_;refine aH ?_;refine aA<|aA<|rgN<|kmv O<|aB<|aG<|aA<|rgN<|keq O O (r:=false) O<|kas O<|aB<|aF O ?_;refine aA<|rgN<|keq O O (r:=false) O<|kas O<|aB<|aF O ?_;refine aA<|rgN<|keq O O (r:=true) O<|kas O<|aB<|aE O ?_;refine aA<|aA<|rgD mixed<|kmv O<|aR O O bZ hb1 h1 dO<|aY O hX y5 s1 c1 dO<|kmv O<|aR O O bZ hb0 h0 dO<|aY O hX y5 s0 c0 dO<|kca O O (hC)<|aS O O k2 dO<|aB<|rgA ?_;refine aE O ?_;refine aA<|rgN<|kmv O<|aR O O bZ hb1 h1 dO<|aY O hX y5 s1 c1 dO<|aM O O O O O O dO ?_;refine kas O<|aB<|aI ?_))
   exact y4
  ·rw [if_neg c]
   rw [cK c] at k2
   generalize cmpI (zz (b1,M1)) (zz (b0,M0))=z at *
   refine cC Tryz.func112 rfl y5 rfl rfl ?_
   intro C
   ((refine aA<|rgN<|aP O dO ?_;refine kas O<|aB<|aA<|aA<|rgN<|kmv O<|bD O O (r:=true) O dO<|kmv O<|gmv O O O<|K.leq O O (r:=false) O (dP O O) ?_;refine kpt O O<|aB<|aF O ?_;refine aH ?_;refine aA<|aA<|rgN<|kmv O<|keq O O (r:=false) O<|aB<|aF O ?_;refine aH ?_;refine aA<|aA<|rgN<|kmv O<|aR O O bZ hb0 h0 dO<|aY O hX y5 s0 c0 dO<|kca O O (hG0)<|aV O O dO<|kmv O<|gmv O O O<|aQ O bZ O (dP O O) ?_;refine bC O O (r:=true) O (dP O O) ?_;refine gmv O O O<|gmv O O O<|aR O O bZ hb1 h1 (dP O O) ?_;refine aY O hX y5 s1 c1 (dP O O) ?_;refine gca O O (hG1) O O<|aV O O (dP O O) ?_;refine bF O O (dP O O) ?_);(refine kpf O O<|aB<|aF O ?_;refine aH ?_;refine aA<|aA<|rgN<|kmv O<|aB<|aG<|aA<|rgN<|keq O O (r:=false) O<|kas O<|aB<|aF O ?_;refine aA<|rgN<|keq O O (r:=false) O<|kas O<|aB<|aF O ?_;refine aA<|rgN<|keq O O (r:=true) O<|kas O<|aB<|aE O ?_;refine aA<|aA<|rgD mixed<|kmv O<|aR O O bZ hb1 h1 dO<|aY O hX y5 s1 c1 dO<|kmv O<|aR O O bZ hb0 h0 dO<|aY O hX y5 s0 c0 dO<|kca O O (hC)<|aS O O k2 dO<|aB<|rgA ?_;refine aF O ?_;refine aH ?_;refine aA<|rgN<|kmv O<|aR O O bZ hb0 h0 dO<|aY O hX y5 s0 c0 dO<|aM O O O O O O dO ?_;refine kas O<|aB<|aI ?_))
   exact y4
set_option maxHeartbeats 3200000 in
theorem rNode_13 (b0:Bool) (M0:Int) (b1:Bool) (M1:Int) (ad:Option Addr) (cap:Nat) (hin:NumsIn X ad [(b0,M0),(b1,M1)]):PSpec Tryz.prog X 112 [Ln .i64 13,Lx ad 2 cap] (exR (nodeX 13 [(b0,M0),(b1,M1)])):=by
  have hall:=hin.all y2F
  obtain ⟨blk,off,arr,el,fr,rfl,hX,hall⟩:=hall
  obtain ⟨i0,s0,c0⟩:=hall 0 _ _ rfl
  have h0:off+Int.toNat 0*3=off+0*3:=rfl
  have hb0:0≤(0:Int)∧(0:Int)<(2:Nat):=by omega
  obtain ⟨i1,s1,c1⟩:=hall 1 _ _ rfl
  have h1:off+Int.toNat 1*3=off+1*3:=rfl
  have hb1:0≤(1:Int)∧(1:Int)<(2:Nat):=by omega
  have hG0:=Good_spec X b0 M0 i0
  have hG1:=Good_spec X b1 M1 i1
  cases g0:formB b0 M0 with
  | false =>
   have hG0:=hG0 false g0
   rw [show nodeX 13 [(b0,M0),(b1,M1)] = .error 1 by simp [nodeX,gd,g0]]
   refine cC Tryz.func112 rfl y5 rfl rfl ?_
   intro C
   (refine aA<|rgN<|aP O dO ?_;refine kas O<|aB<|aA<|aA<|rgN<|kmv O<|bD O O (r:=true) O dO<|kmv O<|gmv O O O<|K.leq O O (r:=false) O (dP O O) ?_;refine kpt O O<|aB<|aF O ?_;refine aH ?_;refine aA<|aA<|rgN<|kmv O<|keq O O (r:=false) O<|aB<|aF O ?_;refine aH ?_;refine aA<|aA<|rgN<|kmv O<|aR O O bZ hb0 h0 dO<|aY O hX y5 s0 c0 dO<|kca O O (hG0)<|aV O O dO<|kmv O<|aC O O O<|aC O O O<|aC O O O<|aC O O O<|aD O O ?_;refine aD O O<|aD O O<|aD O O<|aD O O<|aC O O O<|kpt O O<|aB<|aE O ?_;refine aA<|rgN<|aT O O y2 y28 dO ?_;refine aM O O O O O O dO ?_;refine kas O<|aB<|aI ?_)
   exact y4
  | true =>
  have hG0:=hG0 true g0
  cases g1:formB b1 M1 with
  | false =>
   have hG1:=hG1 false g1
   rw [show nodeX 13 [(b0,M0),(b1,M1)] = .error 1 by simp [nodeX,gd,g0,g1]]
   refine cC Tryz.func112 rfl y5 rfl rfl ?_
   intro C
   (refine aA<|rgN<|aP O dO ?_;refine kas O<|aB<|aA<|aA<|rgN<|kmv O<|bD O O (r:=true) O dO<|kmv O<|gmv O O O<|K.leq O O (r:=false) O (dP O O) ?_;refine kpt O O<|aB<|aF O ?_;refine aH ?_;refine aA<|aA<|rgN<|kmv O<|keq O O (r:=false) O<|aB<|aF O ?_;refine aH ?_;refine aA<|aA<|rgN<|kmv O<|aR O O bZ hb0 h0 dO<|aY O hX y5 s0 c0 dO<|kca O O (hG0)<|aV O O dO<|kmv O<|gmv O O O<|aQ O bZ O (dP O O) ?_;refine bC O O (r:=true) O (dP O O) ?_;refine gmv O O O<|gmv O O O<|aR O O bZ hb1 h1 (dP O O) ?_;refine aY O hX y5 s1 c1 (dP O O) ?_;refine gca O O (hG1) O O<|aV O O (dP O O) ?_;refine bF O O (dP O O) ?_;refine kpf O O<|aB<|aE O ?_;refine aA<|rgN<|aT O O y2 y28 dO ?_;refine aM O O O O O O dO ?_;refine kas O<|aB<|aI ?_)
   exact y4
  | true =>
  have hG1:=hG1 true g1
  have q:=eqI (b:=b0) (b':=b1) (h:=M0/18446744073709551616) (h':=M1/18446744073709551616) (l:=M0%18446744073709551616) (l':=M1%18446744073709551616) _ (eqN i0 i1)
  have hTr:=rTruth_spec X (decide (((b0,M0):Nm)=(b1,M1)))
  rw [show nodeX 13 [(b0,M0),(b1,M1)] = .ok (truth (decide (((b0,M0):Nm)=(b1,M1)))) by simp [nodeX,gd,g0,g1]]
  generalize decide (((b0,M0):Nm)=(b1,M1))=z at *
  refine cC Tryz.func112 rfl y5 rfl rfl ?_
  intro C
  ((refine aA<|rgN<|aP O dO ?_;refine kas O<|aB<|aA<|aA<|rgN<|kmv O<|bD O O (r:=true) O dO<|kmv O<|gmv O O O<|K.leq O O (r:=false) O (dP O O) ?_;refine kpt O O<|aB<|aF O ?_;refine aH ?_;refine aA<|aA<|rgN<|kmv O<|keq O O (r:=false) O<|aB<|aF O ?_;refine aH ?_;refine aA<|aA<|rgN<|kmv O<|aR O O bZ hb0 h0 dO<|aY O hX y5 s0 c0 dO<|kca O O (hG0)<|aV O O dO<|kmv O<|gmv O O O<|aQ O bZ O (dP O O) ?_;refine bC O O (r:=true) O (dP O O) ?_;refine gmv O O O<|gmv O O O<|aR O O bZ hb1 h1 (dP O O) ?_;refine aY O hX y5 s1 c1 (dP O O) ?_;refine gca O O (hG1) O O<|aV O O (dP O O) ?_;refine bF O O (dP O O) ?_);(refine kpf O O<|aB<|aF O ?_;refine aH ?_;refine aA<|aA<|rgN<|kmv O<|aB<|aG<|aA<|rgN<|keq O O (r:=false) O<|kas O<|aB<|aF O ?_;refine aA<|rgN<|keq O O (r:=false) O<|kas O<|aB<|aF O ?_;refine aA<|rgN<|keq O O (r:=false) O<|kas O<|aB<|aF O ?_;refine aA<|rgN<|keq O O (r:=true) O<|kas O<|aB<|aE O ?_;refine aA<|rgD mixed<|kmv O<|aR O O bZ hb0 h0 dO<|aY O hX y5 s0 c0 dO<|kmv O<|aR O O bZ hb1 h1 dO<|aY O hX y5 s1 c1 dO<|bQ O O O O y5 q (.inl ⟨O,O⟩) dO<|kca O O (hTr)<|kex O O<|kex O O<|aM O O O O O O dO ?_;refine kas O<|aB<|rgA ?_;refine aI ?_))
  exact y4
set_option maxHeartbeats 3200000 in
theorem rNode_14 (b0:Bool) (M0:Int) (b1:Bool) (M1:Int) (ad:Option Addr) (cap:Nat) (hin:NumsIn X ad [(b0,M0),(b1,M1)]):PSpec Tryz.prog X 112 [Ln .i64 14,Lx ad 2 cap] (exR (nodeX 14 [(b0,M0),(b1,M1)])):=by
  have hall:=hin.all y2F
  obtain ⟨blk,off,arr,el,fr,rfl,hX,hall⟩:=hall
  obtain ⟨i0,s0,c0⟩:=hall 0 _ _ rfl
  have h0:off+Int.toNat 0*3=off+0*3:=rfl
  have hb0:0≤(0:Int)∧(0:Int)<(2:Nat):=by omega
  obtain ⟨i1,s1,c1⟩:=hall 1 _ _ rfl
  have h1:off+Int.toNat 1*3=off+1*3:=rfl
  have hb1:0≤(1:Int)∧(1:Int)<(2:Nat):=by omega
  have hG0:=Good_spec X b0 M0 i0
  have hG1:=Good_spec X b1 M1 i1
  cases g0:formB b0 M0 with
  | false =>
   have hG0:=hG0 false g0
   rw [show nodeX 14 [(b0,M0),(b1,M1)] = .error 1 by simp [nodeX,gd,g0]]
   refine cC Tryz.func112 rfl y5 rfl rfl ?_
   intro C
   (refine aA<|rgN<|aP O dO ?_;refine kas O<|aB<|aA<|aA<|rgN<|kmv O<|bD O O (r:=true) O dO<|kmv O<|gmv O O O<|K.leq O O (r:=false) O (dP O O) ?_;refine kpt O O<|aB<|aF O ?_;refine aH ?_;refine aA<|aA<|rgN<|kmv O<|keq O O (r:=false) O<|aB<|aF O ?_;refine aH ?_;refine aA<|aA<|rgN<|kmv O<|aR O O bZ hb0 h0 dO<|aY O hX y5 s0 c0 dO<|kca O O (hG0)<|aV O O dO<|kmv O<|aC O O O<|aC O O O<|aC O O O<|aC O O O<|aD O O ?_;refine aD O O<|aD O O<|aD O O<|aD O O<|aC O O O<|kpt O O<|aB<|aE O ?_;refine aA<|rgN<|aT O O y2 y28 dO ?_;refine aM O O O O O O dO ?_;refine kas O<|aB<|aI ?_)
   exact y4
  | true =>
  have hG0:=hG0 true g0
  cases g1:formB b1 M1 with
  | false =>
   have hG1:=hG1 false g1
   rw [show nodeX 14 [(b0,M0),(b1,M1)] = .error 1 by simp [nodeX,gd,g0,g1]]
   refine cC Tryz.func112 rfl y5 rfl rfl ?_
   intro C
   (refine aA<|rgN<|aP O dO ?_;refine kas O<|aB<|aA<|aA<|rgN<|kmv O<|bD O O (r:=true) O dO<|kmv O<|gmv O O O<|K.leq O O (r:=false) O (dP O O) ?_;refine kpt O O<|aB<|aF O ?_;refine aH ?_;refine aA<|aA<|rgN<|kmv O<|keq O O (r:=false) O<|aB<|aF O ?_;refine aH ?_;refine aA<|aA<|rgN<|kmv O<|aR O O bZ hb0 h0 dO<|aY O hX y5 s0 c0 dO<|kca O O (hG0)<|aV O O dO<|kmv O<|gmv O O O<|aQ O bZ O (dP O O) ?_;refine bC O O (r:=true) O (dP O O) ?_;refine gmv O O O<|gmv O O O<|aR O O bZ hb1 h1 (dP O O) ?_;refine aY O hX y5 s1 c1 (dP O O) ?_;refine gca O O (hG1) O O<|aV O O (dP O O) ?_;refine bF O O (dP O O) ?_;refine kpf O O<|aB<|aE O ?_;refine aA<|rgN<|aT O O y2 y28 dO ?_;refine aM O O O O O O dO ?_;refine kas O<|aB<|aI ?_)
   exact y4
  | true =>
  have hG1:=hG1 true g1
  obtain ⟨e0,r0⟩:=gd_q (u:=(b0,M0)) g0 i0
  obtain ⟨e1,r1⟩:=gd_q (u:=(b1,M1)) g1 i1
  have hC:=RCmp_spec X (zz (b0,M0)) (zz (b1,M1)) r0 r1 _ rfl
  rw [← e0,← e1] at hC
  obtain ⟨k1,_⟩:=cmp_lz (u:=(b0,M0)) (v:=(b1,M1))
  have hTr:=rTruth_spec X (decide (zz (b0,M0)<zz (b1,M1)))
  rw [show nodeX 14 [(b0,M0),(b1,M1)] = .ok (truth (decide (zz (b0,M0)<zz (b1,M1)))) by simp [nodeX,gd,g0,g1]]
  clear e0 e1
  generalize decide (zz (b0,M0)<zz (b1,M1))=y at *
  generalize cmpI (zz (b0,M0)) (zz (b1,M1))=z at *
  refine cC Tryz.func112 rfl y5 rfl rfl ?_
  intro C
  ((refine aA<|rgN<|aP O dO ?_;refine kas O<|aB<|aA<|aA<|rgN<|kmv O<|bD O O (r:=true) O dO<|kmv O<|gmv O O O<|K.leq O O (r:=false) O (dP O O) ?_;refine kpt O O<|aB<|aF O ?_;refine aH ?_;refine aA<|aA<|rgN<|kmv O<|keq O O (r:=false) O<|aB<|aF O ?_;refine aH ?_;refine aA<|aA<|rgN<|kmv O<|aR O O bZ hb0 h0 dO<|aY O hX y5 s0 c0 dO<|kca O O (hG0)<|aV O O dO<|kmv O<|gmv O O O<|aQ O bZ O (dP O O) ?_;refine bC O O (r:=true) O (dP O O) ?_;refine gmv O O O<|gmv O O O<|aR O O bZ hb1 h1 (dP O O) ?_;refine aY O hX y5 s1 c1 (dP O O) ?_;refine gca O O (hG1) O O<|aV O O (dP O O) ?_;refine bF O O (dP O O) ?_);(refine kpf O O<|aB<|aF O ?_;refine aH ?_;refine aA<|aA<|rgN<|kmv O<|aB<|aG<|aA<|rgN<|keq O O (r:=false) O<|kas O<|aB<|aF O ?_;refine aA<|rgN<|keq O O (r:=false) O<|kas O<|aB<|aF O ?_;refine aA<|rgN<|keq O O (r:=false) O<|kas O<|aB<|aF O ?_;refine aA<|rgN<|keq O O (r:=false) O<|kas O<|aB<|aF O ?_;refine aA<|rgN<|keq O O (r:=true) O<|kas O<|aB<|aE O ?_;refine aA<|rgD mixed<|kmv O<|aR O O bZ hb0 h0 dO<|aY O hX y5 s0 c0 dO<|kmv O<|aR O O bZ hb1 h1 dO<|aY O hX y5 s1 c1 dO<|kca O O (hC)<|klt O O k1<|kca O O (hTr)<|kex O O<|kex O O<|aM O O O O O O dO ?_;refine kas O<|aB<|rgA ?_;refine aI ?_))
  exact y4
set_option maxHeartbeats 3200000 in
theorem rNode_16 (b0:Bool) (M0:Int) (b1:Bool) (M1:Int) (b2:Bool) (M2:Int) (ad:Option Addr) (cap:Nat) (hin:NumsIn X ad [(b0,M0),(b1,M1),(b2,M2)]):PSpec Tryz.prog X 112 [Ln .i64 16,Lx ad 3 cap] (exR (nodeX 16 [(b0,M0),(b1,M1),(b2,M2)])):=by
  have hall:=hin.all (by show 0<3;omega)
  obtain ⟨blk,off,arr,el,fr,rfl,hX,hall⟩:=hall
  obtain ⟨i0,s0,c0⟩:=hall 0 _ _ rfl
  have h0:off+Int.toNat 0*3=off+0*3:=rfl
  have hb0:0≤(0:Int)∧(0:Int)<(3:Nat):=by omega
  obtain ⟨i1,s1,c1⟩:=hall 1 _ _ rfl
  have h1:off+Int.toNat 1*3=off+1*3:=rfl
  have hb1:0≤(1:Int)∧(1:Int)<(3:Nat):=by omega
  obtain ⟨i2,s2,c2⟩:=hall 2 _ _ rfl
  have h2:off+Int.toNat 2*3=off+2*3:=rfl
  have hb2:0≤(2:Int)∧(2:Int)<(3:Nat):=by omega
  have hG0:=Good_spec X b0 M0 i0
  cases g0:formB b0 M0 with
  | false =>
   have hG0:=hG0 false g0
   rw [show nodeX 16 [(b0,M0),(b1,M1),(b2,M2)] = .error 1 by simp [nodeX,gd,g0]]
   refine cC Tryz.func112 rfl y5 rfl rfl ?_
   intro C
   (refine aA<|rgN<|aP O dO ?_;refine kas O<|aB<|aA<|aA<|rgN<|kmv O<|bD O O (r:=true) O dO<|kmv O<|gmv O O O<|K.leq O O (r:=false) O (dP O O) ?_;refine kpt O O<|aB<|aF O ?_;refine aH ?_;refine aA<|aA<|rgN<|kmv O<|keq O O (r:=false) O<|aB<|aF O ?_;refine aH ?_;refine aA<|aA<|rgN<|kmv O<|aR O O bZ hb0 h0 dO<|aY O hX y5 s0 c0 dO<|kca O O (hG0)<|aV O O dO<|kmv O<|aC O O O<|aC O O O<|aC O O O<|aC O O O<|aD O O ?_;refine aD O O<|aD O O<|aD O O<|aD O O<|aC O O O<|kpt O O<|aB<|aE O ?_;refine aA<|rgN<|aT O O y2 y28 dO ?_;refine aM O O O O O O dO ?_;refine kas O<|aB<|aI ?_)
   exact y4
  | true =>
  have hG0:=hG0 true g0
  have q:=eqI (b:=b0) (b':=false) (h:=M0/18446744073709551616) (h':=0) (l:=M0%18446744073709551616) (l':=0) _ (eqZ i0)
  rw [show nodeX 16 [(b0,M0),(b1,M1),(b2,M2)] = .ok (if ((b0,M0):Nm)=(false,0) then (b2,M2) else (b1,M1)) by simp [nodeX,gd,g0]]
  by_cases c:((b0,M0):Nm)=(false,0)
  ·rw [if_pos c]
   rw [cL c] at q
   refine cC Tryz.func112 rfl y5 rfl rfl ?_
   intro C
   ((refine aA<|rgN<|aP O dO ?_;refine kas O<|aB<|aA<|aA<|rgN<|kmv O<|bD O O (r:=true) O dO<|kmv O<|gmv O O O<|K.leq O O (r:=false) O (dP O O) ?_;refine kpt O O<|aB<|aF O ?_;refine aH ?_;refine aA<|aA<|rgN<|kmv O<|keq O O (r:=false) O<|aB<|aF O ?_;refine aH ?_;refine aA<|aA<|rgN<|kmv O<|aR O O bZ hb0 h0 dO<|aY O hX y5 s0 c0 dO<|kca O O (hG0)<|aV O O dO<|kmv O<|gmv O O O<|aQ O bZ O (dP O O) ?_;refine bC O O (r:=false) O (dP O O) ?_;refine gmv O O O<|aC O O O<|aC O O O<|aC O O O<|aC O O O<|aC O O O<|bO O O (dP O O) ?_;refine kpf O O<|aB<|aF O ?_;refine aH ?_;refine aA<|aA<|rgN<|kmv O<|aB<|aG<|aA<|rgN<|keq O O (r:=false) O<|kas O<|aB<|aF O ?_);(refine aA<|rgN<|keq O O (r:=false) O<|kas O<|aB<|aF O ?_;refine aA<|rgN<|keq O O (r:=false) O<|kas O<|aB<|aF O ?_;refine aA<|rgN<|keq O O (r:=false) O<|kas O<|aB<|aF O ?_;refine aA<|rgN<|keq O O (r:=false) O<|kas O<|aB<|aF O ?_;refine aA<|rgN<|keq O O (r:=false) O<|kas O<|aB<|aF O ?_;refine aH ?_;refine aA<|aA<|rgN<|kmv O<|aR O O bZ hb0 h0 dO<|aY O hX y5 s0 c0 dO<|aT O O y2 y28 dO ?_;refine bQ (c:=false) O O O O y5 q (.inr ⟨O,O⟩) dO<|aB<|aF O ?_;refine aH ?_;refine aA<|rgN<|kmv O<|aR O O bZ hb2 h2 dO<|aY O hX y5 s2 c2 dO<|aM O O O O O O dO ?_;refine kas O<|aB<|aI ?_))
   exact y4
  ·rw [if_neg c]
   rw [cK c] at q
   refine cC Tryz.func112 rfl y5 rfl rfl ?_
   intro C
   ((refine aA<|rgN<|aP O dO ?_;refine kas O<|aB<|aA<|aA<|rgN<|kmv O<|bD O O (r:=true) O dO<|kmv O<|gmv O O O<|K.leq O O (r:=false) O (dP O O) ?_;refine kpt O O<|aB<|aF O ?_;refine aH ?_;refine aA<|aA<|rgN<|kmv O<|keq O O (r:=false) O<|aB<|aF O ?_;refine aH ?_;refine aA<|aA<|rgN<|kmv O<|aR O O bZ hb0 h0 dO<|aY O hX y5 s0 c0 dO<|kca O O (hG0)<|aV O O dO<|kmv O<|gmv O O O<|aQ O bZ O (dP O O) ?_;refine bC O O (r:=false) O (dP O O) ?_;refine gmv O O O<|aC O O O<|aC O O O<|aC O O O<|aC O O O<|aC O O O<|bO O O (dP O O) ?_;refine kpf O O<|aB<|aF O ?_;refine aH ?_;refine aA<|aA<|rgN<|kmv O<|aB<|aG<|aA<|rgN<|keq O O (r:=false) O<|kas O<|aB<|aF O ?_);(refine aA<|rgN<|keq O O (r:=false) O<|kas O<|aB<|aF O ?_;refine aA<|rgN<|keq O O (r:=false) O<|kas O<|aB<|aF O ?_;refine aA<|rgN<|keq O O (r:=false) O<|kas O<|aB<|aF O ?_;refine aA<|rgN<|keq O O (r:=false) O<|kas O<|aB<|aF O ?_;refine aA<|rgN<|keq O O (r:=false) O<|kas O<|aB<|aF O ?_;refine aH ?_;refine aA<|aA<|rgN<|kmv O<|aR O O bZ hb0 h0 dO<|aY O hX y5 s0 c0 dO<|aT O O y2 y28 dO ?_;refine bQ (c:=true) O O O O y5 q (.inr ⟨O,O⟩) dO<|aB<|aE O ?_;refine aA<|rgN<|kmv O<|aR O O bZ hb1 h1 dO<|aY O hX y5 s1 c1 dO<|aM O O O O O O dO ?_;refine kas O<|aB<|aI ?_))
   exact y4
set_option maxHeartbeats 3200000 in
theorem rNode_17 (b0:Bool) (M0:Int) (b1:Bool) (M1:Int) (ad:Option Addr) (cap:Nat) (hin:NumsIn X ad [(b0,M0),(b1,M1)]):PSpec Tryz.prog X 112 [Ln .i64 17,Lx ad 2 cap] (exR (nodeX 17 [(b0,M0),(b1,M1)])):=by
  have hall:=hin.all y2F
  obtain ⟨blk,off,arr,el,fr,rfl,hX,hall⟩:=hall
  obtain ⟨i0,s0,c0⟩:=hall 0 _ _ rfl
  have h0:off+Int.toNat 0*3=off+0*3:=rfl
  have hb0:0≤(0:Int)∧(0:Int)<(2:Nat):=by omega
  obtain ⟨i1,s1,c1⟩:=hall 1 _ _ rfl
  have h1:off+Int.toNat 1*3=off+1*3:=rfl
  have hb1:0≤(1:Int)∧(1:Int)<(2:Nat):=by omega
  have hG1:=Good_spec X b1 M1 i1
  cases g1:formB b1 M1 with
  | false =>
   have hG1:=hG1 false g1
   rw [show nodeX 17 [(b0,M0),(b1,M1)] = .error 1 by simp [nodeX,gd,g1]]
   refine cC Tryz.func112 rfl y5 rfl rfl ?_
   intro C
   (refine aA<|rgN<|aP O dO ?_;refine kas O<|aB<|aA<|aA<|rgN<|kmv O<|bD O O (r:=true) O dO<|kmv O<|gmv O O O<|K.leq O O (r:=false) O (dP O O) ?_;refine kpt O O<|aB<|aF O ?_;refine aH ?_;refine aA<|aA<|rgN<|kmv O<|keq O O (r:=true) O<|aB<|aE O ?_;refine aA<|aA<|rgN<|kmv O<|aR O O bZ hb1 h1 dO<|aY O hX y5 s1 c1 dO<|kca O O (hG1)<|aV O O dO<|aB<|aE O ?_;refine aA<|rgN<|aT O O y2 y28 dO ?_;refine aM O O O O O O dO ?_;refine kas O<|aB<|aI ?_)
   exact y4
  | true =>
  have hG1:=hG1 true g1
  have q:=eqI (b:=b1) (b':=false) (h:=M1/18446744073709551616) (h':=0) (l:=M1%18446744073709551616) (l':=0) _ (eqZ i1)
  rw [show nodeX 17 [(b0,M0),(b1,M1)]=(if ((b1,M1):Nm)=(false,0) then .error 9 else .ok (b0,M0)) by simp [nodeX,gd,g1]]
  by_cases c:((b1,M1):Nm)=(false,0)
  ·rw [if_pos c]
   rw [cL c] at q
   refine cC Tryz.func112 rfl y5 rfl rfl ?_
   intro C
   (refine aA<|rgN<|aP O dO ?_;refine kas O<|aB<|aA<|aA<|rgN<|kmv O<|bD O O (r:=true) O dO<|kmv O<|gmv O O O<|K.leq O O (r:=false) O (dP O O) ?_;refine kpt O O<|aB<|aF O ?_;refine aH ?_;refine aA<|aA<|rgN<|kmv O<|keq O O (r:=true) O<|aB<|aE O ?_;refine aA<|aA<|rgN<|kmv O<|aR O O bZ hb1 h1 dO<|aY O hX y5 s1 c1 dO<|kca O O (hG1)<|aV O O dO<|aB<|aF O ?_;refine aH ?_;refine aA<|aA<|rgN<|kmv O<|aR O O bZ hb1 h1 dO<|aY O hX y5 s1 c1 dO<|aT O O y2 y28 dO ?_;refine bQ O O O O y5 q (.inl ⟨O,O⟩) dO<|aB<|aE O ?_;refine aA<|rgN<|aT O O y2 y28 dO ?_;refine aM O O O O O O dO ?_;refine kas O<|aB<|aI ?_)
   exact y4
  ·rw [if_neg c]
   rw [cK c] at q
   refine cC Tryz.func112 rfl y5 rfl rfl ?_
   intro C
   (refine aA<|rgN<|aP O dO ?_;refine kas O<|aB<|aA<|aA<|rgN<|kmv O<|bD O O (r:=true) O dO<|kmv O<|gmv O O O<|K.leq O O (r:=false) O (dP O O) ?_;refine kpt O O<|aB<|aF O ?_;refine aH ?_;refine aA<|aA<|rgN<|kmv O<|keq O O (r:=true) O<|aB<|aE O ?_;refine aA<|aA<|rgN<|kmv O<|aR O O bZ hb1 h1 dO<|aY O hX y5 s1 c1 dO<|kca O O (hG1)<|aV O O dO<|aB<|aF O ?_;refine aH ?_;refine aA<|aA<|rgN<|kmv O<|aR O O bZ hb1 h1 dO<|aY O hX y5 s1 c1 dO<|aT O O y2 y28 dO ?_;refine bQ O O O O y5 q (.inl ⟨O,O⟩) dO<|aB<|aF O ?_;refine aH ?_;refine aA<|rgN<|kmv O<|aR O O bZ hb0 h0 dO<|aY O hX y5 s0 c0 dO<|aM O O O O O O dO ?_;refine kas O<|aB<|aI ?_)
   exact y4
theorem rNode_spec (op:Int) (a:List Nm) (hl:a.length=takes op) (hpos:0<takes op) (ad:Option Addr) (cap:Nat) (hin:NumsIn X ad a):PSpec Tryz.prog X 112 [Ln .i64 op,Lx ad a.length cap] (exR (nodeX op a)):=by
 have h517:5≤op∧op≤17:=by
  unfold takes at hpos
  split at hpos
  ·omega
  ·split at hpos
   ·omega
   ·split at hpos<;>omega
 have t1:∀ {n:Nat} (_:a.length=n),n=1→∃ b0 M0,a=[(b0,M0)]:=fun h e=>by
  subst e
  match a,h with
  | [(b0,M0)],_=>exact ⟨_,_,rfl⟩
 have t2:∀ {n:Nat} (_:a.length=n),n=2→∃ b0 M0 b1 M1,a=[(b0,M0),(b1,M1)]:=fun h e=>by
  subst e
  match a,h with
  | [(b0,M0),(b1,M1)],_=>exact ⟨_,_,_,_,rfl⟩
 have t3:∀ {n:Nat} (_:a.length=n),n=3→∃ b0 M0 b1 M1 b2 M2,a=[(b0,M0),(b1,M1),(b2,M2)]:=fun h e=>by
  subst e
  match a,h with
  | [(b0,M0),(b1,M1),(b2,M2)],_=>exact ⟨_,_,_,_,_,_,rfl⟩
 by_cases h9:op≤9
 ·obtain ⟨b0,M0,b1,M1,rfl⟩:=t2 hl (by unfold takes;rw [if_neg y3,if_neg y3,if_pos y3])
  exact rNode_do X op ⟨by omega,h9⟩ b0 M0 b1 M1 ad cap hin
 ·rcases (show op=10∨op=11∨op=12∨op=13∨op=14∨op=15∨op=16∨op=17 by omega) with rfl|rfl|rfl|rfl|rfl|rfl|rfl|rfl
  ·obtain ⟨b0,M0,rfl⟩:=t1 hl rfl
   exact rNode_10 X b0 M0 ad cap hin
  ·obtain ⟨b0,M0,b1,M1,rfl⟩:=t2 hl rfl
   exact rNode_11 X b0 M0 b1 M1 ad cap hin
  ·obtain ⟨b0,M0,b1,M1,rfl⟩:=t2 hl rfl
   exact rNode_12 X b0 M0 b1 M1 ad cap hin
  ·obtain ⟨b0,M0,b1,M1,rfl⟩:=t2 hl rfl
   exact rNode_13 X b0 M0 b1 M1 ad cap hin
  ·obtain ⟨b0,M0,b1,M1,rfl⟩:=t2 hl rfl
   exact rNode_14 X b0 M0 b1 M1 ad cap hin
  ·obtain ⟨b0,M0,rfl⟩:=t1 hl rfl
   exact rNode_15 X b0 M0 ad cap hin
  ·obtain ⟨b0,M0,b1,M1,b2,M2,rfl⟩:=t3 hl rfl
   exact rNode_16 X b0 M0 b1 M1 b2 M2 ad cap hin
  ·obtain ⟨b0,M0,b1,M1,rfl⟩:=t2 hl rfl
   exact rNode_17 X b0 M0 b1 M1 ad cap hin
end Go.Proofs.YtopiioklkkiedaaGreatDoor
end
section
set_option maxHeartbeats 12800000
set_option maxRecDepth 100000
namespace Go.Proofs.YtopiioklkkiedaaGreatDoor
open Go Go.Lg Go.Lg.Fml Go.Lg.Fld Go.Lg.Arith
set_option maxRecDepth 100000
variable (X:Nat→Option Obj)
def inssV (l:List Ins):List Value:=(l.map insV).flatten
theorem inssV_len (l:List Ins):((inssV l).map CV.val).length=l.length*6:=by
 unfold inssV
 rw [cT]
 induction l with
 | nil=>rfl
 | cons x t ih=>simp only [List.map_cons,List.flatten_cons,cS,dF,ih,insV,dL];omega
theorem inssV_snoc (l:List Ins) (x:Ins) {cs:List CV} (h:cs=(insV x).map CV.val):(inssV l).map CV.val++cs=(inssV (l++[x])).map CV.val:=by
 unfold inssV
 rw [h,dE,List.flatten_append,dE]
 simp
theorem ins_in {Y:Nat→Option Obj} {blk:Nat} {arr:Array Value} {el:TypeId} {fr:Nat×Nat} {l:List Ins} (hY:Y blk=some (.cells arr el fr)) (hi:∀ x∈l,smallI x) (hsp:∃ sp,arr.toList=inssV l++sp):InsIn Y (some ⟨blk,0,none⟩) l:=
 ⟨rows_in hY (fun r hr=>by obtain ⟨x,_,rfl⟩:=List.mem_map.1 hr;rfl) hsp,hi⟩
end Go.Proofs.YtopiioklkkiedaaGreatDoor
end
section
set_option maxHeartbeats 12800000
set_option maxRecDepth 100000
namespace Go.Proofs.YtopiioklkkiedaaGreatDoor
open Go Go.Lg Go.Lg.Fml Go.Lg.Fld Go.Lg.Arith
set_option maxRecDepth 100000
variable (X:Nat→Option Obj)
abbrev LPg (va vb:Int) (ad:Option Addr) (n cap:Nat):LV:=.sv (.agg [.val (.int .i64 va),.val (.int .i64 vb),.val (.slice ad n cap)])
abbrev v3B (t:TypeId) (k:Nat) (a b:Int) (ad:Option Addr) (n cap:Nat):Nat×Option Box:=(k,some ⟨t,[.val (.int .i64 a),.val (.int .i64 b),.val (.slice ad n cap)],false⟩)
theorem CodesIn.get {X:Nat→Option Obj} {ad:Option Addr} {cs:List (List Ins)} (h:CodesIn X ad cs) {i:Nat} {c:List Ins} (hc:cs[i]? = some c):∃ (blk off:Nat) (arr:Array Value) (el:TypeId) (fr:Nat×Nat) (vad:Option Addr) (vcap:Nat),ad=some ⟨blk,off,none⟩∧X blk=some (.cells arr el fr)∧arr[off+i*1]? = some (.slice vad c.length vcap)∧InsIn X vad c:=by
 obtain ⟨blk,off,arr,el,fr,vad,vcap,h1,h2,h3,h4,h5⟩:=h.at_ i c hc
 exact ⟨blk,off,arr,el,fr,vad,vcap,h1,h2,by rw [Nat.mul_one];exact h4,h5⟩
end Go.Proofs.YtopiioklkkiedaaGreatDoor
end
section
set_option maxHeartbeats 12800000
set_option maxRecDepth 100000
namespace Go.Proofs.YtopiioklkkiedaaGreatDoor
open Go Go.Lg Go.Lg.Fml Go.Lg.Fld Go.Lg.Arith Go.Lg.Sg
set_option maxRecDepth 100000
variable (X:Nat→Option Obj)
def nmsV (a:List Nm):List Value:=(a.map nmV).flatten
theorem nmsV_len (a:List Nm):((nmsV a).map CV.val).length=a.length*3:=by
 unfold nmsV
 rw [cT]
 induction a with
 | nil=>rfl
 | cons x t ih=>simp only [List.map_cons,List.flatten_cons,cS,dF,ih,nmV,dL];omega
theorem nmsV_snoc (a:List Nm) (u:Nm):(nmsV a).map CV.val++[CV.val (.bool u.1),.val (.int .u64 (u.2/18446744073709551616)),.val (.int .u64 (u.2%18446744073709551616))]=(nmsV (a++[u])).map CV.val:=by
 unfold nmsV
 rw [dE,List.flatten_append,dE]
 rfl
theorem nms_in {Y:Nat→Option Obj} {blk:Nat} {arr:Array Value} {el:TypeId} {fr:Nat×Nat} {a:List Nm} (hY:Y blk=some (.cells arr el fr)) (hi:∀ u∈a,In2 u.2) (hsp:∃ sp,arr.toList=nmsV a++sp):NumsIn Y (some ⟨blk,0,none⟩) a:=
 ⟨rows_in hY (fun r hr=>by obtain ⟨x,_,rfl⟩:=List.mem_map.1 hr;rfl) hsp,hi⟩
theorem node_lent {S:Nat→Option (Option Box)} {k:Nat} {a:List Nm} {el:TypeId} {row:Bool} {op:Int} (hl:a.length=takes op) (hpos:0<takes op) (hi:∀ u∈a,In2 u.2) (hk:S k=some (some ⟨el,(nmsV a).map .val,row⟩)):
  ∀ (Y:Nat→Option Obj) (us:List Value),(∀ b o,X b=some o→Y b=some o)→Lent S Y [Ln .i64 op,.sv (.one (.slc k 0 a.length 3))] us→PSpec Tryz.prog Y 112 (us.map toLV) (exR (nodeX op a)):=by
 intro Y us hY hL
 obtain ⟨u1,us1,rfl,h1,u2,us2,rfl,h2,rfl⟩:=hL
 have h1:u1 = .int .i64 op:=h1
 subst h1
 obtain ⟨el',cells,row',hk',blk,cap2,arr,fr,us',sp,rfl,hYb,hc,hfit,harr,hv⟩:=h2
 rw [hk] at hk'
 simp only [Option.some.injEq,Box.mk.injEq] at hk'
 obtain ⟨rfl,rfl,rfl⟩:=hk'
 have:=hv (nmsV a) rfl
 subst this
 exact rNode_spec Y op a hl hpos (some ⟨blk,0,none⟩) cap2 (nms_in hYb hi ⟨sp,harr⟩)
theorem leaf_tree {t:Tr} (ht:t.ok) (h0:takes t.top.op=0) (fs:List (List Nm)) (at_:Int):t.ev (oneX fs at_)=leafX fs at_ t.top:=by
 obtain ⟨h1,_⟩:=ok_args ht
 rw [ev_args,show t.args=[] from List.eq_nil_of_length_eq_zero (by omega)]
 show oneX fs at_ t.top []=_
 unfold oneX
 rw [if_pos h0]
theorem node_tree {t:Tr} (h0:takes t.top.op≠0) (fs:List (List Nm)) (at_:Int) {vs:List Nm} (hv:evL (oneX fs at_) t.args = .ok vs):t.ev (oneX fs at_)=nodeX t.top.op vs:=by
 rw [ev_args,hv]
 show oneX fs at_ t.top vs=_
 unfold oneX
 rw [if_neg h0]
theorem fail_tree {t:Tr} (fs:List (List Nm)) (at_:Int) {e:Int} (hv:evL (oneX fs at_) t.args = .error e):t.ev (oneX fs at_) = .error e:=by
 rw [ev_args,hv]
theorem qn_in2 {z:Int} (h:R127 z):In2 (qn z).2:=mg_in2 h
theorem elem_mem {fs:List (List Nm)} {a b:Int} {v:Nm} (h:elemX fs a b = .ok v):∃ r∈fs,v∈r:=by
 unfold elemX at h
 by_cases h0:a<0∨b<0
 ·rw [if_pos h0] at h;cases h
 ·rw [if_neg h0] at h
  cases hr:fs[a.toNat]? with
  | none=>rw [hr] at h;cases h
  | some r =>
   rw [hr] at h
   simp only at h
   cases hu:r[b.toNat]? with
   | none=>rw [hu] at h;cases h
   | some u =>
    rw [hu] at h
    cases h
    exact ⟨r,cZ hr,cZ hu⟩
theorem leaf_in2 {fs:List (List Nm)} {at_:Int} {x:Ins} {v:Nm} (hf:∀ r∈fs,∀ u∈r,In2 u.2) (hx:In2 x.k.2) (hat:at_<9223372036854775808) (h:leafX fs at_ x = .ok v):In2 v.2:=by
 unfold leafX at h
 by_cases h1:x.op=1
 ·rw [if_pos h1] at h;cases h;exact hx
 ·rw [if_neg h1] at h
  by_cases h4:x.op=4
  ·rw [if_pos h4] at h
   by_cases h0:at_<0
   ·rw [if_pos h0] at h;cases h
   ·rw [if_neg h0] at h
    cases h
    show 0≤at_∧at_<_
    omega
  ·rw [if_neg h4] at h
   obtain ⟨r,hr,hv⟩:=elem_mem h
   exact hf r hr _ hv
theorem truth_in2 (b:Bool):In2 (truth b).2:=by
 unfold truth In2
 cases b<;>decide
theorem do_in2 {op:Int} {x y v:Nm} (h:doX op x y = .ok v):In2 v.2:=by
 unfold doX at h
 split at h
 ·cases h
 ·split at h
  ·cases h
  ·split at h
   ·rename_i hr;cases h;exact qn_in2 hr
   ·cases h
theorem node_in2 {op:Int} {a:List Nm} {v:Nm} (ha:∀ u∈a,In2 u.2) (h:nodeX op a = .ok v):In2 v.2:=by
 match a,ha with
 | [x],ha =>
  simp only [nodeX] at h
  split at h
  ·cases h
  ·split at h
   ·rename_i hg _
    cases h
    have:=(zv_in (ha x y21) (by simpa [gd] using hg)).1
    exact qn_in2 (by unfold R127 at *;show -_ < -(zz x) ∧ -(zz x)<_;unfold zz;omega)
   ·cases h;exact truth_in2 _
 | [x,y],ha =>
  simp only [nodeX] at h
  repeat' (split at h)
  all_goals first
   | (cases h;done)
   | exact do_in2 h
   | (cases h;first|exact truth_in2 _|exact ha _ y21|(split<;>exact ha _ y21))
 | [x,y,z],ha =>
  simp only [nodeX] at h
  split at h
  ·cases h
  ·cases h;split<;>exact ha _ y21
 | [],ha=>cases h
 | _::_::_::_::_,ha=>cases h
theorem one_in2 {fs:List (List Nm)} {at_:Int} {x:Ins} {a:List Nm} {v:Nm} (hf:∀ r∈fs,∀ u∈r,In2 u.2) (hx:In2 x.k.2) (hat:at_<9223372036854775808) (ha:∀ u∈a,In2 u.2) (h:oneX fs at_ x a = .ok v):In2 v.2:=by
 unfold oneX at h
 split at h
 ·exact leaf_in2 hf hx hat h
 ·exact node_in2 ha h
theorem tree_in2 {fs:List (List Nm)} {at_:Int} (hf:∀ r∈fs,∀ u∈r,In2 u.2) (hat:at_<9223372036854775808):∀ {t:Tr} {v:Nm},(∀ x∈t.flat,In2 x.k.2)→t.ev (oneX fs at_) = .ok v→In2 v.2
 | .n0 x,v,hx,h=>one_in2 hf (hx x (by simp [Tr.flat])) hat (a:=[]) (fun u hu=>by cases hu) h
 | .n1 x a,v,hx,h=>by
  simp only [Tr.ev] at h
  cases ha:a.ev (oneX fs at_) with
  | error e=>rw [ha] at h;cases h
  | ok u =>
   rw [ha] at h
   have h1:=tree_in2 hf hat (fun y hy=>hx y y32) ha
   exact one_in2 hf (hx x (by simp [Tr.flat])) hat (a:=[u]) (fun w hw=>by rw [List.mem_singleton.1 hw];exact h1) h
 | .n2 x a b,v,hx,h=>by
  simp only [Tr.ev] at h
  cases ha:a.ev (oneX fs at_) with
  | error e=>rw [ha] at h;cases h
  | ok u =>
   rw [ha] at h
   simp only at h
   have h1:=tree_in2 hf hat (fun y hy=>hx y y32) ha
   cases hb:b.ev (oneX fs at_) with
   | error e=>rw [hb] at h;cases h
   | ok w =>
    rw [hb] at h
    have h2:=tree_in2 hf hat (fun y hy=>hx y y32) hb
    exact one_in2 hf (hx x (by simp [Tr.flat])) hat (a:=[u,w]) (fun q hq=>by
     simp only [List.mem_cons,List.not_mem_nil,or_false] at hq
     rcases hq with rfl|rfl
     ·exact h1
     ·exact h2) h
 | .n3 x a b c,v,hx,h=>by
  simp only [Tr.ev] at h
  cases ha:a.ev (oneX fs at_) with
  | error e=>rw [ha] at h;cases h
  | ok u =>
   rw [ha] at h
   simp only at h
   have h1:=tree_in2 hf hat (fun y hy=>hx y y32) ha
   cases hb:b.ev (oneX fs at_) with
   | error e=>rw [hb] at h;cases h
   | ok w =>
    rw [hb] at h
    simp only at h
    have h2:=tree_in2 hf hat (fun y hy=>hx y y32) hb
    cases hc:c.ev (oneX fs at_) with
    | error e=>rw [hc] at h;cases h
    | ok s =>
     rw [hc] at h
     have h3:=tree_in2 hf hat (fun y hy=>hx y y32) hc
     exact one_in2 hf (hx x (by simp [Tr.flat])) hat (a:=[u,w,s]) (fun q hq=>by
      simp only [List.mem_cons,List.not_mem_nil,or_false] at hq
      rcases hq with rfl|rfl|rfl
      ·exact h1
      ·exact h2
      ·exact h3) h
theorem arg_mem {t:Tr} {a:Tr} (h:a∈t.args):∀ x∈a.flat,x∈t.flat:=fun x hx=>by
 rw [flat_args]
 refine List.mem_append_left _ ?_
 generalize t.args=us at h
 induction us with
 | nil=>cases h
 | cons b us ih =>
  rcases List.mem_cons.1 h with rfl|h
  ·exact List.mem_append_left _ hx
  ·exact List.mem_append_right _ (ih h)
theorem evL_in2 {fs:List (List Nm)} {at_:Int} (hf:∀ r∈fs,∀ u∈r,In2 u.2) (hat:at_<9223372036854775808):∀ {us:List Tr} {vs:List Nm},(∀ a∈us,∀ x∈a.flat,In2 x.k.2)→evL (oneX fs at_) us = .ok vs→∀ v∈vs,In2 v.2
 | [],vs,_,h=>by simp only [evL,Except.ok.injEq] at h;subst h;intro v hv;cases hv
 | a::us,vs,hx,h=>by
  simp only [evL] at h
  cases ha:a.ev (oneX fs at_) with
  | error e=>rw [ha] at h;cases h
  | ok u =>
   rw [ha] at h
   simp only at h
   cases hb:evL (oneX fs at_) us with
   | error e=>rw [hb] at h;cases h
   | ok ws =>
    rw [hb] at h
    simp only [Except.ok.injEq] at h
    subst h
    intro v hv
    rcases List.mem_cons.1 hv with rfl|hv
    ·exact tree_in2 hf hat (hx a y21) ha
    ·exact evL_in2 hf hat (fun b hb x hx'=>hx b (by simp [hb]) x hx') hb v hv
end Go.Proofs.YtopiioklkkiedaaGreatDoor
end
section
set_option maxHeartbeats 12800000
set_option maxRecDepth 100000
namespace Go.Proofs.YtopiioklkkiedaaGreatDoor
open Go Go.Lg Go.Lg.Fml Go.Lg.Fld Go.Lg.Arith Go.Lg.Sg
set_option maxRecDepth 100000
variable (X:Nat→Option Obj)
theorem ends_cell {p i:Nat} {us:List Tr} {a:Tr} (h:us[i]? = some a):((nuV (endsI p us)).map CV.val)[i*1]? = some (.val (.int .i64 ((p+(flatL (us.take (i+1))).length-1:Nat):Int))):=by
 refine nu_at ?_
 unfold endsI
 rw [dI,endsL_at h]
 rfl
set_option maxHeartbeats 6400000 in
theorem rTree_spec (l:List Ins) (ad:Option Addr) (cap:Nat) (hin:InsIn X ad l) (hbig:l.length<1152921504606846976) (hall:∀ x∈l,okI x=true) (fad:Option Addr) (fcap:Nat) (fs:List (List Nm)) (hfs:FssIn X fad fs) (hfl:fs.length<4611686018427387904) (hrl:∀ r∈fs,r.length<4611686018427387904) (hf2:∀ r∈fs,∀ u∈r,In2 u.2) (at_:Int) (hat : -9223372036854775808≤at_∧at_<9223372036854775808):
  ∀ (n:Nat) (t:Tr) (p:Nat) (e:Int),t.flat.length≤n→At l p t→t.ok→e=((p+t.flat.length:Nat):Int)-1 →
   PSpec Tryz.prog X 74 [Lx ad l.length cap,Ln .i64 e,Lx fad fs.length fcap,Ln .i64 at_] (exR (t.ev (oneX fs at_)))
 | 0,t,p,e,hn,_,_,_=>absurd (flat_len t) y3
 | n+1,t,p,e,hn,hA,ht,he=>by
  have hlen:=hA.len
  have h1:=flat_len t
  have hfl2:t.flat.length=(flatL t.args).length+1:=by rw [flat_args];simp
  have hal:=args_le t
  obtain ⟨htop,hoks⟩:=ok_args ht
  have htl:=hA.top
  obtain ⟨blk,off,arr,el,fr,rfl,hX,hsz,hcs,hop⟩:=hin.at htl
  have hT:=rTakes_spec X t.top.op
  have hmem:=cZ htl
  have hio:off+Int.toNat e*6=off+(p+t.flat.length-1)*6:=by
   have:Int.toNat e=p+t.flat.length-1:=by omega
   rw [this]
  have hin0:0≤e∧e<(l.length:Nat):=by omega
  by_cases h0:takes t.top.op=0
  ·have hL:=rLeaf_spec X t.top (hin.small _ hmem) (hall _ hmem) h0 fad fcap fs hfs hfl hrl at_ hat
   rw [leaf_tree ht h0]
   rw [h0] at hT
   cases hlv:leafX fs at_ t.top with
   | error e' =>
    rw [hlv] at hL
    refine cC Tryz.func74 rfl y5 rfl rfl ?_
    intro C
    (refine aA<|rgN<|aP O dO ?_;refine kas O<|aB<|aA<|aA<|rgN<|kmv O<|kmv O<|aR O O bZ hin0 hio dO<|bH O O dO ?_;refine aW O hX O hop dO<|kca O O (hT)<|keq O O (r:=true) O<|aB<|aE O ?_;refine aA<|rgN<|kmv O<|kmv O<|aR O O bZ hin0 hio dO<|aY O hX y5 hsz hcs dO<|kmv O<|kmv O<|kca O O (hL)<|kex O O<|kex O O<|aM O O O O O O dO ?_;refine kas O<|aB<|aI ?_)
    exact y4
   | ok v =>
    rw [hlv] at hL
    refine cC Tryz.func74 rfl y5 rfl rfl ?_
    intro C
    (refine aA<|rgN<|aP O dO ?_;refine kas O<|aB<|aA<|aA<|rgN<|kmv O<|kmv O<|aR O O bZ hin0 hio dO<|bH O O dO ?_;refine aW O hX O hop dO<|kca O O (hT)<|keq O O (r:=true) O<|aB<|aE O ?_;refine aA<|rgN<|kmv O<|kmv O<|aR O O bZ hin0 hio dO<|aY O hX y5 hsz hcs dO<|kmv O<|kmv O<|kca O O (hL)<|kex O O<|kex O O<|aM O O O O O O dO ?_;refine kas O<|aB<|aI ?_)
    exact y4
  have hB:=rBranches_spec X l (some ⟨blk,off,none⟩) cap hin hbig hA ht y3 e he
  obtain ⟨r,hr⟩:∃ r,exR (t.ev (oneX fs at_))=r:=⟨_,rfl⟩
  have hcl:∃ a b,r = .tup [a,b]∧a.closed=true∧b.closed=true:=by
   subst hr
   cases t.ev (oneX fs at_) with
   | error e'=>exact ⟨_,_,rfl,rfl,rfl⟩
   | ok v=>exact ⟨_,_,rfl,rfl,rfl⟩
  rw [hr]
  refine cC Tryz.func74 rfl y5 rfl (by obtain ⟨a,b,rfl,ha,hb⟩:=hcl;show (a.closed&&(b.closed&&true))=true;rw [ha,hb];rfl) ?_
  intro C
  clear hcl
  have hEl:=endsI_len p t.args
  rw [hEl] at hB
  (refine aA<|rgN<|aP O dO ?_;refine kas O<|aB<|aA<|aA<|rgN<|kmv O<|kmv O<|aR O O bZ hin0 hio dO<|bH O O dO ?_;refine aW O hX O hop dO<|kca O O (hT)<|keq O O (r:=false) (cN y3)<|aB<|aF O ?_;refine aH ?_;refine aA<|rgN<|kmv O<|kmv O<|bE [(1000001,500)] (.sv (.one (.slc 500 0 t.args.length))) [nuB 500 (endsI p t.args)] (hB) O O yC O O O O O y18 dO<|kas O<|aB<|aA<|rgN<|aZ (zs:=[]) (sz:=3) (e:=86) y5 O O O O O O dO<|kas O<|aB<|aA<|aA ?_;refine rgN<|kas O<|aB<|aG ?_)
  refine cG (fun m σ=>∃ (i:Nat) (vs:List Nm) (rw_:Bool),i≤t.args.length∧m=t.args.length-i∧evL (oneX fs at_) (t.args.take i) = .ok vs∧σ=⟨[(0,Lx (some ⟨blk,off,none⟩) l.length cap),(1,Ln .i64 e),(2,Lx fad fs.length fcap),(3,Ln .i64 at_),(8,Lp 8),(10,.sv (.one (.slc 500 0 t.args.length))),(11,.sv (.one (.slc 501 0 vs.length 3))),(12,Ln .i64 (i:Nat))],[(8,some ⟨86,[.val (.bool false),.val (.int .u64 0),.val (.int .u64 0)],false⟩),nuB 500 (endsI p t.args),(501,some ⟨86,(nmsV vs).map .val,rw_⟩)],X⟩) t.args.length
   ⟨⟨[(0,Lx (some ⟨blk,off,none⟩) l.length cap),(1,Ln .i64 e),(2,Lx fad fs.length fcap),(3,Ln .i64 at_),(8,Lp 8),(10,.sv (.one (.slc 500 0 t.args.length))),(11,.sv (.one (.slc 501 0 0 3))),(12,Ln .i64 (0:Nat))],[(8,some ⟨86,[.val (.bool false),.val (.int .u64 0),.val (.int .u64 0)],false⟩),nuB 500 (endsI p t.args),(501,some ⟨86,[],false⟩)],X⟩,Le.ofR [(8,8),(500,500),(501,34)] y15 y1 y2 y2 y0 y2 y2,0,[],false,by omega,rfl,rfl,rfl⟩ ?_
  rintro m σ ⟨i,vs,rw_,hi,rfl,hvs,rfl⟩
  have hvl:=evL_len hvs
  rw [cW,Nat.min_eq_left hi] at hvl
  have h2vs:=evL_in2 hf2 hat.2 (fun a ha x hx=>(hin.small x (by
   have hxt:=arg_mem (List.mem_of_mem_take ha) x hx
   obtain ⟨pre,suf,e1,_⟩:=hA
   rw [e1]
   exact List.mem_append_right _ (List.mem_append_left _ hxt))).2.2.2) hvs
  by_cases hlt:i<t.args.length
  ·obtain ⟨a,ha⟩:=wg hlt
   obtain ⟨hAa,_⟩:=hA.arg ha
   have hca:=ends_cell (p:=p) ha
   have htk:t.args.take (i+1)=t.args.take i++[a]:=take_snoc ha
   have hft:(flatL (t.args.take (i+1))).length=(flatL (t.args.take i)).length+a.flat.length:=by rw [htk,flatL_app,cS];simp [flatL]
   have hle:(flatL (t.args.take (i+1))).length≤(flatL t.args).length:=by
    conv=>rhs;rw [← List.take_append_drop (i+1) t.args,flatL_app,cS]
    omega
   have ha1:=flat_len a
   have hal2:=hAa.len
   have hrec:=rTree_spec l (some ⟨blk,off,none⟩) cap hin hbig hall fad fcap fs hfs hfl hrl hf2 at_ hat n a (p+(flatL (t.args.take i)).length) (((p+(flatL (t.args.take (i+1))).length-1:Nat):Int)) y3 hAa (hoks a (cZ ha)) y3
   have hstep:=evL_step hvs ha
   generalize ((p+(flatL (t.args.take (i+1))).length-1:Nat):Int)=v at *
   have hio2:0+Int.toNat (i:Int)*1=i*1:=by simp
   cases hev:a.ev (oneX fs at_) with
   | error e' =>
    rw [hev] at hrec
    have hne:=tree_err (hoks a (cZ ha)) hev
    rw [fail_tree fs at_ (evL_fail hvs ha hev)] at hr
    subst hr
    (refine aA<|aA<|rgN<|kmv O<|kmv O<|K.lenSlc O bZ O dO ?_;refine klt O O (cL y3)<|aB<|aE O ?_;refine aH ?_;refine aA<|aG<|aA<|rgN<|kmv O<|kmv O<|kmv O<|K.indexSlc O O y3 hio2 dO ?_;refine kl1 O O hca<|kmv O<|kmv O<|kca O O hrec<|kmv O<|kex O O<|kex O O<|aP O dO ?_;refine aM O O O O O O dO ?_;refine kas O<|aB<|aA<|aA<|rgN<|kmv O<|kne O O (cP hne)<|aB<|aE O ?_;refine aA<|rgN<|aT O O y2 y28 dO ?_;refine kmv O<|aM O O O O O O dO ?_;refine kas O<|aB<|aI ?_)
    exact y4
   | ok u =>
    rw [hev] at hrec hstep
    simp only at hstep
    have hadd:IntKind.i64.wrap ((i:Int)+1)=((i+1:Nat):Int):=by rw [cE y3];omega
    have hnl:vs.length+1=(vs++[u]).length:=by rw [cS];rfl
    have hl3:=nmsV_len vs
    have hv3:vs.length≤3:=by omega
    have hnc:=nmsV_snoc vs u
    (refine aA<|aA<|rgN<|kmv O<|kmv O<|K.lenSlc O bZ O dO ?_;refine klt O O (cL y3)<|aB<|aE O ?_;refine aH ?_;refine aA<|aG<|aA<|rgN<|kmv O<|kmv O<|kmv O<|K.indexSlc O O y3 hio2 dO ?_;refine kl1 O O hca<|kmv O<|kmv O<|kca O O hrec<|kmv O<|kex O O<|kex O O<|aP O dO ?_;refine aM O O O O O O dO ?_;refine kas O<|aB<|aA<|aA<|rgN<|kmv O<|kne O O (r:=false) O<|aB<|aF O ?_;refine aH ?_;refine rgN<|kmv O<|aK O O O dO ?_;refine aZ (zs:=[Value.bool false,.int .u64 0,.int .u64 0]) (sz:=3) (e:=86) (cs':=[.val (.bool u.1),.val (.int .u64 (u.2/18446744073709551616)),.val (.int .u64 (u.2%18446744073709551616))]) y5 O O O O O O dO<|bP (by_:=24) (e2:=86) (l2:=[.val (.bool u.1),.val (.int .u64 (u.2/18446744073709551616)),.val (.int .u64 (u.2%18446744073709551616))]) (nl:=(vs++[u]).length) (nc:=(nmsV (vs++[u])).map .val) O O hl3 O O (dK _) O O y5 y5 y3 y3 O hnl hnc dO<|kas O<|aB<|rgN<|kmv O<|kad O O hadd<|kas O<|aB ?_)
    exact ⟨_,⟨[(0,Lx (some ⟨blk,off,none⟩) l.length cap),(1,Ln .i64 e),(2,Lx fad fs.length fcap),(3,Ln .i64 at_),(8,Lp 8),(10,.sv (.one (.slc 500 0 t.args.length))),(11,.sv (.one (.slc 501 0 (vs++[u]).length 3))),(12,Ln .i64 (i+1:Nat))],[(8,some ⟨86,[.val (.bool false),.val (.int .u64 0),.val (.int .u64 0)],false⟩),nuB 500 (endsI p t.args),(501,some ⟨86,(nmsV (vs++[u])).map .val,true⟩)],X⟩,by omega,Le.ofR [(8,8),(500,500),(501,59)] y15 y1 y2 y2 y0 y2 y2,i+1,vs++[u],true,by omega,O,hstep,O⟩
  ·have e2:i=t.args.length:=by omega
   subst e2
   rw [dC] at hvs
   rw [node_tree h0 fs at_ hvs] at hr
   have hN:=fun S el row hk=>node_lent X (S:=S) (k:=501) (a:=vs) (el:=el) (row:=row) (op:=t.top.op) y3 y3 h2vs hk
   cases hnv:nodeX t.top.op vs with
   | error e' =>
    rw [hnv] at hr hN
    subst hr
    (refine aA<|aA<|rgN<|kmv O<|kmv O<|K.lenSlc O bZ O dO ?_;refine klt O O (cK y3)<|aB<|aF O ?_;refine aJ<|aA<|rgN<|kmv O<|kmv O<|aR O O bZ hin0 hio dO<|bH O O dO ?_;refine aW O hX O hop dO<|kmv O<|K.callX [501] O O O (hN _ _ _ O) dO ?_;refine kex O O<|kex O O<|aM O O O O O O dO ?_;refine kas O<|aB<|aI ?_)
    exact y4
   | ok v =>
    rw [hnv] at hr hN
    subst hr
    (refine aA<|aA<|rgN<|kmv O<|kmv O<|K.lenSlc O bZ O dO ?_;refine klt O O (cK y3)<|aB<|aF O ?_;refine aJ<|aA<|rgN<|kmv O<|kmv O<|aR O O bZ hin0 hio dO<|bH O O dO ?_;refine aW O hX O hop dO<|kmv O<|K.callX [501] O O O (hN _ _ _ O) dO ?_;refine kex O O<|kex O O<|aM O O O O O O dO ?_;refine kas O<|aB<|aI ?_)
    exact y4
set_option maxHeartbeats 3200000 in
theorem rEval_spec (l:List Ins) (ad:Option Addr) (cap:Nat) (hin:InsIn X ad l) (hbig:l.length<1152921504606846976) (fad:Option Addr) (fcap:Nat) (fs:List (List Nm)) (hfs:FssIn X fad fs) (hfl:fs.length<4611686018427387904) (hrl:∀ r∈fs,r.length<4611686018427387904) (hf2:∀ r∈fs,∀ u∈r,In2 u.2) (at_:Int) (hat : -9223372036854775808≤at_∧at_<9223372036854775808):
  PSpec Tryz.prog X 39 [Lx ad l.length cap,Lx fad fs.length fcap,Ln .i64 at_] (exR (evX l fs at_)):=by
 have hC:=rCheck11 X l ad cap hin y3
 by_cases hz:chkX l=0
 ·obtain ⟨t,ht,hl⟩:=parse (chkX_zero hz).2
  have hA:At l 0 t:=⟨[],[],by rw [← hl];simp,rfl⟩
  have hT:=rTree_spec X l ad cap hin hbig (chkX_ok hz) fad fcap fs hfs hfl hrl hf2 at_ hat t.flat.length t 0 ((l.length:Int)-1) (dK _) hA ht (by rw [hl];omega)
  have h64:=(chkX_zero hz).1
  have hsub:IntKind.i64.wrap ((l.length:Int)-1)=(l.length:Int)-1:=cE y3
  rw [evX_tree hz ht hl]
  rw [hz] at hC
  cases hev:t.ev (oneX fs at_) with
  | error e =>
   have hne:=tree_err ht hev
   rw [hev] at hT
   refine cC Tryz.func39 rfl y5 rfl rfl ?_
   intro C
   (refine aA<|rgN<|aP O dO ?_;refine kas O<|aB<|aA<|aA<|rgN<|kmv O<|kca O O (hC)<|kas O<|aB<|aA<|rgN<|kmv O<|kne O O (r:=false) O<|aB ?_;refine aF O ?_;refine aH ?_;refine aA<|rgN<|kmv O<|kmv O<|aQ O bZ O dO ?_;refine bA O O hsub dO<|kmv O<|kmv O<|kca O O (hT)<|kmv O<|kex O O<|kex O O<|aP O dO ?_;refine aM O O O O O O dO ?_;refine kas O<|aB<|aA<|aA<|rgN<|kmv O<|keq O O (r:=false) (cN hne)<|kmv O<|aC O O O<|aC O O O<|aC O O O<|kpf O O<|aB<|aF O ?_;refine aH ?_;refine aA<|rgN<|aK O O O dO ?_;refine kmv O<|aM O O O O O O dO ?_;refine kas O<|aB<|aI ?_)
   exact y4
  | ok v =>
   have hv2:=tree_in2 hf2 hat.2 (fun x hx=>(hin.small x (by rw [← hl];exact hx)).2.2.2) hev
   rw [hev] at hT
   simp only
   cases hg:gd v with
   | true =>
    have hG:=Good_spec X v.1 v.2 hv2 true hg
    rw [if_pos rfl]
    refine cC Tryz.func39 rfl y5 rfl rfl ?_
    intro C
    (refine aA<|rgN<|aP O dO ?_;refine kas O<|aB<|aA<|aA<|rgN<|kmv O<|kca O O (hC)<|kas O<|aB<|aA<|rgN<|kmv O<|kne O O (r:=false) O<|aB ?_;refine aF O ?_;refine aH ?_;refine aA<|rgN<|kmv O<|kmv O<|aQ O bZ O dO ?_;refine bA O O hsub dO<|kmv O<|kmv O<|kca O O (hT)<|kmv O<|kex O O<|kex O O<|aP O dO ?_;refine aM O O O O O O dO ?_;refine kas O<|aB<|aA<|aA<|rgN<|kmv O<|keq O O (r:=true) O<|kmv O<|aK O O O (dP O O) ?_;refine gca O O (hG) O O<|aV O O (dP O O) ?_;refine kpt O O<|aB<|aF O ?_;refine aH ?_;refine aA<|rgN<|aK O O O dO ?_;refine kmv O<|aM O O O O O O dO ?_;refine kas O<|aB<|aI ?_)
    exact y4
   | false =>
    have hG:=Good_spec X v.1 v.2 hv2 false hg
    rw [if_neg (by decide)]
    refine cC Tryz.func39 rfl y5 rfl rfl ?_
    intro C
    (refine aA<|rgN<|aP O dO ?_;refine kas O<|aB<|aA<|aA<|rgN<|kmv O<|kca O O (hC)<|kas O<|aB<|aA<|rgN<|kmv O<|kne O O (r:=false) O<|aB ?_;refine aF O ?_;refine aH ?_;refine aA<|rgN<|kmv O<|kmv O<|aQ O bZ O dO ?_;refine bA O O hsub dO<|kmv O<|kmv O<|kca O O (hT)<|kmv O<|kex O O<|kex O O<|aP O dO ?_;refine aM O O O O O O dO ?_;refine kas O<|aB<|aA<|aA<|rgN<|kmv O<|keq O O (r:=true) O<|kmv O<|aK O O O (dP O O) ?_;refine gca O O (hG) O O<|aV O O (dP O O) ?_;refine kpt O O<|aB<|aE O ?_;refine aA<|rgN<|aT O O y2 y28 dO ?_;refine aM O O O O O O dO ?_;refine kas O<|aB<|aI ?_)
    exact y4
 ·have e:evX l fs at_ = .error (chkX l):=if_neg hz
  rw [e]
  refine cC Tryz.func39 rfl y5 rfl rfl ?_
  intro C
  (refine aA<|rgN<|aP O dO ?_;refine kas O<|aB<|aA<|aA<|rgN<|kmv O<|kca O O (hC)<|kas O<|aB<|aA<|rgN<|kmv O<|kne O O (cP hz)<|aB ?_;refine aE O ?_;refine aA<|rgN<|aT O O y2 y28 dO ?_;refine kmv O<|aM O O O O O O dO ?_;refine kas O<|aB<|aI ?_)
  exact y4
end Go.Proofs.YtopiioklkkiedaaGreatDoor
end
section
set_option maxHeartbeats 12800000
set_option maxRecDepth 100000
namespace Go.Proofs.YtopiioklkkiedaaGreatDoor
open Go Go.Lg Go.Lg.Fml Go.Lg.Fld Go.Lg.Arith
set_option maxRecDepth 100000
def exV:Except Int Nm→Nm
 | .ok v=>v
 | .error _=>(false,0)
def exE:Except Int Nm→Int
 | .ok _=>0
 | .error e=>e
theorem exR_eq (r:Except Int Nm):exR r = .tup [SI (exV r).1 (exV r).2,Sn .i64 (exE r)]:=by cases r<;>rfl
variable (X:Nat→Option Obj)
theorem addR_ex (z:Int):addR z=exR (if R127 z then Except.ok (qn z) else Except.error 3:Except Int Nm):=by
 by_cases h:R127 z
 ·rw [addR_in h,if_pos h];rfl
 ·rw [addR_out h,if_neg h];rfl
theorem wAdd_do (u v:Nm) (hu:In2 u.2) (hv:In2 v.2):PSpec Tryz.prog X 183 [LI u.1 u.2,LI v.1 v.2] (exR (doX 5 u v)):=by
 cases hg:(gd u&&gd v) with
 | false =>
  rw [doX_bad hg]
  exact Add_arg X u.1 v.1 u.2 v.2 hu hv hg
 | true =>
  obtain ⟨gu,gv⟩:=Bool.and_eq_true_iff.1 hg
  obtain ⟨e1,r1⟩:=gd_q gu hu
  obtain ⟨e2,r2⟩:=gd_q gv hv
  rw [e1,e2]
  unfold doX
  rw [hg,if_neg (by decide),if_neg (by omega),show arith 5 (zz u) (zz v)=zz u+zz v from rfl,← addR_ex]
  exact Add_q X (zz u) (zz v) r1 r2
theorem wSub_do (u v:Nm) (hu:In2 u.2) (hv:In2 v.2):PSpec Tryz.prog X 184 [LI u.1 u.2,LI v.1 v.2] (exR (doX 6 u v)):=by
 cases hg:(gd u&&gd v) with
 | false =>
  rw [doX_bad hg]
  exact Sub_arg X u.1 v.1 u.2 v.2 hu hv hg
 | true =>
  obtain ⟨gu,gv⟩:=Bool.and_eq_true_iff.1 hg
  obtain ⟨e1,r1⟩:=gd_q gu hu
  obtain ⟨e2,r2⟩:=gd_q gv hv
  rw [e1,e2]
  unfold doX
  rw [hg,if_neg (by decide),if_neg (by omega),show arith 6 (zz u) (zz v)=zz u-zz v from rfl,← addR_ex]
  exact Sub_q X (zz u) (zz v) r1 r2
theorem wMul_do (u v:Nm) (hu:In2 u.2) (hv:In2 v.2):PSpec Tryz.prog X 185 [LI u.1 u.2,LI v.1 v.2] (exR (doX 7 u v)):=by
 cases hg:(gd u&&gd v) with
 | false =>
  rw [doX_bad hg]
  exact Mul_arg X u.1 v.1 u.2 v.2 hu hv hg
 | true =>
  obtain ⟨gu,gv⟩:=Bool.and_eq_true_iff.1 hg
  obtain ⟨e1,r1⟩:=gd_q gu hu
  obtain ⟨e2,r2⟩:=gd_q gv hv
  rw [e1,e2]
  unfold doX
  rw [hg,if_neg (by decide),if_neg (by omega),show arith 7 (zz u) (zz v)=zz u*zz v from rfl,← addR_ex]
  exact Mul_q X (zz u) (zz v) r1 r2
theorem wQuo_do (u v:Nm) (hu:In2 u.2) (hv:In2 v.2):PSpec Tryz.prog X 186 [LI u.1 u.2,LI v.1 v.2] (exR (doX 8 u v)):=by
 cases hg:(gd u&&gd v) with
 | false =>
  rw [doX_bad hg]
  exact Quo_arg X u.1 v.1 u.2 v.2 hu hv (by rw [show (formB u.1 u.2&&formB v.1 v.2)=false from hg];rfl)
 | true =>
  obtain ⟨gu,gv⟩:=Bool.and_eq_true_iff.1 hg
  obtain ⟨e1,r1⟩:=gd_q gu hu
  obtain ⟨e2,r2⟩:=gd_q gv hv
  by_cases h0:zz v=0
  ·have hv0:v.2=0:=by
    have h1:zv v.1 v.2=0:=h0
    have h2:=hv
    unfold zv at h1
    unfold In2 at h2
    split at h1<;>omega
   rw [show doX 8 u v = .error 1 by unfold doX;rw [hg,if_neg (by decide),if_pos ⟨by decide,h0⟩]]
   exact Quo_arg X u.1 v.1 u.2 v.2 hu hv (by rw [hv0];simp)
  ·have hq:=(parts_facts r1 r2 h0).1
   rw [e1,e2]
   unfold doX
   rw [hg,if_neg (by decide),if_neg (fun h=>h0 h.2),show arith 8 (zz u) (zz v)=(zz u).tdiv (zz v) from rfl,if_pos hq]
   exact Quo_q X (zz u) (zz v) r1 r2 h0
theorem wRem_do (u v:Nm) (hu:In2 u.2) (hv:In2 v.2):PSpec Tryz.prog X 187 [LI u.1 u.2,LI v.1 v.2] (exR (doX 9 u v)):=by
 cases hg:(gd u&&gd v) with
 | false =>
  rw [doX_bad hg]
  exact Rem_arg X u.1 v.1 u.2 v.2 hu hv (by rw [show (formB u.1 u.2&&formB v.1 v.2)=false from hg];rfl)
 | true =>
  obtain ⟨gu,gv⟩:=Bool.and_eq_true_iff.1 hg
  obtain ⟨e1,r1⟩:=gd_q gu hu
  obtain ⟨e2,r2⟩:=gd_q gv hv
  by_cases h0:zz v=0
  ·have hv0:v.2=0:=by
    have h1:zv v.1 v.2=0:=h0
    have h2:=hv
    unfold zv at h1
    unfold In2 at h2
    split at h1<;>omega
   rw [show doX 9 u v = .error 1 by unfold doX;rw [hg,if_neg (by decide),if_pos ⟨by decide,h0⟩]]
   exact Rem_arg X u.1 v.1 u.2 v.2 hu hv (by rw [hv0];simp)
  ·have hq:=(parts_facts r1 r2 h0).2.1
   rw [e1,e2]
   unfold doX
   rw [hg,if_neg (by decide),if_neg (fun h=>h0 h.2),show arith 9 (zz u) (zz v)=(zz u).tmod (zz v) from rfl,if_pos hq]
   exact Rem_q X (zz u) (zz v) r1 r2 h0
def truX (x y:Nm) (b:Bool):Except Int Nm:=if (gd x&&gd y)=false then .error 1 else .ok (truth b)
def sameX (x y:Nm):Except Int Nm:=truX x y (decide (x=y))
def lessX (x y:Nm):Except Int Nm:=truX x y (decide (zz x<zz y))
def pickX (x y z:Nm):Except Int Nm:=if gd x=false then .error 1 else .ok (if x=(false,0) then z else y)
def needX (x y:Nm):Except Int Nm:=if gd y=false then .error 1 else if y=(false,0) then .error 9 else .ok x
theorem tForm (x:Nm) (hx:In2 x.2) (r:Bool) (h:gd x=r):PSpec Tryz.prog X 106 [LI x.1 x.2] (Lb r):=Form_spec X _ _ hx r h
theorem tTruth (x y:Nm) (hx:In2 x.2) (hy:In2 y.2) (b:Bool):PSpec Tryz.prog X 221 [LI x.1 x.2,LI y.1 y.2,Lb b] (exR (truX x y b)):=by
 cases h1:gd x with
 | false =>
  have f1:=tForm X x hx false h1
  rw [show truX x y b = .error 1 by unfold truX;rw [h1];rfl]
  refine cC Tryz.func221 rfl y5 rfl rfl ?_
  intro C
  (refine aA<|rgN<|aL O O O dO<|aL O O O dO<|aP O dO ?_;refine kas O<|aB<|aA<|aG<|aA<|rgN<|aK O O O dO ?_;refine kca O O f1<|aV O O dO<|kmv O<|aC O O O<|aC O O O<|aC O O O<|kpt O O<|kas O<|aB<|aE O ?_;refine aA<|rgN<|aT O O y2 y28 dO ?_;refine aM O O O O O O dO ?_;refine kas O<|aB<|aI ?_)
  exact y4
 | true =>
 have f1:=tForm X x hx true h1
 cases h2:gd y with
 | false =>
  have f2:=tForm X y hy false h2
  rw [show truX x y b = .error 1 by unfold truX;rw [h1,h2];rfl]
  refine cC Tryz.func221 rfl y5 rfl rfl ?_
  intro C
  (refine aA<|rgN<|aL O O O dO<|aL O O O dO<|aP O dO ?_;refine kas O<|aB<|aA<|aG<|aA<|rgN<|aK O O O dO ?_;refine kca O O f1<|aV O O dO<|kmv O<|aK O O O (dP O O) ?_;refine gca O O f2 O O<|aV O O (dP O O) ?_;refine kpf O O<|kas O<|aB<|aE O ?_;refine aA<|rgN<|aT O O y2 y28 dO ?_;refine aM O O O O O O dO ?_;refine kas O<|aB<|aI ?_)
  exact y4
 | true =>
 have f2:=tForm X y hy true h2
 rw [show truX x y b = .ok (truth b) by unfold truX;rw [h1,h2];rfl]
 cases b with
 | true =>
  have hO:=Of_spec X 1 y3
  refine cC Tryz.func221 rfl y5 rfl rfl ?_
  intro C
  (refine aA<|rgN<|aL O O O dO<|aL O O O dO<|aP O dO ?_;refine kas O<|aB<|aA<|aG<|aA<|rgN<|aK O O O dO ?_;refine kca O O f1<|aV O O dO<|kmv O<|aK O O O (dP O O) ?_;refine gca O O f2 O O<|aV O O (dP O O) ?_;refine kpf O O<|kas O<|aB<|aF O ?_;refine aA<|rgN<|kmv O<|kas O<|aB<|aE O ?_;refine aA<|rgN<|kca O O (hO)<|aM O O O O O O dO ?_;refine kas O<|aB<|aI ?_)
  exact y4
 | false =>
  have hO:=Of_spec X 0 y3
  refine cC Tryz.func221 rfl y5 rfl rfl ?_
  intro C
  (refine aA<|rgN<|aL O O O dO<|aL O O O dO<|aP O dO ?_;refine kas O<|aB<|aA<|aG<|aA<|rgN<|aK O O O dO ?_;refine kca O O f1<|aV O O dO<|kmv O<|aK O O O (dP O O) ?_;refine gca O O f2 O O<|aV O O (dP O O) ?_;refine kpf O O<|kas O<|aB<|aF O ?_;refine aA<|rgN<|kmv O<|kas O<|aB<|aF O ?_;refine aH ?_;refine aA<|rgN<|kca O O (hO)<|aM O O O O O O dO ?_;refine kas O<|aB<|aI ?_)
  exact y4
theorem tSame (x y:Nm) (hx:In2 x.2) (hy:In2 y.2):PSpec Tryz.prog X 193 [LI x.1 x.2,LI y.1 y.2] (exR (sameX x y)):=by
 have q:=eqI (b:=x.1) (b':=y.1) (h:=x.2/18446744073709551616) (h':=y.2/18446744073709551616) (l:=x.2%18446744073709551616) (l':=y.2%18446744073709551616) _ (eqN hx hy)
 unfold sameX
 have hT:=tTruth X x y hx hy (decide (x=y))
 rw [show decide (((x.1,x.2):Nm)=(y.1,y.2))=decide (x=y) from rfl] at q
 generalize decide (x=y)=z at *
 rw [exR_eq] at hT ⊢
 generalize exE (truX x y z)=e at *
 generalize exV (truX x y z)=v at *
 obtain ⟨vb,vN⟩:=v
 refine cC Tryz.func193 rfl y5 rfl rfl ?_
 intro C
 (refine aA<|rgN<|aL O O O dO<|aL O O O dO<|aP O dO ?_;refine kas O<|aB<|aA<|rgD mixed<|aK O O O dO ?_;refine aK O O O dO ?_;refine aK O O O dO ?_;refine aK O O O dO ?_;refine bQ O O O O y5 q (.inl ⟨O,O⟩) dO<|kca O O (hT)<|kex O O<|kex O O<|aM O O O O O O dO ?_;refine kas O<|aB<|rgA ?_;refine aI ?_)
 exact y4
theorem tCmp (x y:Nm) (hx:In2 x.2) (hy:In2 y.2):∃ r:Int,PSpec Tryz.prog X 150 [LI x.1 x.2,LI y.1 y.2] (Ln .i64 r)∧((gd x&&gd y)=true→decide (r<0)=decide (zz x<zz y)):=by
 cases h:(gd x&&gd y) with
 | false=>exact ⟨0,Cmp_bad X _ _ _ _ hx hy h,fun h'=>by cases h'⟩
 | true =>
  obtain ⟨gx,gy⟩:=Bool.and_eq_true_iff.1 h
  obtain ⟨e1,r1⟩:=gd_q gx hx
  obtain ⟨e2,r2⟩:=gd_q gy hy
  refine ⟨cmpI (zz x) (zz y),?_,fun _=>(cmp_lz (u:=x) (v:=y)).1⟩
  rw [e1,e2]
  exact Cmp_q X _ _ r1 r2 _ O
theorem tLess (x y:Nm) (hx:In2 x.2) (hy:In2 y.2):PSpec Tryz.prog X 191 [LI x.1 x.2,LI y.1 y.2] (exR (lessX x y)):=by
 obtain ⟨r,hC,hr⟩:=tCmp X x y hx hy
 have hT:=tTruth X x y hx hy (decide (r<0))
 have e:truX x y (decide (r<0))=lessX x y:=by
  unfold lessX
  cases h:(gd x&&gd y) with
  | false=>unfold truX;rw [h];rfl
  | true=>rw [hr h]
 rw [e] at hT
 rw [exR_eq] at hT ⊢
 generalize exE (lessX x y)=e at *
 generalize exV (lessX x y)=v at *
 obtain ⟨vb,vN⟩:=v
 refine cC Tryz.func191 rfl y5 rfl rfl ?_
 intro C
 (refine aA<|rgN<|aL O O O dO<|aL O O O dO<|aP O dO ?_;refine kas O<|aB<|aA<|rgD mixed<|aK O O O dO ?_;refine aK O O O dO ?_;refine aK O O O dO ?_;refine aK O O O dO ?_;refine kca O O (hC)<|klt O O O<|kca O O (hT)<|kex O O<|kex O O<|aM O O O O O O dO ?_;refine kas O<|aB<|rgA ?_;refine aI ?_)
 exact y4
theorem sgn_qn {x:Nm} (hx:In2 x.2) (g:gd x=true):sgnI (zz x)=0↔x=(false,0):=by
 obtain ⟨e1,r1⟩:=gd_q g hx
 have h:=eqZ (b:=x.1) hx
 obtain ⟨b,N⟩:=x
 unfold In2 at hx
 unfold gd formB at g
 unfold sgnI zz zv at *
 simp only at *
 constructor
 ·intro h0
  have hN:N=0:=by
   cases b<;>simp only [Bool.false_eq_true,if_false,if_true] at h0<;>(repeat' split at h0)<;>omega
  subst hN
  cases b with
  | false=>rfl
  | true=>simp at g
 ·intro e
  cases e
  rfl
theorem tSign (x:Nm) (hx:In2 x.2) (g:gd x=true):∃ s:Int,PSpec Tryz.prog X 224 [LI x.1 x.2] (Ln .i64 s)∧(s=0↔x=(false,0)):=by
 obtain ⟨e1,r1⟩:=gd_q g hx
 exact ⟨sgnI (zz x),by rw [e1];exact Sign_q X _ r1 _ rfl,sgn_qn hx g⟩
theorem tPick (x y z:Nm) (hx:In2 x.2):PSpec Tryz.prog X 195 [LI x.1 x.2,LI y.1 y.2,LI z.1 z.2] (exR (pickX x y z)):=by
 cases h1:gd x with
 | false =>
  have f1:=tForm X x hx false h1
  rw [show pickX x y z = .error 1 by unfold pickX;rw [h1];rfl]
  refine cC Tryz.func195 rfl y5 rfl rfl ?_
  intro C
  (refine aA<|rgN<|aL O O O dO<|aL O O O dO<|aL O O O dO<|aP O dO ?_;refine kas O<|aB<|aA<|aG<|aA<|rgN<|aK O O O dO ?_;refine kca O O (f1)<|aV O O dO<|kas O<|aB<|aE O ?_;refine aA<|rgN<|aT O O y2 y28 dO ?_;refine aM O O O O O O dO ?_;refine kas O<|aB<|aI ?_)
  exact y4
 | true =>
 have f1:=tForm X x hx true h1
 obtain ⟨s,hS,hs⟩:=tSign X x hx h1
 by_cases c:x=(false,0)
 ·rw [show pickX x y z = .ok z by unfold pickX;rw [h1,if_neg yA,if_pos c]]
  have c:=hs.2 c
  subst c
  refine cC Tryz.func195 rfl y5 rfl rfl ?_
  intro C
  (refine aA<|rgN<|aL O O O dO<|aL O O O dO<|aL O O O dO<|aP O dO ?_;refine kas O<|aB<|aA<|aG<|aA<|rgN<|aK O O O dO ?_;refine kca O O (f1)<|aV O O dO<|kas O<|aB<|aF O ?_;refine aA<|rgN<|aK O O O dO ?_;refine kca O O (hS)<|kne O O (r:=false) O<|kas O<|aB<|aF O ?_;refine aH ?_;refine aA<|rgN<|aK O O O dO ?_;refine aM O O O O O O dO ?_;refine kas O<|aB<|aI ?_)
  exact y4
 ·rw [show pickX x y z = .ok y by unfold pickX;rw [h1,if_neg yA,if_neg c]]
  have c:s≠0:=fun h=>c (hs.1 h)
  refine cC Tryz.func195 rfl y5 rfl rfl ?_
  intro C
  (refine aA<|rgN<|aL O O O dO<|aL O O O dO<|aL O O O dO<|aP O dO ?_;refine kas O<|aB<|aA<|aG<|aA<|rgN<|aK O O O dO ?_;refine kca O O (f1)<|aV O O dO<|kas O<|aB<|aF O ?_;refine aA<|rgN<|aK O O O dO ?_;refine kca O O (hS)<|kne O O (r:=true) (cP c)<|kas O<|aB<|aE O ?_;refine aA<|rgN<|aK O O O dO ?_;refine aM O O O O O O dO ?_;refine kas O<|aB<|aI ?_)
  exact y4
theorem tNeed (x y:Nm) (hy:In2 y.2):PSpec Tryz.prog X 196 [LI x.1 x.2,LI y.1 y.2] (exR (needX x y)):=by
 cases h1:gd y with
 | false =>
  have f1:=tForm X y hy false h1
  rw [show needX x y = .error 1 by unfold needX;rw [h1];rfl]
  refine cC Tryz.func196 rfl y5 rfl rfl ?_
  intro C
  (refine aA<|rgN<|aL O O O dO<|aL O O O dO<|aP O dO ?_;refine kas O<|aB<|aA<|aG<|aA<|rgN<|aK O O O dO ?_;refine kca O O (f1)<|aV O O dO<|kas O<|aB<|aE O ?_;refine aA<|rgN<|aT O O y2 y28 dO ?_;refine aM O O O O O O dO ?_;refine kas O<|aB<|aI ?_)
  exact y4
 | true =>
 have f1:=tForm X y hy true h1
 obtain ⟨s,hS,hs⟩:=tSign X y hy h1
 by_cases c:y=(false,0)
 ·rw [show needX x y = .error 9 by unfold needX;rw [h1,if_neg yA,if_pos c]]
  have c:=hs.2 c
  subst c
  refine cC Tryz.func196 rfl y5 rfl rfl ?_
  intro C
  (refine aA<|rgN<|aL O O O dO<|aL O O O dO<|aP O dO ?_;refine kas O<|aB<|aA<|aG<|aA<|rgN<|aK O O O dO ?_;refine kca O O (f1)<|aV O O dO<|kas O<|aB<|aF O ?_;refine aA<|rgN<|aK O O O dO ?_;refine kca O O (hS)<|keq O O (r:=true) O<|kas O<|aB<|aE O ?_;refine aA<|rgN<|aT O O y2 y28 dO ?_;refine aM O O O O O O dO ?_;refine kas O<|aB<|aI ?_)
  exact y4
 ·rw [show needX x y = .ok x by unfold needX;rw [h1,if_neg yA,if_neg c]]
  have c:s≠0:=fun h=>c (hs.1 h)
  refine cC Tryz.func196 rfl y5 rfl rfl ?_
  intro C
  (refine aA<|rgN<|aL O O O dO<|aL O O O dO<|aP O dO ?_;refine kas O<|aB<|aA<|aG<|aA<|rgN<|aK O O O dO ?_;refine kca O O (f1)<|aV O O dO<|kas O<|aB<|aF O ?_;refine aA<|rgN<|aK O O O dO ?_;refine kca O O (hS)<|keq O O (r:=false) (cN c)<|kas O<|aB<|aF O ?_;refine aH ?_;refine aA<|rgN<|aK O O O dO ?_;refine aM O O O O O O dO ?_;refine kas O<|aB<|aI ?_)
  exact y4
end Go.Proofs.YtopiioklkkiedaaGreatDoor
end
section
set_option maxHeartbeats 12800000
set_option maxRecDepth 100000
namespace Go.Proofs.YtopiioklkkiedaaGreatDoor
open Go Go.Lg Go.Lg.Fml Go.Lg.Fld Go.Lg.Arith
set_option maxRecDepth 100000
def MoreM (X Y:Nat→Option Obj):Prop := ∀ b o,X b=some o→Y b=some o
theorem MoreM.refl (X:Nat→Option Obj):MoreM X X:=fun _ _ h=>h
theorem MoreM.trans {X Y Z:Nat→Option Obj} (h:MoreM X Y) (h':MoreM Y Z):MoreM X Z:=fun b o hb=>h' b o (h b o hb)
abbrev capL (caps:List Value):List LV:=caps.map fun v=>.sv (.one (.val v))
def OneV (Y:Nat→Option Obj) (v:Value) (F:Nm→Except Int Nm):Prop := ∃ (f:FuncId) (caps:List Value),v = .func (.func f) #[] caps.toArray∧∀ Z,MoreM Y Z→∀ x:Nm,In2 x.2→PSpec Tryz.prog Z f ([LI x.1 x.2]++capL caps) (exR (F x))
def TwoV (Y:Nat→Option Obj) (v:Value) (F:Nm→Nm→Except Int Nm):Prop := ∃ (f:FuncId) (caps:List Value),v = .func (.func f) #[] caps.toArray∧∀ Z,MoreM Y Z→∀ x y:Nm,In2 x.2→In2 y.2→PSpec Tryz.prog Z f ([LI x.1 x.2,LI y.1 y.2]++capL caps) (exR (F x y))
def ThreeV (Y:Nat→Option Obj) (v:Value) (F:Nm→Nm→Nm→Except Int Nm):Prop := ∃ (f:FuncId) (caps:List Value),v = .func (.func f) #[] caps.toArray∧∀ Z,MoreM Y Z→∀ x y z:Nm,In2 x.2→In2 y.2→In2 z.2→PSpec Tryz.prog Z f ([LI x.1 x.2,LI y.1 y.2,LI z.1 z.2]++capL caps) (exR (F x y z))
structure EnvIn (Z:Nat→Option Obj) (fad:Option Addr) (fs:List (List Nm)) (at_:Int):Prop where
 fss:FssIn Z fad fs
 len:fs.length<4611686018427387904
 rows:∀ r∈fs,r.length<4611686018427387904
 place : -9223372036854775808≤at_∧at_<9223372036854775808
theorem EnvIn.mono {Y Z:Nat→Option Obj} (h:MoreM Y Z) {fad:Option Addr} {fs:List (List Nm)} {at_:Int} (e:EnvIn Y fad fs at_):EnvIn Z fad fs at_:=⟨e.fss.mono h,e.len,e.rows,e.place⟩
def DeedV (Y:Nat→Option Obj) (v:Value) (op:Int):Prop := ∃ (f:FuncId) (caps:List Value),v = .func (.func f) #[] caps.toArray∧∀ Z,MoreM Y Z→∀ x:Ins,x.op=op→smallI x→∀ (fad:Option Addr) (fcap:Nat) (fs:List (List Nm)) (at_:Int),EnvIn Z fad fs at_ →
 ∀ (tad:Option Addr) (tcap:Nat) (ts:List Nm),NumsIn Z tad ts→ts.length=takes op→PSpec Tryz.prog Z f ([LIn x,LEnv fad fs.length fcap at_,Lx tad ts.length tcap]++capL caps) (exR (oneX fs at_ x ts))
theorem DeedV.mono {Y Z:Nat→Option Obj} (h:MoreM Y Z) {v:Value} {op:Int} (hv:DeedV Y v op):DeedV Z v op:=by
 obtain ⟨f,caps,e,hp⟩:=hv
 exact ⟨f,caps,e,fun W hW=>hp W (h.trans hW)⟩
theorem two_fn (Y:Nat→Option Obj) {f:FuncId} {F:Nm→Nm→Except Int Nm} (h:∀ (Z:Nat→Option Obj) (x y:Nm),In2 x.2→In2 y.2→PSpec Tryz.prog Z f [LI x.1 x.2,LI y.1 y.2] (exR (F x y))):TwoV Y (.func (.func f) #[] #[]) F:=⟨f,[],rfl,fun Z _ x y hx hy=>h Z x y hx hy⟩
theorem three_fn (Y:Nat→Option Obj) {f:FuncId} {F:Nm→Nm→Nm→Except Int Nm} (h:∀ (Z:Nat→Option Obj) (x y z:Nm),In2 x.2→In2 y.2→In2 z.2→PSpec Tryz.prog Z f [LI x.1 x.2,LI y.1 y.2,LI z.1 z.2] (exR (F x y z))):ThreeV Y (.func (.func f) #[] #[]) F:=⟨f,[],rfl,fun Z _ x y z hx hy hz=>h Z x y z hx hy hz⟩
abbrev pv (blk:Nat):Value:=.pointer (some ⟨blk,0,none⟩)
section
variable {Y:Nat→Option Obj} {blk:Nat} {arr:Array Value} {el:TypeId} {fr:Nat×Nat} {v:Value}
theorem two_swapped {F:Nm→Nm→Except Int Nm} (hY:Y blk=some (.cells arr el fr)) (hv:arr[0]? = some v) (hF:TwoV Y v F):TwoV Y (.func (.func 222) #[] #[pv blk]) (fun x y=>F y x):=by
 obtain ⟨f,caps,rfl,hF⟩:=hF
 refine ⟨222,[pv blk],O,fun Z hZ x y hx hy => ?_⟩
 have hP:=hF Z hZ y x hy hx
 have hX:=hZ _ _ hY
 show PSpec _ Z _ [LI x.1 x.2,LI y.1 y.2,.sv (.one (.val (pv blk)))] (exR (F y x))
 rw [exR_eq] at hP ⊢
 generalize exE (F y x)=e at *
 generalize exV (F y x)=v at *
 obtain ⟨vb,vN⟩:=v
 refine cC Tryz.func222 rfl y5 rfl rfl ?_
 intro C
 (refine aA<|rgN<|aL O O O dO<|aL O O O dO<|aP O dO ?_;refine kas O<|aB<|aA<|rgN<|aW O hX O hv dO<|aK O O O dO ?_;refine aK O O O dO ?_;refine K.callF O O O hP dO ?_;refine kex O O<|kex O O<|aM O O O O O O dO ?_;refine kas O<|aB<|aI ?_)
 exact y4
def choX (G:Nm→Nm→Except Int Nm) (x y:Nm):Except Int Nm:=match G x y with | .error e=>.error e | .ok a=>pickX a x y
theorem two_chosen {F:Nm→Nm→Except Int Nm} (hY:Y blk=some (.cells arr el fr)) (hv:arr[0]? = some v) (hF:TwoV Y v F) (h2:∀ x y a,F x y = .ok a→In2 a.2) (hz:∀ x y e,F x y = .error e→e≠0):TwoV Y (.func (.func 220) #[] #[pv blk]) (choX F):=by
 obtain ⟨f,caps,rfl,hF⟩:=hF
 refine ⟨220,[pv blk],O,fun Z hZ x y hx hy => ?_⟩
 have hP:=hF Z hZ x y hx hy
 have hX:=hZ _ _ hY
 show PSpec _ Z _ [LI x.1 x.2,LI y.1 y.2,.sv (.one (.val (pv blk)))] (exR (choX F x y))
 unfold choX
 cases hf:F x y with
 | error e =>
  have he:=hz x y e hf
  rw [hf] at hP
  show PSpec _ Z _ _ (.tup [S0,Sn .i64 e])
  have hP:PSpec Tryz.prog Z f ([LI x.1 x.2,LI y.1 y.2]++capL caps) (.tup [S0,Sn .i64 e]):=hP
  refine cC Tryz.func220 rfl y5 rfl rfl ?_
  intro C
  (refine aA<|rgN<|aL O O O dO<|aL O O O dO<|aP O dO ?_;refine kas O<|aB<|aA<|rgN<|aW O hX O hv dO<|aK O O O dO ?_;refine aK O O O dO ?_;refine K.callF O O O hP dO ?_;refine kmv O<|kex O O<|kex O O<|aP O dO ?_;refine aM O O O O O O dO ?_;refine kas O<|aB<|aA<|aA<|rgN<|kmv O<|kne O O (r:=true) (cP he)<|aB<|aE O ?_;refine aA<|rgN<|aT O O y2 y28 dO ?_;refine kmv O<|aM O O O O O O dO ?_;refine kas O<|aB<|aI ?_)
  exact y4
 | ok a =>
  have ha:=h2 x y a hf
  rw [hf] at hP
  have hP:PSpec Tryz.prog Z f ([LI x.1 x.2,LI y.1 y.2]++capL caps) (.tup [SI a.1 a.2,Sn .i64 0]):=hP
  have hK:=tPick Z a x y ha
  show PSpec _ Z _ _ (exR (pickX a x y))
  rw [exR_eq] at hK ⊢
  generalize exE (pickX a x y)=e at *
  generalize exV (pickX a x y)=v at *
  obtain ⟨vb,vN⟩:=v
  refine cC Tryz.func220 rfl y5 rfl rfl ?_
  intro C
  (refine aA<|rgN<|aL O O O dO<|aL O O O dO<|aP O dO ?_;refine kas O<|aB<|aA<|rgN<|aW O hX O hv dO<|aK O O O dO ?_;refine aK O O O dO ?_;refine K.callF O O O hP dO ?_;refine kmv O<|kex O O<|kex O O<|aP O dO ?_;refine aM O O O O O O dO ?_;refine kas O<|aB<|aA<|aA<|rgN<|kmv O<|kne O O (r:=false) O<|aB<|aF O ?_;refine aH ?_;refine aA<|rgN<|aK O O O dO ?_;refine aK O O O dO ?_;refine aK O O O dO ?_;refine kca O O (hK)<|kex O O<|kex O O<|aM O O O O O O dO ?_;refine kas O<|aB<|aI ?_)
  exact y4
theorem one_zero {F:Nm→Nm→Except Int Nm} (hY:Y blk=some (.cells arr el fr)) (hv:arr[0]? = some v) (hF:TwoV Y v F):OneV Y (.func (.func 219) #[] #[pv blk]) (fun x=>F (false,0) x):=by
 obtain ⟨f,caps,rfl,hF⟩:=hF
 refine ⟨219,[pv blk],O,fun Z hZ x hx => ?_⟩
 have hP:PSpec Tryz.prog Z f ([.sv S0,LI x.1 x.2]++capL caps) (exR (F (false,0) x)):=hF Z hZ (false,0) x ⟨by decide,by decide⟩ hx
 have hX:=hZ _ _ hY
 show PSpec _ Z _ [LI x.1 x.2,.sv (.one (.val (pv blk)))] (exR (F (false,0) x))
 rw [exR_eq] at hP ⊢
 generalize exE (F (false,0) x)=e at *
 generalize exV (F (false,0) x)=v at *
 obtain ⟨vb,vN⟩:=v
 refine cC Tryz.func219 rfl y5 rfl rfl ?_
 intro C
 (refine aA<|rgN<|aL O O O dO<|aP O dO ?_;refine kas O<|aB<|aA<|rgN<|aW O hX O hv dO<|aT O O y2 y28 dO ?_;refine aK O O O dO ?_;refine K.callF O O O hP dO ?_;refine kex O O<|kex O O<|aM O O O O O O dO ?_;refine kas O<|aB<|aI ?_)
 exact y4
theorem deed_one {op:Int} {F:Nm→Except Int Nm} (ht:takes op=1) (hY:Y blk=some (.cells arr el fr)) (hv:arr[0]? = some v) (hF:OneV Y v F) (hop:∀ u,In2 u.2→nodeX op [u]=F u):DeedV Y (.func (.func 218) #[] #[pv blk]) op:=by
 obtain ⟨f,caps,rfl,hF⟩:=hF
 refine ⟨218,[pv blk],O,fun Z hZ x hxo hx fad fcap fs at_ hE tad tcap ts hts hlen => ?_⟩
 rw [ht] at hlen
 match ts,hlen,hts with
 | [u],_,hts =>
 have e1:oneX fs at_ x [u]=F u:=by unfold oneX;rw [hxo,if_neg (by rw [ht];decide),hop u (hts.in2 _ y21)]
 rw [e1]
 obtain ⟨tb,tof,ta,te,tf,rfl,hT,hall⟩:=hts.all (by show 0<1;omega)
 obtain ⟨i0,s0,c0⟩:=hall 0 _ _ rfl
 have h0:tof+Int.toNat 0*3=tof+0*3:=rfl
 have hb0:0≤(0:Int)∧(0:Int)<(1:Nat):=by omega
 have hP:=hF Z hZ u i0
 have hX:=hZ _ _ hY
 show PSpec _ Z _ [LIn x,LEnv fad fs.length fcap at_,Lx (some ⟨tb,tof,none⟩) 1 tcap,.sv (.one (.val (pv blk)))] (exR (F u))
 rw [exR_eq] at hP ⊢
 generalize exE (F u)=e at *
 generalize exV (F u)=v at *
 obtain ⟨vb,vN⟩:=v
 refine cC Tryz.func218 rfl y5 rfl rfl ?_
 intro C
 (refine aA<|rgN<|aL O O O dO<|aL O O O dO<|aP O dO ?_;refine kas O<|aB<|aA<|rgD mixed<|aW O hX O hv dO<|kmv O<|aR O O bZ hb0 h0 dO<|aY O hT y5 s0 c0 dO<|K.callF O O O hP dO ?_;refine kex O O<|kex O O<|aM O O O O O O dO ?_;refine kas O<|aB<|rgA ?_;refine aI ?_)
 exact y4
theorem deed_two {op:Int} {F:Nm→Nm→Except Int Nm} (ht:takes op=2) (hY:Y blk=some (.cells arr el fr)) (hv:arr[0]? = some v) (hF:TwoV Y v F) (hop:∀ u w,In2 u.2→In2 w.2→nodeX op [u,w]=F u w):DeedV Y (.func (.func 211) #[] #[pv blk]) op:=by
 obtain ⟨f,caps,rfl,hF⟩:=hF
 refine ⟨211,[pv blk],O,fun Z hZ x hxo hx fad fcap fs at_ hE tad tcap ts hts hlen => ?_⟩
 rw [ht] at hlen
 match ts,hlen,hts with
 | [u,z],_,hts =>
 have e1:oneX fs at_ x [u,z]=F u z:=by unfold oneX;rw [hxo,if_neg (by rw [ht];decide),hop u z (hts.in2 _ y21) (hts.in2 _ y21)]
 rw [e1]
 obtain ⟨tb,tof,ta,te,tf,rfl,hT,hall⟩:=hts.all y2F
 obtain ⟨i0,s0,c0⟩:=hall 0 _ _ rfl
 have h0:tof+Int.toNat 0*3=tof+0*3:=rfl
 have hb0:0≤(0:Int)∧(0:Int)<(2:Nat):=by omega
 obtain ⟨i1,s1,c1⟩:=hall 1 _ _ rfl
 have h1:tof+Int.toNat 1*3=tof+1*3:=rfl
 have hb1:0≤(1:Int)∧(1:Int)<(2:Nat):=by omega
 have hP:=hF Z hZ u z i0 i1
 have hX:=hZ _ _ hY
 show PSpec _ Z _ [LIn x,LEnv fad fs.length fcap at_,Lx (some ⟨tb,tof,none⟩) 2 tcap,.sv (.one (.val (pv blk)))] (exR (F u z))
 rw [exR_eq] at hP ⊢
 generalize exE (F u z)=e at *
 generalize exV (F u z)=v at *
 obtain ⟨vb,vN⟩:=v
 refine cC Tryz.func211 rfl y5 rfl rfl ?_
 intro C
 (refine aA<|rgN<|aL O O O dO<|aL O O O dO<|aP O dO ?_;refine kas O<|aB<|aA<|rgD mixed<|aW O hX O hv dO<|kmv O<|aR O O bZ hb0 h0 dO<|aY O hT y5 s0 c0 dO<|kmv O<|aR O O bZ hb1 h1 dO<|aY O hT y5 s1 c1 dO<|K.callF O O O hP dO ?_;refine kex O O<|kex O O<|aM O O O O O O dO ?_;refine kas O<|aB<|rgA ?_;refine aI ?_)
 exact y4
theorem deed_three {op:Int} {F:Nm→Nm→Nm→Except Int Nm} (ht:takes op=3) (hY:Y blk=some (.cells arr el fr)) (hv:arr[0]? = some v) (hF:ThreeV Y v F) (hop:∀ u w z,In2 u.2→In2 w.2→In2 z.2→nodeX op [u,w,z]=F u w z):DeedV Y (.func (.func 223) #[] #[pv blk]) op:=by
 obtain ⟨f,caps,rfl,hF⟩:=hF
 refine ⟨223,[pv blk],O,fun Z hZ x hxo hx fad fcap fs at_ hE tad tcap ts hts hlen => ?_⟩
 rw [ht] at hlen
 match ts,hlen,hts with
 | [u,z,q],_,hts =>
 have e1:oneX fs at_ x [u,z,q]=F u z q:=by unfold oneX;rw [hxo,if_neg (by rw [ht];decide),hop u z q (hts.in2 _ y21) (hts.in2 _ y21) (hts.in2 _ y21)]
 rw [e1]
 obtain ⟨tb,tof,ta,te,tf,rfl,hT,hall⟩:=hts.all (by show 0<3;omega)
 obtain ⟨i0,s0,c0⟩:=hall 0 _ _ rfl
 have h0:tof+Int.toNat 0*3=tof+0*3:=rfl
 have hb0:0≤(0:Int)∧(0:Int)<(3:Nat):=by omega
 obtain ⟨i1,s1,c1⟩:=hall 1 _ _ rfl
 have h1:tof+Int.toNat 1*3=tof+1*3:=rfl
 have hb1:0≤(1:Int)∧(1:Int)<(3:Nat):=by omega
 obtain ⟨i2,s2,c2⟩:=hall 2 _ _ rfl
 have h2:tof+Int.toNat 2*3=tof+2*3:=rfl
 have hb2:0≤(2:Int)∧(2:Int)<(3:Nat):=by omega
 have hP:=hF Z hZ u z q i0 i1 i2
 have hX:=hZ _ _ hY
 show PSpec _ Z _ [LIn x,LEnv fad fs.length fcap at_,Lx (some ⟨tb,tof,none⟩) 3 tcap,.sv (.one (.val (pv blk)))] (exR (F u z q))
 rw [exR_eq] at hP ⊢
 generalize exE (F u z q)=e at *
 generalize exV (F u z q)=v at *
 obtain ⟨vb,vN⟩:=v
 refine cC Tryz.func223 rfl y5 rfl rfl ?_
 intro C
 (refine aA<|rgN<|aL O O O dO<|aL O O O dO<|aP O dO ?_;refine kas O<|aB<|aA<|rgD mixed<|aW O hX O hv dO<|kmv O<|aR O O bZ hb0 h0 dO<|aY O hT y5 s0 c0 dO<|kmv O<|aR O O bZ hb1 h1 dO<|aY O hT y5 s1 c1 dO<|kmv O<|aR O O bZ hb2 h2 dO<|aY O hT y5 s2 c2 dO ?_;refine K.callF O O O hP dO ?_;refine kex O O<|kex O O<|aM O O O O O O dO ?_;refine kas O<|aB<|rgA ?_;refine aI ?_)
 exact y4
end
variable (X:Nat→Option Obj)
theorem tFind (fad:Option Addr) (fcap:Nat) (fs:List (List Nm)) (at_:Int) (hE:EnvIn X fad fs at_) (a b:Int) (ha : -9223372036854775808≤a∧a<9223372036854775808) (hb : -9223372036854775808≤b∧b<9223372036854775808):
  PSpec Tryz.prog X 210 [LEnv fad fs.length fcap at_,Ln .i64 a,Ln .i64 b] (exR (elemX fs a b)):=by
 have hfl:=hE.len
 by_cases c1:a<0
 ·rw [show elemX fs a b = .error 3 by unfold elemX;rw [if_pos (.inl c1)]]
  refine cC Tryz.func210 rfl y5 rfl rfl ?_
  intro C
  (refine aA<|rgN<|aL O O O dO<|aP O dO ?_;refine kas O<|aB<|aA<|aA<|rgN<|kmv O<|klt O O (r:=true) (cL c1)<|kmv O<|aC O O O<|aC O O O<|aC O O O<|aC O O O<|aC O O O<|kpt O O ?_;refine aB<|aE O ?_;refine aA<|rgN<|aT O O y2 y28 dO ?_;refine aM O O O O O O dO ?_;refine kas O<|aB<|aI ?_)
  exact y4
 by_cases c2:(fs.length:Int)≤a
 ·rw [show elemX fs a b = .error 3 by unfold elemX;split<;>first|rfl|(rw [List.getElem?_eq_none y3])]
  refine cC Tryz.func210 rfl y5 rfl rfl ?_
  intro C
  (refine aA<|rgN<|aL O O O dO<|aP O dO ?_;refine kas O<|aB<|aA<|aA<|rgN<|kmv O<|klt O O (r:=false) (cK c1)<|kmv O<|gmv O O O<|aN O O (dP O O) ?_;refine aO O O O (dP O O) ?_;refine aQ O bZ O (dP O O) ?_;refine bD O O (r:=true) (cL c2) (dP O O) ?_;refine kpf O O<|aB<|aE O ?_;refine aA<|rgN<|aT O O y2 y28 dO ?_;refine aM O O O O O O dO ?_;refine kas O<|aB<|aI ?_)
  exact y4
 obtain ⟨r,hr⟩:∃ r,fs[a.toNat]? = some r:=wg y3
 obtain ⟨blk,off,arr,el,fr,vad,vcap,rfl,hX,hsz,hcell,hN⟩:=hE.fss.at_ _ _ hr
 have hrl:=hE.rows r (cZ hr)
 have hio:off+Int.toNat a*1=off+a.toNat:=by omega
 by_cases c3:b<0
 ·rw [show elemX fs a b = .error 3 by unfold elemX;rw [if_pos (.inr c3)]]
  refine cC Tryz.func210 rfl y5 rfl rfl ?_
  intro C
  (refine aA<|rgN<|aL O O O dO<|aP O dO ?_;refine kas O<|aB<|aA<|aA<|rgN<|kmv O<|klt O O (r:=false) (cK c1)<|kmv O<|gmv O O O<|aN O O (dP O O) ?_;refine aO O O O (dP O O) ?_;refine aQ O bZ O (dP O O) ?_;refine bD O O (r:=false) (cK c2) (dP O O) ?_;refine kpf O O<|aB<|aF O ?_;refine aH ?_;refine aA<|rgN<|kfa O O ?_;refine kl1 O O O<|kmv O<|aR O O bZ y3 hio dO<|aW O hX O hcell dO<|kas O<|aB<|aA<|aA<|rgN<|kmv O<|klt O O (r:=true) (cL c3)<|kmv O<|aC O O O<|aC O O O ?_;refine aC O O O<|aC O O O<|kpt O O<|aB<|aE O ?_;refine aA<|rgN<|aT O O y2 y28 dO ?_;refine aM O O O O O O dO ?_;refine kas O<|aB<|aI ?_)
  exact y4
 by_cases c4:(r.length:Int)≤b
 ·rw [show elemX fs a b = .error 3 by unfold elemX;rw [if_neg y3,hr];simp only;rw [List.getElem?_eq_none y3]]
  refine cC Tryz.func210 rfl y5 rfl rfl ?_
  intro C
  (refine aA<|rgN<|aL O O O dO<|aP O dO ?_;refine kas O<|aB<|aA<|aA<|rgN<|kmv O<|klt O O (r:=false) (cK c1)<|kmv O<|gmv O O O<|aN O O (dP O O) ?_;refine aO O O O (dP O O) ?_;refine aQ O bZ O (dP O O) ?_;refine bD O O (r:=false) (cK c2) (dP O O) ?_;refine kpf O O<|aB<|aF O ?_;refine aH ?_;refine aA<|rgN<|kfa O O ?_;refine kl1 O O O<|kmv O<|aR O O bZ y3 hio dO<|aW O hX O hcell dO<|kas O<|aB<|aA<|aA<|rgN<|kmv O<|klt O O (r:=false) (cK c3)<|kmv O<|gmv O O O<|gmv O O O ?_;refine aQ O bZ O (dP O O) ?_;refine bD O O (r:=true) (cL c4) (dP O O) ?_;refine kpf O O<|aB<|aE O ?_;refine aA<|rgN<|aT O O y2 y28 dO ?_;refine aM O O O O O O dO ?_;refine kas O<|aB<|aI ?_)
  exact y4
 obtain ⟨⟨vb,vN⟩,hv⟩:∃ v,r[b.toNat]? = some v:=wg y3
 obtain ⟨_,blk2,off2,arr2,el2,fr2,rfl,hX2,hsz2,hcs2⟩:=hN.at hv
 have hio2:off2+Int.toNat b*3=off2+b.toNat*3:=rfl
 rw [show elemX fs a b = .ok (vb,vN) by unfold elemX;rw [if_neg (by omega),hr];simp only;rw [hv]]
 refine cC Tryz.func210 rfl y5 rfl rfl ?_
 intro C
 (refine aA<|rgN<|aL O O O dO<|aP O dO ?_;refine kas O<|aB<|aA<|aA<|rgN<|kmv O<|klt O O (r:=false) (cK c1)<|kmv O<|gmv O O O<|aN O O (dP O O) ?_;refine aO O O O (dP O O) ?_;refine aQ O bZ O (dP O O) ?_;refine bD O O (r:=false) (cK c2) (dP O O) ?_;refine kpf O O<|aB<|aF O ?_;refine aH ?_;refine aA<|rgN<|kfa O O ?_;refine kl1 O O O<|kmv O<|aR O O bZ y3 hio dO<|aW O hX O hcell dO<|kas O<|aB<|aA<|aA<|rgN<|kmv O<|klt O O (r:=false) (cK c3)<|kmv O<|gmv O O O<|gmv O O O ?_;refine aQ O bZ O (dP O O) ?_;refine bD O O (r:=false) (cK c4) (dP O O) ?_;refine kpf O O<|aB<|aF O ?_;refine aH ?_;refine aA<|rgN<|kmv O<|kmv O<|aR O O bZ y3 hio2 dO<|aY O hX2 y5 hsz2 hcs2 dO<|aM O O O O O O dO ?_;refine kas O<|aB<|aI ?_)
 exact y4
theorem deed_num:DeedV X (.func (.func 178) #[] #[]) 1:=by
 refine ⟨178,[],O,fun Z hZ x hxo hx fad fcap fs at_ hE tad tcap ts hts hlen => ?_⟩
 rw [show oneX fs at_ x ts = .ok x.k by unfold oneX leafX;rw [hxo];rfl]
 show PSpec _ Z _ [LIn x,LEnv fad fs.length fcap at_,Lx tad ts.length tcap] (.tup [SI x.k.1 x.k.2,Sn .i64 0])
 refine cC Tryz.func178 rfl y5 rfl rfl ?_
 intro C
 (refine aA<|rgN<|aL O O O dO<|aL O O O dO<|aP O dO ?_;refine kas O<|aB<|aA<|rgN<|kfa O O ?_;refine bJ O O O y28 dO ?_;refine aM O O O O O O dO ?_;refine kas O<|aB<|aI ?_)
 exact y4
theorem deed_elem:DeedV X (.func (.func 179) #[] #[]) 2:=by
 refine ⟨179,[],O,fun Z hZ x hxo hx fad fcap fs at_ hE tad tcap ts hts hlen => ?_⟩
 rw [show oneX fs at_ x ts=elemX fs x.a x.b by unfold oneX leafX;rw [hxo];rfl]
 have hP:=tFind Z fad fcap fs at_ hE x.a x.b hx.2.1 hx.2.2.1
 show PSpec _ Z _ [LIn x,LEnv fad fs.length fcap at_,Lx tad ts.length tcap] (exR (elemX fs x.a x.b))
 rw [exR_eq] at hP ⊢
 generalize exE (elemX fs x.a x.b)=e at *
 generalize exV (elemX fs x.a x.b)=v at *
 obtain ⟨vb,vN⟩:=v
 refine cC Tryz.func179 rfl y5 rfl rfl ?_
 intro C
 (refine aA<|rgN<|aL O O O dO<|aL O O O dO<|aP O dO ?_;refine kas O<|aB<|aA<|rgN<|aK O O O dO ?_;refine kfa O O ?_;refine kl1 O O O<|kfa O O ?_;refine kl1 O O O<|kca O O (hP)<|kex O O<|kex O O<|aM O O O O O O dO ?_;refine kas O<|aB<|aI ?_)
 exact y4
theorem deed_here:DeedV X (.func (.func 180) #[] #[]) 3:=by
 refine ⟨180,[],O,fun Z hZ x hxo hx fad fcap fs at_ hE tad tcap ts hts hlen => ?_⟩
 rw [show oneX fs at_ x ts=elemX fs x.a at_ by unfold oneX leafX;rw [hxo];rfl]
 have hP:=tFind Z fad fcap fs at_ hE x.a at_ hx.2.1 hE.place
 show PSpec _ Z _ [LIn x,LEnv fad fs.length fcap at_,Lx tad ts.length tcap] (exR (elemX fs x.a at_))
 rw [exR_eq] at hP ⊢
 generalize exE (elemX fs x.a at_)=e at *
 generalize exV (elemX fs x.a at_)=v at *
 obtain ⟨vb,vN⟩:=v
 refine cC Tryz.func180 rfl y5 rfl rfl ?_
 intro C
 (refine aA<|rgN<|aL O O O dO<|aL O O O dO<|aP O dO ?_;refine kas O<|aB<|aA<|rgN<|aK O O O dO ?_;refine kfa O O ?_;refine kl1 O O O<|kfa O O ?_;refine kl1 O O O<|kca O O (hP)<|kex O O<|kex O O<|aM O O O O O O dO ?_;refine kas O<|aB<|aI ?_)
 exact y4
theorem deed_place:DeedV X (.func (.func 181) #[] #[]) 4:=by
 refine ⟨181,[],O,fun Z hZ x hxo hx fad fcap fs at_ hE tad tcap ts hts hlen => ?_⟩
 have hpl:=hE.place
 rw [show oneX fs at_ x ts=(if at_<0 then .error 3 else .ok (false,at_)) by unfold oneX leafX;rw [hxo];rfl]
 show PSpec _ Z _ [LIn x,LEnv fad fs.length fcap at_,Lx tad ts.length tcap] _
 by_cases c:at_<0
 ·rw [if_pos c]
  refine cC Tryz.func181 rfl y5 rfl rfl ?_
  intro C
  (refine aA<|rgN<|aL O O O dO<|aL O O O dO<|aP O dO ?_;refine kas O<|aB<|aA<|aA<|rgN<|kfa O O ?_;refine kl1 O O O<|klt O O (r:=true) (cL c)<|aB<|aE O ?_;refine aA<|rgN<|aT O O y2 y28 dO ?_;refine aM O O O O O O dO ?_;refine kas O<|aB<|aI ?_)
  exact y4
 ·rw [if_neg c]
  have hO:=Of_spec Z at_ hpl
  rw [show LQ at_=LI false at_ by unfold LQ;rw [mg_pos (by omega),cK c]] at hO
  show PSpec _ Z _ _ (.tup [SI false at_,Sn .i64 0])
  refine cC Tryz.func181 rfl y5 rfl rfl ?_
  intro C
  (refine aA<|rgN<|aL O O O dO<|aL O O O dO<|aP O dO ?_;refine kas O<|aB<|aA<|aA<|rgN<|kfa O O ?_;refine kl1 O O O<|klt O O (r:=false) (cK c)<|aB<|aF O ?_;refine aH ?_;refine aA<|rgN<|kfa O O ?_;refine kl1 O O O<|kca O O (hO)<|aM O O O O O O dO ?_;refine kas O<|aB<|aI ?_)
  exact y4
end Go.Proofs.YtopiioklkkiedaaGreatDoor
end
section
set_option maxHeartbeats 12800000
set_option maxRecDepth 100000
namespace Go.Proofs.YtopiioklkkiedaaGreatDoor
open Go Go.Lg Go.Lg.Fml Go.Lg.Fld Go.Lg.Arith
set_option maxRecDepth 100000
abbrev ptrF (f:FuncId) (k:Nat):CV:=.fn (.func f) (fun i=>[pv i]) k
abbrev fnV (f:FuncId):Value:=.func (.func f) #[] #[]
abbrev vB (t:TypeId) (k:Nat) (c:CV):Nat×Option Box:=(k,some ⟨t,[c],false⟩)
variable (X:Nat→Option Obj)
theorem mA_ofTwo (g:FuncId):MSpec Tryz.prog X 182 [.sv (.one (.val (fnV g)))] [] (.sv (.one (ptrF 211 1000001))) [vB 275 1000001 (.val (fnV g))]:=by
 refine cD Tryz.func182 rfl y5 rfl y7 y7 rfl rfl ?_
 intro C
 (refine aA<|rgN<|K.box1 O O O dO<|kas O<|aB<|aA<|rgN<|K.makeFuncP O O dO ?_;refine kas O<|aB<|aI ?_)
 exact ⟨[(1000001,1)],⟨[_],⟨O,trivial⟩,O⟩,y1,O,O⟩
theorem mB_ofTwo (g h:FuncId) (t:TypeId):MSpec Tryz.prog X 182 [.sv (.one (ptrF g 1000002))] [vB t 1000002 (.val (fnV h))] (.sv (.one (ptrF 211 1000001))) [vB 275 1000001 (ptrF g 1000002),vB t 1000002 (.val (fnV h))]:=by
 refine cD Tryz.func182 rfl y5 rfl y7 y7 rfl rfl ?_
 intro C
 (refine aA<|rgN<|K.box1 O O O dO<|kas O<|aB<|aA<|rgN<|K.makeFuncP O O dO ?_;refine kas O<|aB<|aI ?_)
 exact ⟨[(1000001,1)],⟨[_],⟨O,trivial⟩,O⟩,y1,O,O⟩
theorem mC_ofTwo (g h i:FuncId) (t:TypeId):MSpec Tryz.prog X 182 [.sv (.one (ptrF g 1000002))] [vB t 1000002 (ptrF h 1000003),vB t 1000003 (.val (fnV i))] (.sv (.one (ptrF 211 1000001))) [vB 275 1000001 (ptrF g 1000002),vB t 1000002 (ptrF h 1000003),vB t 1000003 (.val (fnV i))]:=by
 refine cD Tryz.func182 rfl y5 rfl y7 y7 rfl rfl ?_
 intro C
 (refine aA<|rgN<|K.box1 O O O dO<|kas O<|aB<|aA<|rgN<|K.makeFuncP O O dO ?_;refine kas O<|aB<|aI ?_)
 exact ⟨[(1000001,1)],⟨[_],⟨O,trivial⟩,O⟩,y1,O,O⟩
theorem mB_ofOne (g h:FuncId) (t:TypeId):MSpec Tryz.prog X 188 [.sv (.one (ptrF g 1000002))] [vB t 1000002 (.val (fnV h))] (.sv (.one (ptrF 218 1000001))) [vB 273 1000001 (ptrF g 1000002),vB t 1000002 (.val (fnV h))]:=by
 refine cD Tryz.func188 rfl y5 rfl y7 y7 rfl rfl ?_
 intro C
 (refine aA<|rgN<|K.box1 O O O dO<|kas O<|aB<|aA<|rgN<|K.makeFuncP O O dO ?_;refine kas O<|aB<|aI ?_)
 exact ⟨[(1000001,1)],⟨[_],⟨O,trivial⟩,O⟩,y1,O,O⟩
theorem mA_ofThree (g:FuncId):MSpec Tryz.prog X 194 [.sv (.one (.val (fnV g)))] [] (.sv (.one (ptrF 223 1000001))) [vB 297 1000001 (.val (fnV g))]:=by
 refine cD Tryz.func194 rfl y5 rfl y7 y7 rfl rfl ?_
 intro C
 (refine aA<|rgN<|K.box1 O O O dO<|kas O<|aB<|aA<|rgN<|K.makeFuncP O O dO ?_;refine kas O<|aB<|aI ?_)
 exact ⟨[(1000001,1)],⟨[_],⟨O,trivial⟩,O⟩,y1,O,O⟩
theorem mA_withZero (g:FuncId):MSpec Tryz.prog X 189 [.sv (.one (.val (fnV g)))] [] (.sv (.one (ptrF 219 1000001))) [vB 275 1000001 (.val (fnV g))]:=by
 refine cD Tryz.func189 rfl y5 rfl y7 y7 rfl rfl ?_
 intro C
 (refine aA<|rgN<|K.box1 O O O dO<|kas O<|aB<|aA<|rgN<|K.makeFuncP O O dO ?_;refine kas O<|aB<|aI ?_)
 exact ⟨[(1000001,1)],⟨[_],⟨O,trivial⟩,O⟩,y1,O,O⟩
theorem mA_chosen (g:FuncId):MSpec Tryz.prog X 190 [.sv (.one (.val (fnV g)))] [] (.sv (.one (ptrF 220 1000001))) [vB 275 1000001 (.val (fnV g))]:=by
 refine cD Tryz.func190 rfl y5 rfl y7 y7 rfl rfl ?_
 intro C
 (refine aA<|rgN<|K.box1 O O O dO<|kas O<|aB<|aA<|rgN<|K.makeFuncP O O dO ?_;refine kas O<|aB<|aI ?_)
 exact ⟨[(1000001,1)],⟨[_],⟨O,trivial⟩,O⟩,y1,O,O⟩
theorem mB_chosen (g h:FuncId) (t:TypeId):MSpec Tryz.prog X 190 [.sv (.one (ptrF g 1000002))] [vB t 1000002 (.val (fnV h))] (.sv (.one (ptrF 220 1000001))) [vB 275 1000001 (ptrF g 1000002),vB t 1000002 (.val (fnV h))]:=by
 refine cD Tryz.func190 rfl y5 rfl y7 y7 rfl rfl ?_
 intro C
 (refine aA<|rgN<|K.box1 O O O dO<|kas O<|aB<|aA<|rgN<|K.makeFuncP O O dO ?_;refine kas O<|aB<|aI ?_)
 exact ⟨[(1000001,1)],⟨[_],⟨O,trivial⟩,O⟩,y1,O,O⟩
theorem mA_swapped (g:FuncId):MSpec Tryz.prog X 192 [.sv (.one (.val (fnV g)))] [] (.sv (.one (ptrF 222 1000001))) [vB 275 1000001 (.val (fnV g))]:=by
 refine cD Tryz.func192 rfl y5 rfl y7 y7 rfl rfl ?_
 intro C
 (refine aA<|rgN<|K.box1 O O O dO<|kas O<|aB<|aA<|rgN<|K.makeFuncP O O dO ?_;refine kas O<|aB<|aI ?_)
 exact ⟨[(1000001,1)],⟨[_],⟨O,trivial⟩,O⟩,y1,O,O⟩
def deedR (f:FuncId) (op:Int):Rsc:=⟨fun ρ H=>DeedV H (.func (.func f) #[] #[pv ρ.1]) op⟩
section
variable {X:Nat→Option Obj} {n:Nat} {C:Ctx} {Mid:St→Prop} {s:List (Nat×LV)} {bx:List (Nat×Option Box)} {k k1 k2 k3:Nat} {t1 t2 t3:TypeId} {f g h:FuncId} {op:Int} {v:Value}
theorem deed_shut1 (hD:∀ (Y:Nat→Option Obj) b a e fr,Y b=some (.cells a e fr)→a[0]? = some v→DeedV Y (.func (.func f) #[] #[pv b]) op)
  (hl:Leads n C Mid ⟨s,(k,some ⟨0,[],.res (deedR f op)⟩)::bx,X⟩):Leads n C Mid ⟨s,vB t1 k (.val v)::bx,X⟩:=by
 have:=Leads.closeRes (el:=t1) (H:=fun _=>none) (vals:=[v]) (R:=deedR f op) (OwnedM.nil C X) (fun ρ fr _ _ _=>hD _ ρ.1 _ t1 fr (cJ _ _ _) rfl) hl
 rw [joinM_nil] at this
 exact this
theorem deed_shut2 (hD:∀ (Y:Nat→Option Obj) b a e fr b' a' e' fr',Y b=some (.cells a e fr)→a[0]? = some v→Y b'=some (.cells a' e' fr')→a'[0]? = some (.func (.func g) #[] #[pv b])→DeedV Y (.func (.func f) #[] #[pv b']) op)
  (h1:Go.Lg.look k1 (vB t2 k2 (ptrF g k1)::bx)=none) (h2:s.all (fun p=>p.2.inUse (vB t2 k2 (ptrF g k1)::bx))=true) (h3:bx.all (fun p=>match p.2 with|some b=>b.cells.all (CV.inUse (vB t2 k2 (ptrF g k1)::bx))|none=>true)=true)
  (hl:Leads n C Mid ⟨s,(k2,some ⟨0,[],.res (deedR f op)⟩)::bx,X⟩):Leads n C Mid ⟨s,vB t2 k2 (ptrF g k1)::vB t1 k1 (.val v)::bx,X⟩:=by
 refine Leads.fixBox (vals:=[v]) (el:=t1) (row:=false) [] [vB t2 k2 (ptrF g k1)] h1 h2 h3 rfl (by simp [CV.fixIn]) ?_
 intro blk arr fr hX hF hsp
 obtain ⟨sp,hsp⟩:=hsp
 have ha:arr[0]? = some v:=by rw [← Array.getElem?_toList,hsp];rfl
 have hO:OwnedM C X (withBlock (fun _=>none) blk (.cells arr t1 fr)):=(OwnedM.nil C X).more hF (by rw [joinM_nil];exact hX)
 have e:withBlock X blk (.cells arr t1 fr)=joinM X (withBlock (fun _=>none) blk (.cells arr t1 fr)):=by rw [← joinM_with,joinM_nil]
 rw [e]
 have hfix:fixB k1 blk [vB t2 k2 (ptrF g k1)]++bx=(k2,some ⟨t2,([.func (.func g) #[] #[pv blk]]:List Value).map .val,false⟩)::bx:=by
  simp [fixB,Box.fix,CV.fix,Nat.beq_refl]
 rw [hfix]
 refine Leads.closeRes hO (fun ρ fr2 h5 h6 _ => ?_) hl
 exact hD _ blk arr t1 fr ρ.1 _ t2 fr2 (cF h5 _ _ (cJ _ _ _)) ha (cJ _ _ _) O
theorem deed_shut3 (hD:∀ (Y:Nat→Option Obj) b a e fr b' a' e' fr' b2 a2 e2 fr2,Y b=some (.cells a e fr)→a[0]? = some v→Y b'=some (.cells a' e' fr')→a'[0]? = some (.func (.func h) #[] #[pv b])→Y b2=some (.cells a2 e2 fr2)→a2[0]? = some (.func (.func g) #[] #[pv b'])→DeedV Y (.func (.func f) #[] #[pv b2]) op)
  (h1:Go.Lg.look k1 (vB t3 k3 (ptrF g k2)::vB t2 k2 (ptrF h k1)::bx)=none) (h2:s.all (fun p=>p.2.inUse (vB t3 k3 (ptrF g k2)::vB t2 k2 (ptrF h k1)::bx))=true) (h3:bx.all (fun p=>match p.2 with|some b=>b.cells.all (CV.inUse (vB t3 k3 (ptrF g k2)::vB t2 k2 (ptrF h k1)::bx))|none=>true)=true)
  (h1':Go.Lg.look k2 (vB t3 k3 (ptrF g k2)::bx)=none) (h2':s.all (fun p=>p.2.inUse (vB t3 k3 (ptrF g k2)::bx))=true) (h3':bx.all (fun p=>match p.2 with|some b=>b.cells.all (CV.inUse (vB t3 k3 (ptrF g k2)::bx))|none=>true)=true) (h4:Nat.beq k2 k1=false)
  (hl:Leads n C Mid ⟨s,(k3,some ⟨0,[],.res (deedR f op)⟩)::bx,X⟩):Leads n C Mid ⟨s,vB t3 k3 (ptrF g k2)::vB t2 k2 (ptrF h k1)::vB t1 k1 (.val v)::bx,X⟩:=by
 have h5:(Go.Lg.look k2 (vB t3 k3 (ptrF g k2)::vB t2 k2 (ptrF h k1)::bx)).isSome=true:=by
  cases hb:Nat.beq k3 k2 with
  | true=>simp only [Go.Lg.look,hb,cond_true];rfl
  | false=>simp only [Go.Lg.look,hb,cond_false,Nat.beq_refl,cond_true];rfl
 refine Leads.fixBox (vals:=[v]) (el:=t1) (row:=false) [] [vB t3 k3 (ptrF g k2),vB t2 k2 (ptrF h k1)] h1 h2 h3 rfl (by simp only [List.all_cons,List.all_nil,CV.fixIn,Nat.beq_refl,Bool.true_or,Bool.and_true,Bool.or_eq_true];exact .inr h5) ?_
 intro blk arr fr hX hF hsp
 obtain ⟨sp,hsp⟩:=hsp
 have ha:arr[0]? = some v:=by rw [← Array.getElem?_toList,hsp];rfl
 have hO:OwnedM C X (withBlock (fun _=>none) blk (.cells arr t1 fr)):=(OwnedM.nil C X).more hF (by rw [joinM_nil];exact hX)
 have e:withBlock X blk (.cells arr t1 fr)=joinM X (withBlock (fun _=>none) blk (.cells arr t1 fr)):=by rw [← joinM_with,joinM_nil]
 rw [e]
 have hfix:fixB k1 blk [vB t3 k3 (ptrF g k2),vB t2 k2 (ptrF h k1)]++bx=vB t3 k3 (ptrF g k2)::(k2,some ⟨t2,([.func (.func h) #[] #[pv blk]]:List Value).map .val,false⟩)::bx:=by
  simp [fixB,Box.fix,CV.fix,Nat.beq_refl,h4]
 rw [hfix]
 refine Leads.fixBox (vals:=[.func (.func h) #[] #[pv blk]]) (el:=t2) (row:=false) [] [vB t3 k3 (ptrF g k2)] h1' h2' h3' rfl (by simp [CV.fixIn]) ?_
 intro blk2 arr2 fr2 hX2 hF2 hsp2
 obtain ⟨sp2,hsp2⟩:=hsp2
 have ha2:arr2[0]? = some (.func (.func h) #[] #[pv blk]):=by rw [← Array.getElem?_toList,hsp2];rfl
 have hO2:=hO.more (el:=t2) hF2 hX2
 have hn2:=(joinM_none hX2).1
 rw [joinM_with]
 have hfix:fixB k2 blk2 [vB t3 k3 (ptrF g k2)]++bx=(k3,some ⟨t3,([.func (.func g) #[] #[pv blk2]]:List Value).map .val,false⟩)::bx:=by
  simp [fixB,Box.fix,CV.fix,Nat.beq_refl]
 rw [hfix]
 refine Leads.closeRes hO2 (fun ρ fr3 h5 h6 _ => ?_) hl
 exact hD _ blk arr t1 fr blk2 arr2 t2 fr2 ρ.1 _ t3 fr3 (cF h5 _ _ (cF hn2 _ _ (cJ _ _ _))) ha (cF h5 _ _ (cJ _ _ _)) ha2 (cJ _ _ _) O
end
theorem gd_truth (b:Bool):gd (truth b)=true:=by cases b<;>rfl
theorem pick_truth (b:Bool) (x y:Nm):pickX (truth b) x y = .ok (if b=true then x else y):=by
 unfold pickX
 rw [gd_truth,if_neg (by decide)]
 cases b
 ·rw [if_pos (show truth false=(false,0) from rfl)];rfl
 ·rw [if_neg (show truth true≠(false,0) by decide)];rfl
theorem zz_inj {x y:Nm} (hx:In2 x.2) (hy:In2 y.2) (gx:gd x=true) (gy:gd y=true) (h:zz x=zz y):x=y:=by
 obtain ⟨a,M⟩:=x
 obtain ⟨b,N⟩:=y
 unfold gd formB at gx gy
 unfold zz zv at h
 unfold In2 at hx hy
 simp only at *
 cases a<;>cases b<;>simp_all<;>omega
theorem node_neg {u:Nm} (hu:In2 u.2):nodeX 10 [u]=doX 6 (false,0) u:=by
 rw [nodeX]
 unfold doX
 rw [show (gd (false,0)&&gd u)=gd u by rw [show gd (false,0)=true from rfl,Bool.true_and]]
 cases g:gd u with
 | false=>rfl
 | true =>
  have hr:=(gd_q g hu).2
  rw [if_neg (by decide),if_pos rfl,if_neg (by decide),if_neg (by omega),show arith 6 (zz (false,0)) (zz u) = -(zz u) by unfold arith;rw [if_neg (by decide),if_pos rfl,show zz (false,0)=0 from rfl];omega,if_pos (by unfold R127 at *;omega)]
theorem node_not (u:Nm):nodeX 15 [u]=sameX (false,0) u:=by
 rw [nodeX]
 unfold sameX truX
 rw [show (gd (false,0)&&gd u)=gd u by rw [show gd (false,0)=true from rfl,Bool.true_and],if_neg (show ¬ (15:Int)=10 by decide)]
 have e:decide (((false,0):Nm)=u)=decide (u=(false,0)):=by
  by_cases h:u=(false,0)
  ·rw [cL h,cL h.symm]
  ·rw [cK h,cK (fun e=>h e.symm)]
 rw [e]
theorem less_ok {x y a:Nm} (h:lessX x y = .ok a):In2 a.2:=by
 unfold lessX truX at h
 split at h
 ·cases h
 ·cases h;exact truth_in2 _
theorem less_err {x y:Nm} {e:Int} (h:lessX x y = .error e):e≠0:=by
 unfold lessX truX at h
 split at h
 ·cases h;decide
 ·cases h
theorem node_least {x y:Nm} (hx:In2 x.2) (hy:In2 y.2):nodeX 11 [x,y]=choX lessX x y:=by
 rw [nodeX]
 rw [if_neg (by decide),if_neg (by decide),if_pos (rfl:(11:Int)=11)]
 unfold choX lessX truX
 cases g:(gd x&&gd y) with
 | false=>rfl
 | true =>
  obtain ⟨gx,gy⟩:=Bool.and_eq_true_iff.1 g
  simp only [Bool.true_eq_false,if_false,pick_truth]
  by_cases h:zz x<zz y
  ·rw [if_neg y3,if_pos (cL h)]
  ·rw [if_neg (show ¬ decide (zz x<zz y)=true by rw [cK h];decide)]
   by_cases h2:zz y<zz x
   ·rw [if_pos h2]
   ·rw [if_neg h2,zz_inj hx hy gx gy y3]
theorem node_great {x y:Nm} (hx:In2 x.2) (hy:In2 y.2):nodeX 12 [x,y]=choX (fun x y=>lessX y x) x y:=by
 rw [nodeX]
 rw [if_neg (by decide),if_neg (by decide),if_neg (show ¬ (12:Int)=11 by decide),if_pos (rfl:(12:Int)=12)]
 unfold choX lessX truX
 simp only
 rw [Bool.and_comm]
 cases g:(gd y&&gd x) with
 | false=>rfl
 | true =>
  obtain ⟨gy,gx⟩:=Bool.and_eq_true_iff.1 g
  simp only [Bool.true_eq_false,if_false,pick_truth]
  by_cases h:zz y<zz x
  ·rw [if_neg y3,if_pos (cL h)]
  ·rw [if_neg (show ¬ decide (zz y<zz x)=true by rw [cK h];decide)]
   by_cases h2:zz x<zz y
   ·rw [if_pos h2]
   ·rw [if_neg h2,zz_inj hx hy gx gy y3]
theorem node_same (x y:Nm):nodeX 13 [x,y]=sameX x y:=by
 rw [nodeX]
 rw [if_neg (by decide),if_neg (by decide),if_neg (show ¬ (13:Int)=11 by decide),if_neg (show ¬ (13:Int)=12 by decide),if_pos (rfl:(13:Int)=13)]
 rfl
theorem node_less (x y:Nm):nodeX 14 [x,y]=lessX x y:=by
 rw [nodeX]
 rw [if_neg (by decide),if_neg (by decide),if_neg (show ¬ (14:Int)=11 by decide),if_neg (show ¬ (14:Int)=12 by decide),if_neg (show ¬ (14:Int)=13 by decide)]
 rfl
theorem node_need (x y:Nm):nodeX 17 [x,y]=needX x y:=by
 rw [nodeX]
 rw [if_neg (by decide),if_pos rfl]
 rfl
theorem node_do {op:Int} (ho:5≤op∧op≤9) (x y:Nm):nodeX op [x,y]=doX op x y:=if_pos ho
def cloF (op:Int):FuncId:=if op=16 then 223 else if op=10∨op=15 then 218 else 211
def wordS (op:Int):List UInt8:=if 5≤op∧op≤17 then wordX op else []
def rowL (op:Int):List Value:=[.string ⟨(wordS op).toArray⟩,.int .i64 (takes op:Nat),.bool (op==2||op==3),.bool (op==2),.bool (op==1)]
abbrev LRow (op:Int) (c:CV):LV:=.sv (.agg ((rowL op).map .val++[c]))
abbrev dB (k:Nat) (op:Int):Nat×Option Box:=(k,some ⟨0,[],.res (deedR (cloF op) op)⟩)
def leafV (op:Int):Value:=if op=1 then fnV 178 else if op=2 then fnV 179 else if op=3 then fnV 180 else if op=4 then fnV 181 else .nilFunc
def rwR (op:Int):LV:=if 5≤op∧op≤17 then LRow op (ptrF (cloF op) 1000001) else LRow op (.val (leafV op))
def rwBx (op:Int):List (Nat×Option Box):=if 5≤op∧op≤17 then [dB 1000001 op] else []
theorem rw_fn {op:Int} (h:5≤op∧op≤17):rwR op=LRow op (ptrF (cloF op) 1000001)∧rwBx op=[dB 1000001 op]:=⟨if_pos h,if_pos h⟩
theorem rw_no {op:Int} (h:¬ (5≤op∧op≤17)):rwR op=LRow op (.val (leafV op))∧rwBx op=[]:=⟨if_neg h,if_neg h⟩
theorem rwBx_use (op:Int):((rwBx op).all fun p=>match p.2 with|some b=>b.cells.all (CV.inUse (rwBx op))|none=>true)=true:=by
 by_cases h:5≤op∧op≤17
 ·rw [(rw_fn h).2];rfl
 ·rw [(rw_no h).2];rfl
theorem rwR_use (op:Int):LV.inUse (rwBx op) (rwR op)=true:=by
 by_cases h:5≤op∧op≤17
 ·rw [(rw_fn h).1,(rw_fn h).2];rfl
 ·rw [(rw_no h).1,(rw_no h).2];rfl
theorem rowL_bad {op:Int} (h:op<1∨17<op):rowL op=[.string ⟨#[]⟩,.int .i64 0,.bool false,.bool false,.bool false]:=by
 unfold rowL wordS
 rw [if_neg (by omega),takes_out (by omega),cN (show op≠2 by omega),cN (show op≠3 by omega),cN (show op≠1 by omega)]
 rfl
set_option maxHeartbeats 12800000 in
theorem rowOf_all (op:Int):MSpec Tryz.prog X 143 [Ln .i64 op] [] (rwR op) (rwBx op):=by
 refine cD Tryz.func143 rfl y5 rfl (rwR_use op) (rwBx_use op) rfl rfl ?_
 intro C
 refine LWP.ends ?_
 (refine aA<|rgN<|aP O dO ?_;refine aB<|aA<|aA<|rgN<|kmv O<|aB<|aG<|aA ?_)
 by_cases c1:op=1
 ·subst c1
  rw [(rw_no (op:=1) (by decide)).1,(rw_no (op:=1) (by decide)).2]
  (refine rgN<|keq O O (r:=true) O<|kas O<|aB<|aE O ?_;refine aA<|rgN<|aT O O y2 y28 dO ?_;refine aT O O y2 y35 dO ?_;refine aM O O O O O O dO ?_;refine aB<|aI ?_)
  exact cA ⟨[],⟨[_],⟨⟨_,_,O,O,O,.inl ⟨AggT.h,O⟩⟩,trivial⟩,O⟩,trivial,O,O⟩
 (refine rgN<|keq O O (r:=false) (cN c1)<|kas O<|aB<|aF O ?_;refine aA ?_)
 by_cases c2:op=2
 ·subst c2
  rw [(rw_no (op:=2) (by decide)).1,(rw_no (op:=2) (by decide)).2]
  (refine rgN<|keq O O (r:=true) O<|kas O<|aB<|aE O ?_;refine aA<|rgN<|aT O O y2 y28 dO ?_;refine aT O O y2 y35 dO ?_;refine aM O O O O O O dO ?_;refine aB<|aI ?_)
  exact cA ⟨[],⟨[_],⟨⟨_,_,O,O,O,.inl ⟨AggT.h,O⟩⟩,trivial⟩,O⟩,trivial,O,O⟩
 (refine rgN<|keq O O (r:=false) (cN c2)<|kas O<|aB<|aF O ?_;refine aA ?_)
 by_cases c3:op=3
 ·subst c3
  rw [(rw_no (op:=3) (by decide)).1,(rw_no (op:=3) (by decide)).2]
  (refine rgN<|keq O O (r:=true) O<|kas O<|aB<|aE O ?_;refine aA<|rgN<|aT O O y2 y28 dO ?_;refine aT O O y2 y35 dO ?_;refine aM O O O O O O dO ?_;refine aB<|aI ?_)
  exact cA ⟨[],⟨[_],⟨⟨_,_,O,O,O,.inl ⟨AggT.h,O⟩⟩,trivial⟩,O⟩,trivial,O,O⟩
 (refine rgN<|keq O O (r:=false) (cN c3)<|kas O<|aB<|aF O ?_;refine aA ?_)
 by_cases c4:op=4
 ·subst c4
  rw [(rw_no (op:=4) (by decide)).1,(rw_no (op:=4) (by decide)).2]
  (refine rgN<|keq O O (r:=true) O<|kas O<|aB<|aE O ?_;refine aA<|rgN<|aT O O y2 y35 dO ?_;refine aM O O O O O O dO ?_;refine aB<|aI ?_)
  exact cA ⟨[],⟨[_],⟨⟨_,_,O,O,O,.inl ⟨AggT.h,O⟩⟩,trivial⟩,O⟩,trivial,O,O⟩
 (refine rgN<|keq O O (r:=false) (cN c4)<|kas O<|aB<|aF O ?_;refine aA ?_)
 by_cases c5:op=5
 ·subst c5
  rw [(rw_fn (op:=5) (by decide)).1,(rw_fn (op:=5) (by decide)).2]
  (refine rgN<|keq O O (r:=true) O<|kas O<|aB<|aE O ?_;refine aA<|rgN<|bE [(1000001,501)] (.sv (.one (ptrF 211 501))) [vB 275 501 (.val (fnV 183))] ((mA_ofTwo X 183)) O O yC O O O O O y19 dO<|aT O O y2 y35 dO ?_;refine aM O O O O O O dO ?_;refine aB<|aI ?_)
  refine cB (σ':=⟨[(2,Lp 2)],vB 275 501 (.val (fnV 183))::(2,some ⟨190,(rowL 5).map .val++[ptrF (cloF 5) 501],false⟩)::[],X⟩) (Le.of y13 yE y2 y2 y0) ?_
  refine deed_shut1 (f:=cloF 5) (op:=5) (fun Y _ _ _ _ h1 h2=>deed_two O h1 h2 (two_fn Y (fun Z x y hx hy=>wAdd_do Z x y hx hy)) (fun u w _ _=>node_do yA u w)) (cA ?_)
  exact ⟨[(1000001,501)],⟨[_],⟨⟨_,_,O,O,O,.inl ⟨AggT.h,O⟩⟩,trivial⟩,O⟩,y1,O,O⟩
 (refine rgN<|keq O O (r:=false) (cN c5)<|kas O<|aB<|aF O ?_;refine aA ?_)
 by_cases c6:op=6
 ·subst c6
  rw [(rw_fn (op:=6) (by decide)).1,(rw_fn (op:=6) (by decide)).2]
  (refine rgN<|keq O O (r:=true) O<|kas O<|aB<|aE O ?_;refine aA<|rgN<|bE [(1000001,501)] (.sv (.one (ptrF 211 501))) [vB 275 501 (.val (fnV 184))] ((mA_ofTwo X 184)) O O yC O O O O O y19 dO<|aT O O y2 y35 dO ?_;refine aM O O O O O O dO ?_;refine aB<|aI ?_)
  refine cB (σ':=⟨[(2,Lp 2)],vB 275 501 (.val (fnV 184))::(2,some ⟨190,(rowL 6).map .val++[ptrF (cloF 6) 501],false⟩)::[],X⟩) (Le.of y13 yE y2 y2 y0) ?_
  refine deed_shut1 (f:=cloF 6) (op:=6) (fun Y _ _ _ _ h1 h2=>deed_two O h1 h2 (two_fn Y (fun Z x y hx hy=>wSub_do Z x y hx hy)) (fun u w _ _=>node_do yA u w)) (cA ?_)
  exact ⟨[(1000001,501)],⟨[_],⟨⟨_,_,O,O,O,.inl ⟨AggT.h,O⟩⟩,trivial⟩,O⟩,y1,O,O⟩
 (refine rgN<|keq O O (r:=false) (cN c6)<|kas O<|aB<|aF O ?_;refine aA ?_)
 by_cases c7:op=7
 ·subst c7
  rw [(rw_fn (op:=7) (by decide)).1,(rw_fn (op:=7) (by decide)).2]
  (refine rgN<|keq O O (r:=true) O<|kas O<|aB<|aE O ?_;refine aA<|rgN<|bE [(1000001,501)] (.sv (.one (ptrF 211 501))) [vB 275 501 (.val (fnV 185))] ((mA_ofTwo X 185)) O O yC O O O O O y19 dO<|aT O O y2 y35 dO ?_;refine aM O O O O O O dO ?_;refine aB<|aI ?_)
  refine cB (σ':=⟨[(2,Lp 2)],vB 275 501 (.val (fnV 185))::(2,some ⟨190,(rowL 7).map .val++[ptrF (cloF 7) 501],false⟩)::[],X⟩) (Le.of y13 yE y2 y2 y0) ?_
  refine deed_shut1 (f:=cloF 7) (op:=7) (fun Y _ _ _ _ h1 h2=>deed_two O h1 h2 (two_fn Y (fun Z x y hx hy=>wMul_do Z x y hx hy)) (fun u w _ _=>node_do yA u w)) (cA ?_)
  exact ⟨[(1000001,501)],⟨[_],⟨⟨_,_,O,O,O,.inl ⟨AggT.h,O⟩⟩,trivial⟩,O⟩,y1,O,O⟩
 (refine rgN<|keq O O (r:=false) (cN c7)<|kas O<|aB<|aF O ?_;refine aA ?_)
 by_cases c8:op=8
 ·subst c8
  rw [(rw_fn (op:=8) (by decide)).1,(rw_fn (op:=8) (by decide)).2]
  (refine rgN<|keq O O (r:=true) O<|kas O<|aB<|aE O ?_;refine aA<|rgN<|bE [(1000001,501)] (.sv (.one (ptrF 211 501))) [vB 275 501 (.val (fnV 186))] ((mA_ofTwo X 186)) O O yC O O O O O y19 dO<|aT O O y2 y35 dO ?_;refine aM O O O O O O dO ?_;refine aB<|aI ?_)
  refine cB (σ':=⟨[(2,Lp 2)],vB 275 501 (.val (fnV 186))::(2,some ⟨190,(rowL 8).map .val++[ptrF (cloF 8) 501],false⟩)::[],X⟩) (Le.of y13 yE y2 y2 y0) ?_
  refine deed_shut1 (f:=cloF 8) (op:=8) (fun Y _ _ _ _ h1 h2=>deed_two O h1 h2 (two_fn Y (fun Z x y hx hy=>wQuo_do Z x y hx hy)) (fun u w _ _=>node_do yA u w)) (cA ?_)
  exact ⟨[(1000001,501)],⟨[_],⟨⟨_,_,O,O,O,.inl ⟨AggT.h,O⟩⟩,trivial⟩,O⟩,y1,O,O⟩
 (refine rgN<|keq O O (r:=false) (cN c8)<|kas O<|aB<|aF O ?_;refine aA ?_)
 by_cases c9:op=9
 ·subst c9
  rw [(rw_fn (op:=9) (by decide)).1,(rw_fn (op:=9) (by decide)).2]
  (refine rgN<|keq O O (r:=true) O<|kas O<|aB<|aE O ?_;refine aA<|rgN<|bE [(1000001,501)] (.sv (.one (ptrF 211 501))) [vB 275 501 (.val (fnV 187))] ((mA_ofTwo X 187)) O O yC O O O O O y19 dO<|aT O O y2 y35 dO ?_;refine aM O O O O O O dO ?_;refine aB<|aI ?_)
  refine cB (σ':=⟨[(2,Lp 2)],vB 275 501 (.val (fnV 187))::(2,some ⟨190,(rowL 9).map .val++[ptrF (cloF 9) 501],false⟩)::[],X⟩) (Le.of y13 yE y2 y2 y0) ?_
  refine deed_shut1 (f:=cloF 9) (op:=9) (fun Y _ _ _ _ h1 h2=>deed_two O h1 h2 (two_fn Y (fun Z x y hx hy=>wRem_do Z x y hx hy)) (fun u w _ _=>node_do yA u w)) (cA ?_)
  exact ⟨[(1000001,501)],⟨[_],⟨⟨_,_,O,O,O,.inl ⟨AggT.h,O⟩⟩,trivial⟩,O⟩,y1,O,O⟩
 (refine rgN<|keq O O (r:=false) (cN c9)<|kas O<|aB<|aF O ?_;refine aA ?_)
 by_cases c10:op=10
 ·subst c10
  rw [(rw_fn (op:=10) (by decide)).1,(rw_fn (op:=10) (by decide)).2]
  (refine rgN<|keq O O (r:=true) O<|kas O<|aB<|aE O ?_;refine aA<|rgN<|bE [(1000001,501)] (.sv (.one (ptrF 219 501))) [vB 275 501 (.val (fnV 184))] ((mA_withZero X 184)) O O yC O O O O O y19 dO<|bE [(1000001,502),(1000002,501)] (.sv (.one (ptrF 218 502))) [vB 273 502 (ptrF 219 501),vB 275 501 (.val (fnV 184))] ((mB_ofOne X 219 184 275)) O O y17 (by exact (bS (bS O O) O)) O O O O y27 dO<|aT O O y2 y35 dO ?_;refine aM O O O O O O dO ?_;refine aB<|aI ?_)
  refine cB (σ':=⟨[(2,Lp 2)],vB 273 502 (ptrF 219 501)::vB 275 501 (.val (fnV 184))::(2,some ⟨190,(rowL 10).map .val++[ptrF (cloF 10) 502],false⟩)::[],X⟩) (Le.of y13 y9 y2 y2 y0) ?_
  refine deed_shut2 (f:=cloF 10) (op:=10) (fun Y _ _ _ _ _ _ _ _ h1 h2 h3 h4=>deed_one O h3 h4 (one_zero h1 h2 (two_fn Y (fun Z x y hx hy=>wSub_do Z x y hx hy))) (fun u hu=>node_neg hu)) O O O (cA ?_)
  exact ⟨[(1000001,502)],⟨[_],⟨⟨_,_,O,O,O,.inl ⟨AggT.h,O⟩⟩,trivial⟩,O⟩,y1,O,O⟩
 (refine rgN<|keq O O (r:=false) (cN c10)<|kas O<|aB<|aF O ?_;refine aA ?_)
 by_cases c11:op=11
 ·subst c11
  rw [(rw_fn (op:=11) (by decide)).1,(rw_fn (op:=11) (by decide)).2]
  (refine rgN<|keq O O (r:=true) O<|kas O<|aB<|aE O ?_;refine aA<|rgN<|bE [(1000001,501)] (.sv (.one (ptrF 220 501))) [vB 275 501 (.val (fnV 191))] ((mA_chosen X 191)) O O yC O O O O O y19 dO<|bE [(1000001,502),(1000002,501)] (.sv (.one (ptrF 211 502))) [vB 275 502 (ptrF 220 501),vB 275 501 (.val (fnV 191))] ((mB_ofTwo X 220 191 275)) O O y17 (by exact (bS (bS O O) O)) O O O O y27 dO<|aT O O y2 y35 dO ?_;refine aM O O O O O O dO ?_;refine aB<|aI ?_)
  refine cB (σ':=⟨[(2,Lp 2)],vB 275 502 (ptrF 220 501)::vB 275 501 (.val (fnV 191))::(2,some ⟨190,(rowL 11).map .val++[ptrF (cloF 11) 502],false⟩)::[],X⟩) (Le.of y13 y9 y2 y2 y0) ?_
  refine deed_shut2 (f:=cloF 11) (op:=11) (fun Y _ _ _ _ _ _ _ _ h1 h2 h3 h4=>deed_two O h3 h4 (two_chosen h1 h2 (two_fn Y (fun Z x y hx hy=>tLess Z x y hx hy)) (fun _ _ _ h=>less_ok h) (fun _ _ _ h=>less_err h)) (fun u w hu hw=>node_least hu hw)) O O O (cA ?_)
  exact ⟨[(1000001,502)],⟨[_],⟨⟨_,_,O,O,O,.inl ⟨AggT.h,O⟩⟩,trivial⟩,O⟩,y1,O,O⟩
 (refine rgN<|keq O O (r:=false) (cN c11)<|kas O<|aB<|aF O ?_;refine aA ?_)
 by_cases c12:op=12
 ·subst c12
  rw [(rw_fn (op:=12) (by decide)).1,(rw_fn (op:=12) (by decide)).2]
  (refine rgN<|keq O O (r:=true) O<|kas O<|aB<|aE O ?_;refine aA<|rgN<|bE [(1000001,501)] (.sv (.one (ptrF 222 501))) [vB 275 501 (.val (fnV 191))] ((mA_swapped X 191)) O O yC O O O O O y19 dO<|bE [(1000001,502),(1000002,501)] (.sv (.one (ptrF 220 502))) [vB 275 502 (ptrF 222 501),vB 275 501 (.val (fnV 191))] ((mB_chosen X 222 191 275)) O O y17 (by exact (bS (bS O O) O)) O O O O y27 dO<|bE [(1000001,503),(1000002,502),(1000003,501)] (.sv (.one (ptrF 211 503))) [vB 275 503 (ptrF 220 502),vB 275 502 (ptrF 222 501),vB 275 501 (.val (fnV 191))] ((mC_ofTwo X 220 222 191 275)) O O (by exact (cM ⟨_,O,O⟩ (cM ⟨_,O,O⟩ trivial))) (by exact (bS (bS O O) (bS (bS O O) O))) O O O O y23 dO<|aT O O y2 y35 dO ?_;refine aM O O O O O O dO ?_;refine aB<|aI ?_)
  refine cB (σ':=⟨[(2,Lp 2)],vB 275 503 (ptrF 220 502)::vB 275 502 (ptrF 222 501)::vB 275 501 (.val (fnV 191))::(2,some ⟨190,(rowL 12).map .val++[ptrF (cloF 12) 503],false⟩)::[],X⟩) (Le.of y13 y8 y2 y2 y0) ?_
  refine deed_shut3 (f:=cloF 12) (op:=12) (fun Y _ _ _ _ _ _ _ _ _ _ _ _ h1 h2 h3 h4 h5 h6=>deed_two O h5 h6 (two_chosen h3 h4 (two_swapped h1 h2 (two_fn Y (fun Z x y hx hy=>tLess Z x y hx hy))) (fun _ _ _ h=>less_ok h) (fun _ _ _ h=>less_err h)) (fun u w hu hw=>node_great hu hw)) O O O O O O O (cA ?_)
  exact ⟨[(1000001,503)],⟨[_],⟨⟨_,_,O,O,O,.inl ⟨AggT.h,O⟩⟩,trivial⟩,O⟩,y1,O,O⟩
 (refine rgN<|keq O O (r:=false) (cN c12)<|kas O<|aB<|aF O ?_;refine aA ?_)
 by_cases c13:op=13
 ·subst c13
  rw [(rw_fn (op:=13) (by decide)).1,(rw_fn (op:=13) (by decide)).2]
  (refine rgN<|keq O O (r:=true) O<|kas O<|aB<|aE O ?_;refine aA<|rgN<|bE [(1000001,501)] (.sv (.one (ptrF 211 501))) [vB 275 501 (.val (fnV 193))] ((mA_ofTwo X 193)) O O yC O O O O O y19 dO<|aT O O y2 y35 dO ?_;refine aM O O O O O O dO ?_;refine aB<|aI ?_)
  refine cB (σ':=⟨[(2,Lp 2)],vB 275 501 (.val (fnV 193))::(2,some ⟨190,(rowL 13).map .val++[ptrF (cloF 13) 501],false⟩)::[],X⟩) (Le.of y13 yE y2 y2 y0) ?_
  refine deed_shut1 (f:=cloF 13) (op:=13) (fun Y _ _ _ _ h1 h2=>deed_two O h1 h2 (two_fn Y (fun Z x y hx hy=>tSame Z x y hx hy)) (fun u w _ _=>node_same u w)) (cA ?_)
  exact ⟨[(1000001,501)],⟨[_],⟨⟨_,_,O,O,O,.inl ⟨AggT.h,O⟩⟩,trivial⟩,O⟩,y1,O,O⟩
 (refine rgN<|keq O O (r:=false) (cN c13)<|kas O<|aB<|aF O ?_;refine aA ?_)
 by_cases c14:op=14
 ·subst c14
  rw [(rw_fn (op:=14) (by decide)).1,(rw_fn (op:=14) (by decide)).2]
  (refine rgN<|keq O O (r:=true) O<|kas O<|aB<|aE O ?_;refine aA<|rgN<|bE [(1000001,501)] (.sv (.one (ptrF 211 501))) [vB 275 501 (.val (fnV 191))] ((mA_ofTwo X 191)) O O yC O O O O O y19 dO<|aT O O y2 y35 dO ?_;refine aM O O O O O O dO ?_;refine aB<|aI ?_)
  refine cB (σ':=⟨[(2,Lp 2)],vB 275 501 (.val (fnV 191))::(2,some ⟨190,(rowL 14).map .val++[ptrF (cloF 14) 501],false⟩)::[],X⟩) (Le.of y13 yE y2 y2 y0) ?_
  refine deed_shut1 (f:=cloF 14) (op:=14) (fun Y _ _ _ _ h1 h2=>deed_two O h1 h2 (two_fn Y (fun Z x y hx hy=>tLess Z x y hx hy)) (fun u w _ _=>node_less u w)) (cA ?_)
  exact ⟨[(1000001,501)],⟨[_],⟨⟨_,_,O,O,O,.inl ⟨AggT.h,O⟩⟩,trivial⟩,O⟩,y1,O,O⟩
 (refine rgN<|keq O O (r:=false) (cN c14)<|kas O<|aB<|aF O ?_;refine aA ?_)
 by_cases c15:op=15
 ·subst c15
  rw [(rw_fn (op:=15) (by decide)).1,(rw_fn (op:=15) (by decide)).2]
  (refine rgN<|keq O O (r:=true) O<|kas O<|aB<|aE O ?_;refine aA<|rgN<|bE [(1000001,501)] (.sv (.one (ptrF 219 501))) [vB 275 501 (.val (fnV 193))] ((mA_withZero X 193)) O O yC O O O O O y19 dO<|bE [(1000001,502),(1000002,501)] (.sv (.one (ptrF 218 502))) [vB 273 502 (ptrF 219 501),vB 275 501 (.val (fnV 193))] ((mB_ofOne X 219 193 275)) O O y17 (by exact (bS (bS O O) O)) O O O O y27 dO<|aT O O y2 y35 dO ?_;refine aM O O O O O O dO ?_;refine aB<|aI ?_)
  refine cB (σ':=⟨[(2,Lp 2)],vB 273 502 (ptrF 219 501)::vB 275 501 (.val (fnV 193))::(2,some ⟨190,(rowL 15).map .val++[ptrF (cloF 15) 502],false⟩)::[],X⟩) (Le.of y13 y9 y2 y2 y0) ?_
  refine deed_shut2 (f:=cloF 15) (op:=15) (fun Y _ _ _ _ _ _ _ _ h1 h2 h3 h4=>deed_one O h3 h4 (one_zero h1 h2 (two_fn Y (fun Z x y hx hy=>tSame Z x y hx hy))) (fun u hu=>node_not u)) O O O (cA ?_)
  exact ⟨[(1000001,502)],⟨[_],⟨⟨_,_,O,O,O,.inl ⟨AggT.h,O⟩⟩,trivial⟩,O⟩,y1,O,O⟩
 (refine rgN<|keq O O (r:=false) (cN c15)<|kas O<|aB<|aF O ?_;refine aA ?_)
 by_cases c16:op=16
 ·subst c16
  rw [(rw_fn (op:=16) (by decide)).1,(rw_fn (op:=16) (by decide)).2]
  (refine rgN<|keq O O (r:=true) O<|kas O<|aB<|aE O ?_;refine aA<|rgN<|bE [(1000001,501)] (.sv (.one (ptrF 223 501))) [vB 297 501 (.val (fnV 195))] ((mA_ofThree X 195)) O O yC O O O O O y19 dO<|aT O O y2 y35 dO ?_;refine aM O O O O O O dO ?_;refine aB<|aI ?_)
  refine cB (σ':=⟨[(2,Lp 2)],vB 297 501 (.val (fnV 195))::(2,some ⟨190,(rowL 16).map .val++[ptrF (cloF 16) 501],false⟩)::[],X⟩) (Le.of y13 yE y2 y2 y0) ?_
  refine deed_shut1 (f:=cloF 16) (op:=16) (fun Y _ _ _ _ h1 h2=>deed_three O h1 h2 (three_fn Y (fun Z x y z hx hy hz=>tPick Z x y z hx)) (fun u w z _ _ _=>O)) (cA ?_)
  exact ⟨[(1000001,501)],⟨[_],⟨⟨_,_,O,O,O,.inl ⟨AggT.h,O⟩⟩,trivial⟩,O⟩,y1,O,O⟩
 (refine rgN<|keq O O (r:=false) (cN c16)<|kas O<|aB<|aF O ?_;refine aA ?_)
 by_cases c17:op=17
 ·subst c17
  rw [(rw_fn (op:=17) (by decide)).1,(rw_fn (op:=17) (by decide)).2]
  (refine rgN<|keq O O (r:=true) O<|kas O<|aB<|aE O ?_;refine aA<|rgN<|bE [(1000001,501)] (.sv (.one (ptrF 211 501))) [vB 275 501 (.val (fnV 196))] ((mA_ofTwo X 196)) O O yC O O O O O y19 dO<|aT O O y2 y35 dO ?_;refine aM O O O O O O dO ?_;refine aB<|aI ?_)
  refine cB (σ':=⟨[(2,Lp 2)],vB 275 501 (.val (fnV 196))::(2,some ⟨190,(rowL 17).map .val++[ptrF (cloF 17) 501],false⟩)::[],X⟩) (Le.of y13 yE y2 y2 y0) ?_
  refine deed_shut1 (f:=cloF 17) (op:=17) (fun Y _ _ _ _ h1 h2=>deed_two O h1 h2 (two_fn Y (fun Z x y hx hy=>tNeed Z x y hy)) (fun u w _ _=>node_need u w)) (cA ?_)
  exact ⟨[(1000001,501)],⟨[_],⟨⟨_,_,O,O,O,.inl ⟨AggT.h,O⟩⟩,trivial⟩,O⟩,y1,O,O⟩
 (refine rgN<|keq O O (r:=false) (cN c17)<|kas O<|aB<|aF O ?_;refine aH ?_;refine aA ?_)
 have hbad:op<1∨17<op:=by omega
 rw [(rw_no (op:=op) (by omega)).1,(rw_no (op:=op) (by omega)).2]
 unfold LRow
 rw [rowL_bad hbad,show leafV op = .nilFunc by unfold leafV;rw [if_neg c1,if_neg c2,if_neg c3,if_neg c4]]
 (refine rgN<|aT O O y2 y35 dO ?_;refine aM O O O O O O dO ?_;refine aB<|aI ?_)
 exact cA ⟨[],⟨[_],⟨⟨_,_,O,O,O,.inl ⟨AggT.h,O⟩⟩,trivial⟩,O⟩,trivial,O,O⟩
theorem rowOf_fn (op:Int) (h:5≤op∧op≤17):MSpec Tryz.prog X 143 [Ln .i64 op] [] (LRow op (ptrF (cloF op) 1000001)) [dB 1000001 op]:=by
 have:=rowOf_all X op
 rw [(rw_fn h).1,(rw_fn h).2] at this
 exact this
theorem rowOf_leaf (op:Int) (h:¬ (5≤op∧op≤17)):PSpec Tryz.prog X 143 [Ln .i64 op] (LRow op (.val (leafV op))):=by
 have:=rowOf_all X op
 rw [(rw_no h).1,(rw_no h).2] at this
 exact this.plain
theorem rowOf_1:PSpec Tryz.prog X 143 [Ln .i64 1] (LRow 1 (.val (fnV 178))):=rowOf_leaf X 1 yA
theorem rowOf_2:PSpec Tryz.prog X 143 [Ln .i64 2] (LRow 2 (.val (fnV 179))):=rowOf_leaf X 2 yA
theorem rowOf_3:PSpec Tryz.prog X 143 [Ln .i64 3] (LRow 3 (.val (fnV 180))):=rowOf_leaf X 3 yA
theorem rowOf_4:PSpec Tryz.prog X 143 [Ln .i64 4] (LRow 4 (.val (fnV 181))):=rowOf_leaf X 4 yA
theorem rowOf_no (op:Int) (h:op<1∨17<op):PSpec Tryz.prog X 143 [Ln .i64 op] (LRow op (.val .nilFunc)):=by
 have:=rowOf_leaf X op y3
 rw [show leafV op = .nilFunc by unfold leafV;rw [if_neg (by omega),if_neg (by omega),if_neg (by omega),if_neg (by omega)]] at this
 exact this
end Go.Proofs.YtopiioklkkiedaaGreatDoor
end
