/- A piece of a proof over this program: contracts of its functions, and a logic to prove them by. -/
import Derived.Test.YtopiioklkkiedaaGreatDoorW3
import Derived.Test.YtopiioklkkiedaaGreatDoorW4
import Derived.Test.YtopiioklkkiedaaGreatDoorW5
import Derived.Lib.Walk
import Derived.Lib.ItoaMem
import Derived.Lib.AppendIntMem
import Derived.WalkKit
import Derived.BigCall
import Derived.BigGuard
import Derived.Lib.Join
section
set_option maxHeartbeats 12800000
set_option maxRecDepth 100000
namespace Go.Proofs.YtopiioklkkiedaaGreatDoor
open Go Go.Lg Go.Lg.Arith Go.Lg.Dec Go.Lg.Dig Go.RowKit
variable (X:Nat→Option Obj)
theorem Do_bad (op:Int) (a b:Bool) (M N:Int) (hM:In2 M) (hN:In2 N) (hf:(formB a M&&formB b N)=false):PSpec Tryz.prog X 152 [Ln .i64 op,LI a M,LI b N] (.tup [S0,Sn .i64 1]):=by
 have hF1:=Good_spec X a M hM _ rfl
 have hF2:=Good_spec X b N hN _ rfl
 refine cF Tryz.func152 rfl V5 rfl rfl ?_
 intro C
 by_cases h1:formB a M=true
 ·have h2:formB b N=false:=by rw [h1] at hf;simpa using hf
  rw [h1] at hF1
  rw [h2] at hF2
  refine U41 ?_
  exact V4
 ·have h1:formB a M=false:=by simpa using h1
  rw [h1] at hF1
  refine U41 ?_
  exact V4
theorem Do_2 (x y:Int) (hx:R127 x) (hy:R127 y) (z:Int) (hz:(if 2=1 then x+y else x-y)=z):PSpec Tryz.prog X 152 [Ln .i64 2,LQ x,LQ y] (addR z):=by
 have hF1:=Good_spec X _ _ (mg_in2 hx) true (formB_q hx)
 have hF2:=Good_spec X _ _ (mg_in2 hy) true (formB_q hy)
 have f1:=From_q X x hx
 have f2:=From_q X y hy
 obtain ⟨s,n,hA,hv,hn⟩:=Sum_any X (decide (x<0)) (if 2=1 then decide (y<0) else !decide (y<0)) (mg x).toNat (mg y).toNat (mg_128 hx) (mg_128 hy)
 have hv':zv s (n:Nat)=z:=by
  rw [hv,← hz]
  first
   | (show zv (decide (x<0)) _+zv (decide (y<0)) _=x+y;rw [zv_q,zv_q])
   | (show zv (decide (x<0)) _+zv (!decide (y<0)) _=x-y;rw [zv_not,zv_q,zv_q];omega)
 have hT:=To_spec X s n hn
 by_cases hr:R127 z
 ·rw [toR_in hv' hr] at hT
  rw [addR_in hr]
  refine cF Tryz.func152 rfl V5 rfl rfl ?_
  intro C
  ((refine U41 ?_);(refine U38 ?_;refine bG O O O O num_blt0 num_sign dS ?_;refine U4 ?_);(refine U29 ?_))
  exact V4
 ·rw [toR_out hv' hr] at hT
  rw [addR_out hr]
  refine cF Tryz.func152 rfl V5 rfl rfl ?_
  intro C
  ((refine U41 ?_);(refine U38 ?_;refine bG O O O O num_blt0 num_sign dS ?_;refine U4 ?_);(refine U28 ?_))
  exact V4
theorem Do_zero4 (x y:Int) (hx:R127 x) (hy:R127 y) (h0:y=0):PSpec Tryz.prog X 152 [Ln .i64 4,LQ x,LQ y] (.tup [S0,Sn .i64 1]):=by
 have hF1:=Good_spec X _ _ (mg_in2 hx) true (formB_q hx)
 have hF2:=Good_spec X _ _ (mg_in2 hy) true (formB_q hy)
 have m0:mg y=0:=by subst h0;rfl
 refine cF Tryz.func152 rfl V5 rfl rfl ?_
 intro C
 refine U41 ?_
 exact V4
theorem Do_4 (x y:Int) (hx:R127 x) (hy:R127 y) (h0:y≠0) (z:Int) (hz:(if 4=4 then x.tdiv y else x.tmod y)=z) (hr:R127 z):PSpec Tryz.prog X 152 [Ln .i64 4,LQ x,LQ y] (.tup [SQ z,Sn .i64 0]):=by
 have hF1:=Good_spec X _ _ (mg_in2 hx) true (formB_q hx)
 have hF2:=Good_spec X _ _ (mg_in2 hy) true (formB_q hy)
 have f1:=From_q X x hx
 have f2:=From_q X y hy
 have m0:=mg_zero h0
 have hx0:=mg_nonneg x
 have b1:=mg_128 hx
 have b2:=mg_128 hy
 obtain ⟨q1,q2⟩:=zv_quo x y h0
 have hA:=Parted_spec X (decide (x<0)) (decide (y<0)) (mg x).toNat (mg y).toNat (lim40 b1) V3 b2
 have e1:(((mg x).toNat/(mg y).toNat:Nat):Int)=mg x/mg y:=by rw [Int.natCast_ediv,mg_nat,mg_nat]
 have e2:(((mg x).toNat%(mg y).toNat:Nat):Int)=mg x%mg y:=by rw [Int.natCast_emod,mg_nat,mg_nat]
 have l1:(mg x).toNat/(mg y).toNat≤(mg x).toNat:=Nat.div_le_self _ _
 have l2:(mg x).toNat%(mg y).toNat<(mg y).toNat:=Nat.mod_lt _ V3
 have hT:=To_spec X (if 4=4 then decide (x<0) != decide (y<0) else decide (x<0)) (if 4=4 then (mg x).toNat/(mg y).toNat else (mg x).toNat%(mg y).toNat) (lim40 (by split<;>omega))
 have hv:zv (if 4=4 then decide (x<0) != decide (y<0) else decide (x<0)) ((if 4=4 then (mg x).toNat/(mg y).toNat else (mg x).toNat%(mg y).toNat:Nat):Int)=z:=by
  rw [← hz]
  first
   | (show zv (decide (x<0) != decide (y<0)) (((mg x).toNat/(mg y).toNat:Nat):Int)=x.tdiv y;rw [e1];exact q1)
   | (show zv (decide (x<0)) (((mg x).toNat%(mg y).toNat:Nat):Int)=x.tmod y;rw [e2];exact q2)
 rw [toR_in hv hr] at hT
 refine cF Tryz.func152 rfl V5 rfl rfl ?_
 intro C
 by_cases zh:mg y/18446744073709551616=0
 ·((refine U30 ?_);(refine U24 ?_);(refine U46 ?_);(refine U3 ?_;refine K.neqB O O O dS ?_;refine U1 ?_;refine bG O O O O num_blt0 num_sign dS ?_;refine U34 ?_))
  exact V4
 ·((refine U35 ?_);(refine U44 ?_);(refine U24 ?_;refine K.neqB O O O dS ?_;refine U1 ?_;refine bG O O O O num_blt0 num_sign dS ?_;refine U7 ?_);(refine U27 ?_))
  exact V4
theorem Do_zero5 (x y:Int) (hx:R127 x) (hy:R127 y) (h0:y=0):PSpec Tryz.prog X 152 [Ln .i64 5,LQ x,LQ y] (.tup [S0,Sn .i64 1]):=by
 have hF1:=Good_spec X _ _ (mg_in2 hx) true (formB_q hx)
 have hF2:=Good_spec X _ _ (mg_in2 hy) true (formB_q hy)
 have m0:mg y=0:=by subst h0;rfl
 refine cF Tryz.func152 rfl V5 rfl rfl ?_
 intro C
 refine U41 ?_
 exact V4
theorem Do_5 (x y:Int) (hx:R127 x) (hy:R127 y) (h0:y≠0) (z:Int) (hz:(if 5=4 then x.tdiv y else x.tmod y)=z) (hr:R127 z):PSpec Tryz.prog X 152 [Ln .i64 5,LQ x,LQ y] (.tup [SQ z,Sn .i64 0]):=by
 have hF1:=Good_spec X _ _ (mg_in2 hx) true (formB_q hx)
 have hF2:=Good_spec X _ _ (mg_in2 hy) true (formB_q hy)
 have f1:=From_q X x hx
 have f2:=From_q X y hy
 have m0:=mg_zero h0
 have hx0:=mg_nonneg x
 have b1:=mg_128 hx
 have b2:=mg_128 hy
 obtain ⟨q1,q2⟩:=zv_quo x y h0
 have hA:=Parted_spec X (decide (x<0)) (decide (y<0)) (mg x).toNat (mg y).toNat (lim40 b1) V3 b2
 have e1:(((mg x).toNat/(mg y).toNat:Nat):Int)=mg x/mg y:=by rw [Int.natCast_ediv,mg_nat,mg_nat]
 have e2:(((mg x).toNat%(mg y).toNat:Nat):Int)=mg x%mg y:=by rw [Int.natCast_emod,mg_nat,mg_nat]
 have l1:(mg x).toNat/(mg y).toNat≤(mg x).toNat:=Nat.div_le_self _ _
 have l2:(mg x).toNat%(mg y).toNat<(mg y).toNat:=Nat.mod_lt _ V3
 have hT:=To_spec X (if 5=4 then decide (x<0) != decide (y<0) else decide (x<0)) (if 5=4 then (mg x).toNat/(mg y).toNat else (mg x).toNat%(mg y).toNat) (lim40 (by split<;>omega))
 have hv:zv (if 5=4 then decide (x<0) != decide (y<0) else decide (x<0)) ((if 5=4 then (mg x).toNat/(mg y).toNat else (mg x).toNat%(mg y).toNat:Nat):Int)=z:=by
  rw [← hz]
  first
   | (show zv (decide (x<0) != decide (y<0)) (((mg x).toNat/(mg y).toNat:Nat):Int)=x.tdiv y;rw [e1];exact q1)
   | (show zv (decide (x<0)) (((mg x).toNat%(mg y).toNat:Nat):Int)=x.tmod y;rw [e2];exact q2)
 rw [toR_in hv hr] at hT
 refine cF Tryz.func152 rfl V5 rfl rfl ?_
 intro C
 by_cases zh:mg y/18446744073709551616=0
 ·((refine U30 ?_);(refine U24 ?_);(refine U46 ?_);(refine U3 ?_;refine K.neqB O O O dS ?_;refine U1 ?_;refine bG O O O O num_blt0 num_sign dS ?_;refine U16 ?_;refine bG O O O O num_blt0 num_sign dS ?_;refine U20 ?_);(refine U7 ?_))
  exact V4
 ·((refine U35 ?_);(refine U44 ?_);(refine U24 ?_;refine K.neqB O O O dS ?_;refine U1 ?_;refine bG O O O O num_blt0 num_sign dS ?_;refine U7 ?_);(refine U9 ?_;refine bG O O O O num_blt0 num_sign dS ?_;refine U27 ?_))
  exact V4
end Go.Proofs.YtopiioklkkiedaaGreatDoor
end
section
set_option maxHeartbeats 12800000
set_option maxRecDepth 100000
namespace Go.Proofs.YtopiioklkkiedaaGreatDoor
open Go Go.Lg Go.Lg.Arith Go.Lg.Dec Go.RowKit
theorem parts_facts {x y:Int} (hx:R127 x) (hy:R127 y) (h0:y≠0):
  R127 (x.tdiv y)∧R127 (x.tmod y)∧R127 (x.tdiv y*y)∧x.tdiv y*y+x.tmod y=x∧mg (x.tmod y)<mg y∧(x.tmod y<0→x<0)∧(0<x.tmod y→0<x):=by
 obtain ⟨h1,h2⟩:=zv_quo x y h0
 have hB:=mg_zero h0
 have hA0:=mg_nonneg x
 have hR0:=Int.emod_nonneg (mg x) (show mg y≠0 by omega)
 have hR1:=Int.emod_lt_of_pos (mg x) hB
 have hQ0:=Int.ediv_nonneg hA0 (Int.le_of_lt hB)
 have hQ1:=Int.ediv_le_self (mg y) hA0
 have hE:=Int.emod_add_mul_ediv (mg x) (mg y)
 have hT0:=Int.mul_nonneg hQ0 (Int.le_of_lt hB)
 rw [Int.mul_comm (mg y) (mg x/mg y)] at hE
 rw [← h1,← h2]
 have key:zv (decide (x<0) != decide (y<0)) (mg x/mg y)*y=zv (decide (x<0)) (mg x/mg y*mg y):=by
  by_cases cy:y<0
  ·have hy':mg y = -y:=mg_neg cy
   generalize mg x/mg y=Q
   by_cases cx:x<0<;>simp only [cx,cy,decide_true,decide_false,zv,bne_self_eq_false,Bool.false_bne,if_true,if_false,Bool.false_eq_true]
   ·rw [hy',Int.mul_neg,Int.neg_neg]
   ·rw [hy',Int.mul_neg,Int.neg_mul]
  ·have hy':mg y=y:=mg_pos V3
   generalize mg x/mg y=Q
   by_cases cx:x<0<;>simp only [cx,cy,decide_true,decide_false,zv,bne_self_eq_false,Bool.true_bne,Bool.not_false,if_true,if_false,Bool.false_eq_true]
   ·rw [hy',Int.neg_mul]
   ·rw [hy']
 have zR:∀ (b:Bool) (n:Int),0≤n→n<170141183460469231731687303715884105728→R127 (zv b n):=by
  intro b n h1 h2
  unfold R127 zv
  cases b<;>simp only [if_true,if_false,Bool.false_eq_true]<;>omega
 have hlx:=mg_lim hx
 have hly:=mg_lim hy
 rw [key]
 generalize mg x/mg y*mg y=T at *
 generalize mg x/mg y=Q at *
 generalize mg x%mg y=R at *
 refine ⟨zR _ _ hQ0 V3,zR _ _ hR0 V3,zR _ _ hT0 V3,?_,?_,?_,?_⟩
 ·by_cases cx:x<0
  ·rw [cP cx]
   have:=mg_neg cx
   show -T + -R=x
   omega
  ·rw [cO cx]
   have:=mg_pos (Int.not_lt.1 cx)
   show T+R=x
   omega
 ·by_cases cx:x<0
  ·rw [cP cx]
   show mg (-R)<mg y
   by_cases c:R=0
   ·subst c;exact hB
   ·rw [mg_neg (z := -R) V3];omega
  ·rw [cO cx]
   show mg R<mg y
   rw [mg_pos hR0];exact hR1
 ·intro h
  by_cases cx:x<0
  ·exact cx
  ·rw [cO cx] at h
   have h:R<0:=h
   omega
 ·intro h
  by_cases cx:x<0
  ·rw [cP cx] at h
   have h:0 < -R:=h
   omega
  ·rw [cO cx] at h
   have h:0<R:=h
   have:=mg_pos (Int.not_lt.1 cx)
   omega
end Go.Proofs.YtopiioklkkiedaaGreatDoor
end
section
set_option maxHeartbeats 12800000
set_option maxRecDepth 100000
namespace Go.Proofs.YtopiioklkkiedaaGreatDoor
open Go Go.Lg Go.Lg.Fml Go.Lg.Fld Go.Lg.Arith
set_option maxRecDepth 100000
variable (X:Nat→Option Obj)
def exR:Except Int Nm→LV
 | .ok v=>.tup [SI v.1 v.2,Sn .i64 0]
 | .error e=>.tup [S0,Sn .i64 e]
theorem SI_small {b:Bool} {n:Int} (h:0≤n∧n<18446744073709551616):SI b n = .agg [.val (.bool b),.val (.int .u64 0),.val (.int .u64 n)]:=by
 unfold SI
 rw [show n/18446744073709551616=0 by omega,show n%18446744073709551616=n by omega]
theorem NumsIn.all {X:Nat→Option Obj} {ad:Option Addr} {ns:List Nm} (h:NumsIn X ad ns) (hpos:0<ns.length):
  ∃ (blk off:Nat) (arr:Array Value) (el:TypeId) (fr:Nat×Nat),ad=some ⟨blk,off,none⟩∧X blk=some (.cells arr el fr)∧∀ i b N,ns[i]? = some (b,N)→In2 N∧off+i*3+3≤arr.size∧((arr.toList.drop (off+i*3)).take 3).map CV.val=cI b N:=by
 obtain ⟨_,blk,off,arr,el,fr,rfl,hX,_,_⟩:=h.at (i:=0) (b:=(ns[0]'hpos).1) (N:=(ns[0]'hpos).2) (cY hpos)
 refine ⟨blk,off,arr,el,fr,O,hX,fun i b N hi => ?_⟩
 obtain ⟨h1,blk',off',arr',el',fr',h2,h3,h4,h5⟩:=h.at hi
 simp only [Option.some.injEq,Addr.mk.injEq] at h2
 obtain ⟨rfl,rfl,_⟩:=h2
 rw [hX] at h3
 simp only [Option.some.injEq,Obj.cells.injEq] at h3
 obtain ⟨rfl,_,_⟩:=h3
 exact ⟨h1,h4,h5⟩
theorem rTruth_spec (b:Bool):PSpec Tryz.prog X 153 [Lb b] (exR (.ok (truth b))):=by
 cases b with
 | true =>
  refine cF Tryz.func153 rfl V5 rfl rfl ?_
  intro C
  refine U18 ?_
  exact V4
 | false =>
  refine cF Tryz.func153 rfl V5 rfl rfl ?_
  intro C
  refine U19 ?_
  exact V4
theorem gd_q {u:Nm} (h:gd u=true) (hu:In2 u.2):LI u.1 u.2=LQ (zz u)∧R127 (zz u):=⟨LI_q hu h,(zv_in hu h).1⟩
theorem rDo_spec (op:Int) (ho:5≤op∧op≤9) (k:Int) (hk:op-4=k) (u v:Nm) (hu:In2 u.2) (hv:In2 v.2):PSpec Tryz.prog X 152 [Ln .i64 k,LI u.1 u.2,LI v.1 v.2] (exR (doX op u v)):=by
 cases hg:(gd u&&gd v) with
 | false =>
  rw [doX_bad hg]
  exact Do_bad X k u.1 v.1 u.2 v.2 hu hv hg
 | true =>
  obtain ⟨gu,gv⟩:=Bool.and_eq_true_iff.1 hg
  obtain ⟨e1,r1⟩:=gd_q gu hu
  obtain ⟨e2,r2⟩:=gd_q gv hv
  rw [e1,e2]
  unfold doX
  rw [hg,if_neg (by decide)]
  generalize zz u=x at *
  generalize zz v=y at *
  have fin:∀ z,R127 z→(if R127 z then Except.ok (qn z) else Except.error 3:Except Int Nm) = .ok (qn z):=fun z h=>if_pos h
  have fadd:∀ z,addR z=exR (if R127 z then Except.ok (qn z) else Except.error 3:Except Int Nm):=fun z=>by
   by_cases h:R127 z
   ·rw [addR_in h,if_pos h];rfl
   ·rw [addR_out h,if_neg h];rfl
  rcases (show op=5∨op=6∨op=7∨op=8∨op=9 by omega) with rfl|rfl|rfl|rfl|rfl<;>subst hk
  ·rw [if_neg V3]
   have:=Do_1 X x y r1 r2 (x+y) rfl
   rw [fadd] at this
   exact this
  ·rw [if_neg V3]
   have:=Do_2 X x y r1 r2 (x-y) rfl
   rw [fadd] at this
   exact this
  ·rw [if_neg V3]
   have:=Do_3 X x y r1 r2
   rw [fadd] at this
   exact this
  ·by_cases h0:y=0
   ·rw [if_pos ⟨by decide,h0⟩]
    exact Do_zero4 X x y r1 r2 h0
   ·rw [if_neg (fun h=>h0 h.2)]
    have hq:=(parts_facts r1 r2 h0).1
    rw [show arith 8 x y=x.tdiv y from rfl,fin _ hq]
    exact Do_4 X x y r1 r2 h0 _ O hq
  ·by_cases h0:y=0
   ·rw [if_pos ⟨by decide,h0⟩]
    exact Do_zero5 X x y r1 r2 h0
   ·rw [if_neg (fun h=>h0 h.2)]
    have hq:=(parts_facts r1 r2 h0).2.1
    rw [show arith 9 x y=x.tmod y from rfl,fin _ hq]
    exact Do_5 X x y r1 r2 h0 _ O hq
set_option maxHeartbeats 6400000 in
theorem rLeaf_spec (x:Ins) (hx:smallI x) (hok:okI x=true) (ht:takes x.op=0) (fad:Option Addr) (fcap:Nat) (fs:List (List Nm)) (hfs:FssIn X fad fs) (hfl:fs.length<4611686018427387904) (hrl:∀ r∈fs,r.length<4611686018427387904) (at_:Int) (hat : -9223372036854775808≤at_∧at_<9223372036854775808):
  PSpec Tryz.prog X 110 [LIn x,Lx fad fs.length fcap,Ln .i64 at_] (exR (leafX fs at_ x)):=by
 obtain ⟨h17,hgk,ha7,hb7⟩:=okI_facts hok
 obtain ⟨op,a,b,k⟩:=x
 simp only at h17 hgk ha7 hb7 ht hx
 have h4:op=1∨op=2∨op=3∨op=4:=by
  unfold takes at ht
  split at ht
  ·omega
  ·split at ht
   ·omega
   ·split at ht<;>omega
 rcases h4 with rfl|rfl|rfl|rfl
 ·show PSpec _ _ _ _ (exR (.ok k))
  refine cF Tryz.func110 rfl V5 rfl rfl ?_
  intro C
  (refine U17 ?_;refine bJ O O O V28 dS ?_;refine U4 ?_)
  exact V4
 ·show PSpec _ _ _ _ (exR (elemX fs a b))
  by_cases c1:fs.length≤a
  ·have e:elemX fs a b = .error 3:=by
    unfold elemX
    split
    ·rfl
    ·rw [List.getElem?_eq_none V3]
   rw [e]
   refine cF Tryz.func110 rfl V5 rfl rfl ?_
   intro C
   (refine U46 ?_;refine bD O O (cP c1) dS ?_;refine U23 ?_)
   exact V4
  by_cases c2:b<0
  ·have e:elemX fs a b = .error 3:=by unfold elemX;rw [if_pos (.inr c2)]
   rw [e]
   refine cF Tryz.func110 rfl V5 rfl rfl ?_
   intro C
   (refine U46 ?_;refine bD O O (cO c1) dS ?_;refine U2 ?_;refine bK O O (cP c2) (dT O O) ?_;refine U20 ?_)
   exact V4
  obtain ⟨r,hr⟩:∃ r,fs[a.toNat]? = some r:=wg V3
  have hrl:=hrl r (dE hr)
  obtain ⟨blk,off,arr,el,fr,vad,vcap,rfl,hX,hsz,hc,hN⟩:=hfs.at_ _ r hr
  have hio:off+Int.toNat a*1=off+a.toNat:=by omega
  have hia:0≤a∧a<(fs.length:Nat):=by omega
  have he:elemX fs a b=match r[(b).toNat]? with|none=>.error 3|some v=>.ok v:=by
   simp only [elemX,if_neg (show ¬ (a<0∨b<0) by omega),hr]
   cases r[(b).toNat]? <;> rfl
  by_cases c3:r.length≤b
  ·rw [he,List.getElem?_eq_none V3]
   refine cF Tryz.func110 rfl V5 rfl rfl ?_
   intro C
   ((refine U43 ?_);(refine U3 ?_;refine bD O O (cO c1) dS ?_;refine U2 ?_;refine bK O O (cO c2) (dT O O) ?_;refine U9 ?_;refine bD O O (cP c3) (dT O O) ?_;refine U10 ?_))
   exact V4
  obtain ⟨v,hv⟩:∃ v,r[(b).toNat]? = some v:=wg V3
  obtain ⟨vb,vN⟩:=v
  obtain ⟨_,blk2,off2,arr2,el2,fr2,rfl,hX2,hsz2,hcs2⟩:=hN.at hv
  have hib:0≤b∧b<(r.length:Nat):=by omega
  have hio2:off2+Int.toNat (b)*3=off2+(b).toNat*3:=rfl
  rw [he,hv]
  refine cF Tryz.func110 rfl V5 rfl rfl ?_
  intro C
  ((refine U43 ?_);(refine U3 ?_;refine bD O O (cO c1) dS ?_;refine U2 ?_;refine bK O O (cO c2) (dT O O) ?_;refine U9 ?_;refine bD O O (cO c3) (dT O O) ?_;refine U15 ?_);(refine U3 ?_))
  exact V4
 ·show PSpec _ _ _ _ (exR (elemX fs a at_))
  by_cases c1:fs.length≤a
  ·have e:elemX fs a at_ = .error 3:=by
    unfold elemX
    split
    ·rfl
    ·rw [List.getElem?_eq_none V3]
   rw [e]
   refine cF Tryz.func110 rfl V5 rfl rfl ?_
   intro C
   (refine U49 ?_;refine bD O O (cP c1) dS ?_;refine U23 ?_)
   exact V4
  by_cases c2:at_<0
  ·have e:elemX fs a at_ = .error 3:=by unfold elemX;rw [if_pos (.inr c2)]
   rw [e]
   refine cF Tryz.func110 rfl V5 rfl rfl ?_
   intro C
   (refine U49 ?_;refine bD O O (cO c1) dS ?_;refine U2 ?_;refine bK O O (cP c2) (dT O O) ?_;refine U20 ?_)
   exact V4
  obtain ⟨r,hr⟩:∃ r,fs[a.toNat]? = some r:=wg V3
  have hrl:=hrl r (dE hr)
  obtain ⟨blk,off,arr,el,fr,vad,vcap,rfl,hX,hsz,hc,hN⟩:=hfs.at_ _ r hr
  have hio:off+Int.toNat a*1=off+a.toNat:=by omega
  have hia:0≤a∧a<(fs.length:Nat):=by omega
  have he:elemX fs a at_=match r[(at_).toNat]? with|none=>.error 3|some v=>.ok v:=by
   simp only [elemX,if_neg (show ¬ (a<0∨at_<0) by omega),hr]
   cases r[(at_).toNat]? <;> rfl
  by_cases c3:r.length≤at_
  ·rw [he,List.getElem?_eq_none V3]
   refine cF Tryz.func110 rfl V5 rfl rfl ?_
   intro C
   ((refine U49 ?_);(refine bD O O (cO c1) dS ?_;refine U2 ?_;refine bK O O (cO c2) (dT O O) ?_;refine U9 ?_;refine bD O O (cP c3) (dT O O) ?_;refine U10 ?_))
   exact V4
  obtain ⟨v,hv⟩:∃ v,r[(at_).toNat]? = some v:=wg V3
  obtain ⟨vb,vN⟩:=v
  obtain ⟨_,blk2,off2,arr2,el2,fr2,rfl,hX2,hsz2,hcs2⟩:=hN.at hv
  have hib:0≤at_∧at_<(r.length:Nat):=by omega
  have hio2:off2+Int.toNat (at_)*3=off2+(at_).toNat*3:=rfl
  rw [he,hv]
  refine cF Tryz.func110 rfl V5 rfl rfl ?_
  intro C
  ((refine U49 ?_);(refine bD O O (cO c1) dS ?_;refine U2 ?_;refine bK O O (cO c2) (dT O O) ?_;refine U9 ?_;refine bD O O (cO c3) (dT O O) ?_;refine U18 ?_))
  exact V4
 ·by_cases c:at_<0
  ·show PSpec _ _ _ _ (exR (if at_<0 then .error 3 else .ok (false,at_)))
   rw [if_pos c]
   refine cF Tryz.func110 rfl V5 rfl rfl ?_
   intro C
   (refine U27 ?_;refine klt rfl rfl (cP c) ?_;refine U9 ?_)
   exact V4
  ·show PSpec _ _ _ _ (exR (if at_<0 then .error 3 else .ok (false,at_)))
   rw [if_neg c]
   show PSpec _ _ _ _ (.tup [SI false at_,Sn .i64 0])
   rw [SI_small (by omega)]
   have hcv:IntKind.u64.wrap at_=at_:=by rw [IntKind.wrap_u64];omega
   refine cF Tryz.func110 rfl V5 rfl rfl ?_
   intro C
   (refine U27 ?_;refine klt rfl rfl (cO c) ?_;refine U12 ?_)
   exact V4
end Go.Proofs.YtopiioklkkiedaaGreatDoor
end
section
set_option maxHeartbeats 12800000
set_option maxRecDepth 100000
namespace Go.Proofs.YtopiioklkkiedaaGreatDoor
open Go Go.Lg Go.Lg.Fml Go.Lg.Fld Go.Lg.Arith
set_option maxRecDepth 100000
variable (X:Nat→Option Obj)
theorem eqN {b b':Bool} {M N:Int} (hM:In2 M) (hN:In2 N):(b==b'&&(M/18446744073709551616==N/18446744073709551616&&M%18446744073709551616==N%18446744073709551616))=decide (((b,M):Nm)=(b',N)):=by
 by_cases h:b=b'∧M=N
 ·obtain ⟨rfl,rfl⟩:=h
  simp
 ·rw [cO (fun e=>h (by simpa using e))]
  cases hc:(b==b'&&(M/18446744073709551616==N/18446744073709551616&&M%18446744073709551616==N%18446744073709551616)) with
  | false=>rfl
  | true =>
   simp only [Bool.and_eq_true,beq_iff_eq] at hc
   exact absurd ⟨hc.1,by omega⟩ h
theorem eqZ {b:Bool} {M:Int} (hM:In2 M):(b==false&&(M/18446744073709551616==0&&M%18446744073709551616==0))=decide (((b,M):Nm)=(false,0)):=by
 have:=eqN (b:=b) (b':=false) hM (N:=0) (by show 0≤(0:Int)∧(0:Int)<_;omega)
 exact this
theorem cmp_lz {u v:Nm}:decide (cmpI (zz u) (zz v)<0)=decide (zz u<zz v)∧decide (0<cmpI (zz u) (zz v))=decide (zz v<zz u):=by
 unfold cmpI
 by_cases h:zz u<zz v
 ·rw [if_pos h,cP h,cO (show ¬ zz v<zz u by omega)]
  exact V30
 ·rw [if_neg h,cO h]
  by_cases h2:zz v<zz u
  ·rw [if_pos h2,cP h2];exact V30
  ·rw [if_neg h2,cO h2];exact V30
set_option maxHeartbeats 3200000 in
theorem rNode_do (op:Int) (ho:5≤op∧op≤9) (b0:Bool) (M0:Int) (b1:Bool) (M1:Int) (ad:Option Addr) (cap:Nat) (hin:NumsIn X ad [(b0,M0),(b1,M1)]):PSpec Tryz.prog X 112 [Ln .i64 op,Lx ad 2 cap] (exR (nodeX op [(b0,M0),(b1,M1)])):=by
  have hall:=hin.all V2F
  obtain ⟨blk,off,arr,el,fr,rfl,hX,hall⟩:=hall
  obtain ⟨i0,s0,c0⟩:=hall 0 _ _ rfl
  have h0:off+Int.toNat 0*3=off+0*3:=rfl
  have hb0:0≤(0:Int)∧(0:Int)<(2:Nat):=by omega
  obtain ⟨i1,s1,c1⟩:=hall 1 _ _ rfl
  have h1:off+Int.toNat 1*3=off+1*3:=rfl
  have hb1:0≤(1:Int)∧(1:Int)<(2:Nat):=by omega
  have hD:=rDo_spec X op ho (op-4) rfl (b0,M0) (b1,M1) i0 i1
  have hs:IntKind.i64.wrap (op-4)=op-4:=cH V3
  rw [show nodeX op [(b0,M0),(b1,M1)]=doX op (b0,M0) (b1,M1) from if_pos ho]
  cases hd:doX op (b0,M0) (b1,M1) with
  | error e =>
   rw [hd] at hD
   refine cF Tryz.func112 rfl V5 rfl rfl ?_
   intro C
   (refine U12 ?_;refine K.leq O O (cP V3) (dT O O) ?_;refine U4 ?_;refine rgD mixed ?_;refine U16 ?_)
   exact V4
  | ok v =>
   rw [hd] at hD
   refine cF Tryz.func112 rfl V5 rfl rfl ?_
   intro C
   (refine U12 ?_;refine K.leq O O (cP V3) (dT O O) ?_;refine U4 ?_;refine rgD mixed ?_;refine U16 ?_)
   exact V4
set_option maxHeartbeats 3200000 in
theorem rNode_10 (b0:Bool) (M0:Int) (ad:Option Addr) (cap:Nat) (hin:NumsIn X ad [(b0,M0)]):PSpec Tryz.prog X 112 [Ln .i64 10,Lx ad 1 cap] (exR (nodeX 10 [(b0,M0)])):=by
  have hall:=hin.all (by show 0<1;omega)
  obtain ⟨blk,off,arr,el,fr,rfl,hX,hall⟩:=hall
  obtain ⟨i0,s0,c0⟩:=hall 0 _ _ rfl
  have h0:off+Int.toNat 0*3=off+0*3:=rfl
  have hb0:0≤(0:Int)∧(0:Int)<(1:Nat):=by omega
  have hG0:=Good_spec X b0 M0 i0
  cases g0:formB b0 M0 with
  | false =>
   have hG0:=hG0 false g0
   rw [show nodeX 10 [(b0,M0)] = .error 1 by simp [nodeX,gd,g0]]
   refine cF Tryz.func112 rfl V5 rfl rfl ?_
   intro C
   refine U54 ?_
   exact V4
  | true =>
  have hG0:=hG0 true g0
  obtain ⟨e1,r1⟩:=gd_q (u:=(b0,M0)) g0 i0
  have hD:PSpec Tryz.prog X 152 [Ln .i64 2,.sv S0,LI b0 M0] (.tup [SQ (-(zz (b0,M0))),Sn .i64 0]):=by
   have hR:R127 (-(zz (b0,M0))):=by unfold R127 at *;omega
   have h:=Do_2 X 0 (zz (b0,M0)) V2A r1 (-(zz (b0,M0))) (by show 0-zz (b0,M0)=_;omega)
   rw [addR_in hR,← e1] at h
   exact h
  rw [show nodeX 10 [(b0,M0)] = .ok (qn (-(zz (b0,M0)))) by simp [nodeX,gd,g0]]
  clear e1 r1
  refine cF Tryz.func112 rfl V5 rfl rfl ?_
  intro C
  (refine U36 ?_;refine bC O O (r:=false) O (dT O O) ?_;refine U36 ?_)
  exact V4
set_option maxHeartbeats 3200000 in
theorem rNode_15 (b0:Bool) (M0:Int) (ad:Option Addr) (cap:Nat) (hin:NumsIn X ad [(b0,M0)]):PSpec Tryz.prog X 112 [Ln .i64 15,Lx ad 1 cap] (exR (nodeX 15 [(b0,M0)])):=by
  have hall:=hin.all (by show 0<1;omega)
  obtain ⟨blk,off,arr,el,fr,rfl,hX,hall⟩:=hall
  obtain ⟨i0,s0,c0⟩:=hall 0 _ _ rfl
  have h0:off+Int.toNat 0*3=off+0*3:=rfl
  have hb0:0≤(0:Int)∧(0:Int)<(1:Nat):=by omega
  have hG0:=Good_spec X b0 M0 i0
  cases g0:formB b0 M0 with
  | false =>
   have hG0:=hG0 false g0
   rw [show nodeX 15 [(b0,M0)] = .error 1 by simp [nodeX,gd,g0]]
   refine cF Tryz.func112 rfl V5 rfl rfl ?_
   intro C
   refine U54 ?_
   exact V4
  | true =>
  have hG0:=hG0 true g0
  have q:=eqI (b:=b0) (b':=false) (h:=M0/18446744073709551616) (h':=0) (l:=M0%18446744073709551616) (l':=0) _ (eqZ i0)
  have hTr:=rTruth_spec X (decide (((b0,M0):Nm)=(false,0)))
  rw [show nodeX 15 [(b0,M0)] = .ok (truth (decide (((b0,M0):Nm)=(false,0)))) by simp [nodeX,gd,g0]]
  generalize decide (((b0,M0):Nm)=(false,0))=z at *
  refine cF Tryz.func112 rfl V5 rfl rfl ?_
  intro C
  (refine U36 ?_;refine bC O O (r:=false) O (dT O O) ?_;refine U59 ?_;refine bR O O O O V5 q (.inl ⟨O,O⟩) dS ?_;refine U7 ?_)
  exact V4
theorem nodeX_11 (b0 b1:Bool) (M0 M1:Int) (g0:formB b0 M0=true) (g1:formB b1 M1=true):nodeX 11 [(b0,M0),(b1,M1)] = .ok (if zz (b1,M1)<zz (b0,M0) then (b1,M1) else (b0,M0)):=by
 simp [nodeX,gd,g0,g1]
set_option maxHeartbeats 3200000 in
theorem rNode_11 (b0:Bool) (M0:Int) (b1:Bool) (M1:Int) (ad:Option Addr) (cap:Nat) (hin:NumsIn X ad [(b0,M0),(b1,M1)]):PSpec Tryz.prog X 112 [Ln .i64 11,Lx ad 2 cap] (exR (nodeX 11 [(b0,M0),(b1,M1)])):=by
  have hall:=hin.all V2F
  obtain ⟨blk,off,arr,el,fr,rfl,hX,hall⟩:=hall
  obtain ⟨i0,s0,c0⟩:=hall 0 _ _ rfl
  have h0:off+Int.toNat 0*3=off+0*3:=rfl
  have hb0:0≤(0:Int)∧(0:Int)<(2:Nat):=by omega
  obtain ⟨i1,s1,c1⟩:=hall 1 _ _ rfl
  have h1:off+Int.toNat 1*3=off+1*3:=rfl
  have hb1:0≤(1:Int)∧(1:Int)<(2:Nat):=by omega
  have hG0:=Good_spec X b0 M0 i0
  have hG1:=Good_spec X b1 M1 i1
  cases g0:formB b0 M0 with
  | false =>
   have hG0:=hG0 false g0
   rw [show nodeX 11 [(b0,M0),(b1,M1)] = .error 1 by simp [nodeX,gd,g0]]
   refine cF Tryz.func112 rfl V5 rfl rfl ?_
   intro C
   refine U54 ?_
   exact V4
  | true =>
  have hG0:=hG0 true g0
  cases g1:formB b1 M1 with
  | false =>
   have hG1:=hG1 false g1
   rw [show nodeX 11 [(b0,M0),(b1,M1)] = .error 1 by simp [nodeX,gd,g0,g1]]
   refine cF Tryz.func112 rfl V5 rfl rfl ?_
   intro C
   refine U54 ?_
   exact V4
  | true =>
  have hG1:=hG1 true g1
  obtain ⟨e0,r0⟩:=gd_q (u:=(b0,M0)) g0 i0
  obtain ⟨e1,r1⟩:=gd_q (u:=(b1,M1)) g1 i1
  have hC:=RCmp_spec X (zz (b1,M1)) (zz (b0,M0)) r1 r0 _ rfl
  rw [← e0,← e1] at hC
  obtain ⟨k1,k2⟩:=cmp_lz (u:=(b1,M1)) (v:=(b0,M0))
  have hk:=nodeX_11 b0 b1 M0 M1 g0 g1
  rw [hk]
  clear e0 e1 hk
  by_cases c:zz (b1,M1)<zz (b0,M0)
  ·rw [if_pos c]
   rw [cP c] at k1
   generalize cmpI (zz (b1,M1)) (zz (b0,M0))=z at *
   refine cF Tryz.func112 rfl V5 rfl rfl ?_
   intro C
   (refine U60 ?_;refine U8 ?_;refine rgD mixed ?_;refine U7 ?_;refine klt rfl rfl k1 ?_;refine U12 ?_)
   exact V4
  ·rw [if_neg c]
   rw [cO c] at k1
   generalize cmpI (zz (b1,M1)) (zz (b0,M0))=z at *
   refine cF Tryz.func112 rfl V5 rfl rfl ?_
   intro C
   ((refine U44 ?_);(refine U24 ?_;refine rgD mixed ?_;refine U7 ?_;refine klt rfl rfl k1 ?_;refine U13 ?_))
   exact V4
theorem nodeX_12 (b0 b1:Bool) (M0 M1:Int) (g0:formB b0 M0=true) (g1:formB b1 M1=true):nodeX 12 [(b0,M0),(b1,M1)] = .ok (if zz (b0,M0)<zz (b1,M1) then (b1,M1) else (b0,M0)):=by
 simp [nodeX,gd,g0,g1]
set_option maxHeartbeats 3200000 in
theorem rNode_12 (b0:Bool) (M0:Int) (b1:Bool) (M1:Int) (ad:Option Addr) (cap:Nat) (hin:NumsIn X ad [(b0,M0),(b1,M1)]):PSpec Tryz.prog X 112 [Ln .i64 12,Lx ad 2 cap] (exR (nodeX 12 [(b0,M0),(b1,M1)])):=by
  have hall:=hin.all V2F
  obtain ⟨blk,off,arr,el,fr,rfl,hX,hall⟩:=hall
  obtain ⟨i0,s0,c0⟩:=hall 0 _ _ rfl
  have h0:off+Int.toNat 0*3=off+0*3:=rfl
  have hb0:0≤(0:Int)∧(0:Int)<(2:Nat):=by omega
  obtain ⟨i1,s1,c1⟩:=hall 1 _ _ rfl
  have h1:off+Int.toNat 1*3=off+1*3:=rfl
  have hb1:0≤(1:Int)∧(1:Int)<(2:Nat):=by omega
  have hG0:=Good_spec X b0 M0 i0
  have hG1:=Good_spec X b1 M1 i1
  cases g0:formB b0 M0 with
  | false =>
   have hG0:=hG0 false g0
   rw [show nodeX 12 [(b0,M0),(b1,M1)] = .error 1 by simp [nodeX,gd,g0]]
   refine cF Tryz.func112 rfl V5 rfl rfl ?_
   intro C
   refine U54 ?_
   exact V4
  | true =>
  have hG0:=hG0 true g0
  cases g1:formB b1 M1 with
  | false =>
   have hG1:=hG1 false g1
   rw [show nodeX 12 [(b0,M0),(b1,M1)] = .error 1 by simp [nodeX,gd,g0,g1]]
   refine cF Tryz.func112 rfl V5 rfl rfl ?_
   intro C
   refine U54 ?_
   exact V4
  | true =>
  have hG1:=hG1 true g1
  obtain ⟨e0,r0⟩:=gd_q (u:=(b0,M0)) g0 i0
  obtain ⟨e1,r1⟩:=gd_q (u:=(b1,M1)) g1 i1
  have hC:=RCmp_spec X (zz (b1,M1)) (zz (b0,M0)) r1 r0 _ rfl
  rw [← e0,← e1] at hC
  obtain ⟨k1,k2⟩:=cmp_lz (u:=(b1,M1)) (v:=(b0,M0))
  have hk:=nodeX_12 b0 b1 M0 M1 g0 g1
  rw [hk]
  clear e0 e1 hk
  by_cases c:zz (b0,M0)<zz (b1,M1)
  ·rw [if_pos c]
   rw [cP c] at k2
   generalize cmpI (zz (b1,M1)) (zz (b0,M0))=z at *
   refine cF Tryz.func112 rfl V5 rfl rfl ?_
   intro C
   ((refine U44 ?_);(refine U30 ?_;refine rgD mixed ?_;refine U7 ?_;refine aS O O k2 dS ?_;refine U12 ?_))
   exact V4
  ·rw [if_neg c]
   rw [cO c] at k2
   generalize cmpI (zz (b1,M1)) (zz (b0,M0))=z at *
   refine cF Tryz.func112 rfl V5 rfl rfl ?_
   intro C
   ((refine U44 ?_);(refine U30 ?_;refine rgD mixed ?_;refine U7 ?_;refine aS O O k2 dS ?_;refine U13 ?_))
   exact V4
set_option maxHeartbeats 3200000 in
theorem rNode_13 (b0:Bool) (M0:Int) (b1:Bool) (M1:Int) (ad:Option Addr) (cap:Nat) (hin:NumsIn X ad [(b0,M0),(b1,M1)]):PSpec Tryz.prog X 112 [Ln .i64 13,Lx ad 2 cap] (exR (nodeX 13 [(b0,M0),(b1,M1)])):=by
  have hall:=hin.all V2F
  obtain ⟨blk,off,arr,el,fr,rfl,hX,hall⟩:=hall
  obtain ⟨i0,s0,c0⟩:=hall 0 _ _ rfl
  have h0:off+Int.toNat 0*3=off+0*3:=rfl
  have hb0:0≤(0:Int)∧(0:Int)<(2:Nat):=by omega
  obtain ⟨i1,s1,c1⟩:=hall 1 _ _ rfl
  have h1:off+Int.toNat 1*3=off+1*3:=rfl
  have hb1:0≤(1:Int)∧(1:Int)<(2:Nat):=by omega
  have hG0:=Good_spec X b0 M0 i0
  have hG1:=Good_spec X b1 M1 i1
  cases g0:formB b0 M0 with
  | false =>
   have hG0:=hG0 false g0
   rw [show nodeX 13 [(b0,M0),(b1,M1)] = .error 1 by simp [nodeX,gd,g0]]
   refine cF Tryz.func112 rfl V5 rfl rfl ?_
   intro C
   refine U54 ?_
   exact V4
  | true =>
  have hG0:=hG0 true g0
  cases g1:formB b1 M1 with
  | false =>
   have hG1:=hG1 false g1
   rw [show nodeX 13 [(b0,M0),(b1,M1)] = .error 1 by simp [nodeX,gd,g0,g1]]
   refine cF Tryz.func112 rfl V5 rfl rfl ?_
   intro C
   refine U54 ?_
   exact V4
  | true =>
  have hG1:=hG1 true g1
  have q:=eqI (b:=b0) (b':=b1) (h:=M0/18446744073709551616) (h':=M1/18446744073709551616) (l:=M0%18446744073709551616) (l':=M1%18446744073709551616) _ (eqN i0 i1)
  have hTr:=rTruth_spec X (decide (((b0,M0):Nm)=(b1,M1)))
  rw [show nodeX 13 [(b0,M0),(b1,M1)] = .ok (truth (decide (((b0,M0):Nm)=(b1,M1)))) by simp [nodeX,gd,g0,g1]]
  generalize decide (((b0,M0):Nm)=(b1,M1))=z at *
  refine cF Tryz.func112 rfl V5 rfl rfl ?_
  intro C
  ((refine U44 ?_);(refine U35 ?_;refine rgD mixed ?_;refine U6 ?_;refine bR O O O O V5 q (.inl ⟨O,O⟩) dS ?_;refine U8 ?_))
  exact V4
set_option maxHeartbeats 3200000 in
theorem rNode_14 (b0:Bool) (M0:Int) (b1:Bool) (M1:Int) (ad:Option Addr) (cap:Nat) (hin:NumsIn X ad [(b0,M0),(b1,M1)]):PSpec Tryz.prog X 112 [Ln .i64 14,Lx ad 2 cap] (exR (nodeX 14 [(b0,M0),(b1,M1)])):=by
  have hall:=hin.all V2F
  obtain ⟨blk,off,arr,el,fr,rfl,hX,hall⟩:=hall
  obtain ⟨i0,s0,c0⟩:=hall 0 _ _ rfl
  have h0:off+Int.toNat 0*3=off+0*3:=rfl
  have hb0:0≤(0:Int)∧(0:Int)<(2:Nat):=by omega
  obtain ⟨i1,s1,c1⟩:=hall 1 _ _ rfl
  have h1:off+Int.toNat 1*3=off+1*3:=rfl
  have hb1:0≤(1:Int)∧(1:Int)<(2:Nat):=by omega
  have hG0:=Good_spec X b0 M0 i0
  have hG1:=Good_spec X b1 M1 i1
  cases g0:formB b0 M0 with
  | false =>
   have hG0:=hG0 false g0
   rw [show nodeX 14 [(b0,M0),(b1,M1)] = .error 1 by simp [nodeX,gd,g0]]
   refine cF Tryz.func112 rfl V5 rfl rfl ?_
   intro C
   refine U54 ?_
   exact V4
  | true =>
  have hG0:=hG0 true g0
  cases g1:formB b1 M1 with
  | false =>
   have hG1:=hG1 false g1
   rw [show nodeX 14 [(b0,M0),(b1,M1)] = .error 1 by simp [nodeX,gd,g0,g1]]
   refine cF Tryz.func112 rfl V5 rfl rfl ?_
   intro C
   refine U54 ?_
   exact V4
  | true =>
  have hG1:=hG1 true g1
  obtain ⟨e0,r0⟩:=gd_q (u:=(b0,M0)) g0 i0
  obtain ⟨e1,r1⟩:=gd_q (u:=(b1,M1)) g1 i1
  have hC:=RCmp_spec X (zz (b0,M0)) (zz (b1,M1)) r0 r1 _ rfl
  rw [← e0,← e1] at hC
  obtain ⟨k1,_⟩:=cmp_lz (u:=(b0,M0)) (v:=(b1,M1))
  have hTr:=rTruth_spec X (decide (zz (b0,M0)<zz (b1,M1)))
  rw [show nodeX 14 [(b0,M0),(b1,M1)] = .ok (truth (decide (zz (b0,M0)<zz (b1,M1)))) by simp [nodeX,gd,g0,g1]]
  clear e0 e1
  generalize decide (zz (b0,M0)<zz (b1,M1))=y at *
  generalize cmpI (zz (b0,M0)) (zz (b1,M1))=z at *
  refine cF Tryz.func112 rfl V5 rfl rfl ?_
  intro C
  ((refine U44 ?_);(refine U41 ?_;refine rgD mixed ?_;refine U7 ?_;refine klt rfl rfl k1 ?_;refine U8 ?_))
  exact V4
set_option maxHeartbeats 3200000 in
theorem rNode_16 (b0:Bool) (M0:Int) (b1:Bool) (M1:Int) (b2:Bool) (M2:Int) (ad:Option Addr) (cap:Nat) (hin:NumsIn X ad [(b0,M0),(b1,M1),(b2,M2)]):PSpec Tryz.prog X 112 [Ln .i64 16,Lx ad 3 cap] (exR (nodeX 16 [(b0,M0),(b1,M1),(b2,M2)])):=by
  have hall:=hin.all (by show 0<3;omega)
  obtain ⟨blk,off,arr,el,fr,rfl,hX,hall⟩:=hall
  obtain ⟨i0,s0,c0⟩:=hall 0 _ _ rfl
  have h0:off+Int.toNat 0*3=off+0*3:=rfl
  have hb0:0≤(0:Int)∧(0:Int)<(3:Nat):=by omega
  obtain ⟨i1,s1,c1⟩:=hall 1 _ _ rfl
  have h1:off+Int.toNat 1*3=off+1*3:=rfl
  have hb1:0≤(1:Int)∧(1:Int)<(3:Nat):=by omega
  obtain ⟨i2,s2,c2⟩:=hall 2 _ _ rfl
  have h2:off+Int.toNat 2*3=off+2*3:=rfl
  have hb2:0≤(2:Int)∧(2:Int)<(3:Nat):=by omega
  have hG0:=Good_spec X b0 M0 i0
  cases g0:formB b0 M0 with
  | false =>
   have hG0:=hG0 false g0
   rw [show nodeX 16 [(b0,M0),(b1,M1),(b2,M2)] = .error 1 by simp [nodeX,gd,g0]]
   refine cF Tryz.func112 rfl V5 rfl rfl ?_
   intro C
   refine U54 ?_
   exact V4
  | true =>
  have hG0:=hG0 true g0
  have q:=eqI (b:=b0) (b':=false) (h:=M0/18446744073709551616) (h':=0) (l:=M0%18446744073709551616) (l':=0) _ (eqZ i0)
  rw [show nodeX 16 [(b0,M0),(b1,M1),(b2,M2)] = .ok (if ((b0,M0):Nm)=(false,0) then (b2,M2) else (b1,M1)) by simp [nodeX,gd,g0]]
  by_cases c:((b0,M0):Nm)=(false,0)
  ·rw [if_pos c]
   rw [cP c] at q
   refine cF Tryz.func112 rfl V5 rfl rfl ?_
   intro C
   ((refine U36 ?_;refine bC O O (r:=false) O (dT O O) ?_;refine U23 ?_);(refine U38 ?_;refine bR (c:=false) O O O O V5 q (.inr ⟨O,O⟩) dS ?_;refine U12 ?_))
   exact V4
  ·rw [if_neg c]
   rw [cO c] at q
   refine cF Tryz.func112 rfl V5 rfl rfl ?_
   intro C
   ((refine U36 ?_;refine bC O O (r:=false) O (dT O O) ?_;refine U23 ?_);(refine U38 ?_;refine bR (c:=true) O O O O V5 q (.inr ⟨O,O⟩) dS ?_;refine U11 ?_))
   exact V4
set_option maxHeartbeats 3200000 in
theorem rNode_17 (b0:Bool) (M0:Int) (b1:Bool) (M1:Int) (ad:Option Addr) (cap:Nat) (hin:NumsIn X ad [(b0,M0),(b1,M1)]):PSpec Tryz.prog X 112 [Ln .i64 17,Lx ad 2 cap] (exR (nodeX 17 [(b0,M0),(b1,M1)])):=by
  have hall:=hin.all V2F
  obtain ⟨blk,off,arr,el,fr,rfl,hX,hall⟩:=hall
  obtain ⟨i0,s0,c0⟩:=hall 0 _ _ rfl
  have h0:off+Int.toNat 0*3=off+0*3:=rfl
  have hb0:0≤(0:Int)∧(0:Int)<(2:Nat):=by omega
  obtain ⟨i1,s1,c1⟩:=hall 1 _ _ rfl
  have h1:off+Int.toNat 1*3=off+1*3:=rfl
  have hb1:0≤(1:Int)∧(1:Int)<(2:Nat):=by omega
  have hG1:=Good_spec X b1 M1 i1
  cases g1:formB b1 M1 with
  | false =>
   have hG1:=hG1 false g1
   rw [show nodeX 17 [(b0,M0),(b1,M1)] = .error 1 by simp [nodeX,gd,g1]]
   refine cF Tryz.func112 rfl V5 rfl rfl ?_
   intro C
   refine U41 ?_
   exact V4
  | true =>
  have hG1:=hG1 true g1
  have q:=eqI (b:=b1) (b':=false) (h:=M1/18446744073709551616) (h':=0) (l:=M1%18446744073709551616) (l':=0) _ (eqZ i1)
  rw [show nodeX 17 [(b0,M0),(b1,M1)]=(if ((b1,M1):Nm)=(false,0) then .error 9 else .ok (b0,M0)) by simp [nodeX,gd,g1]]
  by_cases c:((b1,M1):Nm)=(false,0)
  ·rw [if_pos c]
   rw [cP c] at q
   refine cF Tryz.func112 rfl V5 rfl rfl ?_
   intro C
   (refine U42 ?_;refine bR O O O O V5 q (.inl ⟨O,O⟩) dS ?_;refine U9 ?_)
   exact V4
  ·rw [if_neg c]
   rw [cO c] at q
   refine cF Tryz.func112 rfl V5 rfl rfl ?_
   intro C
   (refine U42 ?_;refine bR O O O O V5 q (.inl ⟨O,O⟩) dS ?_;refine U12 ?_)
   exact V4
theorem rNode_spec (op:Int) (a:List Nm) (hl:a.length=takes op) (hpos:0<takes op) (ad:Option Addr) (cap:Nat) (hin:NumsIn X ad a):PSpec Tryz.prog X 112 [Ln .i64 op,Lx ad a.length cap] (exR (nodeX op a)):=by
 have h517:5≤op∧op≤17:=by
  unfold takes at hpos
  split at hpos
  ·omega
  ·split at hpos
   ·omega
   ·split at hpos<;>omega
 have t1:∀ {n:Nat} (_:a.length=n),n=1→∃ b0 M0,a=[(b0,M0)]:=fun h e=>by
  subst e
  match a,h with
  | [(b0,M0)],_=>exact ⟨_,_,rfl⟩
 have t2:∀ {n:Nat} (_:a.length=n),n=2→∃ b0 M0 b1 M1,a=[(b0,M0),(b1,M1)]:=fun h e=>by
  subst e
  match a,h with
  | [(b0,M0),(b1,M1)],_=>exact ⟨_,_,_,_,rfl⟩
 have t3:∀ {n:Nat} (_:a.length=n),n=3→∃ b0 M0 b1 M1 b2 M2,a=[(b0,M0),(b1,M1),(b2,M2)]:=fun h e=>by
  subst e
  match a,h with
  | [(b0,M0),(b1,M1),(b2,M2)],_=>exact ⟨_,_,_,_,_,_,rfl⟩
 by_cases h9:op≤9
 ·obtain ⟨b0,M0,b1,M1,rfl⟩:=t2 hl (by unfold takes;rw [if_neg V3,if_neg V3,if_pos V3])
  exact rNode_do X op ⟨by omega,h9⟩ b0 M0 b1 M1 ad cap hin
 ·rcases (show op=10∨op=11∨op=12∨op=13∨op=14∨op=15∨op=16∨op=17 by omega) with rfl|rfl|rfl|rfl|rfl|rfl|rfl|rfl
  ·obtain ⟨b0,M0,rfl⟩:=t1 hl rfl
   exact rNode_10 X b0 M0 ad cap hin
  ·obtain ⟨b0,M0,b1,M1,rfl⟩:=t2 hl rfl
   exact rNode_11 X b0 M0 b1 M1 ad cap hin
  ·obtain ⟨b0,M0,b1,M1,rfl⟩:=t2 hl rfl
   exact rNode_12 X b0 M0 b1 M1 ad cap hin
  ·obtain ⟨b0,M0,b1,M1,rfl⟩:=t2 hl rfl
   exact rNode_13 X b0 M0 b1 M1 ad cap hin
  ·obtain ⟨b0,M0,b1,M1,rfl⟩:=t2 hl rfl
   exact rNode_14 X b0 M0 b1 M1 ad cap hin
  ·obtain ⟨b0,M0,rfl⟩:=t1 hl rfl
   exact rNode_15 X b0 M0 ad cap hin
  ·obtain ⟨b0,M0,b1,M1,b2,M2,rfl⟩:=t3 hl rfl
   exact rNode_16 X b0 M0 b1 M1 b2 M2 ad cap hin
  ·obtain ⟨b0,M0,b1,M1,rfl⟩:=t2 hl rfl
   exact rNode_17 X b0 M0 b1 M1 ad cap hin
end Go.Proofs.YtopiioklkkiedaaGreatDoor
end
section
set_option maxHeartbeats 12800000
set_option maxRecDepth 100000
namespace Go.Proofs.YtopiioklkkiedaaGreatDoor
open Go Go.Lg Go.Lg.Fml Go.Lg.Fld Go.Lg.Arith
set_option maxRecDepth 100000
variable (X:Nat→Option Obj)
theorem szle (a b:List UInt8) (h:a.length+b.length≤9223372036854775807):(⟨a.toArray⟩:ByteArray).size+(⟨b.toArray⟩:ByteArray).size≤9223372036854775807:=h
theorem encErr_chk {l:List Ins} (h:chkX l≠0):encErr l=chkX l∧encTX l=[]:=by
 have e:encErr l=chkX l:=if_neg h
 exact ⟨e,by unfold encTX;rw [e,if_neg h]⟩
theorem encErr_bad {l:List Ins} {x:Ins} (hz:chkX l=0) (hx:x∈l) (hp:plainI x=false):encErr l=1∧encTX l=[]:=by
 have e:encErr l=1:=by
  unfold encErr
  rw [if_pos hz,if_neg]
  intro h
  rw [List.all_eq_true.1 h x hx] at hp
  cases hp
 exact ⟨e,by unfold encTX;rw [e];rfl⟩
theorem encErr_ok {l:List Ins} (hz:chkX l=0) (hp:l.all plainI=true):encErr l=0∧encTX l=encX l:=by
 have e:encErr l=0:=by
  unfold encErr
  rw [if_pos hz,if_pos hp]
 exact ⟨e,by unfold encTX;rw [if_pos e]⟩
theorem encIs_snoc {l:List Ins} {i:Nat} {x:Ins} (h:l[i]? = some x):encIs (l.take (i+1))=encIs (l.take i)++encI x:=by
 rw [take_snoc h,encIs_app]
 simp [encIs]
set_option maxHeartbeats 12800000 in
theorem rEncode11 (l:List Ins) (ad:Option Addr) (cap:Nat) (hin:InsIn X ad l) (hbig:l.length<1152921504606846976):PSpec Tryz.prog X 131 [Lx ad l.length cap] (.tup [Ss (encTX l),Sn .i64 (encErr l)]):=by
 have hC:=rCheck11 X l ad cap hin V3
 by_cases hz:chkX l=0
 case neg =>
  obtain ⟨e1,e2⟩:=encErr_chk hz
  rw [e1,e2]
  refine cF Tryz.func131 rfl V5 rfl rfl ?_
  intro C
  (refine U15 ?_;refine kne rfl rfl (cU hz) ?_;refine U9 ?_)
  exact V1E
 rw [hz] at hC
 have h64:=(chkX_zero hz).1
 have wl:=wrap_o8 (l.length:Nat)
 refine cF Tryz.func131 rfl V5 rfl rfl ?_
 intro C
 (refine U23 ?_;refine kcv O wl ?_;refine aZ (zs:=[.int .u8 0]) (sz:=1) (e:=5) (cs':=[o8 (l.length:Nat)].map bc) V5 O O O O O O dS<|bS (l:=[o8 (l.length:Nat)]) O O V5 StrT.u (dO _) O dS ?_;refine U8 ?_)
 refine cL (fun m σ=>∃ i:Nat,i≤l.length∧m=l.length-i∧(l.take i).all plainI=true∧σ=⟨[(0,Lx ad l.length cap),(5,Ls (o8 (l.length:Nat)::encIs (l.take i))),(6,Ln .i64 (i:Nat))],[],X⟩) l.length
  ⟨⟨[(0,Lx ad l.length cap),(5,Ls (o8 (l.length:Nat)::encIs (l.take 0))),(6,Ln .i64 (0:Nat))],[],X⟩,Le.of V9 VC V2 V2 V2,0,by omega,rfl,rfl,rfl⟩ ?_
 rintro m σ ⟨i,hi,rfl,hpl,rfl⟩
 have hSl:(o8 (l.length:Nat)::encIs (l.take i)).length≤1153:=by
  have:=encIs_len (l.take i)
  rw [dA] at this
  rw [dJ];omega
 by_cases hlt:i<l.length
 case neg =>
  have e:i=l.length:=by omega
  subst e
  rw [dG] at hpl hSl ⊢
  obtain ⟨e1,e2⟩:=encErr_ok hz hpl
  rw [e1,e2]
  unfold encX
  refine U17 ?_
  exact V1E
 obtain ⟨x,hx⟩:=wg hlt
 have hmem:=dE hx
 obtain ⟨blk,off,arr,el,fr,rfl,hX,hsz,hcs,_⟩:=hin.at hx
 have hio:=wo off i 6
 obtain ⟨_,_,_,hk2⟩:=hin.small x hmem
 obtain ⟨h17,hgk,ha7,hb7⟩:=okI_facts (chkX_ok hz x hmem)
 have hbad:=fun h=>encErr_bad (x:=x) hz hmem h
 have hgood:=fun h:plainI x=true=>show (l.take (i+1)).all plainI=true by rw [take_snoc hx,List.all_append,hpl];simp [h]
 have hnext:o8 (l.length:Nat)::encIs (l.take (i+1))=(o8 (l.length:Nat)::encIs (l.take i))++encI x:=by rw [encIs_snoc hx];rfl
 obtain ⟨op,a,b,kb,kN⟩:=x
 simp only at h17 hgk ha7 hb7 hk2
 have q:=eqI (b:=kb) (b':=false) (h:=kN/18446744073709551616) (h':=0) (l:=kN%18446744073709551616) (l':=0) _ (eqZ hk2)
 have hW1:=rWord_spec X (loW kN) (by unfold loW;omega)
 have hW2:=rWord_spec X (hiW kN) (by unfold hiW In2 at *;omega)
 rw [show ((loW kN:Nat):Int)=kN%18446744073709551616 by unfold loW;omega] at hW1
 rw [show ((hiW kN:Nat):Int)=kN/18446744073709551616 by unfold hiW In2 at *;omega] at hW2
 have l8:=leB_length 8 (loW kN)
 have w0:=wrap_o8 op
 have wa:=wrap_o8 a
 have wb:=wrap_o8 b
 have hadd:IntKind.i64.wrap ((i:Int)+1)=((i+1:Nat):Int):=by rw [cH V3];omega
 generalize hS:o8 (l.length:Nat)::encIs (l.take i)=S at *
 generalize hS':o8 (l.length:Nat)::encIs (l.take (i+1))=S' at *
 by_cases hc:op=1
 case pos =>
  have heo1:op=1:=hc
  have hno2:op≠2:=by omega
  have hno3:op≠3:=by omega
  by_cases cB:b=0
  case neg =>
   have hp:plainI ⟨op,a,b,(kb,kN)⟩=false:=by
    unfold plainI
    simp only
    rw [cO (show ¬ op=2 by omega),cO cB];simp
   obtain ⟨e1,e2⟩:=hbad hp
   rw [e1,e2]
   (refine U26 ?_;refine kne O O (cT heo1) ?_;refine U13 ?_;refine aX O O (cU cB) (dT O O) ?_;refine U25 ?_)
   exact V1E
  by_cases cA:a=0
  case neg =>
   have hp:plainI ⟨op,a,b,(kb,kN)⟩=false:=by
    unfold plainI
    simp only
    rw [cO (show ¬ op=2 by omega),cO (show ¬ op=3 by omega),cO cA];simp
   obtain ⟨e1,e2⟩:=hbad hp
   rw [e1,e2]
   ((refine U26 ?_;refine kne O O (cT heo1) ?_;refine U13 ?_;refine aX O O (cT cB) (dT O O) ?_);(refine U9 ?_;refine aX O O (cU hno3) (dT O O) ?_;refine U4 ?_;refine aX O O (cU cA) (dT O O) ?_;refine U1 ?_);(refine U9 ?_))
   exact V1E
  have hpn:=hgood (by
   unfold plainI
   simp only
   rw [Bool.and_eq_true,Bool.and_eq_true,Bool.or_eq_true,Bool.or_eq_true,Bool.or_eq_true,Bool.or_eq_true]
   simp only [decide_eq_true_eq]
   exact ⟨.inl hc,.inr cB,.inr (.inr cA)⟩)
  have he:encI ⟨op,a,b,(kb,kN)⟩=o8 op::(sgB kb::(leB 8 (loW kN)++leB 8 (hiW kN))):=by unfold encI;simp only;rw [if_pos hc]
  rw [he] at hnext
  generalize leB 8 (loW kN)=B1 at *
  have l82:=leB_length 8 (hiW kN)
  generalize leB 8 (hiW kN)=B2 at *
  cases kb with
  | false =>
   have hcat:(⟨((((S++[o8 op])++[sgB false])++B1)).toArray⟩:ByteArray)++⟨B2.toArray⟩=⟨S'.toArray⟩:=by rw [str_add,hnext];simp only [dN,List.cons_append,List.nil_append]
   ((refine U26 ?_;refine kne O O (cT heo1) ?_;refine U13 ?_;refine aX O O (cT cB) (dT O O) ?_);(refine U9 ?_;refine aX O O (cU hno3) (dT O O) ?_;refine U4 ?_;refine aX O O (cT cA) (dT O O) ?_;refine U1 ?_);(refine U10 ?_;refine aZ (zs:=[.int .u8 0]) (sz:=1) (e:=5) (cs':=[o8 op].map bc) V5 O O O O O O dS<|bS (l:=[o8 op]) O O V5 StrT.u (dO _) O dS<|bM O O (szle S [o8 op] (by simp only [cZ];omega)) (str_add S [o8 op]) dS ?_;refine U10 ?_;refine keq O O (r:=true) (cV hc) ?_;refine U16 ?_;refine rgD mixed ?_;refine U2 ?_;refine aZ (zs:=[.int .u8 0]) (sz:=1) (e:=5) (cs':=[sgB false].map bc) V5 O O O O O O dS<|bS (l:=[sgB false]) O O V5 StrT.u (dO _) O dS<|bM O O (szle (S++[o8 op]) [sgB false] V25) (str_add (S++[o8 op]) [sgB false]) dS ?_;refine U2 ?_);(refine U2 ?_;refine bM O O (szle ((S++[o8 op])++[sgB false]) B1 V25) (str_add ((S++[o8 op])++[sgB false]) B1) dS ?_;refine U4 ?_;refine bM O O (szle (((S++[o8 op])++[sgB false])++B1) B2 V25) hcat dS ?_;refine U8 ?_))
   exact ⟨_,⟨[(0,Lx (some ⟨blk,off,none⟩) l.length cap),(5,Ls S'),(6,Ln .i64 (i+1:Nat))],[],X⟩,by omega,Le.of V9 VC V2 V2 V2,i+1,by omega,rfl,hpn,by rw [hS']⟩
  | true =>
   have hcat:(⟨((((S++[o8 op])++[sgB true])++B1)).toArray⟩:ByteArray)++⟨B2.toArray⟩=⟨S'.toArray⟩:=by rw [str_add,hnext];simp only [dN,List.cons_append,List.nil_append]
   ((refine U26 ?_;refine kne O O (cT heo1) ?_;refine U13 ?_;refine aX O O (cT cB) (dT O O) ?_);(refine U9 ?_;refine aX O O (cU hno3) (dT O O) ?_;refine U4 ?_;refine aX O O (cT cA) (dT O O) ?_;refine U1 ?_);(refine U10 ?_;refine aZ (zs:=[.int .u8 0]) (sz:=1) (e:=5) (cs':=[o8 op].map bc) V5 O O O O O O dS<|bS (l:=[o8 op]) O O V5 StrT.u (dO _) O dS<|bM O O (szle S [o8 op] (by simp only [cZ];omega)) (str_add S [o8 op]) dS ?_;refine U10 ?_;refine keq O O (r:=true) (cV hc) ?_;refine U18 ?_;refine rgD mixed ?_;refine U2 ?_;refine aZ (zs:=[.int .u8 0]) (sz:=1) (e:=5) (cs':=[sgB true].map bc) V5 O O O O O O dS<|bS (l:=[sgB true]) O O V5 StrT.u (dO _) O dS<|bM O O (szle (S++[o8 op]) [sgB true] V25) (str_add (S++[o8 op]) [sgB true]) dS ?_;refine U4 ?_;refine bM O O (szle ((S++[o8 op])++[sgB true]) B1 V25) (str_add ((S++[o8 op])++[sgB true]) B1) dS ?_;refine U1 ?_);(refine U3 ?_;refine bM O O (szle (((S++[o8 op])++[sgB true])++B1) B2 V25) hcat dS ?_;refine U8 ?_))
   exact ⟨_,⟨[(0,Lx (some ⟨blk,off,none⟩) l.length cap),(5,Ls S'),(6,Ln .i64 (i+1:Nat))],[],X⟩,by omega,Le.of V9 VC V2 V2 V2,i+1,by omega,rfl,hpn,by rw [hS']⟩
 by_cases hc2:op=2
 case pos =>
  have hc:=hc2
  have hno1:op≠1:=by omega
  have heo2:op=2:=hc
  have hno3:op≠3:=by omega
  by_cases cK:((kb,kN):Nm)=(false,0)
  case neg =>
   have hp:plainI ⟨op,a,b,(kb,kN)⟩=false:=by
    unfold plainI
    simp only
    rw [cO (show ¬ op=1 by omega),cO cK];rfl
   obtain ⟨e1,e2⟩:=hbad hp
   rw [e1,e2]
   rw [cO cK] at q
   (refine U26 ?_;refine kne O O (cU hno1) ?_;refine U4 ?_;refine bR (c:=true) O O O O V5 q (.inr ⟨O,O⟩) (dT O O) ?_;refine U34 ?_)
   exact V1E
  rw [cP cK] at q
  have hpn:=hgood (by
   unfold plainI
   simp only
   rw [Bool.and_eq_true,Bool.and_eq_true,Bool.or_eq_true,Bool.or_eq_true,Bool.or_eq_true,Bool.or_eq_true]
   simp only [decide_eq_true_eq]
   exact ⟨.inr cK,.inl hc,.inl hc⟩)
  have he:encI ⟨op,a,b,(kb,kN)⟩=o8 op::[o8 a,o8 b]:=by unfold encI;simp only;rw [if_neg (show ¬ op=1 by omega),if_pos hc]
  rw [he] at hnext
  have hcat:(⟨(S++[o8 op]).toArray⟩:ByteArray)++⟨([o8 a,o8 b]:List UInt8).toArray⟩=⟨S'.toArray⟩:=by rw [str_add,hnext];simp only [dN,List.cons_append,List.nil_append]
  ((refine U26 ?_;refine kne O O (cU hno1) ?_;refine U4 ?_;refine bR (c:=false) O O O O V5 q (.inr ⟨O,O⟩) (dT O O) ?_;refine U4 ?_);(refine aX O O (cT heo2) (dT O O) ?_;refine U9 ?_;refine aX O O (cT heo2) (dT O O) ?_;refine U20 ?_;refine aZ (zs:=[.int .u8 0]) (sz:=1) (e:=5) (cs':=[o8 op].map bc) V5 O O O O O O dS<|bS (l:=[o8 op]) O O V5 StrT.u (dO _) O dS<|bM O O (szle S [o8 op] (by simp only [cZ];omega)) (str_add S [o8 op]) dS ?_;refine U5 ?_);(refine U11 ?_;refine keq O O (r:=true) (cV hc) ?_;refine U7 ?_;refine kcv O wa ?_;refine U2 ?_;refine kcv O wb ?_;refine aZ (zs:=[.int .u8 0,.int .u8 0]) (sz:=1) (e:=5) (cs':=[o8 a,o8 b].map bc) V5 O O O O O O dS<|bS (l:=[o8 a,o8 b]) O O V5 StrT.u (dO _) O dS<|bM O O (szle (S++[o8 op]) [o8 a,o8 b] (by simp only [cW,cZ,dJ,dP];omega)) hcat dS ?_;refine U7 ?_))
  exact ⟨_,⟨[(0,Lx (some ⟨blk,off,none⟩) l.length cap),(5,Ls S'),(6,Ln .i64 (i+1:Nat))],[],X⟩,by omega,Le.of V9 VC V2 V2 V2,i+1,by omega,rfl,hpn,by rw [hS']⟩
 by_cases hc3:op=3
 case pos =>
  have hc:=hc3
  have hno1:op≠1:=by omega
  have hno2:op≠2:=by omega
  have heo3:op=3:=hc
  by_cases cK:((kb,kN):Nm)=(false,0)
  case neg =>
   have hp:plainI ⟨op,a,b,(kb,kN)⟩=false:=by
    unfold plainI
    simp only
    rw [cO (show ¬ op=1 by omega),cO cK];rfl
   obtain ⟨e1,e2⟩:=hbad hp
   rw [e1,e2]
   rw [cO cK] at q
   (refine U26 ?_;refine kne O O (cU hno1) ?_;refine U4 ?_;refine bR (c:=true) O O O O V5 q (.inr ⟨O,O⟩) (dT O O) ?_;refine U34 ?_)
   exact V1E
  rw [cP cK] at q
  by_cases cB:b=0
  case neg =>
   have hp:plainI ⟨op,a,b,(kb,kN)⟩=false:=by
    unfold plainI
    simp only
    rw [cO (show ¬ op=2 by omega),cO cB];simp
   obtain ⟨e1,e2⟩:=hbad hp
   rw [e1,e2]
   (refine U26 ?_;refine kne O O (cU hno1) ?_;refine U4 ?_;refine bR (c:=false) O O O O V5 q (.inr ⟨O,O⟩) (dT O O) ?_;refine U8 ?_;refine aX O O (cU cB) (dT O O) ?_;refine U25 ?_)
   exact V1E
  have hpn:=hgood (by
   unfold plainI
   simp only
   rw [Bool.and_eq_true,Bool.and_eq_true,Bool.or_eq_true,Bool.or_eq_true,Bool.or_eq_true,Bool.or_eq_true]
   simp only [decide_eq_true_eq]
   exact ⟨.inr cK,.inr cB,.inr (.inl hc)⟩)
  have he:encI ⟨op,a,b,(kb,kN)⟩=o8 op::[o8 a]:=by unfold encI;simp only;rw [if_neg (show ¬ op=1 by omega),if_neg (show ¬ op=2 by omega),if_pos hc]
  rw [he] at hnext
  have hcat:(⟨(S++[o8 op]).toArray⟩:ByteArray)++⟨([o8 a]:List UInt8).toArray⟩=⟨S'.toArray⟩:=by rw [str_add,hnext];simp only [dN,List.cons_append,List.nil_append]
  ((refine U26 ?_;refine kne O O (cU hno1) ?_;refine U4 ?_;refine bR (c:=false) O O O O V5 q (.inr ⟨O,O⟩) (dT O O) ?_;refine U4 ?_);(refine U4 ?_;refine aX O O (cT cB) (dT O O) ?_;refine U9 ?_;refine aX O O (cT heo3) (dT O O) ?_;refine U1 ?_);(refine U15 ?_;refine aZ (zs:=[.int .u8 0]) (sz:=1) (e:=5) (cs':=[o8 op].map bc) V5 O O O O O O dS<|bS (l:=[o8 op]) O O V5 StrT.u (dO _) O dS<|bM O O (szle S [o8 op] (by simp only [cZ];omega)) (str_add S [o8 op]) dS ?_;refine U22 ?_;refine keq O O (r:=true) (cV hc) ?_;refine U7 ?_;refine kcv O wa ?_;refine aZ (zs:=[.int .u8 0]) (sz:=1) (e:=5) (cs':=[o8 a].map bc) V5 O O O O O O dS<|bS (l:=[o8 a]) O O V5 StrT.u (dO _) O dS<|bM O O (szle (S++[o8 op]) [o8 a] (by simp only [cW,cZ,dJ,dP];omega)) hcat dS ?_;refine U7 ?_))
  exact ⟨_,⟨[(0,Lx (some ⟨blk,off,none⟩) l.length cap),(5,Ls S'),(6,Ln .i64 (i+1:Nat))],[],X⟩,by omega,Le.of V9 VC V2 V2 V2,i+1,by omega,rfl,hpn,by rw [hS']⟩
 have hno1:op≠1:=by omega
 have hno2:op≠2:=by omega
 have hno3:op≠3:=by omega
 by_cases cK:((kb,kN):Nm)=(false,0)
 case neg =>
  have hp:plainI ⟨op,a,b,(kb,kN)⟩=false:=by
   unfold plainI
   simp only
   rw [cO (show ¬ op=1 by omega),cO cK];rfl
  obtain ⟨e1,e2⟩:=hbad hp
  rw [e1,e2]
  rw [cO cK] at q
  (refine U26 ?_;refine kne O O (cU hno1) ?_;refine U4 ?_;refine bR (c:=true) O O O O V5 q (.inr ⟨O,O⟩) (dT O O) ?_;refine U34 ?_)
  exact V1E
 rw [cP cK] at q
 by_cases cB:b=0
 case neg =>
  have hp:plainI ⟨op,a,b,(kb,kN)⟩=false:=by
   unfold plainI
   simp only
   rw [cO (show ¬ op=2 by omega),cO cB];simp
  obtain ⟨e1,e2⟩:=hbad hp
  rw [e1,e2]
  (refine U26 ?_;refine kne O O (cU hno1) ?_;refine U4 ?_;refine bR (c:=false) O O O O V5 q (.inr ⟨O,O⟩) (dT O O) ?_;refine U8 ?_;refine aX O O (cU cB) (dT O O) ?_;refine U25 ?_)
  exact V1E
 by_cases cA:a=0
 case neg =>
  have hp:plainI ⟨op,a,b,(kb,kN)⟩=false:=by
   unfold plainI
   simp only
   rw [cO (show ¬ op=2 by omega),cO (show ¬ op=3 by omega),cO cA];simp
  obtain ⟨e1,e2⟩:=hbad hp
  rw [e1,e2]
  ((refine U26 ?_;refine kne O O (cU hno1) ?_;refine U4 ?_;refine bR (c:=false) O O O O V5 q (.inr ⟨O,O⟩) (dT O O) ?_;refine U4 ?_);(refine U4 ?_;refine aX O O (cT cB) (dT O O) ?_;refine U9 ?_;refine aX O O (cU hno3) (dT O O) ?_;refine U1 ?_);(refine U3 ?_;refine aX O O (cU cA) (dT O O) ?_;refine U10 ?_))
  exact V1E
 have hpn:=hgood (by
  unfold plainI
  simp only
  rw [Bool.and_eq_true,Bool.and_eq_true,Bool.or_eq_true,Bool.or_eq_true,Bool.or_eq_true,Bool.or_eq_true]
  simp only [decide_eq_true_eq]
  exact ⟨.inr cK,.inr cB,.inr (.inr cA)⟩)
 have he:encI ⟨op,a,b,(kb,kN)⟩=o8 op::[]:=by unfold encI;simp only;rw [if_neg (show ¬ op=1 by omega),if_neg (show ¬ op=2 by omega),if_neg (show ¬ op=3 by omega)]
 rw [he] at hnext
 ((refine U26 ?_;refine kne O O (cU hno1) ?_;refine U4 ?_;refine bR (c:=false) O O O O V5 q (.inr ⟨O,O⟩) (dT O O) ?_;refine U4 ?_);(refine U4 ?_;refine aX O O (cT cB) (dT O O) ?_;refine U9 ?_;refine aX O O (cU hno3) (dT O O) ?_;refine U1 ?_);(refine U3 ?_;refine aX O O (cT cA) (dT O O) ?_;refine U11 ?_;refine aZ (zs:=[.int .u8 0]) (sz:=1) (e:=5) (cs':=[o8 op].map bc) V5 O O O O O O dS<|bS (l:=[o8 op]) O O V5 StrT.u (dO _) O dS<|bM O O (szle S [o8 op] (by simp only [cZ];omega)) (str_add S [o8 op]) dS ?_;refine U26 ?_);(refine U6 ?_))
 exact ⟨_,⟨[(0,Lx (some ⟨blk,off,none⟩) l.length cap),(5,Ls (S++[o8 op])),(6,Ln .i64 (i+1:Nat))],[],X⟩,by omega,Le.of V9 VC V2 V2 V2,i+1,by omega,rfl,hpn,by rw [hS',hnext]⟩
end Go.Proofs.YtopiioklkkiedaaGreatDoor
end
section
set_option maxHeartbeats 12800000
set_option maxRecDepth 100000
namespace Go.Proofs.YtopiioklkkiedaaGreatDoor
open Go Go.Lg Go.Lg.Fml Go.Lg.Fld Go.Lg.Arith
set_option maxRecDepth 100000
variable (X:Nat→Option Obj)
def inssV (l:List Ins):List Value:=(l.map insV).flatten
theorem inssV_len (l:List Ins):((inssV l).map CV.val).length=l.length*6:=by
 unfold inssV
 rw [cX]
 induction l with
 | nil=>rfl
 | cons x t ih=>simp only [List.map_cons,List.flatten_cons,cW,dJ,ih,insV,dP];omega
theorem inssV_snoc (l:List Ins) (x:Ins) {cs:List CV} (h:cs=(insV x).map CV.val):(inssV l).map CV.val++cs=(inssV (l++[x])).map CV.val:=by
 unfold inssV
 rw [h,dI,List.flatten_append,dI]
 simp
theorem ins_in {Y:Nat→Option Obj} {blk:Nat} {arr:Array Value} {el:TypeId} {fr:Nat×Nat} {l:List Ins} (hY:Y blk=some (.cells arr el fr)) (hi:∀ x∈l,smallI x) (hsp:∃ sp,arr.toList=inssV l++sp):InsIn Y (some ⟨blk,0,none⟩) l:=
 ⟨rows_in hY (fun r hr=>by obtain ⟨x,_,rfl⟩:=List.mem_map.1 hr;rfl) hsp,hi⟩
end Go.Proofs.YtopiioklkkiedaaGreatDoor
end
section
set_option maxHeartbeats 12800000
set_option maxRecDepth 100000
namespace Go.Proofs.YtopiioklkkiedaaGreatDoor
open Go Go.Lg Go.Lg.Fml Go.Lg.Fld Go.Lg.Arith
set_option maxRecDepth 100000
variable (X:Nat→Option Obj)
abbrev LPg (va vb:Int) (ad:Option Addr) (n cap:Nat):LV:=.sv (.agg [.val (.int .i64 va),.val (.int .i64 vb),.val (.slice ad n cap)])
abbrev v3B (t:TypeId) (k:Nat) (a b:Int) (ad:Option Addr) (n cap:Nat):Nat×Option Box:=(k,some ⟨t,[.val (.int .i64 a),.val (.int .i64 b),.val (.slice ad n cap)],false⟩)
def lastR (rs:List Rl):Nat→Int
 | 0=>0
 | j+1=>match rs[j]? with
  | some r=>r.nw
  | none=>0
theorem lastR_at {rs:List Rl} {j:Nat} {r:Rl} (h:rs[j]? = some r):lastR rs (j+1)=r.nw:=by simp only [lastR,h]
theorem chkRs_cons {r:Rl} {last:Int} {t:List Rl}:chkRs last (r::t)=if chkR r last=0 then chkRs r.nw t else chkR r last:=rfl
theorem firstX_cons {c:List Ins} {t:List (List Ins)}:firstX (c::t)=if encErr c=0 then firstX t else encErr c:=rfl
theorem drop_at {α:Type} {l:List α} {i:Nat} {x:α} (h:l[i]? = some x):l.drop i=x::l.drop (i+1):=by
 obtain ⟨hi,e⟩:=List.getElem?_eq_some_iff.1 h
 rw [List.drop_eq_getElem_cons hi,e]
theorem chkP_bad {p:Pg} (h:¬(verOk p.va&&verOk p.vb)=true):chkP p=1:=if_neg h
theorem chkP_good {p:Pg} (h:(verOk p.va&&verOk p.vb)=true):chkP p=chkRs 0 p.rs:=if_pos h
theorem CodesIn.get {X:Nat→Option Obj} {ad:Option Addr} {cs:List (List Ins)} (h:CodesIn X ad cs) {i:Nat} {c:List Ins} (hc:cs[i]? = some c):∃ (blk off:Nat) (arr:Array Value) (el:TypeId) (fr:Nat×Nat) (vad:Option Addr) (vcap:Nat),ad=some ⟨blk,off,none⟩∧X blk=some (.cells arr el fr)∧arr[off+i*1]? = some (.slice vad c.length vcap)∧InsIn X vad c:=by
 obtain ⟨blk,off,arr,el,fr,vad,vcap,h1,h2,h3,h4,h5⟩:=h.at_ i c hc
 exact ⟨blk,off,arr,el,fr,vad,vcap,h1,h2,by rw [Nat.mul_one];exact h4,h5⟩
set_option maxHeartbeats 12800000 in
theorem rCheck12 (p:Pg) (ad:Option Addr) (cap:Nat) (hin:RulesIn X ad p.rs) (hbig:p.rs.length<4611686018427387904) (hsz:sizeR p.rs):PSpec Tryz.prog X 94 [LPg p.va p.vb ad p.rs.length cap] (Ln .i64 (chkP p)):=by
 obtain ⟨va,vb,rs⟩:=p
 simp only at hin hbig hsz ⊢
 refine cF Tryz.func94 rfl V5 rfl rfl ?_
 intro C
 by_cases hv1:va<1
 ·rw [chkP_bad (by unfold verOk;simp;omega)]
  refine U33 ?_
  exact V6
 by_cases hv2:1073741824<va
 ·rw [chkP_bad (by unfold verOk;simp;omega)]
  refine U33 ?_
  exact V6
 by_cases hv3:vb<1
 ·rw [chkP_bad (by unfold verOk;simp;omega)]
  (refine U19 ?_;refine bK O O (cP V3) (dT O O) ?_;refine U13 ?_)
  exact V6
 by_cases hv4:1073741824<vb
 ·rw [chkP_bad (by unfold verOk;simp;omega)]
  refine U33 ?_
  exact V6
 rw [chkP_good (show (verOk va&&verOk vb)=true by unfold verOk;simp;omega)]
 refine U35 ?_
 refine cL (fun m σ=>∃ i:Nat,i≤rs.length∧m=rs.length-i∧chkRs 0 rs=chkRs (lastR rs i) (rs.drop i)∧σ=⟨[(1,Lp 1),(3,Ln .i64 (i:Nat))],[v3B 42 1 va vb ad rs.length cap],X⟩) rs.length
  ⟨_,Le.of VE V13 V2 V2 V0,0,by omega,by omega,rfl,rfl⟩ ?_
 rintro m σ ⟨i,hi,rfl,hpre,rfl⟩
 by_cases hlt:i<rs.length
 case neg =>
  rw [hpre,List.drop_eq_nil_of_le (by omega)]
  refine U16 ?_
  exact V6
 obtain ⟨r,hr⟩:=wg hlt
 obtain ⟨blk,off,arr,el,fr,ead,ecap,rfl,hX,hsiz,hcs,g1,g2,g3,hE⟩:=hin.get hr
 have hio:=wo off i 3
 obtain ⟨hel,hcl⟩:=hsz r (dE hr)
 rw [drop_at hr,chkRs_cons] at hpre
 have fin:∀ e,chkR r (lastR rs i)=e→e≠0→chkRs 0 rs=e:=fun e he h0=>by rw [hpre,he,if_neg h0]
 refine U25 ?_
 refine LWP.le (σ':=⟨[(1,Lp 1),(3,Ln .i64 (i:Nat)),(4,Lp 4)],[v3B 39 4 r.nw r.old ead r.ex.length ecap,v3B 42 1 va vb (some ⟨blk,off,none⟩) rs.length cap],X⟩) (Le.of V9 VE V2 V2 V0) ?_
 by_cases c1:r.nw<1
 ·rw [fin 1 (if_pos V3) VA]
  (refine rgD mixed ?_;refine U42 ?_)
  exact V6
 by_cases c2:24<r.nw
 ·rw [fin 1 (if_pos V3) VA]
  (refine rgD mixed ?_;refine U42 ?_)
  exact V6
 by_cases c3:r.old<0
 ·rw [fin 1 (if_pos V3) VA]
  (refine rgD mixed ?_;refine U11 ?_;refine bK O O (cP V3) (dT O O) ?_;refine U30 ?_)
  exact V6
 by_cases c4:24<r.old
 ·rw [fin 1 (if_pos V3) VA]
  (refine rgD mixed ?_;refine U42 ?_)
  exact V6
 by_cases c5:0<i∧r.nw≤lastR rs i
 ·rw [fin 1 (if_pos V3) VA]
  obtain ⟨q,hq⟩:∃ q,rs[i-1]? = some q:=wg V3
  have hla:=lastR_at hq
  rw [show i-1+1=i by omega] at hla
  obtain ⟨blk',off',arr',el',fr',_,_,e1,hX',_,_,g1',_,_,_⟩:=hin.get hq
  simp only [Option.some.injEq,Addr.mk.injEq] at e1
  obtain ⟨rfl,rfl,_⟩:=e1
  rw [hX] at hX'
  simp only [Option.some.injEq,Obj.cells.injEq] at hX'
  obtain ⟨rfl,rfl,rfl⟩:=hX'
  have hsub:IntKind.i64.wrap (((i:Nat):Int)-1)=((i-1:Nat):Int):=by rw [cH V3];omega
  have hio2:off+Int.toNat ((i-1:Nat):Int)*3=off+(i-1)*3:=by rw [dH]
  ((refine rgD mixed ?_;refine U23 ?_);(refine U2 ?_;refine bA O O hsub (dT O O) ?_;refine U5 ?_;refine bD O O (cP V3) (dT O O) ?_;refine U10 ?_))
  exact V6
 have hlow:¬(r.nw<1∨24<r.nw∨r.old<0∨24<r.old∨r.nw≤lastR rs i):=by
  by_cases h0:i=0
  ·subst h0
   have hz:lastR rs 0=0:=rfl
   omega
  ·omega
 refine LWP.meet0 (fun σ=>σ=⟨[(1,Lp 1),(3,Ln .i64 (i:Nat)),(4,Lp 4),(71,Lb false)],[v3B 39 4 r.nw r.old ead r.ex.length ecap,v3B 42 1 va vb (some ⟨blk,off,none⟩) rs.length cap],X⟩) ?_ ?_
 ·by_cases hi0:i=0
  ·subst hi0
   (refine rgD mixed ?_;refine U36 ?_)
   exact ⟨_,Le.of V8 VE V2 V2 V0,O⟩
  ·
   obtain ⟨q,hq⟩:∃ q,rs[i-1]? = some q:=wg V3
   have hla:=lastR_at hq
   rw [show i-1+1=i by omega] at hla
   obtain ⟨blk',off',arr',el',fr',_,_,e1,hX',_,_,g1',_,_,_⟩:=hin.get hq
   simp only [Option.some.injEq,Addr.mk.injEq] at e1
   obtain ⟨rfl,rfl,_⟩:=e1
   rw [hX] at hX'
   simp only [Option.some.injEq,Obj.cells.injEq] at hX'
   obtain ⟨rfl,rfl,rfl⟩:=hX'
   have hsub:IntKind.i64.wrap (((i:Nat):Int)-1)=((i-1:Nat):Int):=by rw [cH V3];omega
   have hio2:off+Int.toNat ((i-1:Nat):Int)*3=off+(i-1)*3:=by rw [dH]
   ((refine rgD mixed ?_;refine U23 ?_);(refine U2 ?_;refine bA O O hsub (dT O O) ?_;refine U10 ?_))
   exact ⟨_,Le.of V8 VE V2 V2 V0,O⟩
 rintro σ rfl
 by_cases c6:r.old=0∧0<r.ex.length
 ·rw [fin 4 (by unfold chkR;rw [if_neg hlow,if_pos ⟨c6.1,fun e=>by rw [e] at c6;exact absurd c6.2 VA⟩]) VA]
  (refine U7 ?_;refine keq rfl rfl (cV c6.1) ?_;refine U13 ?_)
  exact V6
 repeat (first|refine aA ?_|refine LWP.skip ?_|refine LWP.block ?_|refine LWP.condF O ?_)
 refine LWP.meet0 (fun σ=>σ=⟨[(1,Lp 1),(3,Ln .i64 (i:Nat)),(4,Lp 4),(80,Lb false)],[v3B 39 4 r.nw r.old ead r.ex.length ecap,v3B 42 1 va vb (some ⟨blk,off,none⟩) rs.length cap],X⟩) ?_ ?_
 ·by_cases ho:r.old=0
  ·(refine U3 ?_;refine keq rfl rfl (cV ho) ?_;refine U7 ?_)
   exact ⟨_,Le.of V8 VE V2 V2 V0,O⟩
  ·(refine U3 ?_;refine keq rfl rfl (cS ho) ?_;refine U7 ?_)
   exact ⟨_,Le.of V8 VE V2 V2 V0,O⟩
 rintro σ rfl
 have h6:¬(r.old=0∧r.ex≠[]):=fun h=>c6 ⟨h.1,List.length_pos_iff.2 h.2⟩
 by_cases c7:8<r.ex.length
 ·rw [fin 5 (by unfold chkR;rw [if_neg hlow,if_neg h6,if_pos c7]) VA]
  refine U16 ?_
  exact V6
 have hfx:chkR r (lastR rs i)=firstX r.ex:=by unfold chkR;rw [if_neg hlow,if_neg h6,if_neg c7]
 refine U17 ?_
 refine cL (fun m σ=>∃ k:Nat,k≤r.ex.length∧m=r.ex.length-k∧firstX r.ex=firstX (r.ex.drop k)∧σ=⟨[(1,Lp 1),(3,Ln .i64 (i:Nat)),(4,Lp 4),(5,Ln .i64 (k:Nat))],[v3B 39 4 r.nw r.old ead r.ex.length ecap,v3B 42 1 va vb (some ⟨blk,off,none⟩) rs.length cap],X⟩) r.ex.length
  ⟨_,Le.of V8 VE V2 V2 V0,0,by omega,by omega,rfl,rfl⟩ ?_
 rintro m σ ⟨k,hk,rfl,hpx,rfl⟩
 by_cases hkl:k<r.ex.length
 case neg =>
  rw [List.drop_eq_nil_of_le (by omega)] at hpx
  rw [hfx,hpx,if_pos (show firstX []=0 from rfl)] at hpre
  have hadd:IntKind.i64.wrap ((i:Int)+1)=((i+1:Nat):Int):=by rw [cH V3];omega
  refine U16 ?_
  exact ⟨_,⟨[(1,Lp 1),(3,Ln .i64 (i+1:Nat))],[v3B 42 1 va vb (some ⟨blk,off,none⟩) rs.length cap],X⟩,by omega,Le.of VE V13 V2 V2 V0,i+1,by omega,rfl,by rw [lastR_at hr];exact hpre,rfl⟩
 obtain ⟨c,hc⟩:=wg hkl
 obtain ⟨eb,eo,earr,eel,efr,vad,vcap,rfl,hEX,hec,hI⟩:=hE.get hc
 have hio3:=wo eo k 1
 have hEn:=rEncode11 X c vad vcap hI (hcl c (dE hc))
 rw [drop_at hc,firstX_cons] at hpx
 by_cases he:encErr c=0
 ·rw [if_pos he] at hpx
  rw [he] at hEn
  have hadd:IntKind.i64.wrap ((k:Int)+1)=((k+1:Nat):Int):=by rw [cH V3];omega
  refine U39 ?_
  exact ⟨_,⟨[(1,Lp 1),(3,Ln .i64 (i:Nat)),(4,Lp 4),(5,Ln .i64 (k+1:Nat))],[v3B 39 4 r.nw r.old (some ⟨eb,eo,none⟩) r.ex.length ecap,v3B 42 1 va vb (some ⟨blk,off,none⟩) rs.length cap],X⟩,by omega,Le.of V8 VE V2 V2 V0,k+1,by omega,O,hpx,O⟩
 ·rw [if_neg he] at hpx
  rw [fin (encErr c) (by rw [hfx,hpx]) he]
  (refine U30 ?_;refine kne rfl rfl (cU he) ?_;refine U8 ?_)
  exact V6
end Go.Proofs.YtopiioklkkiedaaGreatDoor
end
section
set_option maxHeartbeats 12800000
set_option maxRecDepth 100000
namespace Go.Proofs.YtopiioklkkiedaaGreatDoor
open Go Go.Lg Go.Lg.Fml Go.Lg.Fld Go.Lg.Arith Go.Lg.Sg
set_option maxRecDepth 100000
variable (X:Nat→Option Obj)
def nmsV (a:List Nm):List Value:=(a.map nmV).flatten
theorem nmsV_len (a:List Nm):((nmsV a).map CV.val).length=a.length*3:=by
 unfold nmsV
 rw [cX]
 induction a with
 | nil=>rfl
 | cons x t ih=>simp only [List.map_cons,List.flatten_cons,cW,dJ,ih,nmV,dP];omega
theorem nmsV_snoc (a:List Nm) (u:Nm):(nmsV a).map CV.val++[CV.val (.bool u.1),.val (.int .u64 (u.2/18446744073709551616)),.val (.int .u64 (u.2%18446744073709551616))]=(nmsV (a++[u])).map CV.val:=by
 unfold nmsV
 rw [dI,List.flatten_append,dI]
 rfl
theorem nms_in {Y:Nat→Option Obj} {blk:Nat} {arr:Array Value} {el:TypeId} {fr:Nat×Nat} {a:List Nm} (hY:Y blk=some (.cells arr el fr)) (hi:∀ u∈a,In2 u.2) (hsp:∃ sp,arr.toList=nmsV a++sp):NumsIn Y (some ⟨blk,0,none⟩) a:=
 ⟨rows_in hY (fun r hr=>by obtain ⟨x,_,rfl⟩:=List.mem_map.1 hr;rfl) hsp,hi⟩
theorem node_lent {S:Nat→Option (Option Box)} {k:Nat} {a:List Nm} {el:TypeId} {row:Bool} {op:Int} (hl:a.length=takes op) (hpos:0<takes op) (hi:∀ u∈a,In2 u.2) (hk:S k=some (some ⟨el,(nmsV a).map .val,row⟩)):
  ∀ (Y:Nat→Option Obj) (us:List Value),(∀ b o,X b=some o→Y b=some o)→Lent S Y [Ln .i64 op,.sv (.one (.slc k 0 a.length 3))] us→PSpec Tryz.prog Y 112 (us.map toLV) (exR (nodeX op a)):=by
 intro Y us hY hL
 obtain ⟨u1,us1,rfl,h1,u2,us2,rfl,h2,rfl⟩:=hL
 have h1:u1 = .int .i64 op:=h1
 subst h1
 obtain ⟨el',cells,row',hk',blk,cap2,arr,fr,us',sp,rfl,hYb,hc,hfit,harr,hv⟩:=h2
 rw [hk] at hk'
 simp only [Option.some.injEq,Box.mk.injEq] at hk'
 obtain ⟨rfl,rfl,rfl⟩:=hk'
 have:=hv (nmsV a) rfl
 subst this
 exact rNode_spec Y op a hl hpos (some ⟨blk,0,none⟩) cap2 (nms_in hYb hi ⟨sp,harr⟩)
theorem leaf_tree {t:Tr} (ht:t.ok) (h0:takes t.top.op=0) (fs:List (List Nm)) (at_:Int):t.ev (oneX fs at_)=leafX fs at_ t.top:=by
 obtain ⟨h1,_⟩:=ok_args ht
 rw [ev_args,show t.args=[] from List.eq_nil_of_length_eq_zero (by omega)]
 show oneX fs at_ t.top []=_
 unfold oneX
 rw [if_pos h0]
theorem node_tree {t:Tr} (h0:takes t.top.op≠0) (fs:List (List Nm)) (at_:Int) {vs:List Nm} (hv:evL (oneX fs at_) t.args = .ok vs):t.ev (oneX fs at_)=nodeX t.top.op vs:=by
 rw [ev_args,hv]
 show oneX fs at_ t.top vs=_
 unfold oneX
 rw [if_neg h0]
theorem fail_tree {t:Tr} (fs:List (List Nm)) (at_:Int) {e:Int} (hv:evL (oneX fs at_) t.args = .error e):t.ev (oneX fs at_) = .error e:=by
 rw [ev_args,hv]
theorem qn_in2 {z:Int} (h:R127 z):In2 (qn z).2:=mg_in2 h
theorem elem_mem {fs:List (List Nm)} {a b:Int} {v:Nm} (h:elemX fs a b = .ok v):∃ r∈fs,v∈r:=by
 unfold elemX at h
 by_cases h0:a<0∨b<0
 ·rw [if_pos h0] at h;cases h
 ·rw [if_neg h0] at h
  cases hr:fs[a.toNat]? with
  | none=>rw [hr] at h;cases h
  | some r =>
   rw [hr] at h
   simp only at h
   cases hu:r[b.toNat]? with
   | none=>rw [hu] at h;cases h
   | some u =>
    rw [hu] at h
    cases h
    exact ⟨r,dE hr,dE hu⟩
theorem leaf_in2 {fs:List (List Nm)} {at_:Int} {x:Ins} {v:Nm} (hf:∀ r∈fs,∀ u∈r,In2 u.2) (hx:In2 x.k.2) (hat:at_<9223372036854775808) (h:leafX fs at_ x = .ok v):In2 v.2:=by
 unfold leafX at h
 by_cases h1:x.op=1
 ·rw [if_pos h1] at h;cases h;exact hx
 ·rw [if_neg h1] at h
  by_cases h4:x.op=4
  ·rw [if_pos h4] at h
   by_cases h0:at_<0
   ·rw [if_pos h0] at h;cases h
   ·rw [if_neg h0] at h
    cases h
    show 0≤at_∧at_<_
    omega
  ·rw [if_neg h4] at h
   obtain ⟨r,hr,hv⟩:=elem_mem h
   exact hf r hr _ hv
theorem truth_in2 (b:Bool):In2 (truth b).2:=by
 unfold truth In2
 cases b<;>decide
theorem do_in2 {op:Int} {x y v:Nm} (h:doX op x y = .ok v):In2 v.2:=by
 unfold doX at h
 split at h
 ·cases h
 ·split at h
  ·cases h
  ·split at h
   ·rename_i hr;cases h;exact qn_in2 hr
   ·cases h
theorem node_in2 {op:Int} {a:List Nm} {v:Nm} (ha:∀ u∈a,In2 u.2) (h:nodeX op a = .ok v):In2 v.2:=by
 match a,ha with
 | [x],ha =>
  simp only [nodeX] at h
  split at h
  ·cases h
  ·split at h
   ·rename_i hg _
    cases h
    have:=(zv_in (ha x V21) (by simpa [gd] using hg)).1
    exact qn_in2 (by unfold R127 at *;show -_ < -(zz x) ∧ -(zz x)<_;unfold zz;omega)
   ·cases h;exact truth_in2 _
 | [x,y],ha =>
  simp only [nodeX] at h
  repeat' (split at h)
  all_goals first
   | (cases h;done)
   | exact do_in2 h
   | (cases h;first|exact truth_in2 _|exact ha _ V21|(split<;>exact ha _ V21))
 | [x,y,z],ha =>
  simp only [nodeX] at h
  split at h
  ·cases h
  ·cases h;split<;>exact ha _ V21
 | [],ha=>cases h
 | _::_::_::_::_,ha=>cases h
theorem one_in2 {fs:List (List Nm)} {at_:Int} {x:Ins} {a:List Nm} {v:Nm} (hf:∀ r∈fs,∀ u∈r,In2 u.2) (hx:In2 x.k.2) (hat:at_<9223372036854775808) (ha:∀ u∈a,In2 u.2) (h:oneX fs at_ x a = .ok v):In2 v.2:=by
 unfold oneX at h
 split at h
 ·exact leaf_in2 hf hx hat h
 ·exact node_in2 ha h
theorem tree_in2 {fs:List (List Nm)} {at_:Int} (hf:∀ r∈fs,∀ u∈r,In2 u.2) (hat:at_<9223372036854775808):∀ {t:Tr} {v:Nm},(∀ x∈t.flat,In2 x.k.2)→t.ev (oneX fs at_) = .ok v→In2 v.2
 | .n0 x,v,hx,h=>one_in2 hf (hx x (by simp [Tr.flat])) hat (a:=[]) (fun u hu=>by cases hu) h
 | .n1 x a,v,hx,h=>by
  simp only [Tr.ev] at h
  cases ha:a.ev (oneX fs at_) with
  | error e=>rw [ha] at h;cases h
  | ok u =>
   rw [ha] at h
   have h1:=tree_in2 hf hat (fun y hy=>hx y V32) ha
   exact one_in2 hf (hx x (by simp [Tr.flat])) hat (a:=[u]) (fun w hw=>by rw [List.mem_singleton.1 hw];exact h1) h
 | .n2 x a b,v,hx,h=>by
  simp only [Tr.ev] at h
  cases ha:a.ev (oneX fs at_) with
  | error e=>rw [ha] at h;cases h
  | ok u =>
   rw [ha] at h
   simp only at h
   have h1:=tree_in2 hf hat (fun y hy=>hx y V32) ha
   cases hb:b.ev (oneX fs at_) with
   | error e=>rw [hb] at h;cases h
   | ok w =>
    rw [hb] at h
    have h2:=tree_in2 hf hat (fun y hy=>hx y V32) hb
    exact one_in2 hf (hx x (by simp [Tr.flat])) hat (a:=[u,w]) (fun q hq=>by
     simp only [List.mem_cons,List.not_mem_nil,or_false] at hq
     rcases hq with rfl|rfl
     ·exact h1
     ·exact h2) h
 | .n3 x a b c,v,hx,h=>by
  simp only [Tr.ev] at h
  cases ha:a.ev (oneX fs at_) with
  | error e=>rw [ha] at h;cases h
  | ok u =>
   rw [ha] at h
   simp only at h
   have h1:=tree_in2 hf hat (fun y hy=>hx y V32) ha
   cases hb:b.ev (oneX fs at_) with
   | error e=>rw [hb] at h;cases h
   | ok w =>
    rw [hb] at h
    simp only at h
    have h2:=tree_in2 hf hat (fun y hy=>hx y V32) hb
    cases hc:c.ev (oneX fs at_) with
    | error e=>rw [hc] at h;cases h
    | ok s =>
     rw [hc] at h
     have h3:=tree_in2 hf hat (fun y hy=>hx y V32) hc
     exact one_in2 hf (hx x (by simp [Tr.flat])) hat (a:=[u,w,s]) (fun q hq=>by
      simp only [List.mem_cons,List.not_mem_nil,or_false] at hq
      rcases hq with rfl|rfl|rfl
      ·exact h1
      ·exact h2
      ·exact h3) h
theorem arg_mem {t:Tr} {a:Tr} (h:a∈t.args):∀ x∈a.flat,x∈t.flat:=fun x hx=>by
 rw [flat_args]
 refine List.mem_append_left _ ?_
 generalize t.args=us at h
 induction us with
 | nil=>cases h
 | cons b us ih =>
  rcases List.mem_cons.1 h with rfl|h
  ·exact List.mem_append_left _ hx
  ·exact List.mem_append_right _ (ih h)
theorem evL_in2 {fs:List (List Nm)} {at_:Int} (hf:∀ r∈fs,∀ u∈r,In2 u.2) (hat:at_<9223372036854775808):∀ {us:List Tr} {vs:List Nm},(∀ a∈us,∀ x∈a.flat,In2 x.k.2)→evL (oneX fs at_) us = .ok vs→∀ v∈vs,In2 v.2
 | [],vs,_,h=>by simp only [evL,Except.ok.injEq] at h;subst h;intro v hv;cases hv
 | a::us,vs,hx,h=>by
  simp only [evL] at h
  cases ha:a.ev (oneX fs at_) with
  | error e=>rw [ha] at h;cases h
  | ok u =>
   rw [ha] at h
   simp only at h
   cases hb:evL (oneX fs at_) us with
   | error e=>rw [hb] at h;cases h
   | ok ws =>
    rw [hb] at h
    simp only [Except.ok.injEq] at h
    subst h
    intro v hv
    rcases List.mem_cons.1 hv with rfl|hv
    ·exact tree_in2 hf hat (hx a V21) ha
    ·exact evL_in2 hf hat (fun b hb x hx'=>hx b (by simp [hb]) x hx') hb v hv
end Go.Proofs.YtopiioklkkiedaaGreatDoor
end
section
set_option maxHeartbeats 12800000
set_option maxRecDepth 100000
namespace Go.Proofs.YtopiioklkkiedaaGreatDoor
open Go Go.Lg Go.Lg.Fml Go.Lg.Fld Go.Lg.Arith Go.Lg.Sg
set_option maxRecDepth 100000
variable (X:Nat→Option Obj)
theorem ends_cell {p i:Nat} {us:List Tr} {a:Tr} (h:us[i]? = some a):((nuV (endsI p us)).map CV.val)[i*1]? = some (.val (.int .i64 ((p+(flatL (us.take (i+1))).length-1:Nat):Int))):=by
 refine nu_at ?_
 unfold endsI
 rw [dM,endsL_at h]
 rfl
set_option maxHeartbeats 6400000 in
theorem rTree_spec (l:List Ins) (ad:Option Addr) (cap:Nat) (hin:InsIn X ad l) (hbig:l.length<1152921504606846976) (hall:∀ x∈l,okI x=true) (fad:Option Addr) (fcap:Nat) (fs:List (List Nm)) (hfs:FssIn X fad fs) (hfl:fs.length<4611686018427387904) (hrl:∀ r∈fs,r.length<4611686018427387904) (hf2:∀ r∈fs,∀ u∈r,In2 u.2) (at_:Int) (hat : -9223372036854775808≤at_∧at_<9223372036854775808):
  ∀ (n:Nat) (t:Tr) (p:Nat) (e:Int),t.flat.length≤n→At l p t→t.ok→e=((p+t.flat.length:Nat):Int)-1 →
   PSpec Tryz.prog X 74 [Lx ad l.length cap,Ln .i64 e,Lx fad fs.length fcap,Ln .i64 at_] (exR (t.ev (oneX fs at_)))
 | 0,t,p,e,hn,_,_,_=>absurd (flat_len t) (by omega)
 | n+1,t,p,e,hn,hA,ht,he=>by
  have hlen:=hA.len
  have h1:=flat_len t
  have hfl2:t.flat.length=(flatL t.args).length+1:=by rw [flat_args];simp
  have hal:=args_le t
  obtain ⟨htop,hoks⟩:=ok_args ht
  have htl:=hA.top
  obtain ⟨blk,off,arr,el,fr,rfl,hX,hsz,hcs,hop⟩:=hin.at htl
  have hT:=rTakes_spec X t.top.op
  have hmem:=dE htl
  have hio:off+Int.toNat e*6=off+(p+t.flat.length-1)*6:=by
   have:Int.toNat e=p+t.flat.length-1:=by omega
   rw [this]
  have hin0:0≤e∧e<(l.length:Nat):=by omega
  by_cases h0:takes t.top.op=0
  ·have hL:=rLeaf_spec X t.top (hin.small _ hmem) (hall _ hmem) h0 fad fcap fs hfs hfl hrl at_ hat
   rw [leaf_tree ht h0]
   rw [h0] at hT
   cases hlv:leafX fs at_ t.top with
   | error e' =>
    rw [hlv] at hL
    refine cF Tryz.func74 rfl (by kernel_rfl) rfl rfl ?_
    intro C
    (refine aA<|rgN<|K.alloc O dS ?_;refine kas O<|RunK.nil<|aA<|aA<|rgN<|kmv O<|kmv O<|K.indexX O O cC hin0 hio dS<|K.fieldAddrX O O dS ?_;refine K.loadX O hX O hop dS<|kca O O (hT)<|keq O O (r:=true) O<|RunK.nil<|LWP.condT O ?_;refine aA<|rgN<|kmv O<|kmv O<|K.indexX O O cC hin0 hio dS<|K.loadXagg O hX (by kernel_rfl) hsz hcs dS<|kmv O<|kmv O<|kca O O (hL)<|kex O O<|kex O O<|K.storeAll O O O O O O dS ?_;refine kas O<|RunK.nil<|LWP.ret ?_)
    exact ⟨[_,_],⟨⟨_,_,O,O,O,.inl ⟨AggT.h,O⟩⟩,O,trivial⟩,O⟩
   | ok v =>
    rw [hlv] at hL
    refine cF Tryz.func74 rfl (by kernel_rfl) rfl rfl ?_
    intro C
    (refine aA<|rgN<|K.alloc O dS ?_;refine kas O<|RunK.nil<|aA<|aA<|rgN<|kmv O<|kmv O<|K.indexX O O cC hin0 hio dS<|K.fieldAddrX O O dS ?_;refine K.loadX O hX O hop dS<|kca O O (hT)<|keq O O (r:=true) O<|RunK.nil<|LWP.condT O ?_;refine aA<|rgN<|kmv O<|kmv O<|K.indexX O O cC hin0 hio dS<|K.loadXagg O hX (by kernel_rfl) hsz hcs dS<|kmv O<|kmv O<|kca O O (hL)<|kex O O<|kex O O<|K.storeAll O O O O O O dS ?_;refine kas O<|RunK.nil<|LWP.ret ?_)
    exact ⟨[_,_],⟨⟨_,_,O,O,O,.inl ⟨AggT.h,O⟩⟩,O,trivial⟩,O⟩
  have hB:=rBranches_spec X l (some ⟨blk,off,none⟩) cap hin hbig hA ht (by omega) e he
  obtain ⟨r,hr⟩:∃ r,exR (t.ev (oneX fs at_))=r:=⟨_,rfl⟩
  have hcl:∃ a b,r = .tup [a,b]∧a.closed=true∧b.closed=true:=by
   subst hr
   cases t.ev (oneX fs at_) with
   | error e'=>exact ⟨_,_,rfl,rfl,rfl⟩
   | ok v=>exact ⟨_,_,rfl,rfl,rfl⟩
  rw [hr]
  refine cF Tryz.func74 rfl (by kernel_rfl) rfl (by obtain ⟨a,b,rfl,ha,hb⟩:=hcl;show (a.closed&&(b.closed&&true))=true;rw [ha,hb];rfl) ?_
  intro C
  clear hcl
  have hEl:=endsI_len p t.args
  rw [hEl] at hB
  (refine aA<|rgN<|K.alloc O dS ?_;refine kas O<|RunK.nil<|aA<|aA<|rgN<|kmv O<|kmv O<|K.indexX O O cC hin0 hio dS<|K.fieldAddrX O O dS ?_;refine K.loadX O hX O hop dS<|kca O O (hT)<|keq O O (r:=false) (cS (by omega))<|RunK.nil<|LWP.condF O ?_;refine LWP.skip ?_;refine aA<|rgN<|kmv O<|kmv O<|bE [(1000001,500)] (.sv (.one (.slc 500 0 t.args.length))) [nuB 500 (endsI p t.args)] (hB) O O (by exact trivial) O O O O O (by exact (.box O (bY _ _ _ _) .nil)) dS<|kas O<|RunK.nil<|aA<|rgN<|aZ (zs:=[]) (sz:=3) (e:=86) (by kernel_rfl) O O O O O O dS<|kas O<|RunK.nil<|aA<|aA ?_;refine rgN<|kas O<|RunK.nil<|LWP.block ?_)
  refine cL (fun m σ=>∃ (i:Nat) (vs:List Nm) (rw_:Bool),i≤t.args.length∧m=t.args.length-i∧evL (oneX fs at_) (t.args.take i) = .ok vs∧σ=⟨[(0,Lx (some ⟨blk,off,none⟩) l.length cap),(1,Ln .i64 e),(2,Lx fad fs.length fcap),(3,Ln .i64 at_),(8,Lp 8),(10,.sv (.one (.slc 500 0 t.args.length))),(11,.sv (.one (.slc 501 0 vs.length 3))),(12,Ln .i64 (i:Nat))],[(8,some ⟨86,[.val (.bool false),.val (.int .u64 0),.val (.int .u64 0)],false⟩),nuB 500 (endsI p t.args),(501,some ⟨86,(nmsV vs).map .val,rw_⟩)],X⟩) t.args.length
   ⟨⟨[(0,Lx (some ⟨blk,off,none⟩) l.length cap),(1,Ln .i64 e),(2,Lx fad fs.length fcap),(3,Ln .i64 at_),(8,Lp 8),(10,.sv (.one (.slc 500 0 t.args.length))),(11,.sv (.one (.slc 501 0 0 3))),(12,Ln .i64 (0:Nat))],[(8,some ⟨86,[.val (.bool false),.val (.int .u64 0),.val (.int .u64 0)],false⟩),nuB 500 (endsI p t.args),(501,some ⟨86,[],false⟩)],X⟩,Le.ofR [(8,8),(500,500),(501,34)] (by exact ⟨rfl,rfl,rfl,rfl,rfl,rfl,rfl,rfl,trivial⟩) (by repeat' (first|exact trivial|refine cR ⟨_,rfl,?_⟩ ?_|refine cR ⟨_,rfl⟩ ?_|rfl|exact Box.ren_bytes _ _ _ _|exact bY _ _ _ _|exact Box.ren_mid rfl)) (by exact rfl) (by exact rfl) (by repeat' (first|refine bT ?_ ?_|rfl|exact bytes_inUse|exact bU|exact mid_inUse rfl)) (by exact rfl) (by exact rfl),0,[],false,by omega,rfl,rfl,rfl⟩ ?_
  rintro m σ ⟨i,vs,rw_,hi,rfl,hvs,rfl⟩
  have hvl:=evL_len hvs
  rw [dA,Nat.min_eq_left hi] at hvl
  have h2vs:=evL_in2 hf2 hat.2 (fun a ha x hx=>(hin.small x (by
   have hxt:=arg_mem (List.mem_of_mem_take ha) x hx
   obtain ⟨pre,suf,e1,_⟩:=hA
   rw [e1]
   exact List.mem_append_right _ (List.mem_append_left _ hxt))).2.2.2) hvs
  by_cases hlt:i<t.args.length
  ·obtain ⟨a,ha⟩:=wg hlt
   obtain ⟨hAa,_⟩:=hA.arg ha
   have hca:=ends_cell (p:=p) ha
   have htk:t.args.take (i+1)=t.args.take i++[a]:=take_snoc ha
   have hft:(flatL (t.args.take (i+1))).length=(flatL (t.args.take i)).length+a.flat.length:=by rw [htk,flatL_app,cW];simp [flatL]
   have hle:(flatL (t.args.take (i+1))).length≤(flatL t.args).length:=by
    conv=>rhs;rw [← List.take_append_drop (i+1) t.args,flatL_app,cW]
    omega
   have ha1:=flat_len a
   have hal2:=hAa.len
   have hrec:=rTree_spec l (some ⟨blk,off,none⟩) cap hin hbig hall fad fcap fs hfs hfl hrl hf2 at_ hat n a (p+(flatL (t.args.take i)).length) (((p+(flatL (t.args.take (i+1))).length-1:Nat):Int)) (by omega) hAa (hoks a (dE ha)) (by omega)
   have hstep:=evL_step hvs ha
   generalize ((p+(flatL (t.args.take (i+1))).length-1:Nat):Int)=v at *
   have hio2:0+Int.toNat (i:Int)*1=i*1:=by simp
   cases hev:a.ev (oneX fs at_) with
   | error e' =>
    rw [hev] at hrec
    have hne:=tree_err (hoks a (dE ha)) hev
    rw [fail_tree fs at_ (evL_fail hvs ha hev)] at hr
    subst hr
    (refine aA<|aA<|rgN<|kmv O<|kmv O<|K.lenSlc O cC O dS ?_;refine klt O O (cP (by omega))<|RunK.nil<|LWP.condT O ?_;refine LWP.skip ?_;refine aA<|LWP.block<|aA<|rgN<|kmv O<|kmv O<|kmv O<|K.indexSlc O O (by omega) hio2 dS ?_;refine kl1 O O hca<|kmv O<|kmv O<|kca O O hrec<|kmv O<|kex O O<|kex O O<|K.alloc O dS ?_;refine K.storeAll O O O O O O dS ?_;refine kas O<|RunK.nil<|aA<|aA<|rgN<|kmv O<|kne O O (cU hne)<|RunK.nil<|LWP.condT O ?_;refine aA<|rgN<|aT O O (by exact O) (by exact nl3 O O O O) dS ?_;refine kmv O<|K.storeAll O O O O O O dS ?_;refine kas O<|RunK.nil<|LWP.ret ?_)
    exact ⟨[_,_],⟨⟨_,_,O,O,O,.inl ⟨AggT.h,O⟩⟩,O,trivial⟩,O⟩
   | ok u =>
    rw [hev] at hrec hstep
    simp only at hstep
    have hadd:IntKind.i64.wrap ((i:Int)+1)=((i+1:Nat):Int):=by rw [cH (by omega)];omega
    have hnl:vs.length+1=(vs++[u]).length:=by rw [cW];rfl
    have hl3:=nmsV_len vs
    have hv3:vs.length≤3:=by omega
    have hnc:=nmsV_snoc vs u
    (refine aA<|aA<|rgN<|kmv O<|kmv O<|K.lenSlc O cC O dS ?_;refine klt O O (cP (by omega))<|RunK.nil<|LWP.condT O ?_;refine LWP.skip ?_;refine aA<|LWP.block<|aA<|rgN<|kmv O<|kmv O<|kmv O<|K.indexSlc O O (by omega) hio2 dS ?_;refine kl1 O O hca<|kmv O<|kmv O<|kca O O hrec<|kmv O<|kex O O<|kex O O<|K.alloc O dS ?_;refine K.storeAll O O O O O O dS ?_;refine kas O<|RunK.nil<|aA<|aA<|rgN<|kmv O<|kne O O (r:=false) O<|RunK.nil<|LWP.condF O ?_;refine LWP.skip ?_;refine rgN<|kmv O<|K.loadAll O O O dS ?_;refine aZ (zs:=[Value.bool false,.int .u64 0,.int .u64 0]) (sz:=3) (e:=86) (cs':=[.val (.bool u.1),.val (.int .u64 (u.2/18446744073709551616)),.val (.int .u64 (u.2%18446744073709551616))]) (by kernel_rfl) O O O O O O dS<|bQ (by_:=24) (e2:=86) (l2:=[.val (.bool u.1),.val (.int .u64 (u.2/18446744073709551616)),.val (.int .u64 (u.2%18446744073709551616))]) (nl:=(vs++[u]).length) (nc:=(nmsV (vs++[u])).map .val) O O hl3 O O (dO _) O O (by kernel_rfl) (by kernel_rfl) (by omega) (by omega) O hnl hnc dS<|kas O<|RunK.nil<|rgN<|kmv O<|kad O O hadd<|kas O<|RunK.nil ?_)
    exact ⟨_,⟨[(0,Lx (some ⟨blk,off,none⟩) l.length cap),(1,Ln .i64 e),(2,Lx fad fs.length fcap),(3,Ln .i64 at_),(8,Lp 8),(10,.sv (.one (.slc 500 0 t.args.length))),(11,.sv (.one (.slc 501 0 (vs++[u]).length 3))),(12,Ln .i64 (i+1:Nat))],[(8,some ⟨86,[.val (.bool false),.val (.int .u64 0),.val (.int .u64 0)],false⟩),nuB 500 (endsI p t.args),(501,some ⟨86,(nmsV (vs++[u])).map .val,true⟩)],X⟩,by omega,Le.ofR [(8,8),(500,500),(501,59)] (by exact ⟨rfl,rfl,rfl,rfl,rfl,rfl,rfl,rfl,trivial⟩) (by repeat' (first|exact trivial|refine cR ⟨_,rfl,?_⟩ ?_|refine cR ⟨_,rfl⟩ ?_|rfl|exact Box.ren_bytes _ _ _ _|exact bY _ _ _ _|exact Box.ren_mid rfl)) (by exact rfl) (by exact rfl) (by repeat' (first|refine bT ?_ ?_|rfl|exact bytes_inUse|exact bU|exact mid_inUse rfl)) (by exact rfl) (by exact rfl),i+1,vs++[u],true,by omega,rfl,hstep,rfl⟩
  ·have e2:i=t.args.length:=by omega
   subst e2
   rw [dG] at hvs
   rw [node_tree h0 fs at_ hvs] at hr
   have hN:=fun S el row hk=>node_lent X (S:=S) (k:=501) (a:=vs) (el:=el) (row:=row) (op:=t.top.op) (by omega) (by omega) h2vs hk
   cases hnv:nodeX t.top.op vs with
   | error e' =>
    rw [hnv] at hr hN
    subst hr
    (refine aA<|aA<|rgN<|kmv O<|kmv O<|K.lenSlc O cC O dS ?_;refine klt O O (cO (by omega))<|RunK.nil<|LWP.condF O ?_;refine LWP.exit<|aA<|rgN<|kmv O<|kmv O<|K.indexX O O cC hin0 hio dS<|K.fieldAddrX O O dS ?_;refine K.loadX O hX O hop dS<|kmv O<|K.callX [501] O O O (hN _ _ _ O) dS ?_;refine kex O O<|kex O O<|K.storeAll O O O O O O dS ?_;refine kas O<|RunK.nil<|LWP.ret ?_)
    exact ⟨[_,_],⟨⟨_,_,O,O,O,.inl ⟨AggT.h,O⟩⟩,O,trivial⟩,O⟩
   | ok v =>
    rw [hnv] at hr hN
    subst hr
    (refine aA<|aA<|rgN<|kmv O<|kmv O<|K.lenSlc O cC O dS ?_;refine klt O O (cO (by omega))<|RunK.nil<|LWP.condF O ?_;refine LWP.exit<|aA<|rgN<|kmv O<|kmv O<|K.indexX O O cC hin0 hio dS<|K.fieldAddrX O O dS ?_;refine K.loadX O hX O hop dS<|kmv O<|K.callX [501] O O O (hN _ _ _ O) dS ?_;refine kex O O<|kex O O<|K.storeAll O O O O O O dS ?_;refine kas O<|RunK.nil<|LWP.ret ?_)
    exact ⟨[_,_],⟨⟨_,_,O,O,O,.inl ⟨AggT.h,O⟩⟩,O,trivial⟩,O⟩
set_option maxHeartbeats 3200000 in
theorem rEval_spec (l:List Ins) (ad:Option Addr) (cap:Nat) (hin:InsIn X ad l) (hbig:l.length<1152921504606846976) (fad:Option Addr) (fcap:Nat) (fs:List (List Nm)) (hfs:FssIn X fad fs) (hfl:fs.length<4611686018427387904) (hrl:∀ r∈fs,r.length<4611686018427387904) (hf2:∀ r∈fs,∀ u∈r,In2 u.2) (at_:Int) (hat : -9223372036854775808≤at_∧at_<9223372036854775808):
  PSpec Tryz.prog X 39 [Lx ad l.length cap,Lx fad fs.length fcap,Ln .i64 at_] (exR (evX l fs at_)):=by
 have hC:=rCheck11 X l ad cap hin V3
 by_cases hz:chkX l=0
 ·obtain ⟨t,ht,hl⟩:=parse (chkX_zero hz).2
  have hA:At l 0 t:=⟨[],[],by rw [← hl];simp,rfl⟩
  have hT:=rTree_spec X l ad cap hin hbig (chkX_ok hz) fad fcap fs hfs hfl hrl hf2 at_ hat t.flat.length t 0 ((l.length:Int)-1) (dO _) hA ht (by rw [hl];omega)
  have h64:=(chkX_zero hz).1
  have hsub:IntKind.i64.wrap ((l.length:Int)-1)=(l.length:Int)-1:=cH V3
  rw [evX_tree hz ht hl]
  rw [hz] at hC
  cases hev:t.ev (oneX fs at_) with
  | error e =>
   have hne:=tree_err ht hev
   rw [hev] at hT
   refine cF Tryz.func39 rfl V5 rfl rfl ?_
   intro C
   (refine U39 ?_;refine keq rfl rfl (r:=false) (cS hne) ?_;refine U16 ?_)
   exact V4
  | ok v =>
   have hv2:=tree_in2 hf2 hat.2 (fun x hx=>(hin.small x (by rw [← hl];exact hx)).2.2.2) hev
   rw [hev] at hT
   simp only
   cases hg:gd v with
   | true =>
    have hG:=Good_spec X v.1 v.2 hv2 true hg
    rw [if_pos rfl]
    refine cF Tryz.func39 rfl V5 rfl rfl ?_
    intro C
    refine U56 ?_
    exact V4
   | false =>
    have hG:=Good_spec X v.1 v.2 hv2 false hg
    rw [if_neg (by decide)]
    refine cF Tryz.func39 rfl V5 rfl rfl ?_
    intro C
    refine U54 ?_
    exact V4
 ·have e:evX l fs at_ = .error (chkX l):=if_neg hz
  rw [e]
  refine cF Tryz.func39 rfl V5 rfl rfl ?_
  intro C
  (refine U15 ?_;refine kne rfl rfl (cU hz) ?_;refine U10 ?_)
  exact V4
end Go.Proofs.YtopiioklkkiedaaGreatDoor
end
section
set_option maxHeartbeats 12800000
set_option maxRecDepth 100000
namespace Go.Proofs.YtopiioklkkiedaaGreatDoor
open Go Go.Lg Go.Lg.Fml Go.Lg.Fld Go.Lg.Arith
set_option maxRecDepth 100000
def exV:Except Int Nm→Nm
 | .ok v=>v
 | .error _=>(false,0)
def exE:Except Int Nm→Int
 | .ok _=>0
 | .error e=>e
theorem exR_eq (r:Except Int Nm):exR r = .tup [SI (exV r).1 (exV r).2,Sn .i64 (exE r)]:=by cases r<;>rfl
variable (X:Nat→Option Obj)
theorem addR_ex (z:Int):addR z=exR (if R127 z then Except.ok (qn z) else Except.error 3:Except Int Nm):=by
 by_cases h:R127 z
 ·rw [addR_in h,if_pos h];rfl
 ·rw [addR_out h,if_neg h];rfl
theorem wAdd_do (u v:Nm) (hu:In2 u.2) (hv:In2 v.2):PSpec Tryz.prog X 183 [LI u.1 u.2,LI v.1 v.2] (exR (doX 5 u v)):=by
 cases hg:(gd u&&gd v) with
 | false =>
  rw [doX_bad hg]
  exact Add_arg X u.1 v.1 u.2 v.2 hu hv hg
 | true =>
  obtain ⟨gu,gv⟩:=Bool.and_eq_true_iff.1 hg
  obtain ⟨e1,r1⟩:=gd_q gu hu
  obtain ⟨e2,r2⟩:=gd_q gv hv
  rw [e1,e2]
  unfold doX
  rw [hg,if_neg (by decide),if_neg (by omega),show arith 5 (zz u) (zz v)=zz u+zz v from rfl,← addR_ex]
  exact Add_q X (zz u) (zz v) r1 r2
theorem wSub_do (u v:Nm) (hu:In2 u.2) (hv:In2 v.2):PSpec Tryz.prog X 184 [LI u.1 u.2,LI v.1 v.2] (exR (doX 6 u v)):=by
 cases hg:(gd u&&gd v) with
 | false =>
  rw [doX_bad hg]
  exact Sub_arg X u.1 v.1 u.2 v.2 hu hv hg
 | true =>
  obtain ⟨gu,gv⟩:=Bool.and_eq_true_iff.1 hg
  obtain ⟨e1,r1⟩:=gd_q gu hu
  obtain ⟨e2,r2⟩:=gd_q gv hv
  rw [e1,e2]
  unfold doX
  rw [hg,if_neg (by decide),if_neg (by omega),show arith 6 (zz u) (zz v)=zz u-zz v from rfl,← addR_ex]
  exact Sub_q X (zz u) (zz v) r1 r2
theorem wMul_do (u v:Nm) (hu:In2 u.2) (hv:In2 v.2):PSpec Tryz.prog X 185 [LI u.1 u.2,LI v.1 v.2] (exR (doX 7 u v)):=by
 cases hg:(gd u&&gd v) with
 | false =>
  rw [doX_bad hg]
  exact Mul_arg X u.1 v.1 u.2 v.2 hu hv hg
 | true =>
  obtain ⟨gu,gv⟩:=Bool.and_eq_true_iff.1 hg
  obtain ⟨e1,r1⟩:=gd_q gu hu
  obtain ⟨e2,r2⟩:=gd_q gv hv
  rw [e1,e2]
  unfold doX
  rw [hg,if_neg (by decide),if_neg (by omega),show arith 7 (zz u) (zz v)=zz u*zz v from rfl,← addR_ex]
  exact Mul_q X (zz u) (zz v) r1 r2
theorem wQuo_do (u v:Nm) (hu:In2 u.2) (hv:In2 v.2):PSpec Tryz.prog X 186 [LI u.1 u.2,LI v.1 v.2] (exR (doX 8 u v)):=by
 cases hg:(gd u&&gd v) with
 | false =>
  rw [doX_bad hg]
  exact Quo_arg X u.1 v.1 u.2 v.2 hu hv (by rw [show (formB u.1 u.2&&formB v.1 v.2)=false from hg];rfl)
 | true =>
  obtain ⟨gu,gv⟩:=Bool.and_eq_true_iff.1 hg
  obtain ⟨e1,r1⟩:=gd_q gu hu
  obtain ⟨e2,r2⟩:=gd_q gv hv
  by_cases h0:zz v=0
  ·have hv0:v.2=0:=by
    have h1:zv v.1 v.2=0:=h0
    have h2:=hv
    unfold zv at h1
    unfold In2 at h2
    split at h1<;>omega
   rw [show doX 8 u v = .error 1 by unfold doX;rw [hg,if_neg (by decide),if_pos ⟨by decide,h0⟩]]
   exact Quo_arg X u.1 v.1 u.2 v.2 hu hv (by rw [hv0];simp)
  ·have hq:=(parts_facts r1 r2 h0).1
   rw [e1,e2]
   unfold doX
   rw [hg,if_neg (by decide),if_neg (fun h=>h0 h.2),show arith 8 (zz u) (zz v)=(zz u).tdiv (zz v) from rfl,if_pos hq]
   exact Quo_q X (zz u) (zz v) r1 r2 h0
theorem wRem_do (u v:Nm) (hu:In2 u.2) (hv:In2 v.2):PSpec Tryz.prog X 187 [LI u.1 u.2,LI v.1 v.2] (exR (doX 9 u v)):=by
 cases hg:(gd u&&gd v) with
 | false =>
  rw [doX_bad hg]
  exact Rem_arg X u.1 v.1 u.2 v.2 hu hv (by rw [show (formB u.1 u.2&&formB v.1 v.2)=false from hg];rfl)
 | true =>
  obtain ⟨gu,gv⟩:=Bool.and_eq_true_iff.1 hg
  obtain ⟨e1,r1⟩:=gd_q gu hu
  obtain ⟨e2,r2⟩:=gd_q gv hv
  by_cases h0:zz v=0
  ·have hv0:v.2=0:=by
    have h1:zv v.1 v.2=0:=h0
    have h2:=hv
    unfold zv at h1
    unfold In2 at h2
    split at h1<;>omega
   rw [show doX 9 u v = .error 1 by unfold doX;rw [hg,if_neg (by decide),if_pos ⟨by decide,h0⟩]]
   exact Rem_arg X u.1 v.1 u.2 v.2 hu hv (by rw [hv0];simp)
  ·have hq:=(parts_facts r1 r2 h0).2.1
   rw [e1,e2]
   unfold doX
   rw [hg,if_neg (by decide),if_neg (fun h=>h0 h.2),show arith 9 (zz u) (zz v)=(zz u).tmod (zz v) from rfl,if_pos hq]
   exact Rem_q X (zz u) (zz v) r1 r2 h0
def truX (x y:Nm) (b:Bool):Except Int Nm:=if (gd x&&gd y)=false then .error 1 else .ok (truth b)
def sameX (x y:Nm):Except Int Nm:=truX x y (decide (x=y))
def lessX (x y:Nm):Except Int Nm:=truX x y (decide (zz x<zz y))
def pickX (x y z:Nm):Except Int Nm:=if gd x=false then .error 1 else .ok (if x=(false,0) then z else y)
def needX (x y:Nm):Except Int Nm:=if gd y=false then .error 1 else if y=(false,0) then .error 9 else .ok x
theorem tForm (x:Nm) (hx:In2 x.2) (r:Bool) (h:gd x=r):PSpec Tryz.prog X 106 [LI x.1 x.2] (Lb r):=Form_spec X _ _ hx r h
theorem tTruth (x y:Nm) (hx:In2 x.2) (hy:In2 y.2) (b:Bool):PSpec Tryz.prog X 221 [LI x.1 x.2,LI y.1 y.2,Lb b] (exR (truX x y b)):=by
 cases h1:gd x with
 | false =>
  have f1:=tForm X x hx false h1
  rw [show truX x y b = .error 1 by unfold truX;rw [h1];rfl]
  refine cF Tryz.func221 rfl V5 rfl rfl ?_
  intro C
  refine U29 ?_
  exact V4
 | true =>
 have f1:=tForm X x hx true h1
 cases h2:gd y with
 | false =>
  have f2:=tForm X y hy false h2
  rw [show truX x y b = .error 1 by unfold truX;rw [h1,h2];rfl]
  refine cF Tryz.func221 rfl V5 rfl rfl ?_
  intro C
  refine U29 ?_
  exact V4
 | true =>
 have f2:=tForm X y hy true h2
 rw [show truX x y b = .ok (truth b) by unfold truX;rw [h1,h2];rfl]
 cases b with
 | true =>
  have hO:=Of_spec X 1 V3
  refine cF Tryz.func221 rfl V5 rfl rfl ?_
  intro C
  refine U35 ?_
  exact V4
 | false =>
  have hO:=Of_spec X 0 V3
  refine cF Tryz.func221 rfl V5 rfl rfl ?_
  intro C
  refine U36 ?_
  exact V4
theorem tSame (x y:Nm) (hx:In2 x.2) (hy:In2 y.2):PSpec Tryz.prog X 193 [LI x.1 x.2,LI y.1 y.2] (exR (sameX x y)):=by
 have q:=eqI (b:=x.1) (b':=y.1) (h:=x.2/18446744073709551616) (h':=y.2/18446744073709551616) (l:=x.2%18446744073709551616) (l':=y.2%18446744073709551616) _ (eqN hx hy)
 unfold sameX
 have hT:=tTruth X x y hx hy (decide (x=y))
 rw [show decide (((x.1,x.2):Nm)=(y.1,y.2))=decide (x=y) from rfl] at q
 generalize decide (x=y)=z at *
 rw [exR_eq] at hT ⊢
 generalize exE (truX x y z)=e at *
 generalize exV (truX x y z)=v at *
 obtain ⟨vb,vN⟩:=v
 refine cF Tryz.func193 rfl V5 rfl rfl ?_
 intro C
 (refine U8 ?_;refine rgD mixed ?_;refine U4 ?_;refine bR O O O O V5 q (.inl ⟨O,O⟩) dS ?_;refine U8 ?_)
 exact V4
theorem tCmp (x y:Nm) (hx:In2 x.2) (hy:In2 y.2):∃ r:Int,PSpec Tryz.prog X 150 [LI x.1 x.2,LI y.1 y.2] (Ln .i64 r)∧((gd x&&gd y)=true→decide (r<0)=decide (zz x<zz y)):=by
 cases h:(gd x&&gd y) with
 | false=>exact ⟨0,Cmp_bad X _ _ _ _ hx hy h,fun h'=>by cases h'⟩
 | true =>
  obtain ⟨gx,gy⟩:=Bool.and_eq_true_iff.1 h
  obtain ⟨e1,r1⟩:=gd_q gx hx
  obtain ⟨e2,r2⟩:=gd_q gy hy
  refine ⟨cmpI (zz x) (zz y),?_,fun _=>(cmp_lz (u:=x) (v:=y)).1⟩
  rw [e1,e2]
  exact Cmp_q X _ _ r1 r2 _ O
theorem tLess (x y:Nm) (hx:In2 x.2) (hy:In2 y.2):PSpec Tryz.prog X 191 [LI x.1 x.2,LI y.1 y.2] (exR (lessX x y)):=by
 obtain ⟨r,hC,hr⟩:=tCmp X x y hx hy
 have hT:=tTruth X x y hx hy (decide (r<0))
 have e:truX x y (decide (r<0))=lessX x y:=by
  unfold lessX
  cases h:(gd x&&gd y) with
  | false=>unfold truX;rw [h];rfl
  | true=>rw [hr h]
 rw [e] at hT
 rw [exR_eq] at hT ⊢
 generalize exE (lessX x y)=e at *
 generalize exV (lessX x y)=v at *
 obtain ⟨vb,vN⟩:=v
 refine cF Tryz.func191 rfl V5 rfl rfl ?_
 intro C
 (refine U8 ?_;refine rgD mixed ?_;refine U5 ?_;refine klt rfl rfl rfl ?_;refine U8 ?_)
 exact V4
theorem sgn_qn {x:Nm} (hx:In2 x.2) (g:gd x=true):sgnI (zz x)=0↔x=(false,0):=by
 obtain ⟨e1,r1⟩:=gd_q g hx
 have h:=eqZ (b:=x.1) hx
 obtain ⟨b,N⟩:=x
 unfold In2 at hx
 unfold gd formB at g
 unfold sgnI zz zv at *
 simp only at *
 constructor
 ·intro h0
  have hN:N=0:=by
   cases b<;>simp only [Bool.false_eq_true,if_false,if_true] at h0<;>(repeat' split at h0)<;>omega
  subst hN
  cases b with
  | false=>rfl
  | true=>simp at g
 ·intro e
  cases e
  rfl
theorem tSign (x:Nm) (hx:In2 x.2) (g:gd x=true):∃ s:Int,PSpec Tryz.prog X 224 [LI x.1 x.2] (Ln .i64 s)∧(s=0↔x=(false,0)):=by
 obtain ⟨e1,r1⟩:=gd_q g hx
 exact ⟨sgnI (zz x),by rw [e1];exact Sign_q X _ r1 _ rfl,sgn_qn hx g⟩
theorem tPick (x y z:Nm) (hx:In2 x.2):PSpec Tryz.prog X 195 [LI x.1 x.2,LI y.1 y.2,LI z.1 z.2] (exR (pickX x y z)):=by
 cases h1:gd x with
 | false =>
  have f1:=tForm X x hx false h1
  rw [show pickX x y z = .error 1 by unfold pickX;rw [h1];rfl]
  refine cF Tryz.func195 rfl V5 rfl rfl ?_
  intro C
  refine U25 ?_
  exact V4
 | true =>
 have f1:=tForm X x hx true h1
 obtain ⟨s,hS,hs⟩:=tSign X x hx h1
 by_cases c:x=(false,0)
 ·rw [show pickX x y z = .ok z by unfold pickX;rw [h1,if_neg VA,if_pos c]]
  have c:=hs.2 c
  subst c
  refine cF Tryz.func195 rfl V5 rfl rfl ?_
  intro C
  refine U34 ?_
  exact V4
 ·rw [show pickX x y z = .ok y by unfold pickX;rw [h1,if_neg VA,if_neg c]]
  have c:s≠0:=fun h=>c (hs.1 h)
  refine cF Tryz.func195 rfl V5 rfl rfl ?_
  intro C
  (refine U22 ?_;refine kne rfl rfl (r:=true) (cU c) ?_;refine U10 ?_)
  exact V4
theorem tNeed (x y:Nm) (hy:In2 y.2):PSpec Tryz.prog X 196 [LI x.1 x.2,LI y.1 y.2] (exR (needX x y)):=by
 cases h1:gd y with
 | false =>
  have f1:=tForm X y hy false h1
  rw [show needX x y = .error 1 by unfold needX;rw [h1];rfl]
  refine cF Tryz.func196 rfl V5 rfl rfl ?_
  intro C
  refine U24 ?_
  exact V4
 | true =>
 have f1:=tForm X y hy true h1
 obtain ⟨s,hS,hs⟩:=tSign X y hy h1
 by_cases c:y=(false,0)
 ·rw [show needX x y = .error 9 by unfold needX;rw [h1,if_neg VA,if_pos c]]
  have c:=hs.2 c
  subst c
  refine cF Tryz.func196 rfl V5 rfl rfl ?_
  intro C
  refine U32 ?_
  exact V4
 ·rw [show needX x y = .ok x by unfold needX;rw [h1,if_neg VA,if_neg c]]
  have c:s≠0:=fun h=>c (hs.1 h)
  refine cF Tryz.func196 rfl V5 rfl rfl ?_
  intro C
  (refine U21 ?_;refine keq rfl rfl (r:=false) (cS c) ?_;refine U11 ?_)
  exact V4
end Go.Proofs.YtopiioklkkiedaaGreatDoor
end
section
set_option maxHeartbeats 12800000
set_option maxRecDepth 100000
namespace Go.Proofs.YtopiioklkkiedaaGreatDoor
open Go Go.Lg Go.Lg.Fml Go.Lg.Fld Go.Lg.Arith
set_option maxRecDepth 100000
def MoreM (X Y:Nat→Option Obj):Prop := ∀ b o,X b=some o→Y b=some o
theorem MoreM.refl (X:Nat→Option Obj):MoreM X X:=fun _ _ h=>h
theorem MoreM.trans {X Y Z:Nat→Option Obj} (h:MoreM X Y) (h':MoreM Y Z):MoreM X Z:=fun b o hb=>h' b o (h b o hb)
abbrev capL (caps:List Value):List LV:=caps.map fun v=>.sv (.one (.val v))
def OneV (Y:Nat→Option Obj) (v:Value) (F:Nm→Except Int Nm):Prop := ∃ (f:FuncId) (caps:List Value),v = .func (.func f) #[] caps.toArray∧∀ Z,MoreM Y Z→∀ x:Nm,In2 x.2→PSpec Tryz.prog Z f ([LI x.1 x.2]++capL caps) (exR (F x))
def TwoV (Y:Nat→Option Obj) (v:Value) (F:Nm→Nm→Except Int Nm):Prop := ∃ (f:FuncId) (caps:List Value),v = .func (.func f) #[] caps.toArray∧∀ Z,MoreM Y Z→∀ x y:Nm,In2 x.2→In2 y.2→PSpec Tryz.prog Z f ([LI x.1 x.2,LI y.1 y.2]++capL caps) (exR (F x y))
def ThreeV (Y:Nat→Option Obj) (v:Value) (F:Nm→Nm→Nm→Except Int Nm):Prop := ∃ (f:FuncId) (caps:List Value),v = .func (.func f) #[] caps.toArray∧∀ Z,MoreM Y Z→∀ x y z:Nm,In2 x.2→In2 y.2→In2 z.2→PSpec Tryz.prog Z f ([LI x.1 x.2,LI y.1 y.2,LI z.1 z.2]++capL caps) (exR (F x y z))
structure EnvIn (Z:Nat→Option Obj) (fad:Option Addr) (fs:List (List Nm)) (at_:Int):Prop where
 fss:FssIn Z fad fs
 len:fs.length<4611686018427387904
 rows:∀ r∈fs,r.length<4611686018427387904
 place : -9223372036854775808≤at_∧at_<9223372036854775808
theorem EnvIn.mono {Y Z:Nat→Option Obj} (h:MoreM Y Z) {fad:Option Addr} {fs:List (List Nm)} {at_:Int} (e:EnvIn Y fad fs at_):EnvIn Z fad fs at_:=⟨e.fss.mono h,e.len,e.rows,e.place⟩
def DeedV (Y:Nat→Option Obj) (v:Value) (op:Int):Prop := ∃ (f:FuncId) (caps:List Value),v = .func (.func f) #[] caps.toArray∧∀ Z,MoreM Y Z→∀ x:Ins,x.op=op→smallI x→∀ (fad:Option Addr) (fcap:Nat) (fs:List (List Nm)) (at_:Int),EnvIn Z fad fs at_ →
 ∀ (tad:Option Addr) (tcap:Nat) (ts:List Nm),NumsIn Z tad ts→ts.length=takes op→PSpec Tryz.prog Z f ([LIn x,LEnv fad fs.length fcap at_,Lx tad ts.length tcap]++capL caps) (exR (oneX fs at_ x ts))
theorem DeedV.mono {Y Z:Nat→Option Obj} (h:MoreM Y Z) {v:Value} {op:Int} (hv:DeedV Y v op):DeedV Z v op:=by
 obtain ⟨f,caps,e,hp⟩:=hv
 exact ⟨f,caps,e,fun W hW=>hp W (h.trans hW)⟩
theorem two_fn (Y:Nat→Option Obj) {f:FuncId} {F:Nm→Nm→Except Int Nm} (h:∀ (Z:Nat→Option Obj) (x y:Nm),In2 x.2→In2 y.2→PSpec Tryz.prog Z f [LI x.1 x.2,LI y.1 y.2] (exR (F x y))):TwoV Y (.func (.func f) #[] #[]) F:=⟨f,[],rfl,fun Z _ x y hx hy=>h Z x y hx hy⟩
theorem three_fn (Y:Nat→Option Obj) {f:FuncId} {F:Nm→Nm→Nm→Except Int Nm} (h:∀ (Z:Nat→Option Obj) (x y z:Nm),In2 x.2→In2 y.2→In2 z.2→PSpec Tryz.prog Z f [LI x.1 x.2,LI y.1 y.2,LI z.1 z.2] (exR (F x y z))):ThreeV Y (.func (.func f) #[] #[]) F:=⟨f,[],rfl,fun Z _ x y z hx hy hz=>h Z x y z hx hy hz⟩
abbrev pv (blk:Nat):Value:=.pointer (some ⟨blk,0,none⟩)
section
variable {Y:Nat→Option Obj} {blk:Nat} {arr:Array Value} {el:TypeId} {fr:Nat×Nat} {v:Value}
theorem two_swapped {F:Nm→Nm→Except Int Nm} (hY:Y blk=some (.cells arr el fr)) (hv:arr[0]? = some v) (hF:TwoV Y v F):TwoV Y (.func (.func 222) #[] #[pv blk]) (fun x y=>F y x):=by
 obtain ⟨f,caps,rfl,hF⟩:=hF
 refine ⟨222,[pv blk],O,fun Z hZ x y hx hy => ?_⟩
 have hP:=hF Z hZ y x hy hx
 have hX:=hZ _ _ hY
 show PSpec _ Z _ [LI x.1 x.2,LI y.1 y.2,.sv (.one (.val (pv blk)))] (exR (F y x))
 rw [exR_eq] at hP ⊢
 generalize exE (F y x)=e at *
 generalize exV (F y x)=v at *
 obtain ⟨vb,vN⟩:=v
 refine cF Tryz.func222 rfl V5 rfl rfl ?_
 intro C
 (refine U12 ?_;refine K.callF O O O hP dS ?_;refine U6 ?_)
 exact V4
def choX (G:Nm→Nm→Except Int Nm) (x y:Nm):Except Int Nm:=match G x y with | .error e=>.error e | .ok a=>pickX a x y
theorem two_chosen {F:Nm→Nm→Except Int Nm} (hY:Y blk=some (.cells arr el fr)) (hv:arr[0]? = some v) (hF:TwoV Y v F) (h2:∀ x y a,F x y = .ok a→In2 a.2) (hz:∀ x y e,F x y = .error e→e≠0):TwoV Y (.func (.func 220) #[] #[pv blk]) (choX F):=by
 obtain ⟨f,caps,rfl,hF⟩:=hF
 refine ⟨220,[pv blk],O,fun Z hZ x y hx hy => ?_⟩
 have hP:=hF Z hZ x y hx hy
 have hX:=hZ _ _ hY
 show PSpec _ Z _ [LI x.1 x.2,LI y.1 y.2,.sv (.one (.val (pv blk)))] (exR (choX F x y))
 unfold choX
 cases hf:F x y with
 | error e =>
  have he:=hz x y e hf
  rw [hf] at hP
  show PSpec _ Z _ _ (.tup [S0,Sn .i64 e])
  have hP:PSpec Tryz.prog Z f ([LI x.1 x.2,LI y.1 y.2]++capL caps) (.tup [S0,Sn .i64 e]):=hP
  refine cF Tryz.func220 rfl V5 rfl rfl ?_
  intro C
  (refine U12 ?_;refine K.callF O O O hP dS ?_;refine U11 ?_;refine kne O O (r:=true) (cU he) ?_;refine U10 ?_)
  exact V4
 | ok a =>
  have ha:=h2 x y a hf
  rw [hf] at hP
  have hP:PSpec Tryz.prog Z f ([LI x.1 x.2,LI y.1 y.2]++capL caps) (.tup [SI a.1 a.2,Sn .i64 0]):=hP
  have hK:=tPick Z a x y ha
  show PSpec _ Z _ _ (exR (pickX a x y))
  rw [exR_eq] at hK ⊢
  generalize exE (pickX a x y)=e at *
  generalize exV (pickX a x y)=v at *
  obtain ⟨vb,vN⟩:=v
  refine cF Tryz.func220 rfl V5 rfl rfl ?_
  intro C
  (refine U12 ?_;refine K.callF O O O hP dS ?_;refine U27 ?_)
  exact V4
theorem one_zero {F:Nm→Nm→Except Int Nm} (hY:Y blk=some (.cells arr el fr)) (hv:arr[0]? = some v) (hF:TwoV Y v F):OneV Y (.func (.func 219) #[] #[pv blk]) (fun x=>F (false,0) x):=by
 obtain ⟨f,caps,rfl,hF⟩:=hF
 refine ⟨219,[pv blk],O,fun Z hZ x hx => ?_⟩
 have hP:PSpec Tryz.prog Z f ([.sv S0,LI x.1 x.2]++capL caps) (exR (F (false,0) x)):=hF Z hZ (false,0) x ⟨by decide,by decide⟩ hx
 have hX:=hZ _ _ hY
 show PSpec _ Z _ [LI x.1 x.2,.sv (.one (.val (pv blk)))] (exR (F (false,0) x))
 rw [exR_eq] at hP ⊢
 generalize exE (F (false,0) x)=e at *
 generalize exV (F (false,0) x)=v at *
 obtain ⟨vb,vN⟩:=v
 refine cF Tryz.func219 rfl V5 rfl rfl ?_
 intro C
 (refine U11 ?_;refine K.callF O O O hP dS ?_;refine U6 ?_)
 exact V4
theorem deed_one {op:Int} {F:Nm→Except Int Nm} (ht:takes op=1) (hY:Y blk=some (.cells arr el fr)) (hv:arr[0]? = some v) (hF:OneV Y v F) (hop:∀ u,In2 u.2→nodeX op [u]=F u):DeedV Y (.func (.func 218) #[] #[pv blk]) op:=by
 obtain ⟨f,caps,rfl,hF⟩:=hF
 refine ⟨218,[pv blk],O,fun Z hZ x hxo hx fad fcap fs at_ hE tad tcap ts hts hlen => ?_⟩
 rw [ht] at hlen
 match ts,hlen,hts with
 | [u],_,hts =>
 have e1:oneX fs at_ x [u]=F u:=by unfold oneX;rw [hxo,if_neg (by rw [ht];decide),hop u (hts.in2 _ V21)]
 rw [e1]
 obtain ⟨tb,tof,ta,te,tf,rfl,hT,hall⟩:=hts.all (by show 0<1;omega)
 obtain ⟨i0,s0,c0⟩:=hall 0 _ _ rfl
 have h0:tof+Int.toNat 0*3=tof+0*3:=rfl
 have hb0:0≤(0:Int)∧(0:Int)<(1:Nat):=by omega
 have hP:=hF Z hZ u i0
 have hX:=hZ _ _ hY
 show PSpec _ Z _ [LIn x,LEnv fad fs.length fcap at_,Lx (some ⟨tb,tof,none⟩) 1 tcap,.sv (.one (.val (pv blk)))] (exR (F u))
 rw [exR_eq] at hP ⊢
 generalize exE (F u)=e at *
 generalize exV (F u)=v at *
 obtain ⟨vb,vN⟩:=v
 refine cF Tryz.func218 rfl V5 rfl rfl ?_
 intro C
 (refine U8 ?_;refine rgD mixed ?_;refine U4 ?_;refine K.callF O O O hP dS ?_;refine U7 ?_)
 exact V4
theorem deed_two {op:Int} {F:Nm→Nm→Except Int Nm} (ht:takes op=2) (hY:Y blk=some (.cells arr el fr)) (hv:arr[0]? = some v) (hF:TwoV Y v F) (hop:∀ u w,In2 u.2→In2 w.2→nodeX op [u,w]=F u w):DeedV Y (.func (.func 211) #[] #[pv blk]) op:=by
 obtain ⟨f,caps,rfl,hF⟩:=hF
 refine ⟨211,[pv blk],O,fun Z hZ x hxo hx fad fcap fs at_ hE tad tcap ts hts hlen => ?_⟩
 rw [ht] at hlen
 match ts,hlen,hts with
 | [u,z],_,hts =>
 have e1:oneX fs at_ x [u,z]=F u z:=by unfold oneX;rw [hxo,if_neg (by rw [ht];decide),hop u z (hts.in2 _ V21) (hts.in2 _ V21)]
 rw [e1]
 obtain ⟨tb,tof,ta,te,tf,rfl,hT,hall⟩:=hts.all V2F
 obtain ⟨i0,s0,c0⟩:=hall 0 _ _ rfl
 have h0:tof+Int.toNat 0*3=tof+0*3:=rfl
 have hb0:0≤(0:Int)∧(0:Int)<(2:Nat):=by omega
 obtain ⟨i1,s1,c1⟩:=hall 1 _ _ rfl
 have h1:tof+Int.toNat 1*3=tof+1*3:=rfl
 have hb1:0≤(1:Int)∧(1:Int)<(2:Nat):=by omega
 have hP:=hF Z hZ u z i0 i1
 have hX:=hZ _ _ hY
 show PSpec _ Z _ [LIn x,LEnv fad fs.length fcap at_,Lx (some ⟨tb,tof,none⟩) 2 tcap,.sv (.one (.val (pv blk)))] (exR (F u z))
 rw [exR_eq] at hP ⊢
 generalize exE (F u z)=e at *
 generalize exV (F u z)=v at *
 obtain ⟨vb,vN⟩:=v
 refine cF Tryz.func211 rfl V5 rfl rfl ?_
 intro C
 (refine U8 ?_;refine rgD mixed ?_;refine U7 ?_;refine K.callF O O O hP dS ?_;refine U7 ?_)
 exact V4
theorem deed_three {op:Int} {F:Nm→Nm→Nm→Except Int Nm} (ht:takes op=3) (hY:Y blk=some (.cells arr el fr)) (hv:arr[0]? = some v) (hF:ThreeV Y v F) (hop:∀ u w z,In2 u.2→In2 w.2→In2 z.2→nodeX op [u,w,z]=F u w z):DeedV Y (.func (.func 223) #[] #[pv blk]) op:=by
 obtain ⟨f,caps,rfl,hF⟩:=hF
 refine ⟨223,[pv blk],O,fun Z hZ x hxo hx fad fcap fs at_ hE tad tcap ts hts hlen => ?_⟩
 rw [ht] at hlen
 match ts,hlen,hts with
 | [u,z,q],_,hts =>
 have e1:oneX fs at_ x [u,z,q]=F u z q:=by unfold oneX;rw [hxo,if_neg (by rw [ht];decide),hop u z q (hts.in2 _ V21) (hts.in2 _ V21) (hts.in2 _ V21)]
 rw [e1]
 obtain ⟨tb,tof,ta,te,tf,rfl,hT,hall⟩:=hts.all (by show 0<3;omega)
 obtain ⟨i0,s0,c0⟩:=hall 0 _ _ rfl
 have h0:tof+Int.toNat 0*3=tof+0*3:=rfl
 have hb0:0≤(0:Int)∧(0:Int)<(3:Nat):=by omega
 obtain ⟨i1,s1,c1⟩:=hall 1 _ _ rfl
 have h1:tof+Int.toNat 1*3=tof+1*3:=rfl
 have hb1:0≤(1:Int)∧(1:Int)<(3:Nat):=by omega
 obtain ⟨i2,s2,c2⟩:=hall 2 _ _ rfl
 have h2:tof+Int.toNat 2*3=tof+2*3:=rfl
 have hb2:0≤(2:Int)∧(2:Int)<(3:Nat):=by omega
 have hP:=hF Z hZ u z q i0 i1 i2
 have hX:=hZ _ _ hY
 show PSpec _ Z _ [LIn x,LEnv fad fs.length fcap at_,Lx (some ⟨tb,tof,none⟩) 3 tcap,.sv (.one (.val (pv blk)))] (exR (F u z q))
 rw [exR_eq] at hP ⊢
 generalize exE (F u z q)=e at *
 generalize exV (F u z q)=v at *
 obtain ⟨vb,vN⟩:=v
 refine cF Tryz.func223 rfl V5 rfl rfl ?_
 intro C
 (refine U8 ?_;refine rgD mixed ?_;refine U10 ?_;refine K.callF O O O hP dS ?_;refine U7 ?_)
 exact V4
end
variable (X:Nat→Option Obj)
theorem tFind (fad:Option Addr) (fcap:Nat) (fs:List (List Nm)) (at_:Int) (hE:EnvIn X fad fs at_) (a b:Int) (ha : -9223372036854775808≤a∧a<9223372036854775808) (hb : -9223372036854775808≤b∧b<9223372036854775808):
  PSpec Tryz.prog X 210 [LEnv fad fs.length fcap at_,Ln .i64 a,Ln .i64 b] (exR (elemX fs a b)):=by
 have hfl:=hE.len
 by_cases c1:a<0
 ·rw [show elemX fs a b = .error 3 by unfold elemX;rw [if_pos (.inl c1)]]
  refine cF Tryz.func210 rfl V5 rfl rfl ?_
  intro C
  (refine U10 ?_;refine klt rfl rfl (r:=true) (cP c1) ?_;refine U16 ?_)
  exact V4
 by_cases c2:(fs.length:Int)≤a
 ·rw [show elemX fs a b = .error 3 by unfold elemX;split<;>first|rfl|(rw [List.getElem?_eq_none V3])]
  refine cF Tryz.func210 rfl V5 rfl rfl ?_
  intro C
  (refine U10 ?_;refine klt O O (r:=false) (cO c1) ?_;refine U5 ?_;refine bD O O (r:=true) (cP c2) (dT O O) ?_;refine U10 ?_)
  exact V4
 obtain ⟨r,hr⟩:∃ r,fs[a.toNat]? = some r:=wg V3
 obtain ⟨blk,off,arr,el,fr,vad,vcap,rfl,hX,hsz,hcell,hN⟩:=hE.fss.at_ _ _ hr
 have hrl:=hE.rows r (dE hr)
 have hio:off+Int.toNat a*1=off+a.toNat:=by omega
 by_cases c3:b<0
 ·rw [show elemX fs a b = .error 3 by unfold elemX;rw [if_pos (.inr c3)]]
  refine cF Tryz.func210 rfl V5 rfl rfl ?_
  intro C
  (refine U10 ?_;refine klt O O (r:=false) (cO c1) ?_;refine U5 ?_;refine bD O O (r:=false) (cO c2) (dT O O) ?_;refine U17 ?_;refine klt O O (r:=true) (cP c3) ?_;refine U15 ?_)
  exact V4
 by_cases c4:(r.length:Int)≤b
 ·rw [show elemX fs a b = .error 3 by unfold elemX;rw [if_neg V3,hr];simp only;rw [List.getElem?_eq_none V3]]
  refine cF Tryz.func210 rfl V5 rfl rfl ?_
  intro C
  (refine U10 ?_;refine klt O O (r:=false) (cO c1) ?_;refine U5 ?_;refine bD O O (r:=false) (cO c2) (dT O O) ?_;refine U17 ?_;refine klt O O (r:=false) (cO c3) ?_;refine U4 ?_;refine bD O O (r:=true) (cP c4) (dT O O) ?_;refine U10 ?_)
  exact V4
 obtain ⟨⟨vb,vN⟩,hv⟩:∃ v,r[b.toNat]? = some v:=wg V3
 obtain ⟨_,blk2,off2,arr2,el2,fr2,rfl,hX2,hsz2,hcs2⟩:=hN.at hv
 have hio2:off2+Int.toNat b*3=off2+b.toNat*3:=rfl
 rw [show elemX fs a b = .ok (vb,vN) by unfold elemX;rw [if_neg (by omega),hr];simp only;rw [hv]]
 refine cF Tryz.func210 rfl V5 rfl rfl ?_
 intro C
 (refine U10 ?_;refine klt O O (r:=false) (cO c1) ?_;refine U5 ?_;refine bD O O (r:=false) (cO c2) (dT O O) ?_;refine U17 ?_;refine klt O O (r:=false) (cO c3) ?_;refine U4 ?_;refine bD O O (r:=false) (cO c4) (dT O O) ?_;refine U14 ?_)
 exact V4
theorem deed_num:DeedV X (.func (.func 178) #[] #[]) 1:=by
 refine ⟨178,[],O,fun Z hZ x hxo hx fad fcap fs at_ hE tad tcap ts hts hlen => ?_⟩
 rw [show oneX fs at_ x ts = .ok x.k by unfold oneX leafX;rw [hxo];rfl]
 show PSpec _ Z _ [LIn x,LEnv fad fs.length fcap at_,Lx tad ts.length tcap] (.tup [SI x.k.1 x.k.2,Sn .i64 0])
 refine cF Tryz.func178 rfl V5 rfl rfl ?_
 intro C
 (refine U10 ?_;refine bJ O O O V28 dS ?_;refine U4 ?_)
 exact V4
theorem deed_elem:DeedV X (.func (.func 179) #[] #[]) 2:=by
 refine ⟨179,[],O,fun Z hZ x hxo hx fad fcap fs at_ hE tad tcap ts hts hlen => ?_⟩
 rw [show oneX fs at_ x ts=elemX fs x.a x.b by unfold oneX leafX;rw [hxo];rfl]
 have hP:=tFind Z fad fcap fs at_ hE x.a x.b hx.2.1 hx.2.2.1
 show PSpec _ Z _ [LIn x,LEnv fad fs.length fcap at_,Lx tad ts.length tcap] (exR (elemX fs x.a x.b))
 rw [exR_eq] at hP ⊢
 generalize exE (elemX fs x.a x.b)=e at *
 generalize exV (elemX fs x.a x.b)=v at *
 obtain ⟨vb,vN⟩:=v
 refine cF Tryz.func179 rfl V5 rfl rfl ?_
 intro C
 refine U21 ?_
 exact V4
theorem deed_here:DeedV X (.func (.func 180) #[] #[]) 3:=by
 refine ⟨180,[],O,fun Z hZ x hxo hx fad fcap fs at_ hE tad tcap ts hts hlen => ?_⟩
 rw [show oneX fs at_ x ts=elemX fs x.a at_ by unfold oneX leafX;rw [hxo];rfl]
 have hP:=tFind Z fad fcap fs at_ hE x.a at_ hx.2.1 hE.place
 show PSpec _ Z _ [LIn x,LEnv fad fs.length fcap at_,Lx tad ts.length tcap] (exR (elemX fs x.a at_))
 rw [exR_eq] at hP ⊢
 generalize exE (elemX fs x.a at_)=e at *
 generalize exV (elemX fs x.a at_)=v at *
 obtain ⟨vb,vN⟩:=v
 refine cF Tryz.func180 rfl V5 rfl rfl ?_
 intro C
 refine U21 ?_
 exact V4
theorem deed_place:DeedV X (.func (.func 181) #[] #[]) 4:=by
 refine ⟨181,[],O,fun Z hZ x hxo hx fad fcap fs at_ hE tad tcap ts hts hlen => ?_⟩
 have hpl:=hE.place
 rw [show oneX fs at_ x ts=(if at_<0 then .error 3 else .ok (false,at_)) by unfold oneX leafX;rw [hxo];rfl]
 show PSpec _ Z _ [LIn x,LEnv fad fs.length fcap at_,Lx tad ts.length tcap] _
 by_cases c:at_<0
 ·rw [if_pos c]
  refine cF Tryz.func181 rfl V5 rfl rfl ?_
  intro C
  (refine U12 ?_;refine klt rfl rfl (r:=true) (cP c) ?_;refine U9 ?_)
  exact V4
 ·rw [if_neg c]
  have hO:=Of_spec Z at_ hpl
  rw [show LQ at_=LI false at_ by unfold LQ;rw [mg_pos (by omega),cO c]] at hO
  show PSpec _ Z _ _ (.tup [SI false at_,Sn .i64 0])
  refine cF Tryz.func181 rfl V5 rfl rfl ?_
  intro C
  (refine U12 ?_;refine klt rfl rfl (r:=false) (cO c) ?_;refine U12 ?_)
  exact V4
end Go.Proofs.YtopiioklkkiedaaGreatDoor
end
section
set_option maxHeartbeats 12800000
set_option maxRecDepth 100000
namespace Go.Proofs.YtopiioklkkiedaaGreatDoor
open Go Go.Lg Go.Lg.Fml Go.Lg.Fld Go.Lg.Arith
set_option maxRecDepth 100000
abbrev ptrF (f:FuncId) (k:Nat):CV:=.fn (.func f) (fun i=>[pv i]) k
abbrev fnV (f:FuncId):Value:=.func (.func f) #[] #[]
abbrev vB (t:TypeId) (k:Nat) (c:CV):Nat×Option Box:=(k,some ⟨t,[c],false⟩)
variable (X:Nat→Option Obj)
theorem mA_ofTwo (g:FuncId):MSpec Tryz.prog X 182 [.sv (.one (.val (fnV g)))] [] (.sv (.one (ptrF 211 1000001))) [vB 275 1000001 (.val (fnV g))]:=by
 refine cG Tryz.func182 rfl V5 rfl V7 V7 rfl rfl ?_
 intro C
 (refine U7 ?_;refine K.makeFuncP O O dS ?_;refine U3 ?_)
 exact ⟨[(1000001,1)],⟨[_],⟨O,trivial⟩,O⟩,V1,O,O⟩
theorem mB_ofTwo (g h:FuncId) (t:TypeId):MSpec Tryz.prog X 182 [.sv (.one (ptrF g 1000002))] [vB t 1000002 (.val (fnV h))] (.sv (.one (ptrF 211 1000001))) [vB 275 1000001 (ptrF g 1000002),vB t 1000002 (.val (fnV h))]:=by
 refine cG Tryz.func182 rfl V5 rfl V7 V7 rfl rfl ?_
 intro C
 (refine U7 ?_;refine K.makeFuncP O O dS ?_;refine U3 ?_)
 exact ⟨[(1000001,1)],⟨[_],⟨O,trivial⟩,O⟩,V1,O,O⟩
theorem mC_ofTwo (g h i:FuncId) (t:TypeId):MSpec Tryz.prog X 182 [.sv (.one (ptrF g 1000002))] [vB t 1000002 (ptrF h 1000003),vB t 1000003 (.val (fnV i))] (.sv (.one (ptrF 211 1000001))) [vB 275 1000001 (ptrF g 1000002),vB t 1000002 (ptrF h 1000003),vB t 1000003 (.val (fnV i))]:=by
 refine cG Tryz.func182 rfl V5 rfl V7 V7 rfl rfl ?_
 intro C
 (refine U7 ?_;refine K.makeFuncP O O dS ?_;refine U3 ?_)
 exact ⟨[(1000001,1)],⟨[_],⟨O,trivial⟩,O⟩,V1,O,O⟩
theorem mB_ofOne (g h:FuncId) (t:TypeId):MSpec Tryz.prog X 188 [.sv (.one (ptrF g 1000002))] [vB t 1000002 (.val (fnV h))] (.sv (.one (ptrF 218 1000001))) [vB 273 1000001 (ptrF g 1000002),vB t 1000002 (.val (fnV h))]:=by
 refine cG Tryz.func188 rfl V5 rfl V7 V7 rfl rfl ?_
 intro C
 (refine U7 ?_;refine K.makeFuncP O O dS ?_;refine U3 ?_)
 exact ⟨[(1000001,1)],⟨[_],⟨O,trivial⟩,O⟩,V1,O,O⟩
theorem mA_ofThree (g:FuncId):MSpec Tryz.prog X 194 [.sv (.one (.val (fnV g)))] [] (.sv (.one (ptrF 223 1000001))) [vB 297 1000001 (.val (fnV g))]:=by
 refine cG Tryz.func194 rfl V5 rfl V7 V7 rfl rfl ?_
 intro C
 (refine U7 ?_;refine K.makeFuncP O O dS ?_;refine U3 ?_)
 exact ⟨[(1000001,1)],⟨[_],⟨O,trivial⟩,O⟩,V1,O,O⟩
theorem mA_withZero (g:FuncId):MSpec Tryz.prog X 189 [.sv (.one (.val (fnV g)))] [] (.sv (.one (ptrF 219 1000001))) [vB 275 1000001 (.val (fnV g))]:=by
 refine cG Tryz.func189 rfl V5 rfl V7 V7 rfl rfl ?_
 intro C
 (refine U7 ?_;refine K.makeFuncP O O dS ?_;refine U3 ?_)
 exact ⟨[(1000001,1)],⟨[_],⟨O,trivial⟩,O⟩,V1,O,O⟩
theorem mA_chosen (g:FuncId):MSpec Tryz.prog X 190 [.sv (.one (.val (fnV g)))] [] (.sv (.one (ptrF 220 1000001))) [vB 275 1000001 (.val (fnV g))]:=by
 refine cG Tryz.func190 rfl V5 rfl V7 V7 rfl rfl ?_
 intro C
 (refine U7 ?_;refine K.makeFuncP O O dS ?_;refine U3 ?_)
 exact ⟨[(1000001,1)],⟨[_],⟨O,trivial⟩,O⟩,V1,O,O⟩
theorem mB_chosen (g h:FuncId) (t:TypeId):MSpec Tryz.prog X 190 [.sv (.one (ptrF g 1000002))] [vB t 1000002 (.val (fnV h))] (.sv (.one (ptrF 220 1000001))) [vB 275 1000001 (ptrF g 1000002),vB t 1000002 (.val (fnV h))]:=by
 refine cG Tryz.func190 rfl V5 rfl V7 V7 rfl rfl ?_
 intro C
 (refine U7 ?_;refine K.makeFuncP O O dS ?_;refine U3 ?_)
 exact ⟨[(1000001,1)],⟨[_],⟨O,trivial⟩,O⟩,V1,O,O⟩
theorem mA_swapped (g:FuncId):MSpec Tryz.prog X 192 [.sv (.one (.val (fnV g)))] [] (.sv (.one (ptrF 222 1000001))) [vB 275 1000001 (.val (fnV g))]:=by
 refine cG Tryz.func192 rfl V5 rfl V7 V7 rfl rfl ?_
 intro C
 (refine U7 ?_;refine K.makeFuncP O O dS ?_;refine U3 ?_)
 exact ⟨[(1000001,1)],⟨[_],⟨O,trivial⟩,O⟩,V1,O,O⟩
def deedR (f:FuncId) (op:Int):Rsc:=⟨fun ρ H=>DeedV H (.func (.func f) #[] #[pv ρ.1]) op⟩
section
variable {X:Nat→Option Obj} {n:Nat} {C:Ctx} {Mid:St→Prop} {s:List (Nat×LV)} {bx:List (Nat×Option Box)} {k k1 k2 k3:Nat} {t1 t2 t3:TypeId} {f g h:FuncId} {op:Int} {v:Value}
theorem deed_shut1 (hD:∀ (Y:Nat→Option Obj) b a e fr,Y b=some (.cells a e fr)→a[0]? = some v→DeedV Y (.func (.func f) #[] #[pv b]) op)
  (hl:Leads n C Mid ⟨s,(k,some ⟨0,[],.res (deedR f op)⟩)::bx,X⟩):Leads n C Mid ⟨s,vB t1 k (.val v)::bx,X⟩:=by
 have:=Leads.closeRes (el:=t1) (H:=fun _=>none) (vals:=[v]) (R:=deedR f op) (OwnedM.nil C X) (fun ρ fr _ _ _=>hD _ ρ.1 _ t1 fr (cN _ _ _) rfl) hl
 rw [joinM_nil] at this
 exact this
theorem deed_shut2 (hD:∀ (Y:Nat→Option Obj) b a e fr b' a' e' fr',Y b=some (.cells a e fr)→a[0]? = some v→Y b'=some (.cells a' e' fr')→a'[0]? = some (.func (.func g) #[] #[pv b])→DeedV Y (.func (.func f) #[] #[pv b']) op)
  (h1:Go.Lg.look k1 (vB t2 k2 (ptrF g k1)::bx)=none) (h2:s.all (fun p=>p.2.inUse (vB t2 k2 (ptrF g k1)::bx))=true) (h3:bx.all (fun p=>match p.2 with|some b=>b.cells.all (CV.inUse (vB t2 k2 (ptrF g k1)::bx))|none=>true)=true)
  (hl:Leads n C Mid ⟨s,(k2,some ⟨0,[],.res (deedR f op)⟩)::bx,X⟩):Leads n C Mid ⟨s,vB t2 k2 (ptrF g k1)::vB t1 k1 (.val v)::bx,X⟩:=by
 refine Leads.fixBox (vals:=[v]) (el:=t1) (row:=false) [] [vB t2 k2 (ptrF g k1)] h1 h2 h3 rfl (by simp [CV.fixIn]) ?_
 intro blk arr fr hX hF hsp
 obtain ⟨sp,hsp⟩:=hsp
 have ha:arr[0]? = some v:=by rw [← Array.getElem?_toList,hsp];rfl
 have hO:OwnedM C X (withBlock (fun _=>none) blk (.cells arr t1 fr)):=(OwnedM.nil C X).more hF (by rw [joinM_nil];exact hX)
 have e:withBlock X blk (.cells arr t1 fr)=joinM X (withBlock (fun _=>none) blk (.cells arr t1 fr)):=by rw [← joinM_with,joinM_nil]
 rw [e]
 have hfix:fixB k1 blk [vB t2 k2 (ptrF g k1)]++bx=(k2,some ⟨t2,([.func (.func g) #[] #[pv blk]]:List Value).map .val,false⟩)::bx:=by
  simp [fixB,Box.fix,CV.fix,Nat.beq_refl]
 rw [hfix]
 refine Leads.closeRes hO (fun ρ fr2 h5 h6 _ => ?_) hl
 exact hD _ blk arr t1 fr ρ.1 _ t2 fr2 (cJ h5 _ _ (cN _ _ _)) ha (cN _ _ _) O
theorem deed_shut3 (hD:∀ (Y:Nat→Option Obj) b a e fr b' a' e' fr' b2 a2 e2 fr2,Y b=some (.cells a e fr)→a[0]? = some v→Y b'=some (.cells a' e' fr')→a'[0]? = some (.func (.func h) #[] #[pv b])→Y b2=some (.cells a2 e2 fr2)→a2[0]? = some (.func (.func g) #[] #[pv b'])→DeedV Y (.func (.func f) #[] #[pv b2]) op)
  (h1:Go.Lg.look k1 (vB t3 k3 (ptrF g k2)::vB t2 k2 (ptrF h k1)::bx)=none) (h2:s.all (fun p=>p.2.inUse (vB t3 k3 (ptrF g k2)::vB t2 k2 (ptrF h k1)::bx))=true) (h3:bx.all (fun p=>match p.2 with|some b=>b.cells.all (CV.inUse (vB t3 k3 (ptrF g k2)::vB t2 k2 (ptrF h k1)::bx))|none=>true)=true)
  (h1':Go.Lg.look k2 (vB t3 k3 (ptrF g k2)::bx)=none) (h2':s.all (fun p=>p.2.inUse (vB t3 k3 (ptrF g k2)::bx))=true) (h3':bx.all (fun p=>match p.2 with|some b=>b.cells.all (CV.inUse (vB t3 k3 (ptrF g k2)::bx))|none=>true)=true) (h4:Nat.beq k2 k1=false)
  (hl:Leads n C Mid ⟨s,(k3,some ⟨0,[],.res (deedR f op)⟩)::bx,X⟩):Leads n C Mid ⟨s,vB t3 k3 (ptrF g k2)::vB t2 k2 (ptrF h k1)::vB t1 k1 (.val v)::bx,X⟩:=by
 have h5:(Go.Lg.look k2 (vB t3 k3 (ptrF g k2)::vB t2 k2 (ptrF h k1)::bx)).isSome=true:=by
  cases hb:Nat.beq k3 k2 with
  | true=>simp only [Go.Lg.look,hb,cond_true];rfl
  | false=>simp only [Go.Lg.look,hb,cond_false,Nat.beq_refl,cond_true];rfl
 refine Leads.fixBox (vals:=[v]) (el:=t1) (row:=false) [] [vB t3 k3 (ptrF g k2),vB t2 k2 (ptrF h k1)] h1 h2 h3 rfl (by simp only [List.all_cons,List.all_nil,CV.fixIn,Nat.beq_refl,Bool.true_or,Bool.and_true,Bool.or_eq_true];exact .inr h5) ?_
 intro blk arr fr hX hF hsp
 obtain ⟨sp,hsp⟩:=hsp
 have ha:arr[0]? = some v:=by rw [← Array.getElem?_toList,hsp];rfl
 have hO:OwnedM C X (withBlock (fun _=>none) blk (.cells arr t1 fr)):=(OwnedM.nil C X).more hF (by rw [joinM_nil];exact hX)
 have e:withBlock X blk (.cells arr t1 fr)=joinM X (withBlock (fun _=>none) blk (.cells arr t1 fr)):=by rw [← joinM_with,joinM_nil]
 rw [e]
 have hfix:fixB k1 blk [vB t3 k3 (ptrF g k2),vB t2 k2 (ptrF h k1)]++bx=vB t3 k3 (ptrF g k2)::(k2,some ⟨t2,([.func (.func h) #[] #[pv blk]]:List Value).map .val,false⟩)::bx:=by
  simp [fixB,Box.fix,CV.fix,Nat.beq_refl,h4]
 rw [hfix]
 refine Leads.fixBox (vals:=[.func (.func h) #[] #[pv blk]]) (el:=t2) (row:=false) [] [vB t3 k3 (ptrF g k2)] h1' h2' h3' rfl (by simp [CV.fixIn]) ?_
 intro blk2 arr2 fr2 hX2 hF2 hsp2
 obtain ⟨sp2,hsp2⟩:=hsp2
 have ha2:arr2[0]? = some (.func (.func h) #[] #[pv blk]):=by rw [← Array.getElem?_toList,hsp2];rfl
 have hO2:=hO.more (el:=t2) hF2 hX2
 have hn2:=(joinM_none hX2).1
 rw [joinM_with]
 have hfix:fixB k2 blk2 [vB t3 k3 (ptrF g k2)]++bx=(k3,some ⟨t3,([.func (.func g) #[] #[pv blk2]]:List Value).map .val,false⟩)::bx:=by
  simp [fixB,Box.fix,CV.fix,Nat.beq_refl]
 rw [hfix]
 refine Leads.closeRes hO2 (fun ρ fr3 h5 h6 _ => ?_) hl
 exact hD _ blk arr t1 fr blk2 arr2 t2 fr2 ρ.1 _ t3 fr3 (cJ h5 _ _ (cJ hn2 _ _ (cN _ _ _))) ha (cJ h5 _ _ (cN _ _ _)) ha2 (cN _ _ _) O
end
theorem gd_truth (b:Bool):gd (truth b)=true:=by cases b<;>rfl
theorem pick_truth (b:Bool) (x y:Nm):pickX (truth b) x y = .ok (if b=true then x else y):=by
 unfold pickX
 rw [gd_truth,if_neg (by decide)]
 cases b
 ·rw [if_pos (show truth false=(false,0) from rfl)];rfl
 ·rw [if_neg (show truth true≠(false,0) by decide)];rfl
theorem zz_inj {x y:Nm} (hx:In2 x.2) (hy:In2 y.2) (gx:gd x=true) (gy:gd y=true) (h:zz x=zz y):x=y:=by
 obtain ⟨a,M⟩:=x
 obtain ⟨b,N⟩:=y
 unfold gd formB at gx gy
 unfold zz zv at h
 unfold In2 at hx hy
 simp only at *
 cases a<;>cases b<;>simp_all<;>omega
theorem node_neg {u:Nm} (hu:In2 u.2):nodeX 10 [u]=doX 6 (false,0) u:=by
 rw [nodeX]
 unfold doX
 rw [show (gd (false,0)&&gd u)=gd u by rw [show gd (false,0)=true from rfl,Bool.true_and]]
 cases g:gd u with
 | false=>rfl
 | true =>
  have hr:=(gd_q g hu).2
  rw [if_neg (by decide),if_pos rfl,if_neg (by decide),if_neg (by omega),show arith 6 (zz (false,0)) (zz u) = -(zz u) by unfold arith;rw [if_neg (by decide),if_pos rfl,show zz (false,0)=0 from rfl];omega,if_pos (by unfold R127 at *;omega)]
theorem node_not (u:Nm):nodeX 15 [u]=sameX (false,0) u:=by
 rw [nodeX]
 unfold sameX truX
 rw [show (gd (false,0)&&gd u)=gd u by rw [show gd (false,0)=true from rfl,Bool.true_and],if_neg (show ¬ (15:Int)=10 by decide)]
 have e:decide (((false,0):Nm)=u)=decide (u=(false,0)):=by
  by_cases h:u=(false,0)
  ·rw [cP h,cP h.symm]
  ·rw [cO h,cO (fun e=>h e.symm)]
 rw [e]
theorem less_ok {x y a:Nm} (h:lessX x y = .ok a):In2 a.2:=by
 unfold lessX truX at h
 split at h
 ·cases h
 ·cases h;exact truth_in2 _
theorem less_err {x y:Nm} {e:Int} (h:lessX x y = .error e):e≠0:=by
 unfold lessX truX at h
 split at h
 ·cases h;decide
 ·cases h
theorem node_least {x y:Nm} (hx:In2 x.2) (hy:In2 y.2):nodeX 11 [x,y]=choX lessX x y:=by
 rw [nodeX]
 rw [if_neg (by decide),if_neg (by decide),if_pos (rfl:(11:Int)=11)]
 unfold choX lessX truX
 cases g:(gd x&&gd y) with
 | false=>rfl
 | true =>
  obtain ⟨gx,gy⟩:=Bool.and_eq_true_iff.1 g
  simp only [Bool.true_eq_false,if_false,pick_truth]
  by_cases h:zz x<zz y
  ·rw [if_neg V3,if_pos (cP h)]
  ·rw [if_neg (show ¬ decide (zz x<zz y)=true by rw [cO h];decide)]
   by_cases h2:zz y<zz x
   ·rw [if_pos h2]
   ·rw [if_neg h2,zz_inj hx hy gx gy V3]
theorem node_great {x y:Nm} (hx:In2 x.2) (hy:In2 y.2):nodeX 12 [x,y]=choX (fun x y=>lessX y x) x y:=by
 rw [nodeX]
 rw [if_neg (by decide),if_neg (by decide),if_neg (show ¬ (12:Int)=11 by decide),if_pos (rfl:(12:Int)=12)]
 unfold choX lessX truX
 simp only
 rw [Bool.and_comm]
 cases g:(gd y&&gd x) with
 | false=>rfl
 | true =>
  obtain ⟨gy,gx⟩:=Bool.and_eq_true_iff.1 g
  simp only [Bool.true_eq_false,if_false,pick_truth]
  by_cases h:zz y<zz x
  ·rw [if_neg V3,if_pos (cP h)]
  ·rw [if_neg (show ¬ decide (zz y<zz x)=true by rw [cO h];decide)]
   by_cases h2:zz x<zz y
   ·rw [if_pos h2]
   ·rw [if_neg h2,zz_inj hx hy gx gy V3]
theorem node_same (x y:Nm):nodeX 13 [x,y]=sameX x y:=by
 rw [nodeX]
 rw [if_neg (by decide),if_neg (by decide),if_neg (show ¬ (13:Int)=11 by decide),if_neg (show ¬ (13:Int)=12 by decide),if_pos (rfl:(13:Int)=13)]
 rfl
theorem node_less (x y:Nm):nodeX 14 [x,y]=lessX x y:=by
 rw [nodeX]
 rw [if_neg (by decide),if_neg (by decide),if_neg (show ¬ (14:Int)=11 by decide),if_neg (show ¬ (14:Int)=12 by decide),if_neg (show ¬ (14:Int)=13 by decide)]
 rfl
theorem node_need (x y:Nm):nodeX 17 [x,y]=needX x y:=by
 rw [nodeX]
 rw [if_neg (by decide),if_pos rfl]
 rfl
theorem node_do {op:Int} (ho:5≤op∧op≤9) (x y:Nm):nodeX op [x,y]=doX op x y:=if_pos ho
def cloF (op:Int):FuncId:=if op=16 then 223 else if op=10∨op=15 then 218 else 211
def wordS (op:Int):List UInt8:=if 5≤op∧op≤17 then wordX op else []
def rowL (op:Int):List Value:=[.string ⟨(wordS op).toArray⟩,.int .i64 (takes op:Nat),.bool (op==2||op==3),.bool (op==2),.bool (op==1)]
abbrev LRow (op:Int) (c:CV):LV:=.sv (.agg ((rowL op).map .val++[c]))
abbrev dB (k:Nat) (op:Int):Nat×Option Box:=(k,some ⟨0,[],.res (deedR (cloF op) op)⟩)
def leafV (op:Int):Value:=if op=1 then fnV 178 else if op=2 then fnV 179 else if op=3 then fnV 180 else if op=4 then fnV 181 else .nilFunc
def rwR (op:Int):LV:=if 5≤op∧op≤17 then LRow op (ptrF (cloF op) 1000001) else LRow op (.val (leafV op))
def rwBx (op:Int):List (Nat×Option Box):=if 5≤op∧op≤17 then [dB 1000001 op] else []
theorem rw_fn {op:Int} (h:5≤op∧op≤17):rwR op=LRow op (ptrF (cloF op) 1000001)∧rwBx op=[dB 1000001 op]:=⟨if_pos h,if_pos h⟩
theorem rw_no {op:Int} (h:¬ (5≤op∧op≤17)):rwR op=LRow op (.val (leafV op))∧rwBx op=[]:=⟨if_neg h,if_neg h⟩
theorem rwBx_use (op:Int):((rwBx op).all fun p=>match p.2 with|some b=>b.cells.all (CV.inUse (rwBx op))|none=>true)=true:=by
 by_cases h:5≤op∧op≤17
 ·rw [(rw_fn h).2];rfl
 ·rw [(rw_no h).2];rfl
theorem rwR_use (op:Int):LV.inUse (rwBx op) (rwR op)=true:=by
 by_cases h:5≤op∧op≤17
 ·rw [(rw_fn h).1,(rw_fn h).2];rfl
 ·rw [(rw_no h).1,(rw_no h).2];rfl
theorem rowL_bad {op:Int} (h:op<1∨17<op):rowL op=[.string ⟨#[]⟩,.int .i64 0,.bool false,.bool false,.bool false]:=by
 unfold rowL wordS
 rw [if_neg (by omega),takes_out (by omega),cS (show op≠2 by omega),cS (show op≠3 by omega),cS (show op≠1 by omega)]
 rfl
set_option maxHeartbeats 12800000 in
theorem rowOf_all (op:Int):MSpec Tryz.prog X 143 [Ln .i64 op] [] (rwR op) (rwBx op):=by
 refine cG Tryz.func143 rfl V5 rfl (rwR_use op) (rwBx_use op) rfl rfl ?_
 intro C
 refine LWP.ends ?_
 refine U11 ?_
 by_cases c1:op=1
 ·subst c1
  rw [(rw_no (op:=1) (by decide)).1,(rw_no (op:=1) (by decide)).2]
  refine U12 ?_
  exact cD ⟨[],⟨[_],⟨⟨_,_,O,O,O,.inl ⟨AggT.h,O⟩⟩,trivial⟩,O⟩,trivial,O,O⟩
 (refine rgN<|keq O O (r:=false) (cS c1) ?_;refine U4 ?_)
 by_cases c2:op=2
 ·subst c2
  rw [(rw_no (op:=2) (by decide)).1,(rw_no (op:=2) (by decide)).2]
  refine U12 ?_
  exact cD ⟨[],⟨[_],⟨⟨_,_,O,O,O,.inl ⟨AggT.h,O⟩⟩,trivial⟩,O⟩,trivial,O,O⟩
 (refine rgN<|keq O O (r:=false) (cS c2) ?_;refine U4 ?_)
 by_cases c3:op=3
 ·subst c3
  rw [(rw_no (op:=3) (by decide)).1,(rw_no (op:=3) (by decide)).2]
  refine U12 ?_
  exact cD ⟨[],⟨[_],⟨⟨_,_,O,O,O,.inl ⟨AggT.h,O⟩⟩,trivial⟩,O⟩,trivial,O,O⟩
 (refine rgN<|keq O O (r:=false) (cS c3) ?_;refine U4 ?_)
 by_cases c4:op=4
 ·subst c4
  rw [(rw_no (op:=4) (by decide)).1,(rw_no (op:=4) (by decide)).2]
  refine U11 ?_
  exact cD ⟨[],⟨[_],⟨⟨_,_,O,O,O,.inl ⟨AggT.h,O⟩⟩,trivial⟩,O⟩,trivial,O,O⟩
 (refine rgN<|keq O O (r:=false) (cS c4) ?_;refine U4 ?_)
 by_cases c5:op=5
 ·subst c5
  rw [(rw_fn (op:=5) (by decide)).1,(rw_fn (op:=5) (by decide)).2]
  (refine U7 ?_;refine bE [(1000001,501)] (.sv (.one (ptrF 211 501))) [vB 275 501 (.val (fnV 183))] ((mA_ofTwo X 183)) O O VC O O O O O V19 dS ?_;refine U4 ?_)
  refine cE (σ':=⟨[(2,Lp 2)],vB 275 501 (.val (fnV 183))::(2,some ⟨190,(rowL 5).map .val++[ptrF (cloF 5) 501],false⟩)::[],X⟩) (Le.of V13 VE V2 V2 V0) ?_
  refine deed_shut1 (f:=cloF 5) (op:=5) (fun Y _ _ _ _ h1 h2=>deed_two O h1 h2 (two_fn Y (fun Z x y hx hy=>wAdd_do Z x y hx hy)) (fun u w _ _=>node_do VA u w)) (cD ?_)
  exact ⟨[(1000001,501)],⟨[_],⟨⟨_,_,O,O,O,.inl ⟨AggT.h,O⟩⟩,trivial⟩,O⟩,V1,O,O⟩
 (refine rgN<|keq O O (r:=false) (cS c5) ?_;refine U4 ?_)
 by_cases c6:op=6
 ·subst c6
  rw [(rw_fn (op:=6) (by decide)).1,(rw_fn (op:=6) (by decide)).2]
  (refine U7 ?_;refine bE [(1000001,501)] (.sv (.one (ptrF 211 501))) [vB 275 501 (.val (fnV 184))] ((mA_ofTwo X 184)) O O VC O O O O O V19 dS ?_;refine U4 ?_)
  refine cE (σ':=⟨[(2,Lp 2)],vB 275 501 (.val (fnV 184))::(2,some ⟨190,(rowL 6).map .val++[ptrF (cloF 6) 501],false⟩)::[],X⟩) (Le.of V13 VE V2 V2 V0) ?_
  refine deed_shut1 (f:=cloF 6) (op:=6) (fun Y _ _ _ _ h1 h2=>deed_two O h1 h2 (two_fn Y (fun Z x y hx hy=>wSub_do Z x y hx hy)) (fun u w _ _=>node_do VA u w)) (cD ?_)
  exact ⟨[(1000001,501)],⟨[_],⟨⟨_,_,O,O,O,.inl ⟨AggT.h,O⟩⟩,trivial⟩,O⟩,V1,O,O⟩
 (refine rgN<|keq O O (r:=false) (cS c6) ?_;refine U4 ?_)
 by_cases c7:op=7
 ·subst c7
  rw [(rw_fn (op:=7) (by decide)).1,(rw_fn (op:=7) (by decide)).2]
  (refine U7 ?_;refine bE [(1000001,501)] (.sv (.one (ptrF 211 501))) [vB 275 501 (.val (fnV 185))] ((mA_ofTwo X 185)) O O VC O O O O O V19 dS ?_;refine U4 ?_)
  refine cE (σ':=⟨[(2,Lp 2)],vB 275 501 (.val (fnV 185))::(2,some ⟨190,(rowL 7).map .val++[ptrF (cloF 7) 501],false⟩)::[],X⟩) (Le.of V13 VE V2 V2 V0) ?_
  refine deed_shut1 (f:=cloF 7) (op:=7) (fun Y _ _ _ _ h1 h2=>deed_two O h1 h2 (two_fn Y (fun Z x y hx hy=>wMul_do Z x y hx hy)) (fun u w _ _=>node_do VA u w)) (cD ?_)
  exact ⟨[(1000001,501)],⟨[_],⟨⟨_,_,O,O,O,.inl ⟨AggT.h,O⟩⟩,trivial⟩,O⟩,V1,O,O⟩
 (refine rgN<|keq O O (r:=false) (cS c7) ?_;refine U4 ?_)
 by_cases c8:op=8
 ·subst c8
  rw [(rw_fn (op:=8) (by decide)).1,(rw_fn (op:=8) (by decide)).2]
  (refine U7 ?_;refine bE [(1000001,501)] (.sv (.one (ptrF 211 501))) [vB 275 501 (.val (fnV 186))] ((mA_ofTwo X 186)) O O VC O O O O O V19 dS ?_;refine U4 ?_)
  refine cE (σ':=⟨[(2,Lp 2)],vB 275 501 (.val (fnV 186))::(2,some ⟨190,(rowL 8).map .val++[ptrF (cloF 8) 501],false⟩)::[],X⟩) (Le.of V13 VE V2 V2 V0) ?_
  refine deed_shut1 (f:=cloF 8) (op:=8) (fun Y _ _ _ _ h1 h2=>deed_two O h1 h2 (two_fn Y (fun Z x y hx hy=>wQuo_do Z x y hx hy)) (fun u w _ _=>node_do VA u w)) (cD ?_)
  exact ⟨[(1000001,501)],⟨[_],⟨⟨_,_,O,O,O,.inl ⟨AggT.h,O⟩⟩,trivial⟩,O⟩,V1,O,O⟩
 (refine rgN<|keq O O (r:=false) (cS c8) ?_;refine U4 ?_)
 by_cases c9:op=9
 ·subst c9
  rw [(rw_fn (op:=9) (by decide)).1,(rw_fn (op:=9) (by decide)).2]
  (refine U7 ?_;refine bE [(1000001,501)] (.sv (.one (ptrF 211 501))) [vB 275 501 (.val (fnV 187))] ((mA_ofTwo X 187)) O O VC O O O O O V19 dS ?_;refine U4 ?_)
  refine cE (σ':=⟨[(2,Lp 2)],vB 275 501 (.val (fnV 187))::(2,some ⟨190,(rowL 9).map .val++[ptrF (cloF 9) 501],false⟩)::[],X⟩) (Le.of V13 VE V2 V2 V0) ?_
  refine deed_shut1 (f:=cloF 9) (op:=9) (fun Y _ _ _ _ h1 h2=>deed_two O h1 h2 (two_fn Y (fun Z x y hx hy=>wRem_do Z x y hx hy)) (fun u w _ _=>node_do VA u w)) (cD ?_)
  exact ⟨[(1000001,501)],⟨[_],⟨⟨_,_,O,O,O,.inl ⟨AggT.h,O⟩⟩,trivial⟩,O⟩,V1,O,O⟩
 (refine rgN<|keq O O (r:=false) (cS c9) ?_;refine U4 ?_)
 by_cases c10:op=10
 ·subst c10
  rw [(rw_fn (op:=10) (by decide)).1,(rw_fn (op:=10) (by decide)).2]
  (refine U7 ?_;refine bE [(1000001,501)] (.sv (.one (ptrF 219 501))) [vB 275 501 (.val (fnV 184))] ((mA_withZero X 184)) O O VC O O O O O V19 dS<|bE [(1000001,502),(1000002,501)] (.sv (.one (ptrF 218 502))) [vB 273 502 (ptrF 219 501),vB 275 501 (.val (fnV 184))] ((mB_ofOne X 219 184 275)) O O V17 (by exact (bT (bT O O) O)) O O O O V27 dS ?_;refine U4 ?_)
  refine cE (σ':=⟨[(2,Lp 2)],vB 273 502 (ptrF 219 501)::vB 275 501 (.val (fnV 184))::(2,some ⟨190,(rowL 10).map .val++[ptrF (cloF 10) 502],false⟩)::[],X⟩) (Le.of V13 V9 V2 V2 V0) ?_
  refine deed_shut2 (f:=cloF 10) (op:=10) (fun Y _ _ _ _ _ _ _ _ h1 h2 h3 h4=>deed_one O h3 h4 (one_zero h1 h2 (two_fn Y (fun Z x y hx hy=>wSub_do Z x y hx hy))) (fun u hu=>node_neg hu)) O O O (cD ?_)
  exact ⟨[(1000001,502)],⟨[_],⟨⟨_,_,O,O,O,.inl ⟨AggT.h,O⟩⟩,trivial⟩,O⟩,V1,O,O⟩
 (refine rgN<|keq O O (r:=false) (cS c10) ?_;refine U4 ?_)
 by_cases c11:op=11
 ·subst c11
  rw [(rw_fn (op:=11) (by decide)).1,(rw_fn (op:=11) (by decide)).2]
  (refine U7 ?_;refine bE [(1000001,501)] (.sv (.one (ptrF 220 501))) [vB 275 501 (.val (fnV 191))] ((mA_chosen X 191)) O O VC O O O O O V19 dS<|bE [(1000001,502),(1000002,501)] (.sv (.one (ptrF 211 502))) [vB 275 502 (ptrF 220 501),vB 275 501 (.val (fnV 191))] ((mB_ofTwo X 220 191 275)) O O V17 (by exact (bT (bT O O) O)) O O O O V27 dS ?_;refine U4 ?_)
  refine cE (σ':=⟨[(2,Lp 2)],vB 275 502 (ptrF 220 501)::vB 275 501 (.val (fnV 191))::(2,some ⟨190,(rowL 11).map .val++[ptrF (cloF 11) 502],false⟩)::[],X⟩) (Le.of V13 V9 V2 V2 V0) ?_
  refine deed_shut2 (f:=cloF 11) (op:=11) (fun Y _ _ _ _ _ _ _ _ h1 h2 h3 h4=>deed_two O h3 h4 (two_chosen h1 h2 (two_fn Y (fun Z x y hx hy=>tLess Z x y hx hy)) (fun _ _ _ h=>less_ok h) (fun _ _ _ h=>less_err h)) (fun u w hu hw=>node_least hu hw)) O O O (cD ?_)
  exact ⟨[(1000001,502)],⟨[_],⟨⟨_,_,O,O,O,.inl ⟨AggT.h,O⟩⟩,trivial⟩,O⟩,V1,O,O⟩
 (refine rgN<|keq O O (r:=false) (cS c11) ?_;refine U4 ?_)
 by_cases c12:op=12
 ·subst c12
  rw [(rw_fn (op:=12) (by decide)).1,(rw_fn (op:=12) (by decide)).2]
  (refine U7 ?_;refine bE [(1000001,501)] (.sv (.one (ptrF 222 501))) [vB 275 501 (.val (fnV 191))] ((mA_swapped X 191)) O O VC O O O O O V19 dS<|bE [(1000001,502),(1000002,501)] (.sv (.one (ptrF 220 502))) [vB 275 502 (ptrF 222 501),vB 275 501 (.val (fnV 191))] ((mB_chosen X 222 191 275)) O O V17 (by exact (bT (bT O O) O)) O O O O V27 dS<|bE [(1000001,503),(1000002,502),(1000003,501)] (.sv (.one (ptrF 211 503))) [vB 275 503 (ptrF 220 502),vB 275 502 (ptrF 222 501),vB 275 501 (.val (fnV 191))] ((mC_ofTwo X 220 222 191 275)) O O (by exact (cR ⟨_,O,O⟩ (cR ⟨_,O,O⟩ trivial))) (by exact (bT (bT O O) (bT (bT O O) O))) O O O O V23 dS ?_;refine U4 ?_)
  refine cE (σ':=⟨[(2,Lp 2)],vB 275 503 (ptrF 220 502)::vB 275 502 (ptrF 222 501)::vB 275 501 (.val (fnV 191))::(2,some ⟨190,(rowL 12).map .val++[ptrF (cloF 12) 503],false⟩)::[],X⟩) (Le.of V13 V8 V2 V2 V0) ?_
  refine deed_shut3 (f:=cloF 12) (op:=12) (fun Y _ _ _ _ _ _ _ _ _ _ _ _ h1 h2 h3 h4 h5 h6=>deed_two O h5 h6 (two_chosen h3 h4 (two_swapped h1 h2 (two_fn Y (fun Z x y hx hy=>tLess Z x y hx hy))) (fun _ _ _ h=>less_ok h) (fun _ _ _ h=>less_err h)) (fun u w hu hw=>node_great hu hw)) O O O O O O O (cD ?_)
  exact ⟨[(1000001,503)],⟨[_],⟨⟨_,_,O,O,O,.inl ⟨AggT.h,O⟩⟩,trivial⟩,O⟩,V1,O,O⟩
 (refine rgN<|keq O O (r:=false) (cS c12) ?_;refine U4 ?_)
 by_cases c13:op=13
 ·subst c13
  rw [(rw_fn (op:=13) (by decide)).1,(rw_fn (op:=13) (by decide)).2]
  (refine U7 ?_;refine bE [(1000001,501)] (.sv (.one (ptrF 211 501))) [vB 275 501 (.val (fnV 193))] ((mA_ofTwo X 193)) O O VC O O O O O V19 dS ?_;refine U4 ?_)
  refine cE (σ':=⟨[(2,Lp 2)],vB 275 501 (.val (fnV 193))::(2,some ⟨190,(rowL 13).map .val++[ptrF (cloF 13) 501],false⟩)::[],X⟩) (Le.of V13 VE V2 V2 V0) ?_
  refine deed_shut1 (f:=cloF 13) (op:=13) (fun Y _ _ _ _ h1 h2=>deed_two O h1 h2 (two_fn Y (fun Z x y hx hy=>tSame Z x y hx hy)) (fun u w _ _=>node_same u w)) (cD ?_)
  exact ⟨[(1000001,501)],⟨[_],⟨⟨_,_,O,O,O,.inl ⟨AggT.h,O⟩⟩,trivial⟩,O⟩,V1,O,O⟩
 (refine rgN<|keq O O (r:=false) (cS c13) ?_;refine U4 ?_)
 by_cases c14:op=14
 ·subst c14
  rw [(rw_fn (op:=14) (by decide)).1,(rw_fn (op:=14) (by decide)).2]
  (refine U7 ?_;refine bE [(1000001,501)] (.sv (.one (ptrF 211 501))) [vB 275 501 (.val (fnV 191))] ((mA_ofTwo X 191)) O O VC O O O O O V19 dS ?_;refine U4 ?_)
  refine cE (σ':=⟨[(2,Lp 2)],vB 275 501 (.val (fnV 191))::(2,some ⟨190,(rowL 14).map .val++[ptrF (cloF 14) 501],false⟩)::[],X⟩) (Le.of V13 VE V2 V2 V0) ?_
  refine deed_shut1 (f:=cloF 14) (op:=14) (fun Y _ _ _ _ h1 h2=>deed_two O h1 h2 (two_fn Y (fun Z x y hx hy=>tLess Z x y hx hy)) (fun u w _ _=>node_less u w)) (cD ?_)
  exact ⟨[(1000001,501)],⟨[_],⟨⟨_,_,O,O,O,.inl ⟨AggT.h,O⟩⟩,trivial⟩,O⟩,V1,O,O⟩
 (refine rgN<|keq O O (r:=false) (cS c14) ?_;refine U4 ?_)
 by_cases c15:op=15
 ·subst c15
  rw [(rw_fn (op:=15) (by decide)).1,(rw_fn (op:=15) (by decide)).2]
  (refine U7 ?_;refine bE [(1000001,501)] (.sv (.one (ptrF 219 501))) [vB 275 501 (.val (fnV 193))] ((mA_withZero X 193)) O O VC O O O O O V19 dS<|bE [(1000001,502),(1000002,501)] (.sv (.one (ptrF 218 502))) [vB 273 502 (ptrF 219 501),vB 275 501 (.val (fnV 193))] ((mB_ofOne X 219 193 275)) O O V17 (by exact (bT (bT O O) O)) O O O O V27 dS ?_;refine U4 ?_)
  refine cE (σ':=⟨[(2,Lp 2)],vB 273 502 (ptrF 219 501)::vB 275 501 (.val (fnV 193))::(2,some ⟨190,(rowL 15).map .val++[ptrF (cloF 15) 502],false⟩)::[],X⟩) (Le.of V13 V9 V2 V2 V0) ?_
  refine deed_shut2 (f:=cloF 15) (op:=15) (fun Y _ _ _ _ _ _ _ _ h1 h2 h3 h4=>deed_one O h3 h4 (one_zero h1 h2 (two_fn Y (fun Z x y hx hy=>tSame Z x y hx hy))) (fun u hu=>node_not u)) O O O (cD ?_)
  exact ⟨[(1000001,502)],⟨[_],⟨⟨_,_,O,O,O,.inl ⟨AggT.h,O⟩⟩,trivial⟩,O⟩,V1,O,O⟩
 (refine rgN<|keq O O (r:=false) (cS c15) ?_;refine U4 ?_)
 by_cases c16:op=16
 ·subst c16
  rw [(rw_fn (op:=16) (by decide)).1,(rw_fn (op:=16) (by decide)).2]
  (refine U7 ?_;refine bE [(1000001,501)] (.sv (.one (ptrF 223 501))) [vB 297 501 (.val (fnV 195))] ((mA_ofThree X 195)) O O VC O O O O O V19 dS ?_;refine U4 ?_)
  refine cE (σ':=⟨[(2,Lp 2)],vB 297 501 (.val (fnV 195))::(2,some ⟨190,(rowL 16).map .val++[ptrF (cloF 16) 501],false⟩)::[],X⟩) (Le.of V13 VE V2 V2 V0) ?_
  refine deed_shut1 (f:=cloF 16) (op:=16) (fun Y _ _ _ _ h1 h2=>deed_three O h1 h2 (three_fn Y (fun Z x y z hx hy hz=>tPick Z x y z hx)) (fun u w z _ _ _=>O)) (cD ?_)
  exact ⟨[(1000001,501)],⟨[_],⟨⟨_,_,O,O,O,.inl ⟨AggT.h,O⟩⟩,trivial⟩,O⟩,V1,O,O⟩
 (refine rgN<|keq O O (r:=false) (cS c16) ?_;refine U4 ?_)
 by_cases c17:op=17
 ·subst c17
  rw [(rw_fn (op:=17) (by decide)).1,(rw_fn (op:=17) (by decide)).2]
  (refine U7 ?_;refine bE [(1000001,501)] (.sv (.one (ptrF 211 501))) [vB 275 501 (.val (fnV 196))] ((mA_ofTwo X 196)) O O VC O O O O O V19 dS ?_;refine U4 ?_)
  refine cE (σ':=⟨[(2,Lp 2)],vB 275 501 (.val (fnV 196))::(2,some ⟨190,(rowL 17).map .val++[ptrF (cloF 17) 501],false⟩)::[],X⟩) (Le.of V13 VE V2 V2 V0) ?_
  refine deed_shut1 (f:=cloF 17) (op:=17) (fun Y _ _ _ _ h1 h2=>deed_two O h1 h2 (two_fn Y (fun Z x y hx hy=>tNeed Z x y hy)) (fun u w _ _=>node_need u w)) (cD ?_)
  exact ⟨[(1000001,501)],⟨[_],⟨⟨_,_,O,O,O,.inl ⟨AggT.h,O⟩⟩,trivial⟩,O⟩,V1,O,O⟩
 (refine rgN<|keq O O (r:=false) (cS c17) ?_;refine U5 ?_)
 have hbad:op<1∨17<op:=by omega
 rw [(rw_no (op:=op) (by omega)).1,(rw_no (op:=op) (by omega)).2]
 unfold LRow
 rw [rowL_bad hbad,show leafV op = .nilFunc by unfold leafV;rw [if_neg c1,if_neg c2,if_neg c3,if_neg c4]]
 refine U5 ?_
 exact cD ⟨[],⟨[_],⟨⟨_,_,O,O,O,.inl ⟨AggT.h,O⟩⟩,trivial⟩,O⟩,trivial,O,O⟩
theorem rowOf_fn (op:Int) (h:5≤op∧op≤17):MSpec Tryz.prog X 143 [Ln .i64 op] [] (LRow op (ptrF (cloF op) 1000001)) [dB 1000001 op]:=by
 have:=rowOf_all X op
 rw [(rw_fn h).1,(rw_fn h).2] at this
 exact this
theorem rowOf_leaf (op:Int) (h:¬ (5≤op∧op≤17)):PSpec Tryz.prog X 143 [Ln .i64 op] (LRow op (.val (leafV op))):=by
 have:=rowOf_all X op
 rw [(rw_no h).1,(rw_no h).2] at this
 exact this.plain
theorem rowOf_1:PSpec Tryz.prog X 143 [Ln .i64 1] (LRow 1 (.val (fnV 178))):=rowOf_leaf X 1 VA
theorem rowOf_2:PSpec Tryz.prog X 143 [Ln .i64 2] (LRow 2 (.val (fnV 179))):=rowOf_leaf X 2 VA
theorem rowOf_3:PSpec Tryz.prog X 143 [Ln .i64 3] (LRow 3 (.val (fnV 180))):=rowOf_leaf X 3 VA
theorem rowOf_4:PSpec Tryz.prog X 143 [Ln .i64 4] (LRow 4 (.val (fnV 181))):=rowOf_leaf X 4 VA
theorem rowOf_no (op:Int) (h:op<1∨17<op):PSpec Tryz.prog X 143 [Ln .i64 op] (LRow op (.val .nilFunc)):=by
 have:=rowOf_leaf X op V3
 rw [show leafV op = .nilFunc by unfold leafV;rw [if_neg (by omega),if_neg (by omega),if_neg (by omega),if_neg (by omega)]] at this
 exact this
end Go.Proofs.YtopiioklkkiedaaGreatDoor
end
section
set_option maxHeartbeats 12800000
set_option maxRecDepth 100000
namespace Go.Proofs.YtopiioklkkiedaaGreatDoor
open Go Go.Lg Go.Lg.Fml Go.Lg.Fld Go.Lg.Arith
set_option maxRecDepth 100000
variable (X:Nat→Option Obj)
theorem tSmall (n:Int):PSpec Tryz.prog X 197 [Ln .i64 n] (Lb (decide (0≤n)&&decide (n≤7))):=by
 by_cases h:0≤n
 ·rw [cP h,Bool.true_and]
  refine cF Tryz.func197 rfl V5 rfl rfl ?_
  intro C
  (refine U7 ?_;refine bD O O (r:=true) (cP h) dS ?_;refine U2 ?_;refine K.leq O O O (dT O O) ?_;refine U4 ?_)
  exact V6
 ·rw [cO h,Bool.false_and]
  refine cF Tryz.func197 rfl V5 rfl rfl ?_
  intro C
  (refine U7 ?_;refine bD O O (r:=false) (cO h) dS ?_;refine U7 ?_)
  exact V6
def bndI (x:Ins):Bool:=(decide (0≤x.a)&&decide (x.a≤7))&&((decide (0≤x.b)&&decide (x.b≤7))&&gd x.k)
theorem okI_bnd (x:Ins):okI x=((decide (1≤x.op)&&decide (x.op≤17))&&bndI x):=by
 unfold okI bndI
 cases gd x.k<;>cases (decide (0≤x.a)&&decide (x.a≤7))<;>cases (decide (0≤x.b)&&decide (x.b≤7))<;>rfl
theorem tBounded (x:Ins) (hx:smallI x) (r:Bool) (hr:bndI x=r):PSpec Tryz.prog X 144 [LIn x] (Lb r):=by
 subst hr
 unfold bndI
 have hA:=tSmall X x.a
 have hB:=tSmall X x.b
 have hG:=tForm X x.k hx.2.2.2 _ rfl
 generalize (decide (0≤x.a)&&decide (x.a≤7))=A at *
 generalize (decide (0≤x.b)&&decide (x.b≤7))=B at *
 generalize gd x.k=G at *
 cases A with
 | false =>
  refine cF Tryz.func144 rfl V5 rfl rfl ?_
  intro C
  refine U23 ?_
  exact V6
 | true =>
 cases B with
 | false =>
  refine cF Tryz.func144 rfl V5 rfl rfl ?_
  intro C
  refine U23 ?_
  exact V6
 | true =>
  refine cF Tryz.func144 rfl V5 rfl rfl ?_
  intro C
  refine U23 ?_
  exact V6
def rowVs (p:Int×Value):List Value:=rowL p.1++[p.2]
def rwsV (q:List (Int×Value)):List Value:=(q.map rowVs).flatten
theorem rowVs_len (p:Int×Value):(rowVs p).length=6:=rfl
theorem rwsV_len (q:List (Int×Value)):(rwsV q).length=q.length*6:=by
 unfold rwsV
 induction q with
 | nil=>rfl
 | cons x t ih=>rw [List.map_cons,List.flatten_cons,cW,ih,rowVs_len,dJ];omega
theorem rwsV_snoc (q:List (Int×Value)) (p:Int×Value):rwsV (q++[p])=rwsV q++rowVs p:=by
 unfold rwsV
 rw [dI,List.flatten_append]
 simp
def zeR (k:Nat):List Value:=(List.replicate k [Value.string ⟨#[]⟩,.int .i64 0,.bool false,.bool false,.bool false,.nilFunc]).flatten
theorem zeR_succ (k:Nat):zeR (k+1)=[Value.string ⟨#[]⟩,.int .i64 0,.bool false,.bool false,.bool false,.nilFunc]++zeR k:=by unfold zeR;rw [List.replicate_succ,List.flatten_cons]
theorem zeR_len (k:Nat):(zeR k).length=k*6:=by
 induction k with
 | zero=>rfl
 | succ k ih=>rw [zeR_succ,cW,ih];simp;omega
def rowsR (l:List Ins):Rsc:=⟨fun ρ H=>∃ (q:List (Int×Value)) (fr:Nat×Nat),H ρ.1=some (.cells (rwsV q).toArray 190 fr)∧ρ.2=(rwsV q).length∧q.map (·.1)=l.map Ins.op∧∀ p∈q,DeedV H p.2 p.1⟩
structure RowsOK (Y:Nat→Option Obj) (ad:Option Addr) (l:List Ins):Prop where
 ex:∃ q:List (Int×Value),Go.Lg.RowsIn Y ad 6 (q.map rowVs)∧q.map (·.1)=l.map Ins.op∧∀ p∈q,DeedV Y p.2 p.1
theorem RowsOK.mono {Y Z:Nat→Option Obj} (h:MoreM Y Z) {ad:Option Addr} {l:List Ins} (hr:RowsOK Y ad l):RowsOK Z ad l:=by
 obtain ⟨q,h1,h2,h3⟩:=hr.ex
 exact ⟨q,h1.mono h,h2,fun p hp=>(h3 p hp).mono h⟩
theorem rows_fix {l:List Ins} {ρ:Nat×Nat} {H Y:Nat→Option Obj} (h:(rowsR l).holds ρ H) (hY:MoreM H Y):RowsOK Y (some ⟨ρ.1,0,none⟩) l:=by
 obtain ⟨q,fr,h1,h2,h3,h4⟩:=h
 refine ⟨q,rows_in (hY _ _ h1) (fun r hr=>by obtain ⟨x,_,rfl⟩:=List.mem_map.1 hr;rfl) ⟨[],by rw [dK];rfl⟩,h3,fun p hp=>(h4 p hp).mono hY⟩
theorem RowsOK.at {Y:Nat→Option Obj} {ad:Option Addr} {l:List Ins} (h:RowsOK Y ad l) {i:Nat} {x:Ins} (hx:l[i]? = some x):
  ∃ (blk off:Nat) (arr:Array Value) (el:TypeId) (fr:Nat×Nat) (v:Value),ad=some ⟨blk,off,none⟩∧Y blk=some (.cells arr el fr)∧off+i*6+6≤arr.size∧((arr.toList.drop (off+i*6)).take 6).map CV.val=(rowVs (x.op,v)).map CV.val∧DeedV Y v x.op:=by
 obtain ⟨q,h1,h2,h3⟩:=h.ex
 have hq:(q.map (·.1))[i]? = some x.op:=by rw [h2,dM,hx];rfl
 rw [dM] at hq
 cases hp:q[i]? with
 | none=>rw [hp] at hq;cases hq
 | some p =>
  rw [hp] at hq
  have hq:p.1=x.op:=by simpa using hq
  obtain ⟨blk,off,arr,el,fr,e1,e2,e3,e4⟩:=h1 i (rowVs p) (by rw [dM,hp];rfl)
  have h5:=h3 p (dE hp)
  obtain ⟨o,v⟩:=p
  have hq:o=x.op:=hq
  subst hq
  exact ⟨blk,off,arr,el,fr,v,e1,e2,e3,by rw [e4],h5⟩
def rsR (l:List Ins):LV:=if chkX l=0 then .tup [.one (.slc 1000001 0 l.length 6),Sn .i64 0] else .tup [Vnil,Sn .i64 (chkX l)]
def rsBx (l:List Ins):List (Nat×Option Box):=if chkX l=0 then [(1000001,some ⟨0,[],.res (rowsR l)⟩)] else []
theorem rs_ok {l:List Ins} (h:chkX l=0):rsR l = .tup [.one (.slc 1000001 0 l.length 6),Sn .i64 0]∧rsBx l=[(1000001,some ⟨0,[],.res (rowsR l)⟩)]:=⟨if_pos h,if_pos h⟩
theorem rs_no {l:List Ins} (h:chkX l≠0):rsR l = .tup [Vnil,Sn .i64 (chkX l)]∧rsBx l=[]:=⟨if_neg h,if_neg h⟩
theorem rsBx_use (l:List Ins):((rsBx l).all fun p=>match p.2 with|some b=>b.cells.all (CV.inUse (rsBx l))|none=>true)=true:=by
 by_cases h:chkX l=0
 ·rw [(rs_ok h).2];rfl
 ·rw [(rs_no h).2];rfl
theorem rsR_use (l:List Ins):LV.inUse (rsBx l) (rsR l)=true:=by
 by_cases h:chkX l=0
 ·rw [(rs_ok h).1,(rs_ok h).2];rfl
 ·rw [(rs_no h).1,(rs_no h).2];rfl
theorem joinM_assoc (X H G:Nat→Option Obj):joinM (joinM X H) G=joinM X (joinM H G):=by
 funext b
 unfold joinM
 cases G b<;>rfl
theorem owned_join {C:Ctx} {X H G:Nat→Option Obj} (h:OwnedM C X H) (h':OwnedM C (joinM X H) G):OwnedM C X (joinM H G)∧MoreM H (joinM H G)∧MoreM G (joinM H G):=by
 have hn:∀ b o,G b=some o→H b=none∧X b=none:=fun b o hb=>joinM_none (h'.own b o hb).2.2
 refine ⟨⟨fun b o hb => ?_⟩,fun b o hb => ?_,fun b o hb=>joinM_in hb⟩
 ·cases hg:G b with
  | some o' =>
   rw [joinM_in hg] at hb
   cases hb
   obtain ⟨h1,h2,_⟩:=h'.own b o hg
   exact ⟨h1,h2,(hn b o hg).2⟩
  | none=>rw [joinM_out hg] at hb;exact h.own b o hb
 ·cases hg:G b with
  | some o'=>rw [(hn b o' hg).1] at hb;cases hb
  | none=>rw [joinM_out hg];exact hb
abbrev rwSt (ad:Option Addr) (n cap i:Nat) (d:Nat) (cells:List Value) (ms:List (Nat×LV)) (mb:List (Nat×Option Box)) (Y:Nat→Option Obj):St:=
 ⟨ms++[(0,Lx ad n cap),(4,.sv (.one (.slc 500 0 n 6))),(5,Ln .i64 (d:Nat)),(15,Lx ad n cap),(16,Ln .i64 (n:Nat)),(17,Ln .i64 (i:Nat))],mb++[(500,some ⟨190,cells.map .val,false⟩)],Y⟩
abbrev rdB8 (x:Ins) (c:CV):List (Nat×Option Box):=[(7,some ⟨88,(insV x).map .val,false⟩),(8,some ⟨190,(rowL x.op).map .val++[c],false⟩)]
set_option maxHeartbeats 12800000 in
theorem tRowsOf (l:List Ins) (ad:Option Addr) (cap:Nat) (hin:InsIn X ad l) (hbig:l.length<1152921504606846976):MSpec Tryz.prog X 103 [Lx ad l.length cap] [] (rsR l) (rsBx l):=by
 refine cG Tryz.func103 rfl V5 rfl (rsR_use l) (rsBx_use l) rfl rfl ?_
 intro C
 by_cases h64:64<l.length
 ·have hc:chkX l=5:=if_pos h64
  obtain ⟨q1,q2⟩:=rs_no (l:=l) V34
  rw [q1,q2,hc]
  (refine U10 ?_;refine aS O O (r:=true) (cP V3) dS ?_;refine U8 ?_)
  exact V1C
 have hmk:slcBuild Tryz.prog 181 l.length=some (zeR l.length,6,190):=slcBuild_many (z := #[.string ⟨#[]⟩,.int .i64 0,.bool false,.bool false,.bool false,.nilFunc]) V5 V5 rfl V3
 refine LWP.ends ?_
 (refine U10 ?_;refine aS O O (r:=false) (cO V3) dS ?_;refine U7 ?_;refine K.makeSlc (m:=l.length) (bytes:=40) O O hmk V5 V3 O O dS ?_;refine U11 ?_)
 refine cM (fun k σ=>∃ (i d:Nat) (q:List (Int×Value)) (H:Nat→Option Obj),i≤l.length∧k=l.length-i∧q.map (·.1)=(l.take i).map Ins.op∧(∀ p∈q,DeedV H p.2 p.1)∧OwnedM C X H∧dep okI 0 (l.take i)=some d∧σ=rwSt ad l.length cap i d (rwsV q++zeR (l.length-i)) [] [] (joinM X H)) l.length
  (cE (σ':=rwSt ad l.length cap 0 0 (rwsV []++zeR (l.length-0)) [] [] X) ?_ (cD ⟨0,0,[],fun _=>none,by omega,by omega,rfl,fun p hp=>absurd hp V21,OwnedM.nil _ _,rfl,by rw [joinM_nil]⟩)) ?_
 ·exact Le.ofR [(500,14)] V11 V1 V2 V2 V0 V2 V2
 rintro k σ ⟨i,d,q,H,hi,rfl,hq,hD,hO,hdep,rfl⟩
 have hqn:q.length=i:=by
  have:=congrArg List.length hq
  rw [cX,cX,dA] at this
  omega
 have hd16:=dep_le V3 hdep
 by_cases hlt:i<l.length
 ·obtain ⟨x,hx⟩:=wg hlt
  have hmem:=dE hx
  have hsx:=hin.small x hmem
  have hinJ:InsIn (joinM X H) ad l:=hin.mono fun b o hb=>by
   cases hc:H b with
   | none=>rw [joinM_out hc];exact hb
   | some o'=>have:=(hO.own b o' hc).2.2;rw [hb] at this;cases this
  obtain ⟨blk,off,arr,el,fr,rfl,hX,hsz,hcs,hop⟩:=hinJ.at hx
  have hio:=wo off i 6
  have hin0:0≤(i:Int)∧(i:Int)<(l.length:Nat):=by omega
  have hsn:=dep_snoc hdep hx
  have hok:=okI_bnd x
  have htk:=takes_le x.op
  have bad:¬ (okI x=true∧takes x.op≤d∧d-takes x.op+1≤16)→chkX l=4:=fun h=>chkX_bad h64 hdep hx h
  by_cases hop17:x.op<1∨17<x.op
  ·have hc:=bad (fun h=>by have:=(okI_facts h.1).1;omega)
   obtain ⟨q1,q2⟩:=rs_no (l:=l) V34
   rw [q1,q2,hc]
   have hR:=rowOf_no (joinM X H) x.op hop17
   (refine U31 ?_;refine K.funcNil O V5 (r:=true) (.inl ⟨O,O⟩) dS ?_;refine U19 ?_)
   exact cD ⟨[],⟨[_,_],⟨O,O,trivial⟩,O⟩,trivial,O,O⟩
  refine U19 ?_
  refine LWP.meetL (fun σ=>∃ (v:Value) (G:Nat→Option Obj),DeedV G v x.op∧MoreM H G∧OwnedM C X G∧σ=rwSt (some ⟨blk,off,none⟩) l.length cap i d (rwsV q++zeR (l.length-i)) [(6,Ln .i64 (i:Nat)),(7,Lp 7),(8,Lp 8)] (rdB8 x (.val v)) (joinM X G)) ?_ ?_
  ·by_cases h5:x.op<5
   ·obtain ⟨f,hDf,hR⟩:∃ f,DeedV H (fnV f) x.op∧PSpec Tryz.prog (joinM X H) 143 [Ln .i64 x.op] (LRow x.op (.val (fnV f))):=by
     generalize x.op=op at *
     rcases (show op=1∨op=2∨op=3∨op=4 by omega) with rfl|rfl|rfl|rfl
     ·exact ⟨_,deed_num H,rowOf_1 _⟩
     ·exact ⟨_,deed_elem H,rowOf_2 _⟩
     ·exact ⟨_,deed_here H,rowOf_3 _⟩
     ·exact ⟨_,deed_place H,rowOf_4 _⟩
    refine U7 ?_
    exact cE (Le.of V1B V9 V2 V2 V0) (cD ⟨_,H,hDf,MoreM.refl H,hO,O⟩)
   ·have hR:=rowOf_fn (joinM X H) x.op V3
    (refine U3 ?_;refine bE [(1000001,600)] (LRow x.op (ptrF (cloF x.op) 600)) [dB 600 x.op] (hR) O O VC O O O O O V19 dS ?_;refine U3 ?_)
    refine cE (σ':=⟨[(6,Ln .i64 (i:Nat)),(7,Lp 7),(8,Lp 8),(0,Lx (some ⟨blk,off,none⟩) l.length cap),(4,.sv (.one (.slc 500 0 l.length 6))),(5,Ln .i64 (d:Nat)),(15,Lx (some ⟨blk,off,none⟩) l.length cap),(16,Ln .i64 (l.length:Nat)),(17,Ln .i64 (i:Nat))],rdB8 x (ptrF (cloF x.op) 600)++dB 600 x.op::[(500,some ⟨190,(rwsV q++zeR (l.length-i)).map .val,false⟩)],joinM X H⟩) (Le.of V1B V8 V2 V2 V0) ?_
    refine Leads.fixRsc [] (rdB8 x (ptrF (cloF x.op) 600)) O O V7 O O fun ρ G2 hR2 hO2 => ?_
    obtain ⟨k1,k2,k3⟩:=owned_join hO hO2
    rw [joinM_assoc]
    exact cD ⟨.func (.func (cloF x.op)) #[] #[pv ρ.1],joinM H G2,DeedV.mono k3 hR2,k2,k1,O⟩
  rintro σ ⟨v,G,hDv,hHG,hOG,rfl⟩
  obtain ⟨f,caps,ev,_⟩:=id hDv
  subst ev
  have hB:=tBounded (joinM X G) x hsx _ rfl
  cases hb:bndI x with
  | false =>
   rw [hb] at hB hok
   have hc:=bad (fun h=>by rw [hok,Bool.and_false] at h;cases h.1)
   obtain ⟨q1,q2⟩:=rs_no (l:=l) V34
   rw [q1,q2,hc]
   (refine U5 ?_;refine K.funcNil O V5 (r:=false) (.inr ⟨⟨_,_,_,O⟩,O⟩) dS ?_;refine U19 ?_)
   exact cD ⟨[],⟨[_,_],⟨O,O,trivial⟩,O⟩,trivial,O,O⟩
  | true =>
  rw [hb] at hB hok
  rw [cP (show 1≤x.op by omega),cP (show x.op≤17 by omega)] at hok
  have hok:okI x=true:=hok
  by_cases hd:d<takes x.op
  ·have hc:=bad (fun h=>by omega)
   obtain ⟨q1,q2⟩:=rs_no (l:=l) V34
   rw [q1,q2,hc]
   (refine U5 ?_;refine K.funcNil O V5 (r:=false) (.inr ⟨⟨_,_,_,O⟩,O⟩) dS ?_;refine U9 ?_;refine bK O O (r:=true) (cP V3) (dT O O) ?_;refine U9 ?_)
   exact cD ⟨[],⟨[_,_],⟨O,O,trivial⟩,O⟩,trivial,O,O⟩
  have hix:0+Int.toNat (i:Int)*6=i*6:=by rw [dH];omega
  have hpl:(rwsV q).length=i*6:=by rw [rwsV_len,hqn]
  have hroom:i*6+6≤((rwsV q++zeR (l.length-i)).map CV.val).length:=by rw [cX,cW,hpl,zeR_len];omega
  have hspl:splice ((rwsV q++zeR (l.length-i)).map CV.val) (i*6) ((rowL x.op).map .val++[.val (.func (.func f) #[] caps.toArray)])=(rwsV (q++[(x.op,.func (.func f) #[] caps.toArray)])++zeR (l.length-(i+1))).map CV.val:=by
   rw [rwsV_snoc,show l.length-i=(l.length-(i+1))+1 by omega,zeR_succ]
   unfold splice
   simp only [dI,dN]
   have hml:((rwsV q).map CV.val).length=i*6:=by rw [cX,hpl]
   generalize (rwsV q).map CV.val=R at *
   rw [← hml,List.take_left,List.drop_length_add_append]
   simp [rowVs,rowL]
  have hsub:IntKind.i64.wrap (1-((takes x.op:Nat):Int))=1-((takes x.op:Nat):Int):=cH V3
  have hadd:IntKind.i64.wrap (((d:Nat):Int)+(1-((takes x.op:Nat):Int)))=((d-takes x.op+1:Nat):Int):=by rw [cH V3];omega
  have hinc:=wi i V3
  by_cases h16:16<d-takes x.op+1
  ·have hc:=bad (fun h=>by omega)
   obtain ⟨q1,q2⟩:=rs_no (l:=l) V34
   rw [q1,q2,hc]
   (refine U5 ?_;refine K.funcNil O V5 (r:=false) (.inr ⟨⟨_,_,_,O⟩,O⟩) dS ?_;refine U9 ?_;refine bK O O (r:=false) (cO V3) (dT O O) ?_;refine U10 ?_;refine K.store O O O O V5 hroom hspl dS ?_;refine U13 ?_;refine aS O O (r:=true) (cP V3) dS ?_;refine U8 ?_)
   exact cD ⟨[],⟨[_,_],⟨O,O,trivial⟩,O⟩,trivial,O,O⟩
  ·rw [if_pos ⟨hok,by omega,by omega⟩] at hsn
   (refine U5 ?_;refine K.funcNil O V5 (r:=false) (.inr ⟨⟨_,_,_,O⟩,O⟩) dS ?_;refine U9 ?_;refine bK O O (r:=false) (cO V3) (dT O O) ?_;refine U10 ?_;refine K.store O O O O V5 hroom hspl dS ?_;refine U13 ?_;refine aS O O (r:=false) (cO V3) dS ?_;refine U7 ?_)
   refine cE (σ':=rwSt (some ⟨blk,off,none⟩) l.length cap (i+1) (d-takes x.op+1) (rwsV (q++[(x.op,.func (.func f) #[] caps.toArray)])++zeR (l.length-(i+1))) [] [] (joinM X G)) (Le.of V11 V13 V2 V2 V0) (cD ⟨l.length-(i+1),by omega,i+1,_,_,G,by omega,O,?_,?_,hOG,hsn,O⟩)
   ·rw [dI,hq,List.take_add_one,hx,dI]
    rfl
   ·intro p hp
    rcases List.mem_append.1 hp with hp|hp
    ·exact (hD p hp).mono hHG
    ·rw [List.mem_singleton] at hp
     subst hp
     exact hDv
 ·have e:i=l.length:=by omega
  subst e
  rw [dG] at hq hdep
  have hz:zeR (l.length-l.length)=[]:=by rw [Nat.sub_self];rfl
  rw [hz,dK]
  by_cases h1:d=1
  ·subst h1
   have hc:chkX l=0:=by unfold chkX;rw [if_neg h64,if_pos hdep]
   obtain ⟨q1,q2⟩:=rs_ok hc
   rw [q1,q2]
   refine U22 ?_
   refine cE (σ':=⟨[(2,.sv (.one (.slc 500 0 l.length 6))),(3,Ln .i64 0)],[(500,some ⟨190,(rwsV q).map .val,false⟩)],joinM X H⟩) (Le.of VE V13 V2 V2 V0) ?_
   refine Leads.closeRes (R:=rowsR l) hO (fun ρ fr g1 g2 g3=>⟨q,fr,cN _ _ _,g3,hq,fun p hp=>(hD p hp).mono (cJ g1)⟩) (cD ?_)
   exact ⟨[(1000001,500)],⟨[_,_],⟨O,O,trivial⟩,O⟩,V1,O,O⟩
  ·have hc:chkX l=4:=by unfold chkX;rw [if_neg h64,if_neg (fun h=>h1 (by rw [hdep] at h;exact Option.some.inj h))]
   obtain ⟨q1,q2⟩:=rs_no (l:=l) V34
   rw [q1,q2,hc]
   refine U20 ?_
   exact cD ⟨[],⟨[_,_],⟨O,O,trivial⟩,O⟩,trivial,O,O⟩
theorem gCheck' (l:List Ins) (ad:Option Addr) (cap:Nat) (hin:InsIn X ad l) (hl:l.length<1152921504606846976):PSpec Tryz.prog X 139 [Lx ad l.length cap] (Ln .i64 (chkX l)):=by
 have hR:=tRowsOf X l ad cap hin hl
 refine cF Tryz.func139 rfl V5 rfl rfl ?_
 intro C
 by_cases h:chkX l=0
 ·rw [(rs_ok h).1,(rs_ok h).2] at hR
  rw [h]
  (refine U7 ?_;refine bE [(1000001,500)] (.tup [.one (.slc 500 0 l.length 6),Sn .i64 0]) [(500,some ⟨0,[],.res (rowsR l)⟩)] (hR) O O VC O O O O O V19 dS ?_;refine U12 ?_)
  exact V6
 ·rw [(rs_no h).1,(rs_no h).2] at hR
  (refine U7 ?_;refine aU [] [] (hR) O O VC O O O O O V2B dS ?_;refine U12 ?_)
  exact V6
end Go.Proofs.YtopiioklkkiedaaGreatDoor
end
section
set_option maxHeartbeats 12800000
set_option maxRecDepth 100000
namespace Go.Lg.Fml
theorem dep_step {okJ:Ins→Bool} {l:List Ins} {m i d:Nat} {x:Ins} (h:dep okJ 0 l=some m) (hd:dep okJ 0 (l.take i)=some d) (hx:l[i]? = some x):okJ x=true∧takes x.op≤d∧d-takes x.op+1≤16∧dep okJ 0 (l.take (i+1))=some (d-takes x.op+1):=by
 have h1:=dep_snoc hd hx
 by_cases c:okJ x=true∧takes x.op≤d∧d-takes x.op+1≤16
 ·rw [if_pos c] at h1
  exact ⟨c.1,c.2.1,c.2.2,h1⟩
 ·rw [if_neg c] at h1
  have:=dep_none h1
  rw [h] at this
  cases this
section
variable {V:Type} {one:Ins→List V→Except Int V}
theorem run_snoc {l:List Ins} {i:Nat} {x:Ins} {st:List V} (h:run one (l.take i) [] = .ok st) (hx:l[i]? = some x):run one (l.take (i+1)) []=match one x (st.take (takes x.op)).reverse with | .error e=>.error e | .ok v=>.ok (v::st.drop (takes x.op)):=by
 rw [List.take_add_one,hx,run_app,h]
 simp only [Option.toList_some,run]
 cases one x (st.take (takes x.op)).reverse<;>rfl
theorem run_fail {l:List Ins} {i:Nat} {x:Ins} {st:List V} {e:Int} (h:run one (l.take i) [] = .ok st) (hx:l[i]? = some x) (ho:one x (st.take (takes x.op)).reverse = .error e):run one l [] = .error e:=by
 have h1:=run_snoc h hx
 rw [ho] at h1
 rw [← List.take_append_drop (i+1) l,run_app,h1]
def headX:Except Int (List V)→Except Int V
 | .error e=>.error e
 | .ok (v::_)=>.ok v
 | .ok []=>.error 0
end
end Go.Lg.Fml
namespace Go.Proofs.YtopiioklkkiedaaGreatDoor
open Go Go.Lg Go.Lg.Fml Go.Lg.Fld Go.Lg.Arith
set_option maxRecDepth 100000
theorem exR_closed (r:Except Int Nm):(exR r).closed=true:=by cases r<;>rfl
def StepN (Y:Nat→Option Obj) (v:Value) (one:Ins→List Nm→Except Int Nm):Prop := ∃ (f:FuncId) (caps:List Value),v = .func (.func f) #[] caps.toArray∧∀ Z,MoreM Y Z→∀ x:Ins,smallI x→∀ dv:Value,DeedV Z dv x.op→∀ (tad:Option Addr) (tcap:Nat) (ts:List Nm),NumsIn Z tad ts→ts.length=takes x.op →
 PSpec Tryz.prog Z f ([LRow x.op (.val dv),LIn x,Lx tad ts.length tcap]++capL caps) (exR (one x ts))
theorem step_eval {Y:Nat→Option Obj} {blk:Nat} {arr:Array Value} {el:TypeId} {fr:Nat×Nat} {fad:Option Addr} {fcap:Nat} {fs:List (List Nm)} {at_:Int} (hY:Y blk=some (.cells arr el fr)) (hsp:∃ sp,arr.toList=[.slice fad fs.length fcap,.int .i64 at_]++sp) (hE:EnvIn Y fad fs at_):StepN Y (.func (.func 105) #[] #[pv blk]) (oneX fs at_):=by
 refine ⟨105,[pv blk],O,fun Z hZ x hx dv hD tad tcap ts hts hlen => ?_⟩
 obtain ⟨f,caps,rfl,hF⟩:=hD
 have hP:=hF Z (MoreM.refl Z) x rfl hx fad fcap fs at_ (hE.mono hZ) tad tcap ts hts hlen
 have hX:=hZ _ _ hY
 obtain ⟨sp,hsp⟩:=hsp
 have hs0:0+2≤arr.size:=by rw [← Array.length_toList,hsp];simp
 have hc0:((arr.toList.drop 0).take 2).map CV.val=[.val (.slice fad fs.length fcap),.val (.int .i64 at_)]:=by rw [hsp];rfl
 show PSpec _ Z _ [LRow x.op (.val (.func (.func f) #[] caps.toArray)),LIn x,Lx tad ts.length tcap,.sv (.one (.val (pv blk)))] (exR (oneX fs at_ x ts))
 rw [exR_eq] at hP ⊢
 generalize exE (oneX fs at_ x ts)=e at *
 generalize exV (oneX fs at_ x ts)=v at *
 obtain ⟨vb,vN⟩:=v
 refine cF Tryz.func105 rfl V5 rfl rfl ?_
 intro C
 (refine U14 ?_;refine K.callF O O O hP dS ?_;refine U6 ?_)
 exact V4
theorem nums_tail {Z:Nat→Option Obj} {sb:Nat} {arr:Array Value} {el:TypeId} {fr:Nat×Nat} {ns:List Nm} {rest cap:Nat} (hZ:Z sb=some (.cells arr el fr)) (h2:∀ u∈ns,In2 u.2) (hsp:∃ sp,arr.toList=nmsV ns++sp) (hc:cap=rest→ns.drop rest=[]):
  NumsIn Z (some ⟨sb,if cap=rest then 0 else 0+rest*3,none⟩) (ns.drop rest):=by
 have hN:=nms_in hZ h2 hsp
 refine ⟨fun i r hi => ?_,fun u hu=>h2 u (List.mem_of_mem_drop hu)⟩
 by_cases c:cap=rest
 ·rw [hc c] at hi;simp at hi
 ·rw [if_neg c]
  rw [dM,List.getElem?_drop] at hi
  obtain ⟨blk,off,arr',el',fr',e1,e2,e3,e4⟩:=hN.rows (rest+i) r (by rw [dM];exact hi)
  simp only [Option.some.injEq,Addr.mk.injEq] at e1
  obtain ⟨rfl,rfl,_⟩:=e1
  refine ⟨sb,0+rest*3,arr',el',fr',O,e2,by omega,?_⟩
  rw [← e4,show 0+rest*3+i*3=0+(rest+i)*3 by omega]
theorem nmsV_app (a b:List Nm):nmsV (a++b)=nmsV a++nmsV b:=by unfold nmsV;rw [dI,List.flatten_append]
theorem more_join {C:Ctx} {X H:Nat→Option Obj} (hO:OwnedM C X H):MoreM X (joinM X H)∧MoreM H (joinM X H):=by
 refine ⟨fun b o hb => ?_,fun b o hb=>joinM_in hb⟩
 cases hc:H b with
 | none=>rw [joinM_out hc];exact hb
 | some o'=>have:=(hO.own b o' hc).2.2;rw [hb] at this;cases this
variable (X:Nat→Option Obj)
abbrev rnSt (rad ad:Option Addr) (n rcap cap i:Nat) (v:Value) (ms:List (Nat×LV)) (mb:List (Nat×Option Box)) (Y:Nat→Option Obj):St:=
 ⟨ms++[(0,Lx rad n rcap),(1,Lx ad n cap),(2,.sv (.one (.val v))),(6,Lp 6),(15,Lx rad n rcap),(16,Ln .i64 (n:Nat)),(17,Ln .i64 (i:Nat))],mb++[(6,some ⟨86,[.val (.bool false),.val (.int .u64 0),.val (.int .u64 0)],false⟩)],Y⟩
set_option maxHeartbeats 12800000 in
theorem tRunN (l:List Ins) (hchk:chkX l=0) (ad:Option Addr) (cap:Nat) (hin:InsIn X ad l) (rad:Option Addr) (rcap:Nat) (hrows:RowsOK X rad l) (v:Value) (one:Ins→List Nm→Except Int Nm) (hv:StepN X v one)
  (h2:∀ x∈l,∀ a u,(∀ w∈a,In2 w.2)→one x a = .ok u→In2 u.2) (he:∀ x a e,a.length=takes x.op→one x a = .error e→e≠0):
  PSpec Tryz.prog X 104 [Lx rad l.length rcap,Lx ad l.length cap,.sv (.one (.val v))] (exR (headX (run one l []))):=by
 obtain ⟨h64,hdep1⟩:=chkX_zero hchk
 obtain ⟨f,caps,rfl,hF⟩:=hv
 refine cF Tryz.func104 rfl V5 rfl (exR_closed _) ?_
 intro C
 have hmk:slcBuild Tryz.prog 28 16=some ((List.replicate 16 [Value.bool false,.int .u64 0,.int .u64 0]).flatten,3,86):=slcBuild_many (z := #[.bool false,.int .u64 0,.int .u64 0]) V5 V5 rfl V3
 (refine U7 ?_;refine K.makeSlc0 (m:=16) (bytes:=24) O O hmk V5 V3 O dS ?_;refine U10 ?_)
 refine cL (fun k σ=>∃ (i:Nat) (st:List Nm),i≤l.length∧k=l.length-i∧run one (l.take i) [] = .ok st∧(∀ w∈st,In2 w.2)∧dep okI 0 (l.take i)=some st.length∧σ=rnSt rad ad l.length rcap cap i (.func (.func f) #[] caps.toArray) [(8,.sv (.one (.slc 500 0 st.length 3)))] [(500,some ⟨86,(nmsV st.reverse).map .val,true⟩)] X) l.length
  ⟨rnSt rad ad l.length rcap cap 0 (.func (.func f) #[] caps.toArray) [(8,.sv (.one (.slc 500 0 0 3)))] [(500,some ⟨86,[],true⟩)] X,Le.ofR [(500,14),(6,6)] V15 V1 V2 V2 V0 V2 V2,0,[],by omega,by omega,rfl,fun w hw=>absurd hw V21,rfl,rfl⟩ ?_
 rintro k σ ⟨i,st,hi,rfl,hst,hst2,hdep,rfl⟩
 by_cases hlt:i<l.length
 ·obtain ⟨x,hx⟩:=wg hlt
  have hmem:=dE hx
  have hsx:=hin.small x hmem
  obtain ⟨hok,htk,h16,hdn⟩:=dep_step hdep1 hdep hx
  have hd16:=dep_le V3 hdep
  obtain ⟨rblk,roff,rarr,rel,rfr,dv,rfl,hXr,hszr,hcsr,hDv⟩:=hrows.at hx
  obtain ⟨g,gcaps,egv,_⟩:=id hDv
  subst egv
  obtain ⟨blk,off,arr,el,fr,rfl,hX,hsz,hcs,hop⟩:=hin.at hx
  have hio:=wo off i 6
  have hior:=wo roff i 6
  have hin0:0≤(i:Int)∧(i:Int)<(l.length:Nat):=by omega
  obtain ⟨rest,hrest⟩:∃ rest,st.length-takes x.op=rest:=⟨_,rfl⟩
  have hsub:IntKind.i64.wrap (((st.length:Nat):Int)-((takes x.op:Nat):Int))=((rest:Nat):Int):=by rw [cH V3];omega
  refine U28 ?_
  refine LWP.le (σ':=⟨[(8,.sv (.one (.slc 500 0 st.length 3))),(0,Lx (some ⟨rblk,roff,none⟩) l.length rcap),(1,Lx (some ⟨blk,off,none⟩) l.length cap),(2,.sv (.one (.val (.func (.func f) #[] caps.toArray)))),(6,Lp 6),(9,Ln .i64 (i:Nat)),(10,Lp 10),(11,Ln .i64 (rest:Nat)),(15,Lx (some ⟨rblk,roff,none⟩) l.length rcap),(16,Ln .i64 (l.length:Nat)),(17,Ln .i64 (i:Nat))],[(500,some ⟨86,(nmsV st.reverse).map .val,true⟩),(6,some ⟨86,[.val (.bool false),.val (.int .u64 0),.val (.int .u64 0)],false⟩),(10,some ⟨190,(rowVs (x.op,.func (.func g) #[] gcaps.toArray)).map .val,false⟩)],X⟩) (Le.of (by exact ⟨O,O,O,O,O,O,O,O,O,O,O,trivial⟩) V9 V2 V2 V0) ?_
  refine LWP.freeze O V7 O fun sb scap sarr sfr hn hFz hcp hfit hsp => ?_
  have hXZ:MoreM X (withBlock X sb (.cells sarr 86 sfr)):=cJ hn
  have hts:st.reverse.drop rest=(st.take (takes x.op)).reverse:=by rw [List.drop_reverse,← hrest,show st.length-(st.length-takes x.op)=takes x.op by omega]
  have hln:((st.take (takes x.op)).reverse).length=takes x.op:=by rw [List.length_reverse,dA];omega
  have hN:=nums_tail (cap:=scap) (rest:=rest) (cN X sb (.cells sarr 86 sfr)) (fun u hu=>hst2 u (List.mem_reverse.1 hu)) hsp (fun e=>List.drop_eq_nil_of_le (by rw [List.length_reverse];omega))
  rw [hts] at hN
  have hP:=hF _ hXZ x hsx _ (hDv.mono hXZ) _ (scap-rest) _ hN hln
  have hln2:st.length-rest=((st.take (takes x.op)).reverse).length:=by rw [hln];omega
  have hXc:=hXZ _ _ hX
  have hsn:=run_snoc hst hx
  cases hone:one x (st.take (takes x.op)).reverse with
  | error e =>
   have hne:=he x _ e hln hone
   rw [run_fail hst hx hone]
   rw [hone] at hP
   show LWP _ _ _ _ _ _
   (refine rgD mixed ?_;refine U8 ?_;refine K.cutLoX O O cC V3 O hln2 O dS ?_;refine K.callF O O O hP dS ?_;refine U12 ?_;refine kne O O (r:=true) (cU hne) ?_;refine U10 ?_)
   exact V4
  | ok u =>
   rw [hone] at hP hsn
   simp only at hsn
   have hu2:=h2 x hmem _ u (fun w hw=>hst2 w (List.mem_of_mem_take (List.mem_reverse.1 hw))) hone
   obtain ⟨ub,uN⟩:=u
   have hP:PSpec Tryz.prog (withBlock X sb (.cells sarr 86 sfr)) f ([LRow x.op (.val (.func (.func g) #[] gcaps.toArray)),LIn x,Lx (some ⟨sb,if scap=rest then 0 else 0+rest*3,none⟩) ((st.take (takes x.op)).reverse).length (scap-rest)]++capL caps) (.tup [SI ub uN,Sn .i64 0]):=hP
   (refine rgD mixed ?_;refine U8 ?_;refine K.cutLoX O O cC V3 O hln2 O dS ?_;refine K.callF O O O hP dS ?_;refine U16 ?_)
   have hspl:nmsV st.reverse=nmsV (st.reverse.take rest)++nmsV (st.reverse.drop rest):=by rw [← nmsV_app,List.take_append_drop]
   have hsp2:∃ sp,sarr.toList=nmsV (st.reverse.take rest)++sp:=by
    obtain ⟨sp,hsp⟩:=hsp
    exact ⟨_,by rw [hsp,hspl,dN]⟩
   have hrl:(st.reverse.take rest).length=rest:=by rw [dA,List.length_reverse];omega
   refine LWP.le (σ':=⟨[(8,.sv (.one (.val (.slice (some ⟨sb,0,none⟩) st.length scap)))),(0,Lx (some ⟨rblk,roff,none⟩) l.length rcap),(1,Lx (some ⟨blk,off,none⟩) l.length cap),(2,.sv (.one (.val (.func (.func f) #[] caps.toArray)))),(6,Lp 6),(11,Ln .i64 (rest:Nat)),(12,Lp 12),(15,Lx (some ⟨rblk,roff,none⟩) l.length rcap),(16,Ln .i64 (l.length:Nat)),(17,Ln .i64 (i:Nat))],[(6,some ⟨86,[.val (.bool false),.val (.int .u64 0),.val (.int .u64 0)],false⟩),(12,some ⟨86,cI ub uN,false⟩)],withBlock X sb (.cells sarr 86 sfr)⟩) (Le.of V24 VE V2 V2 V0) ?_
   refine LWP.thaw (k:=500) (sz:=3) (vals:=nmsV (st.reverse.take rest)) hn hFz hcp hfit hsp2 O O O VA ?_
   have hl3:((nmsV (st.reverse.take rest)).map CV.val).length=rest*3:=by rw [nmsV_len,hrl]
   have hnc:=nmsV_snoc (st.reverse.take rest) (ub,uN)
   have hinc:=wi i V3
   have hst':st.reverse.take rest=(st.drop (takes x.op)).reverse:=by rw [List.take_reverse,← hrest,show st.length-(st.length-takes x.op)=takes x.op by omega]
   have hlen2:(((ub,uN):Nm)::st.drop (takes x.op)).length=rest+1:=by rw [dJ,dC];omega
   (refine rgD mixed ?_;refine U2 ?_;refine K.cutSlc O O cC V3 dS ?_;refine U1 ?_;refine aZ (zs:=[Value.bool false,.int .u64 0,.int .u64 0]) (sz:=3) (e:=86) (cs':=[.val (.bool ub),.val (.int .u64 (uN/18446744073709551616)),.val (.int .u64 (uN%18446744073709551616))]) V5 O O O O O O dS<|bQ (by_:=24) (e2:=86) (l2:=[.val (.bool ub),.val (.int .u64 (uN/18446744073709551616)),.val (.int .u64 (uN%18446744073709551616))]) (nl:=rest+1) (nc:=(nmsV (st.reverse.take rest++[(ub,uN)])).map .val) O O hl3 O O (dO _) O O V5 V5 V3 V3 O O hnc dS ?_;refine U7 ?_)
   exact ⟨l.length-(i+1),rnSt (some ⟨rblk,roff,none⟩) (some ⟨blk,off,none⟩) l.length rcap cap (i+1) (.func (.func f) #[] caps.toArray) [(8,.sv (.one (.slc 500 0 (rest+1) 3)))] [(500,some ⟨86,(nmsV (st.reverse.take rest++[(ub,uN)])).map .val,true⟩)] X,by omega,Le.ofR [(500,49),(6,6)] V15 V1 V2 V2 V0 V2 V2,i+1,(ub,uN)::st.drop (takes x.op),by omega,O,hsn,(fun w hw=>by
    rcases List.mem_cons.1 hw with rfl|hw
    ·exact hu2
    ·exact hst2 w (List.mem_of_mem_drop hw)),by rw [hdn,hlen2];congr 1;omega,by rw [hlen2,List.reverse_cons,← hst']⟩
 ·have e:i=l.length:=by omega
  subst e
  rw [dG] at hst hdep
  have hl1:st.length=1:=by rw [hdep1] at hdep;exact (Option.some.inj hdep).symm
  match st,hl1,hst,hst2 with
  | [(ub,uN)],_,hst,hst2 =>
  rw [hst]
  show LWP _ _ _ _ _ _
  refine LWP.le (σ':=rnSt rad ad l.length rcap cap l.length (.func (.func f) #[] caps.toArray) [(8,.sv (.one (.slc 500 0 1 3)))] [(500,some ⟨86,cI ub uN,true⟩)] X) (Le.of V15 VE V2 V2 V0) ?_
  (refine U10 ?_;refine K.indexSlc (off':=0) O O V3 O dS ?_;refine bJ O O O O dS ?_;refine U4 ?_)
  exact V4
theorem run_len {V:Type} {one:Ins→List V→Except Int V} {okJ:Ins→Bool}:∀ {l:List Ins} {st st':List V} {n m:Nat},st.length=n→dep okJ n l=some m→run one l st = .ok st'→st'.length=m
 | [],st,st',n,m,h,hd,hr=>by
  simp only [dep,Option.some.injEq] at hd
  simp only [run,Except.ok.injEq] at hr
  rw [← hr,h,hd]
 | x::l,st,st',n,m,h,hd,hr=>by
  simp only [dep] at hd
  split at hd
  ·rename_i c
   simp only [run] at hr
   cases ho:one x (st.take (takes x.op)).reverse with
   | error e=>rw [ho] at hr;cases hr
   | ok v =>
    rw [ho] at hr
    exact run_len (n:=n-takes x.op+1) (by rw [dJ,dC,h]) hd hr
  ·cases hd
set_option maxHeartbeats 6400000 in
theorem gEval' (l:List Ins) (ad:Option Addr) (cap:Nat) (hin:InsIn X ad l) (hbig:l.length<1152921504606846976) (fad:Option Addr) (fcap:Nat) (fs:List (List Nm)) (at_:Int) (hE:EnvIn X fad fs at_) (hf2:∀ r∈fs,∀ u∈r,In2 u.2):
  PSpec Tryz.prog X 70 [Lx ad l.length cap,LEnv fad fs.length fcap at_] (exR (evX l fs at_)):=by
 have hR:=tRowsOf X l ad cap hin hbig
 by_cases h:chkX l=0
 ·rw [(rs_ok h).1,(rs_ok h).2] at hR
  refine cF Tryz.func70 rfl V5 rfl (exR_closed _) ?_
  intro C
  (refine U9 ?_;refine bE [(1000001,500)] (.tup [.one (.slc 500 0 l.length 6),Sn .i64 0]) [(500,some ⟨0,[],.res (rowsR l)⟩)] (hR) O O VC O O O O O V19 dS ?_;refine U15 ?_)
  refine LWP.le (σ':=⟨[(6,.sv (.one (.slc 500 0 l.length 6))),(3,Lp 3),(0,Lx ad l.length cap),(4,Lp 4),(5,Ln .i64 0),(7,Ln .i64 0)],[(500,some ⟨0,[],.res (rowsR l)⟩),(3,some ⟨100,[.val (.slice fad fs.length fcap),.val (.int .i64 at_)],false⟩),(4,some ⟨86,[.val (.bool false),.val (.int .u64 0),.val (.int .u64 0)],false⟩)],X⟩) (Le.of V11 V9 V2 V2 V0) ?_
  refine LWP.fixRes O O O fun ρ H rcap hRr hO _ _ => ?_
  obtain ⟨m1,m2⟩:=more_join hO
  have hrows:=rows_fix hRr m2
  refine LWP.le (σ':=⟨[(3,Lp 3),(6,Lx (some ⟨ρ.1,0,none⟩) l.length rcap),(0,Lx ad l.length cap),(4,Lp 4),(5,Ln .i64 0),(7,Ln .i64 0)],[(3,some ⟨100,([.slice fad fs.length fcap,.int .i64 at_]:List Value).map .val,false⟩),(4,some ⟨86,[.val (.bool false),.val (.int .u64 0),.val (.int .u64 0)],false⟩)],joinM X H⟩) (Le.of V11 VE V2 V2 V0) ?_
  refine LWP.freezePtr O O O fun eb earr efr hn hF hsp => ?_
  have m3:MoreM (joinM X H) (withBlock (joinM X H) eb (.cells earr 100 efr)):=cJ hn
  have hS:=step_eval (cN (joinM X H) eb (.cells earr 100 efr)) hsp (hE.mono (m1.trans m3))
  have hP:=tRunN _ l h ad cap (hin.mono (m1.trans m3)) (some ⟨ρ.1,0,none⟩) rcap (hrows.mono m3) _ (oneX fs at_) hS (fun x hx a u ha ho=>one_in2 hf2 (hin.small x hx).2.2.2 hE.place.2 ha ho) (fun x a e hl ho=>one_err hl ho)
  have hev:evX l fs at_=lastX (run (oneX fs at_) l []):=if_pos h
  rw [hev]
  cases hr:run (oneX fs at_) l [] with
  | error e =>
   have hne:e≠0:=by
    have:=evX_err (l:=l) (fs:=fs) (at_:=at_) (e:=e) (by rw [hev,hr];rfl)
    exact this
   rw [hr] at hP
   show LWP _ _ _ _ _ _
   (refine U3 ?_;refine K.makeFunc O O dS ?_;refine U13 ?_;refine kne O O (r:=true) (cU hne) ?_;refine U11 ?_)
   exact V4
  | ok st =>
   have hl1:=run_len rfl (chkX_zero h).2 hr
   match st,hl1,hr with
   | [(ub,uN)],_,hr =>
   rw [hr] at hP
   have hP:PSpec Tryz.prog (withBlock (joinM X H) eb (.cells earr 100 efr)) 104 [Lx (some ⟨ρ.1,0,none⟩) l.length rcap,Lx ad l.length cap,.sv (.one (.val (.func (.func 105) #[] #[pv eb])))] (.tup [SI ub uN,Sn .i64 0]):=hP
   have hu2:In2 uN:=by
    obtain ⟨t,ht,hfl⟩:=parse (chkX_zero h).2
    have h5:t.ev (oneX fs at_) = .ok (ub,uN):=by
     have h6:=run_flat (one:=oneX fs at_) (t:=t) (rest:=[]) (st:=[]) ht
     rw [dK,hfl,hr] at h6
     cases hv:t.ev (oneX fs at_) with
     | error e=>rw [hv] at h6;cases h6
     | ok v=>rw [hv] at h6;simp only [run,Except.ok.injEq,List.cons.injEq,and_true] at h6;rw [h6]
    exact tree_in2 hf2 hE.place.2 (fun x hx=>(hin.small x (by rw [← hfl];exact hx)).2.2.2) h5
   have hG:=tForm (withBlock (joinM X H) eb (.cells earr 100 efr)) (ub,uN) hu2 _ rfl
   show LWP _ _ _ _ _ _
   cases hg:gd (ub,uN) with
   | false =>
    rw [hg] at hG
    rw [show lastX (.ok [(ub,uN)]) = .error 4 by unfold lastX;simp only;rw [hg];rfl]
    (refine U3 ?_;refine K.makeFunc O O dS ?_;refine U32 ?_)
    exact V4
   | true =>
    rw [hg] at hG
    rw [show lastX (.ok [(ub,uN)]) = .ok (ub,uN) by unfold lastX;simp only;rw [hg];rfl]
    (refine U3 ?_;refine K.makeFunc O O dS ?_;refine U33 ?_)
    exact V4
 ·rw [(rs_no h).1,(rs_no h).2] at hR
  rw [show evX l fs at_ = .error (chkX l) from if_neg h]
  refine cF Tryz.func70 rfl V5 rfl rfl ?_
  intro C
  (refine U9 ?_;refine aU [] [] (hR) O O VC O O O O O V2B dS ?_;refine U10 ?_;refine kne O O (r:=true) (cU h) ?_;refine U10 ?_)
  exact V4
end Go.Proofs.YtopiioklkkiedaaGreatDoor
end
section
set_option maxHeartbeats 12800000
set_option maxRecDepth 100000
namespace Go.Proofs.YtopiioklkkiedaaGreatDoor
open Go Go.Lg Go.Lg.Fml Go.Lg.Fld Go.Lg.Arith
set_option maxRecDepth 100000
theorem leB1o (n:Nat):leB 1 n=[o8 (n:Nat)]:=by
 simp only [leB]
 congr 1
abbrev LOp (op:Int):LV:=.sv (.agg [.val (.bool (op==2||op==3)),.val (.bool (op==2)),.val (.bool (op==1))])
theorem op_1:LOp 1 = .sv (.agg [.val (.bool false),.val (.bool false),.val (.bool true)]):=rfl
theorem op_2:LOp 2 = .sv (.agg [.val (.bool true),.val (.bool true),.val (.bool false)]):=rfl
theorem op_3:LOp 3 = .sv (.agg [.val (.bool true),.val (.bool false),.val (.bool false)]):=rfl
theorem op_no {op:Int} (h1:op≠1) (h2:op≠2) (h3:op≠3):LOp op = .sv (.agg [.val (.bool false),.val (.bool false),.val (.bool false)]):=by
 unfold LOp
 rw [cS h1,cS h2,cS h3]
 rfl
variable (X:Nat→Option Obj)
set_option maxHeartbeats 6400000 in
theorem tOnly3 (A B K:Bool) (x:Ins) (hx:smallI x):PSpec Tryz.prog X 137 [.sv (.agg [.val (.bool A),.val (.bool B),.val (.bool K)]),LIn x] (Lb ((A||(x.a==0))&&(B||(x.b==0))&&(K||decide (x.k=(false,0))))):=by
 have q:=eqI (b:=x.k.1) (b':=false) (h:=x.k.2/18446744073709551616) (h':=0) (l:=x.k.2%18446744073709551616) (l':=0) _ (eqZ hx.2.2.2)
 rw [show decide (((x.k.1,x.k.2):Nm)=(false,0))=decide (x.k=(false,0)) from rfl] at q
 generalize hr:decide (x.k=(false,0))=r at *
 generalize hp:(x.a==0)=p
 generalize hq:(x.b==0)=s
 cases A<;>cases p<;>cases B<;>cases s<;>cases K
 all_goals
  refine cF Tryz.func137 rfl V5 rfl rfl ?_
  intro C
  (first|(refine U31 ?_;refine bR O O O O V5 q (.inl ⟨O,O⟩) (dT O O) ?_;refine U5 ?_)|(refine U31 ?_;refine bR O O O O V5 q (.inl ⟨O,O⟩) (dT O O) ?_;refine U5 ?_)|(refine U31 ?_;refine bR O O O O V5 q (.inl ⟨O,O⟩) (dT O O) ?_;refine U5 ?_)|(refine U31 ?_;refine bR O O O O V5 q (.inl ⟨O,O⟩) (dT O O) ?_;refine U5 ?_)|(refine U37 ?_)|(refine U37 ?_)|(refine U37 ?_)|(refine U37 ?_)|(refine U37 ?_)|(refine U37 ?_)|(refine U37 ?_))
  exact V6
theorem tOnly (x:Ins) (hx:smallI x):PSpec Tryz.prog X 137 [LOp x.op,LIn x] (Lb (plainI x)):=by
 have h:=tOnly3 X (x.op==2||x.op==3) (x.op==2) (x.op==1) x hx
 have e:(((x.op==2||x.op==3)||(x.a==0))&&((x.op==2)||(x.b==0))&&((x.op==1)||decide (x.k=(false,0))))=plainI x:=by
  unfold plainI
  have hb:∀ a b:Int,(a==b)=decide (a=b):=fun a b=>rfl
  rw [hb,hb,hb,hb,hb]
  generalize decide (x.op=1)=a1
  generalize decide (x.op=2)=a2
  generalize decide (x.op=3)=a3
  generalize decide (x.a=0)=b1
  generalize decide (x.b=0)=b2
  generalize decide (x.k=(false,0))=b3
  cases a1<;>cases a2<;>cases a3<;>cases b1<;>cases b2<;>cases b3<;>rfl
 rw [e] at h
 exact h
theorem ePut_0 (n:Nat) (h:n<256):MSpec Tryz.prog X 136 [Lp 1000000,Ln .i64 (n:Nat)] (w0 1000000) (.tup []) (w1 1000000 1000001 1000002 [o8 (n:Nat)]):=by
 have hN:=WNum_0_1 X n V3 V3
 rw [leB1o n] at hN
 refine cG Tryz.func136 rfl V5 rfl rfl V0 rfl rfl ?_
 intro C
 have hw:IntKind.u64.wrap ((n:Nat):Int)=((n:Nat):Int):=wrap_u64 V3
 (refine U4 ?_;refine aU [(1000001,501),(1000002,502)] (w1 1000000 501 502 [o8 (n:Nat)]) (hN) O O V17 V16 O O O O V23 dS ?_;refine U1 ?_)
 exact ⟨[(1000001,501),(1000002,502)],⟨[],trivial,O⟩,V1,O,O⟩
theorem ePut_1 (l:List UInt8) (n:Int) (h:0≤n∧n<256) (hl:l.length<900000000):MSpec Tryz.prog X 136 [Lp 1000000,Ln .i64 n] (w1 1000000 1000001 1000002 l) (.tup []) (w1 1000000 1000001 1000003 (l++[o8 n])++[(1000002,none)]):=by
 obtain ⟨k,rfl⟩:=Int.eq_ofNat_of_zero_le h.1
 have hk:k<256:=by omega
 have hN:=WNum_1_1 X l k V3 V3 hl
 rw [leB1o k] at hN
 refine cG Tryz.func136 rfl V5 rfl rfl V0 rfl rfl ?_
 intro C
 have hw:IntKind.u64.wrap ((k:Nat):Int)=((k:Nat):Int):=wrap_u64 V3
 (refine U4 ?_;refine aU [(1000003,501)] (w1 1000000 1000001 501 (l++[o8 (k:Nat)])++[(1000002,none)]) (hN) O O VD VB O O O O V12 dS ?_;refine U1 ?_)
 exact ⟨[(1000003,501)],⟨[],trivial,O⟩,V1,O,O⟩
def numX (k:Nm):List UInt8:=sgB k.1::(leB 8 (loW k.2)++leB 8 (hiW k.2))
theorem LI_words {N:Int} (h:In2 N) (b:Bool):LI b N=Li b ((hiW N:Nat):Int) ((loW N:Nat):Int):=by
 obtain ⟨h1,h2,h3⟩:=words h
 unfold LI
 have e1:N/18446744073709551616=((hiW N:Nat):Int):=by unfold In2 at h;unfold hiW;omega
 have e2:N%18446744073709551616=((loW N:Nat):Int):=by unfold loW;omega
 rw [e1,e2]
set_option maxHeartbeats 3200000 in
theorem ePutNum (l:List UInt8) (k:Nm) (hk:In2 k.2) (hl:l.length<800000000):MSpec Tryz.prog X 177 [Lp 1000000,LI k.1 k.2] (w1 1000000 1000001 1000002 l) (.tup []) (w1 1000000 1000001 1000003 (l++numX k)++[(1000002,none)]):=by
 rw [LI_words hk]
 obtain ⟨_,h2,h3⟩:=words hk
 have hp:(256:Nat)^8=18446744073709551616:=by decide
 obtain ⟨b,N⟩:=k
 unfold numX
 simp only at hk h2 h3 ⊢
 generalize loW N=lo at *
 generalize hiW N=hi at *
 have p1:=fun n h=>ePut_1 X l n h V3
 have p2:=WNum_1_8 X (l++[sgB b]) lo V3 V3 (by rw [cW,cZ];omega)
 have p3:=WNum_1_8 X ((l++[sgB b])++leB 8 lo) hi V3 V3 (by rw [cW,cW,cZ,leB_length];omega)
 have hfin:l++sgB b::(leB 8 lo++leB 8 hi)=((l++[sgB b])++leB 8 lo)++leB 8 hi:=by simp
 rw [hfin]
 refine cG Tryz.func177 rfl V5 rfl rfl V0 rfl rfl ?_
 intro C
 cases b with
 | false =>
  have p1:MSpec Tryz.prog X 136 [Lp 1000000,Ln .i64 0] (w1 1000000 1000001 1000002 l) (.tup []) (w1 1000000 1000001 1000003 (l++[sgB false])++[(1000002,none)]):=p1 0 ⟨by decide,by decide⟩
  (refine U20 ?_;refine aU [(1000003,501)] (w1 1000000 1000001 501 (l++[sgB false])++[(1000002,none)]) (p1) O O VD VB O O O O V12 dS ?_;refine U6 ?_;refine aU [(1000002,501),(1000003,502)] (w1 1000000 1000001 502 ((l++[sgB false])++leB 8 lo)++[(501,none)]) (p2) O O VD VB O O O O V12 dS ?_;refine U5 ?_;refine aU [(1000002,502),(1000003,503)] (w1 1000000 1000001 503 (((l++[sgB false])++leB 8 lo)++leB 8 hi)++[(502,none)]) (p3) O O VD VB O O O O V12 dS ?_;refine U1 ?_)
  exact ⟨[(1000003,503)],⟨[],trivial,O⟩,V1,O,O⟩
 | true =>
  have p1:MSpec Tryz.prog X 136 [Lp 1000000,Ln .i64 1] (w1 1000000 1000001 1000002 l) (.tup []) (w1 1000000 1000001 1000003 (l++[sgB true])++[(1000002,none)]):=p1 1 ⟨by decide,by decide⟩
  (refine U22 ?_;refine aU [(1000003,501)] (w1 1000000 1000001 501 (l++[sgB true])++[(1000002,none)]) (p1) O O VD VB O O O O V12 dS ?_;refine U6 ?_;refine aU [(1000002,501),(1000003,502)] (w1 1000000 1000001 502 ((l++[sgB true])++leB 8 lo)++[(501,none)]) (p2) O O VD VB O O O O V12 dS ?_;refine U5 ?_;refine aU [(1000002,502),(1000003,503)] (w1 1000000 1000001 503 (((l++[sgB true])++leB 8 lo)++leB 8 hi)++[(502,none)]) (p3) O O VD VB O O O O V12 dS ?_;refine U1 ?_)
  exact ⟨[(1000003,503)],⟨[],trivial,O⟩,V1,O,O⟩
set_option maxHeartbeats 3200000 in
theorem ePutIns (l:List UInt8) (x:Ins) (hx:smallI x) (hok:okI x=true) (hl:l.length<700000000):MSpec Tryz.prog X 138 [Lp 1000000,LOp x.op,LIn x] (w1 1000000 1000001 1000002 l) (.tup []) (w1 1000000 1000001 1000003 (l++encI x)++[(1000002,none)]):=by
 obtain ⟨h17,hgk,ha7,hb7⟩:=okI_facts hok
 have hk2:=hx.2.2.2
 obtain ⟨op,a,b,k⟩:=x
 simp only at h17 hgk ha7 hb7 hk2 ⊢
 have p1:=ePut_1 X l op V3 V3
 have pa:=ePut_1 X (l++[o8 op]) a V3 (by rw [cW,cZ];omega)
 have pb:=ePut_1 X ((l++[o8 op])++[o8 a]) b V3 (by rw [cW,cW,cZ,cZ];omega)
 have pk:=ePutNum X (l++[o8 op]) k hk2 (by rw [cW,cZ];omega)
 by_cases c1:op=1
 ·subst c1
  rw [show encI ⟨1,a,b,k⟩=o8 1::numX k from rfl,show l++o8 1::numX k=(l++[o8 1])++numX k by simp,op_1]
  refine cG Tryz.func138 rfl V5 rfl rfl V0 rfl rfl ?_
  intro C
  (refine U10 ?_;refine aU [(1000003,501)] (w1 1000000 1000001 501 (l++[o8 1])++[(1000002,none)]) (p1) O O VD VB O O O O V12 dS ?_;refine U26 ?_;refine bJ O O O V28 dS ?_;refine aU [(1000002,501),(1000003,502)] (w1 1000000 1000001 502 ((l++[o8 1])++numX k)++[(501,none)]) (pk) O O VD VB O O O O V12 dS ?_;refine U1 ?_)
  exact ⟨[(1000003,502)],⟨[],trivial,O⟩,V1,O,O⟩
 by_cases c2:op=2
 ·subst c2
  rw [show encI ⟨2,a,b,k⟩=[o8 2,o8 a,o8 b] from rfl,show l++[o8 2,o8 a,o8 b]=((l++[o8 2])++[o8 a])++[o8 b] by simp,op_2]
  refine cG Tryz.func138 rfl V5 rfl rfl V0 rfl rfl ?_
  intro C
  (refine U10 ?_;refine aU [(1000003,501)] (w1 1000000 1000001 501 (l++[o8 2])++[(1000002,none)]) (p1) O O VD VB O O O O V12 dS ?_;refine U12 ?_;refine aU [(1000002,501),(1000003,502)] (w1 1000000 1000001 502 ((l++[o8 2])++[o8 a])++[(501,none)]) (pa) O O VD VB O O O O V12 dS ?_;refine U12 ?_;refine aU [(1000002,502),(1000003,503)] (w1 1000000 1000001 503 (((l++[o8 2])++[o8 a])++[o8 b])++[(502,none)]) (pb) O O VD VB O O O O V12 dS ?_;refine U8 ?_)
  exact ⟨[(1000003,503)],⟨[],trivial,O⟩,V1,O,O⟩
 by_cases c3:op=3
 ·subst c3
  rw [show encI ⟨3,a,b,k⟩=[o8 3,o8 a] from rfl,show l++[o8 3,o8 a]=(l++[o8 3])++[o8 a] by simp,op_3]
  refine cG Tryz.func138 rfl V5 rfl rfl V0 rfl rfl ?_
  intro C
  (refine U10 ?_;refine aU [(1000003,501)] (w1 1000000 1000001 501 (l++[o8 3])++[(1000002,none)]) (p1) O O VD VB O O O O V12 dS ?_;refine U12 ?_;refine aU [(1000002,501),(1000003,502)] (w1 1000000 1000001 502 ((l++[o8 3])++[o8 a])++[(501,none)]) (pa) O O VD VB O O O O V12 dS ?_;refine U16 ?_)
  exact ⟨[(1000003,502)],⟨[],trivial,O⟩,V1,O,O⟩
 rw [show encI ⟨op,a,b,k⟩=[o8 op] by unfold encI;simp only;rw [if_neg c1,if_neg c2,if_neg c3],op_no c1 c2 c3]
 refine cG Tryz.func138 rfl V5 rfl rfl V0 rfl rfl ?_
 intro C
 (refine U10 ?_;refine aU [(1000003,501)] (w1 1000000 1000001 501 (l++[o8 op])++[(1000002,none)]) (p1) O O VD VB O O O O V12 dS ?_;refine U24 ?_)
 exact ⟨[(1000003,501)],⟨[],trivial,O⟩,V1,O,O⟩
abbrev enSt (rad ad:Option Addr) (n rcap cap i:Nat) (B:List UInt8) (Y:Nat→Option Obj):St:=
 ⟨[(0,Lx ad n cap),(6,Lp 18),(23,Lx rad n rcap),(24,Ln .i64 (n:Nat)),(25,Ln .i64 (i:Nat))],w1 18 601 500 B,Y⟩
set_option maxHeartbeats 6400000 in
theorem gEncode' (l:List Ins) (ad:Option Addr) (cap:Nat) (hin:InsIn X ad l) (hbig:l.length<1152921504606846976):PSpec Tryz.prog X 101 [Lx ad l.length cap] (.tup [Ss (encTX l),Sn .i64 (encErr l)]):=by
 have hR:=tRowsOf X l ad cap hin hbig
 refine cF Tryz.func101 rfl V5 rfl rfl ?_
 intro C
 by_cases h:chkX l=0
 ·rw [(rs_ok h).1,(rs_ok h).2] at hR
  have h64:=(chkX_zero h).1
  have hall:=chkX_ok h
  (refine U8 ?_;refine bE [(1000001,500)] (.tup [.one (.slc 500 0 l.length 6),Sn .i64 0]) [(500,some ⟨0,[],.res (rowsR l)⟩)] (hR) O O VC O O O O O V19 dS ?_;refine U15 ?_)
  refine LWP.le (σ':=⟨[(4,.sv (.one (.slc 500 0 l.length 6))),(0,Lx ad l.length cap)],[(500,some ⟨0,[],.res (rowsR l)⟩)],X⟩) (Le.of VE V13 V2 V2 V0) ?_
  refine LWP.fixRes O O O fun ρ H rcap hRr hO _ _ => ?_
  obtain ⟨m1,m2⟩:=more_join hO
  have hrows:=rows_fix hRr m2
  replace hin:=hin.mono m1
  generalize joinM X H=Y at *
  have p1:=ePut_0 Y l.length V3
  (refine U10 ?_;refine aU [(1000000,18),(1000001,601),(1000002,602)] (w1 18 601 602 [o8 (l.length:Nat)]) (p1) O O V17 V16 O O O O V23 dS ?_;refine U9 ?_)
  refine cL (fun m σ=>∃ i:Nat,i≤l.length∧m=l.length-i∧(∀ x∈l.take i,plainI x=true)∧σ=enSt (some ⟨ρ.1,0,none⟩) ad l.length rcap cap i (o8 (l.length:Nat)::encIs (l.take i)) Y) l.length
   ⟨enSt (some ⟨ρ.1,0,none⟩) ad l.length rcap cap 0 (o8 (l.length:Nat)::encIs (l.take 0)) Y,Le.ofR [(500,602)] V10 V1 V2 V2 V0 V2 V2,0,Nat.zero_le _,rfl,fun x hx=>absurd hx V21,rfl⟩ ?_
  rintro m σ ⟨i,hi,rfl,hpl,rfl⟩
  have hBl:=encIs_len (l.take i)
  rw [dA] at hBl
  by_cases hlt:i<l.length
  ·obtain ⟨x,hx⟩:=wg hlt
   have hmem:=dE hx
   have hsx:=hin.small x hmem
   have hok:=hall x hmem
   obtain ⟨rblk,roff,rarr,rel,rfr,dv,hrad,hXr,hszr,hcsr,hDv⟩:=hrows.at hx
   simp only [Option.some.injEq,Addr.mk.injEq] at hrad
   obtain ⟨rfl,rfl,_⟩:=hrad
   obtain ⟨g,gcaps,egv,_⟩:=id hDv
   subst egv
   obtain ⟨blk,off,arr,el,fr,rfl,hX,hsz,hcs,hop⟩:=hin.at hx
   have hio:=wo off i 6
   have hior:=wo 0 i 6
   have hin0:0≤(i:Int)∧(i:Int)<(l.length:Nat):=by omega
   have hO:=tOnly Y x hsx
   cases hp:plainI x with
   | false =>
    have he:encErr l=1:=by
     unfold encErr
     rw [if_pos h,if_neg]
     intro ha
     have:=List.all_eq_true.1 ha x hmem
     rw [hp] at this
     cases this
    rw [show encTX l=[] by unfold encTX;rw [he];rfl,he]
    rw [hp] at hO
    (refine U20 ?_;refine rgD mixed ?_;refine U1 ?_;refine bJ O O O O dS ?_;refine U15 ?_)
    exact V1E
   | true =>
    rw [hp] at hO
    have hnext:o8 (l.length:Nat)::encIs (l.take (i+1))=(o8 (l.length:Nat)::encIs (l.take i))++encI x:=by
     rw [List.take_add_one,hx,encIs_app]
     simp [encIs]
    have q:=ePutIns Y (o8 (l.length:Nat)::encIs (l.take i)) x hsx hok (by rw [dJ];omega)
    rw [← hnext] at q
    have hinc:=wi i V3
    (refine U20 ?_;refine rgD mixed ?_;refine U1 ?_;refine bJ O O O O dS ?_;refine U10 ?_;refine rgD mixed ?_;refine U2 ?_;refine bJ O O O O dS ?_;refine U4 ?_;refine aU [(1000000,18),(1000001,601),(1000002,500),(1000003,605)] (w1 18 601 605 (o8 (l.length:Nat)::encIs (l.take (i+1)))++[(500,none)]) (q) O O VD (by exact (bT (bT O (bT O O)) (bT (bT O O) (bT (bT O bytes_inUse) O)))) O O O O V12 dS ?_;refine U6 ?_)
    exact ⟨_,enSt (some ⟨ρ.1,0,none⟩) (some ⟨blk,off,none⟩) l.length rcap cap (i+1) (o8 (l.length:Nat)::encIs (l.take (i+1))) Y,by omega,Le.ofR [(500,605)] V10 V1 V2 V2 V0 V2 V2,i+1,by omega,O,(fun y hy=>by
     rw [List.take_add_one,hx] at hy
     rcases List.mem_append.1 hy with hy|hy
     ·exact hpl y hy
     ·simp only [Option.toList_some,List.mem_singleton] at hy;rw [hy];exact hp),rfl⟩
  ·have e:i=l.length:=by omega
   subst e
   rw [dG] at hpl
   have he:encErr l=0:=by
    unfold encErr
    rw [if_pos h,if_pos (List.all_eq_true.2 hpl)]
   rw [show encTX l=o8 (l.length:Nat)::encIs l by unfold encTX;rw [if_pos he];rfl,he,dG]
   have q:=String_1 Y (o8 (l.length:Nat)::encIs l)
   (refine U10 ?_;refine aU [(1000000,18),(1000001,601),(1000002,500)] (w1 18 601 500 (o8 (l.length:Nat)::encIs l)) (q) O O VD (by exact (bT (bT O (bT O O)) (bT (bT O O) (bT (bT O bytes_inUse) O)))) O O O O (by exact (.box O O (.box O O (.box O (Box.ren_bytes _ _ _ _) .nil)))) dS ?_;refine U4 ?_)
   exact V1E
 ·rw [(rs_no h).1,(rs_no h).2] at hR
  have he:encErr l=chkX l:=if_neg h
  rw [show encTX l=[] by unfold encTX;rw [he,if_neg h],he]
  (refine U8 ?_;refine aU [] [] (hR) O O VC O O O O O V2B dS ?_;refine U10 ?_;refine kne O O (r:=true) (cU h) ?_;refine U9 ?_)
  exact V1E
end Go.Proofs.YtopiioklkkiedaaGreatDoor
end
section
set_option maxHeartbeats 12800000
set_option maxRecDepth 100000
namespace Go.Proofs.YtopiioklkkiedaaGreatDoor
open Go Go.Lg Go.Lg.Fml Go.Lg.Fld Go.Lg.Arith
set_option maxRecDepth 100000
def eS:List UInt8×Bool→UInt8×List UInt8×Bool
 | (c::t,false)=>(c,t,false)
 | (l,_)=>(0,l,true)
def eW:List UInt8×Bool→Nat×List UInt8×Bool
 | (l,b)=>if b=false∧8≤l.length then (le (l.take 8),l.drop 8,false) else (0,l,true)
def eN (x:List UInt8×Bool):(Nm×Bool)×List UInt8×Bool:=
 if 1<(eS x).1.toNat then (((false,0),false),(eS x).2)
 else (((decide ((eS x).1.toNat=1),(((eW (eS x).2).1+18446744073709551616*(eW (eW (eS x).2).2).1:Nat):Int)),true),(eW (eW (eS x).2).2).2)
def Lss (x y:List UInt8×Bool):Prop:=y.1.length≤x.1.length∧(x.2=true→y.2=true)
variable (X:Nat→Option Obj)
end Go.Proofs.YtopiioklkkiedaaGreatDoor
end
section
set_option maxHeartbeats 12800000
set_option maxRecDepth 100000
namespace Go.Proofs.YtopiioklkkiedaaGreatDoor
open Go Go.Lg Go.Lg.Fml Go.Lg.Fld Go.Lg.Arith
set_option maxRecDepth 100000
variable (X:Nat→Option Obj)
abbrev usSt (ad:Option Addr) (n cap i:Nat) (q:List Ins) (r:Bool) (Y:Nat→Option Obj):St:=
 ⟨[(0,Lx ad n cap),(3,.sv (.one (.slc 500 0 q.length 6))),(7,Lx ad n cap),(8,Ln .i64 (n:Nat)),(9,Ln .i64 (i:Nat))],[(500,some ⟨88,(inssV q).map .val,r⟩)],Y⟩
theorem uses_take {l:List Ins} {i:Nat} {x:Ins} (hx:l[i]? = some x):usesX (l.take (i+1))=if (x.op==2||x.op==3)=true then usesX (l.take i)++[x] else usesX (l.take i):=by
 unfold usesX
 rw [List.take_add_one,hx,List.filter_append]
 simp only [Option.toList_some,List.filter_cons,List.filter_nil]
 split<;>simp
theorem uses_le (l:List Ins):(usesX l).length≤l.length:=List.length_filter_le _ _
set_option maxHeartbeats 6400000 in
theorem gUses' (l:List Ins) (ad:Option Addr) (cap:Nat) (hin:InsIn X ad l) (hl:l.length≤1000):MSpec Tryz.prog X 140 [Lx ad l.length cap] [] (.sv (.one (.slc 1000001 0 (usesX l).length 6))) [(1000001,some ⟨88,(inssV (usesX l)).map .val,true⟩)]:=by
 refine cG Tryz.func140 rfl V5 rfl V7 V7 rfl rfl ?_
 intro C
 refine LWP.ends ?_
 (refine U6 ?_;refine aZ (zs:=[]) (sz:=6) (e:=88) V5 O O O O O O dS ?_;refine U10 ?_)
 refine cL (fun m σ=>∃ (i:Nat) (r:Bool),i≤l.length∧m=l.length-i∧σ=usSt ad l.length cap i (usesX (l.take i)) r X) l.length
  ⟨usSt ad l.length cap 0 (usesX (l.take 0)) false X,Le.ofR [(500,6)] V10 V1 V2 V2 V0 V2 V2,0,false,by omega,by omega,rfl⟩ ?_
 rintro m σ ⟨i,r,hi,rfl,rfl⟩
 by_cases hlt:i<l.length
 ·obtain ⟨x,hx⟩:=wg hlt
  obtain ⟨blk,off,arr,el,fr,rfl,hX,hsz,hcs,hop⟩:=hin.at hx
  have hio:=wo off i 6
  have hin0:0≤(i:Int)∧(i:Int)<(l.length:Nat):=by omega
  have hut:=uses_take hx
  have hul:=uses_le (l.take i)
  rw [dA] at hul
  have hinc:=wi i V3
  by_cases h2:x.op=2
  ·rw [if_pos (by rw [cV h2];rfl)] at hut
   generalize usesX (l.take i)=q at *
   have hcl:=inssV_len q
   have hnc:(inssV q).map CV.val++(insV x).map CV.val=(inssV (q++[x])).map CV.val:=inssV_snoc q x rfl
   have hnl:q.length+1=(q++[x]).length:=by rw [cW];rfl
   (refine U20 ?_;refine keq O O (r:=true) (cV h2) ?_;refine U10 ?_;refine aZ (zs:=[Value.int .i64 0,.int .i64 0,.int .i64 0,.bool false,.int .u64 0,.int .u64 0]) (sz:=6) (e:=88) (cs':=(insV x).map .val) V5 O O O O O O dS<|bQ (by_:=48) (e2:=88) (l2:=(insV x).map .val) (nl:=(q++[x]).length) (nc:=(inssV (q++[x])).map .val) O O hcl O O (dO _) O O V5 V5 V3 V3 O hnl hnc dS ?_;refine U6 ?_)
   exact ⟨_,usSt (some ⟨blk,off,none⟩) l.length cap (i+1) (q++[x]) true X,by omega,Le.ofR [(500,24)] V10 V1 V2 V2 V0 V2 V2,i+1,true,by omega,rfl,by rw [hut]⟩
  ·by_cases h3:x.op=3
   ·rw [if_pos (by rw [cV h3,Bool.or_true])] at hut
    generalize usesX (l.take i)=q at *
    have hcl:=inssV_len q
    have hnc:(inssV q).map CV.val++(insV x).map CV.val=(inssV (q++[x])).map CV.val:=inssV_snoc q x rfl
    have hnl:q.length+1=(q++[x]).length:=by rw [cW];rfl
    (refine U20 ?_;refine keq O O (r:=false) (cS h2) ?_;refine U3 ?_;refine bC O O (r:=true) (cV h3) (dT O O) ?_;refine U6 ?_;refine aZ (zs:=[Value.int .i64 0,.int .i64 0,.int .i64 0,.bool false,.int .u64 0,.int .u64 0]) (sz:=6) (e:=88) (cs':=(insV x).map .val) V5 O O O O O O dS<|bQ (by_:=48) (e2:=88) (l2:=(insV x).map .val) (nl:=(q++[x]).length) (nc:=(inssV (q++[x])).map .val) O O hcl O O (dO _) O O V5 V5 V3 V3 O hnl hnc dS ?_;refine U6 ?_)
    exact ⟨_,usSt (some ⟨blk,off,none⟩) l.length cap (i+1) (q++[x]) true X,by omega,Le.ofR [(500,24)] V10 V1 V2 V2 V0 V2 V2,i+1,true,by omega,rfl,by rw [hut]⟩
   ·rw [if_neg (by rw [cS h2,cS h3];decide)] at hut
    generalize usesX (l.take i)=q at *
    (refine U20 ?_;refine keq O O (r:=false) (cS h2) ?_;refine U3 ?_;refine bC O O (r:=false) (cS h3) (dT O O) ?_;refine U8 ?_)
    exact ⟨_,usSt (some ⟨blk,off,none⟩) l.length cap (i+1) q r X,by omega,Le.of V10 V13 V2 V2 V0,i+1,r,by omega,rfl,by rw [hut]⟩
 ·have e:i=l.length:=by omega
  subst e
  rw [dG]
  refine U13 ?_
  refine cE (σ':=⟨[(2,.sv (.one (.slc 500 0 (usesX l).length 6)))],[(500,some ⟨88,(inssV (usesX l)).map .val,r⟩)],X⟩) (Le.of V13 V13 V2 V2 V0) ?_
  refine cE Le.loose (cD ?_)
  exact ⟨[(1000001,500)],⟨[_],⟨O,trivial⟩,O⟩,V1,O,O⟩
end Go.Proofs.YtopiioklkkiedaaGreatDoor
end
section
set_option maxHeartbeats 12800000
set_option maxRecDepth 100000
namespace Go.Proofs.YtopiioklkkiedaaGreatDoor
open Go Go.Lg Go.Lg.Fml Go.Lg.Fld Go.Lg.Arith
set_option maxRecDepth 100000
variable (X:Nat→Option Obj)
theorem gCheck (l:List Ins) (ad:Option Addr) (cap:Nat) (hin:InsIn X ad l) (hl:l.length<1152921504606846976):PSpec Tryz.prog X 139 [Lx ad l.length cap] (Ln .i64 (chkX l)):=by
 exact gCheck' X l ad cap hin hl
theorem gEval (l:List Ins) (ad:Option Addr) (cap:Nat) (hin:InsIn X ad l) (hbig:l.length<1152921504606846976) (fad:Option Addr) (fcap:Nat) (fs:List (List Nm)) (hfs:FssIn X fad fs) (hfl:fs.length<4611686018427387904) (hrl:∀ r∈fs,r.length<4611686018427387904) (hf2:∀ r∈fs,∀ u∈r,In2 u.2) (at_:Int) (hat : -9223372036854775808≤at_∧at_<9223372036854775808):
  PSpec Tryz.prog X 70 [Lx ad l.length cap,LEnv fad fs.length fcap at_] (exR (evX l fs at_)):=by
 exact gEval' X l ad cap hin hbig fad fcap fs at_ ⟨hfs,hfl,hrl,hat⟩ hf2
end Go.Proofs.YtopiioklkkiedaaGreatDoor
end
section
set_option maxHeartbeats 12800000
set_option maxRecDepth 100000
namespace Go.Proofs.YtopiioklkkiedaaGreatDoor
open Go Go.Lg Go.Lg.Fml Go.Lg.Fld Go.Lg.Arith
set_option maxRecDepth 100000
variable (X:Nat→Option Obj)
def sizeB (rs:List Rl):Prop := ∀ r∈rs,r.ex.length<9223372036854775808∧∀ c∈r.ex,c.length<9223372036854775808
def grtR (r:Rl):Bool:=decide (12<r.ex.length)||r.ex.any fun c=>decide (80<c.length)
def grtP (rs:List Rl):Bool:=decide (30<rs.length)||rs.any grtR
theorem grtP_false {rs:List Rl} (h:grtP rs=false):rs.length≤30∧∀ r∈rs,r.ex.length≤12∧∀ c∈r.ex,c.length≤80:=by
 unfold grtP at h
 rw [Bool.or_eq_false_iff,decide_eq_false_iff_not] at h
 refine ⟨by omega,fun r hr => ?_⟩
 have h1:grtR r=false:=by have:=List.any_eq_false.1 h.2 r hr;simpa using this
 unfold grtR at h1
 rw [Bool.or_eq_false_iff,decide_eq_false_iff_not] at h1
 refine ⟨by omega,fun c hc => ?_⟩
 have:=List.any_eq_false.1 h1.2 c hc
 simpa using this
end Go.Proofs.YtopiioklkkiedaaGreatDoor
end
