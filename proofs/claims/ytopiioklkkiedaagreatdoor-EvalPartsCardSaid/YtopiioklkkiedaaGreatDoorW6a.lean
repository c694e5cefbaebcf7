/- A piece of a proof over this program: contracts of its functions, and a logic to prove them by. -/
import Derived.Test.YtopiioklkkiedaaGreatDoorW3
import Derived.Test.YtopiioklkkiedaaGreatDoorW4
import Derived.Test.YtopiioklkkiedaaGreatDoorW5
import Derived.Lib.Walk
import Derived.Lib.ItoaMem
import Derived.Lib.AppendIntMem
import Derived.WalkKit
import Derived.BigCall
import Derived.BigGuard
import Derived.Lib.Join
section
set_option maxHeartbeats 12800000
set_option maxRecDepth 100000
namespace Go.Proofs.YtopiioklkkiedaaGreatDoor
open Go Go.Lg Go.Lg.Arith Go.Lg.Dec Go.Lg.Dig Go.RowKit
variable (X:Nat→Option Obj)
theorem Do_bad (op:Int) (a b:Bool) (M N:Int) (hM:In2 M) (hN:In2 N) (hf:(formB a M&&formB b N)=false):PSpec Tryz.prog X 152 [Ln .i64 op,LI a M,LI b N] (.tup [S0,Sn .i64 1]):=by
 have hF1:=Good_spec X a M hM _ rfl
 have hF2:=Good_spec X b N hN _ rfl
 refine cF Tryz.func152 rfl V5 rfl rfl ?_
 intro C
 by_cases h1:formB a M=true
 ·have h2:formB b N=false:=by rw [h1] at hf;simpa using hf
  rw [h1] at hF1
  rw [h2] at hF2
  refine U41 ?_
  exact V4
 ·have h1:formB a M=false:=by simpa using h1
  rw [h1] at hF1
  refine U41 ?_
  exact V4
theorem Do_2 (x y:Int) (hx:R127 x) (hy:R127 y) (z:Int) (hz:(if 2=1 then x+y else x-y)=z):PSpec Tryz.prog X 152 [Ln .i64 2,LQ x,LQ y] (addR z):=by
 have hF1:=Good_spec X _ _ (mg_in2 hx) true (formB_q hx)
 have hF2:=Good_spec X _ _ (mg_in2 hy) true (formB_q hy)
 have f1:=From_q X x hx
 have f2:=From_q X y hy
 obtain ⟨s,n,hA,hv,hn⟩:=Sum_any X (decide (x<0)) (if 2=1 then decide (y<0) else !decide (y<0)) (mg x).toNat (mg y).toNat (mg_128 hx) (mg_128 hy)
 have hv':zv s (n:Nat)=z:=by
  rw [hv,← hz]
  first
   | (show zv (decide (x<0)) _+zv (decide (y<0)) _=x+y;rw [zv_q,zv_q])
   | (show zv (decide (x<0)) _+zv (!decide (y<0)) _=x-y;rw [zv_not,zv_q,zv_q];omega)
 have hT:=To_spec X s n hn
 by_cases hr:R127 z
 ·rw [toR_in hv' hr] at hT
  rw [addR_in hr]
  refine cF Tryz.func152 rfl V5 rfl rfl ?_
  intro C
  ((refine U41 ?_);(refine U38 ?_;refine bG O O O O num_blt0 num_sign dS ?_;refine U4 ?_);(refine U29 ?_))
  exact V4
 ·rw [toR_out hv' hr] at hT
  rw [addR_out hr]
  refine cF Tryz.func152 rfl V5 rfl rfl ?_
  intro C
  ((refine U41 ?_);(refine U38 ?_;refine bG O O O O num_blt0 num_sign dS ?_;refine U4 ?_);(refine U28 ?_))
  exact V4
theorem Do_zero4 (x y:Int) (hx:R127 x) (hy:R127 y) (h0:y=0):PSpec Tryz.prog X 152 [Ln .i64 4,LQ x,LQ y] (.tup [S0,Sn .i64 1]):=by
 have hF1:=Good_spec X _ _ (mg_in2 hx) true (formB_q hx)
 have hF2:=Good_spec X _ _ (mg_in2 hy) true (formB_q hy)
 have m0:mg y=0:=by subst h0;rfl
 refine cF Tryz.func152 rfl V5 rfl rfl ?_
 intro C
 refine U41 ?_
 exact V4
theorem Do_4 (x y:Int) (hx:R127 x) (hy:R127 y) (h0:y≠0) (z:Int) (hz:(if 4=4 then x.tdiv y else x.tmod y)=z) (hr:R127 z):PSpec Tryz.prog X 152 [Ln .i64 4,LQ x,LQ y] (.tup [SQ z,Sn .i64 0]):=by
 have hF1:=Good_spec X _ _ (mg_in2 hx) true (formB_q hx)
 have hF2:=Good_spec X _ _ (mg_in2 hy) true (formB_q hy)
 have f1:=From_q X x hx
 have f2:=From_q X y hy
 have m0:=mg_zero h0
 have hx0:=mg_nonneg x
 have b1:=mg_128 hx
 have b2:=mg_128 hy
 obtain ⟨q1,q2⟩:=zv_quo x y h0
 have hA:=Parted_spec X (decide (x<0)) (decide (y<0)) (mg x).toNat (mg y).toNat (lim40 b1) V3 b2
 have e1:(((mg x).toNat/(mg y).toNat:Nat):Int)=mg x/mg y:=by rw [Int.natCast_ediv,mg_nat,mg_nat]
 have e2:(((mg x).toNat%(mg y).toNat:Nat):Int)=mg x%mg y:=by rw [Int.natCast_emod,mg_nat,mg_nat]
 have l1:(mg x).toNat/(mg y).toNat≤(mg x).toNat:=Nat.div_le_self _ _
 have l2:(mg x).toNat%(mg y).toNat<(mg y).toNat:=Nat.mod_lt _ V3
 have hT:=To_spec X (if 4=4 then decide (x<0) != decide (y<0) else decide (x<0)) (if 4=4 then (mg x).toNat/(mg y).toNat else (mg x).toNat%(mg y).toNat) (lim40 (by split<;>omega))
 have hv:zv (if 4=4 then decide (x<0) != decide (y<0) else decide (x<0)) ((if 4=4 then (mg x).toNat/(mg y).toNat else (mg x).toNat%(mg y).toNat:Nat):Int)=z:=by
  rw [← hz]
  first
   | (show zv (decide (x<0) != decide (y<0)) (((mg x).toNat/(mg y).toNat:Nat):Int)=x.tdiv y;rw [e1];exact q1)
   | (show zv (decide (x<0)) (((mg x).toNat%(mg y).toNat:Nat):Int)=x.tmod y;rw [e2];exact q2)
 rw [toR_in hv hr] at hT
 refine cF Tryz.func152 rfl V5 rfl rfl ?_
 intro C
 by_cases zh:mg y/18446744073709551616=0
 ·((refine U30 ?_);(refine U24 ?_);(refine U46 ?_);(refine U3 ?_;refine K.neqB O O O dS ?_;refine U1 ?_;refine bG O O O O num_blt0 num_sign dS ?_;refine U34 ?_))
  exact V4
 ·((refine U35 ?_);(refine U44 ?_);(refine U24 ?_;refine K.neqB O O O dS ?_;refine U1 ?_;refine bG O O O O num_blt0 num_sign dS ?_;refine U7 ?_);(refine U27 ?_))
  exact V4
theorem Do_zero5 (x y:Int) (hx:R127 x) (hy:R127 y) (h0:y=0):PSpec Tryz.prog X 152 [Ln .i64 5,LQ x,LQ y] (.tup [S0,Sn .i64 1]):=by
 have hF1:=Good_spec X _ _ (mg_in2 hx) true (formB_q hx)
 have hF2:=Good_spec X _ _ (mg_in2 hy) true (formB_q hy)
 have m0:mg y=0:=by subst h0;rfl
 refine cF Tryz.func152 rfl V5 rfl rfl ?_
 intro C
 refine U41 ?_
 exact V4
theorem Do_5 (x y:Int) (hx:R127 x) (hy:R127 y) (h0:y≠0) (z:Int) (hz:(if 5=4 then x.tdiv y else x.tmod y)=z) (hr:R127 z):PSpec Tryz.prog X 152 [Ln .i64 5,LQ x,LQ y] (.tup [SQ z,Sn .i64 0]):=by
 have hF1:=Good_spec X _ _ (mg_in2 hx) true (formB_q hx)
 have hF2:=Good_spec X _ _ (mg_in2 hy) true (formB_q hy)
 have f1:=From_q X x hx
 have f2:=From_q X y hy
 have m0:=mg_zero h0
 have hx0:=mg_nonneg x
 have b1:=mg_128 hx
 have b2:=mg_128 hy
 obtain ⟨q1,q2⟩:=zv_quo x y h0
 have hA:=Parted_spec X (decide (x<0)) (decide (y<0)) (mg x).toNat (mg y).toNat (lim40 b1) V3 b2
 have e1:(((mg x).toNat/(mg y).toNat:Nat):Int)=mg x/mg y:=by rw [Int.natCast_ediv,mg_nat,mg_nat]
 have e2:(((mg x).toNat%(mg y).toNat:Nat):Int)=mg x%mg y:=by rw [Int.natCast_emod,mg_nat,mg_nat]
 have l1:(mg x).toNat/(mg y).toNat≤(mg x).toNat:=Nat.div_le_self _ _
 have l2:(mg x).toNat%(mg y).toNat<(mg y).toNat:=Nat.mod_lt _ V3
 have hT:=To_spec X (if 5=4 then decide (x<0) != decide (y<0) else decide (x<0)) (if 5=4 then (mg x).toNat/(mg y).toNat else (mg x).toNat%(mg y).toNat) (lim40 (by split<;>omega))
 have hv:zv (if 5=4 then decide (x<0) != decide (y<0) else decide (x<0)) ((if 5=4 then (mg x).toNat/(mg y).toNat else (mg x).toNat%(mg y).toNat:Nat):Int)=z:=by
  rw [← hz]
  first
   | (show zv (decide (x<0) != decide (y<0)) (((mg x).toNat/(mg y).toNat:Nat):Int)=x.tdiv y;rw [e1];exact q1)
   | (show zv (decide (x<0)) (((mg x).toNat%(mg y).toNat:Nat):Int)=x.tmod y;rw [e2];exact q2)
 rw [toR_in hv hr] at hT
 refine cF Tryz.func152 rfl V5 rfl rfl ?_
 intro C
 by_cases zh:mg y/18446744073709551616=0
 ·((refine U30 ?_);(refine U24 ?_);(refine U46 ?_);(refine U3 ?_;refine K.neqB O O O dS ?_;refine U1 ?_;refine bG O O O O num_blt0 num_sign dS ?_;refine U16 ?_;refine bG O O O O num_blt0 num_sign dS ?_;refine U20 ?_);(refine U7 ?_))
  exact V4
 ·((refine U35 ?_);(refine U44 ?_);(refine U24 ?_;refine K.neqB O O O dS ?_;refine U1 ?_;refine bG O O O O num_blt0 num_sign dS ?_;refine U7 ?_);(refine U9 ?_;refine bG O O O O num_blt0 num_sign dS ?_;refine U27 ?_))
  exact V4
end Go.Proofs.YtopiioklkkiedaaGreatDoor
end
section
set_option maxHeartbeats 12800000
set_option maxRecDepth 100000
namespace Go.Proofs.YtopiioklkkiedaaGreatDoor
open Go Go.Lg Go.Lg.Arith Go.Lg.Dec Go.RowKit
theorem parts_facts {x y:Int} (hx:R127 x) (hy:R127 y) (h0:y≠0):
  R127 (x.tdiv y)∧R127 (x.tmod y)∧R127 (x.tdiv y*y)∧x.tdiv y*y+x.tmod y=x∧mg (x.tmod y)<mg y∧(x.tmod y<0→x<0)∧(0<x.tmod y→0<x):=by
 obtain ⟨h1,h2⟩:=zv_quo x y h0
 have hB:=mg_zero h0
 have hA0:=mg_nonneg x
 have hR0:=Int.emod_nonneg (mg x) (show mg y≠0 by omega)
 have hR1:=Int.emod_lt_of_pos (mg x) hB
 have hQ0:=Int.ediv_nonneg hA0 (Int.le_of_lt hB)
 have hQ1:=Int.ediv_le_self (mg y) hA0
 have hE:=Int.emod_add_mul_ediv (mg x) (mg y)
 have hT0:=Int.mul_nonneg hQ0 (Int.le_of_lt hB)
 rw [Int.mul_comm (mg y) (mg x/mg y)] at hE
 rw [← h1,← h2]
 have key:zv (decide (x<0) != decide (y<0)) (mg x/mg y)*y=zv (decide (x<0)) (mg x/mg y*mg y):=by
  by_cases cy:y<0
  ·have hy':mg y = -y:=mg_neg cy
   generalize mg x/mg y=Q
   by_cases cx:x<0<;>simp only [cx,cy,decide_true,decide_false,zv,bne_self_eq_false,Bool.false_bne,if_true,if_false,Bool.false_eq_true]
   ·rw [hy',Int.mul_neg,Int.neg_neg]
   ·rw [hy',Int.mul_neg,Int.neg_mul]
  ·have hy':mg y=y:=mg_pos V3
   generalize mg x/mg y=Q
   by_cases cx:x<0<;>simp only [cx,cy,decide_true,decide_false,zv,bne_self_eq_false,Bool.true_bne,Bool.not_false,if_true,if_false,Bool.false_eq_true]
   ·rw [hy',Int.neg_mul]
   ·rw [hy']
 have zR:∀ (b:Bool) (n:Int),0≤n→n<170141183460469231731687303715884105728→R127 (zv b n):=by
  intro b n h1 h2
  unfold R127 zv
  cases b<;>simp only [if_true,if_false,Bool.false_eq_true]<;>omega
 have hlx:=mg_lim hx
 have hly:=mg_lim hy
 rw [key]
 generalize mg x/mg y*mg y=T at *
 generalize mg x/mg y=Q at *
 generalize mg x%mg y=R at *
 refine ⟨zR _ _ hQ0 V3,zR _ _ hR0 V3,zR _ _ hT0 V3,?_,?_,?_,?_⟩
 ·by_cases cx:x<0
  ·rw [cP cx]
   have:=mg_neg cx
   show -T + -R=x
   omega
  ·rw [cO cx]
   have:=mg_pos (Int.not_lt.1 cx)
   show T+R=x
   omega
 ·by_cases cx:x<0
  ·rw [cP cx]
   show mg (-R)<mg y
   by_cases c:R=0
   ·subst c;exact hB
   ·rw [mg_neg (z := -R) V3];omega
  ·rw [cO cx]
   show mg R<mg y
   rw [mg_pos hR0];exact hR1
 ·intro h
  by_cases cx:x<0
  ·exact cx
  ·rw [cO cx] at h
   have h:R<0:=h
   omega
 ·intro h
  by_cases cx:x<0
  ·rw [cP cx] at h
   have h:0 < -R:=h
   omega
  ·rw [cO cx] at h
   have h:0<R:=h
   have:=mg_pos (Int.not_lt.1 cx)
   omega
end Go.Proofs.YtopiioklkkiedaaGreatDoor
end
section
set_option maxHeartbeats 12800000
set_option maxRecDepth 100000
namespace Go.Proofs.YtopiioklkkiedaaGreatDoor
open Go Go.Lg Go.Lg.Fml Go.Lg.Fld Go.Lg.Arith
set_option maxRecDepth 100000
variable (X:Nat→Option Obj)
def exR:Except Int Nm→LV
 | .ok v=>.tup [SI v.1 v.2,Sn .i64 0]
 | .error e=>.tup [S0,Sn .i64 e]
theorem SI_small {b:Bool} {n:Int} (h:0≤n∧n<18446744073709551616):SI b n = .agg [.val (.bool b),.val (.int .u64 0),.val (.int .u64 n)]:=by
 unfold SI
 rw [show n/18446744073709551616=0 by omega,show n%18446744073709551616=n by omega]
theorem NumsIn.all {X:Nat→Option Obj} {ad:Option Addr} {ns:List Nm} (h:NumsIn X ad ns) (hpos:0<ns.length):
  ∃ (blk off:Nat) (arr:Array Value) (el:TypeId) (fr:Nat×Nat),ad=some ⟨blk,off,none⟩∧X blk=some (.cells arr el fr)∧∀ i b N,ns[i]? = some (b,N)→In2 N∧off+i*3+3≤arr.size∧((arr.toList.drop (off+i*3)).take 3).map CV.val=cI b N:=by
 obtain ⟨_,blk,off,arr,el,fr,rfl,hX,_,_⟩:=h.at (i:=0) (b:=(ns[0]'hpos).1) (N:=(ns[0]'hpos).2) (cY hpos)
 refine ⟨blk,off,arr,el,fr,O,hX,fun i b N hi => ?_⟩
 obtain ⟨h1,blk',off',arr',el',fr',h2,h3,h4,h5⟩:=h.at hi
 simp only [Option.some.injEq,Addr.mk.injEq] at h2
 obtain ⟨rfl,rfl,_⟩:=h2
 rw [hX] at h3
 simp only [Option.some.injEq,Obj.cells.injEq] at h3
 obtain ⟨rfl,_,_⟩:=h3
 exact ⟨h1,h4,h5⟩
theorem rTruth_spec (b:Bool):PSpec Tryz.prog X 153 [Lb b] (exR (.ok (truth b))):=by
 cases b with
 | true =>
  refine cF Tryz.func153 rfl V5 rfl rfl ?_
  intro C
  refine U18 ?_
  exact V4
 | false =>
  refine cF Tryz.func153 rfl V5 rfl rfl ?_
  intro C
  refine U19 ?_
  exact V4
theorem gd_q {u:Nm} (h:gd u=true) (hu:In2 u.2):LI u.1 u.2=LQ (zz u)∧R127 (zz u):=⟨LI_q hu h,(zv_in hu h).1⟩
theorem rDo_spec (op:Int) (ho:5≤op∧op≤9) (k:Int) (hk:op-4=k) (u v:Nm) (hu:In2 u.2) (hv:In2 v.2):PSpec Tryz.prog X 152 [Ln .i64 k,LI u.1 u.2,LI v.1 v.2] (exR (doX op u v)):=by
 cases hg:(gd u&&gd v) with
 | false =>
  rw [doX_bad hg]
  exact Do_bad X k u.1 v.1 u.2 v.2 hu hv hg
 | true =>
  obtain ⟨gu,gv⟩:=Bool.and_eq_true_iff.1 hg
  obtain ⟨e1,r1⟩:=gd_q gu hu
  obtain ⟨e2,r2⟩:=gd_q gv hv
  rw [e1,e2]
  unfold doX
  rw [hg,if_neg (by decide)]
  generalize zz u=x at *
  generalize zz v=y at *
  have fin:∀ z,R127 z→(if R127 z then Except.ok (qn z) else Except.error 3:Except Int Nm) = .ok (qn z):=fun z h=>if_pos h
  have fadd:∀ z,addR z=exR (if R127 z then Except.ok (qn z) else Except.error 3:Except Int Nm):=fun z=>by
   by_cases h:R127 z
   ·rw [addR_in h,if_pos h];rfl
   ·rw [addR_out h,if_neg h];rfl
  rcases (show op=5∨op=6∨op=7∨op=8∨op=9 by omega) with rfl|rfl|rfl|rfl|rfl<;>subst hk
  ·rw [if_neg V3]
   have:=Do_1 X x y r1 r2 (x+y) rfl
   rw [fadd] at this
   exact this
  ·rw [if_neg V3]
   have:=Do_2 X x y r1 r2 (x-y) rfl
   rw [fadd] at this
   exact this
  ·rw [if_neg V3]
   have:=Do_3 X x y r1 r2
   rw [fadd] at this
   exact this
  ·by_cases h0:y=0
   ·rw [if_pos ⟨by decide,h0⟩]
    exact Do_zero4 X x y r1 r2 h0
   ·rw [if_neg (fun h=>h0 h.2)]
    have hq:=(parts_facts r1 r2 h0).1
    rw [show arith 8 x y=x.tdiv y from rfl,fin _ hq]
    exact Do_4 X x y r1 r2 h0 _ O hq
  ·by_cases h0:y=0
   ·rw [if_pos ⟨by decide,h0⟩]
    exact Do_zero5 X x y r1 r2 h0
   ·rw [if_neg (fun h=>h0 h.2)]
    have hq:=(parts_facts r1 r2 h0).2.1
    rw [show arith 9 x y=x.tmod y from rfl,fin _ hq]
    exact Do_5 X x y r1 r2 h0 _ O hq
set_option maxHeartbeats 6400000 in
theorem rLeaf_spec (x:Ins) (hx:smallI x) (hok:okI x=true) (ht:takes x.op=0) (fad:Option Addr) (fcap:Nat) (fs:List (List Nm)) (hfs:FssIn X fad fs) (hfl:fs.length<4611686018427387904) (hrl:∀ r∈fs,r.length<4611686018427387904) (at_:Int) (hat : -9223372036854775808≤at_∧at_<9223372036854775808):
  PSpec Tryz.prog X 110 [LIn x,Lx fad fs.length fcap,Ln .i64 at_] (exR (leafX fs at_ x)):=by
 obtain ⟨h17,hgk,ha7,hb7⟩:=okI_facts hok
 obtain ⟨op,a,b,k⟩:=x
 simp only at h17 hgk ha7 hb7 ht hx
 have h4:op=1∨op=2∨op=3∨op=4:=by
  unfold takes at ht
  split at ht
  ·omega
  ·split at ht
   ·omega
   ·split at ht<;>omega
 rcases h4 with rfl|rfl|rfl|rfl
 ·show PSpec _ _ _ _ (exR (.ok k))
  refine cF Tryz.func110 rfl V5 rfl rfl ?_
  intro C
  (refine U17 ?_;refine bJ O O O V28 dS ?_;refine U4 ?_)
  exact V4
 ·show PSpec _ _ _ _ (exR (elemX fs a b))
  by_cases c1:fs.length≤a
  ·have e:elemX fs a b = .error 3:=by
    unfold elemX
    split
    ·rfl
    ·rw [List.getElem?_eq_none V3]
   rw [e]
   refine cF Tryz.func110 rfl V5 rfl rfl ?_
   intro C
   (refine U46 ?_;refine bD O O (cP c1) dS ?_;refine U23 ?_)
   exact V4
  by_cases c2:b<0
  ·have e:elemX fs a b = .error 3:=by unfold elemX;rw [if_pos (.inr c2)]
   rw [e]
   refine cF Tryz.func110 rfl V5 rfl rfl ?_
   intro C
   (refine U46 ?_;refine bD O O (cO c1) dS ?_;refine U2 ?_;refine bK O O (cP c2) (dT O O) ?_;refine U20 ?_)
   exact V4
  obtain ⟨r,hr⟩:∃ r,fs[a.toNat]? = some r:=wg V3
  have hrl:=hrl r (dE hr)
  obtain ⟨blk,off,arr,el,fr,vad,vcap,rfl,hX,hsz,hc,hN⟩:=hfs.at_ _ r hr
  have hio:off+Int.toNat a*1=off+a.toNat:=by omega
  have hia:0≤a∧a<(fs.length:Nat):=by omega
  have he:elemX fs a b=match r[(b).toNat]? with|none=>.error 3|some v=>.ok v:=by
   simp only [elemX,if_neg (show ¬ (a<0∨b<0) by omega),hr]
   cases r[(b).toNat]? <;> rfl
  by_cases c3:r.length≤b
  ·rw [he,List.getElem?_eq_none V3]
   refine cF Tryz.func110 rfl V5 rfl rfl ?_
   intro C
   ((refine U43 ?_);(refine U3 ?_;refine bD O O (cO c1) dS ?_;refine U2 ?_;refine bK O O (cO c2) (dT O O) ?_;refine U9 ?_;refine bD O O (cP c3) (dT O O) ?_;refine U10 ?_))
   exact V4
  obtain ⟨v,hv⟩:∃ v,r[(b).toNat]? = some v:=wg V3
  obtain ⟨vb,vN⟩:=v
  obtain ⟨_,blk2,off2,arr2,el2,fr2,rfl,hX2,hsz2,hcs2⟩:=hN.at hv
  have hib:0≤b∧b<(r.length:Nat):=by omega
  have hio2:off2+Int.toNat (b)*3=off2+(b).toNat*3:=rfl
  rw [he,hv]
  refine cF Tryz.func110 rfl V5 rfl rfl ?_
  intro C
  ((refine U43 ?_);(refine U3 ?_;refine bD O O (cO c1) dS ?_;refine U2 ?_;refine bK O O (cO c2) (dT O O) ?_;refine U9 ?_;refine bD O O (cO c3) (dT O O) ?_;refine U15 ?_);(refine U3 ?_))
  exact V4
 ·show PSpec _ _ _ _ (exR (elemX fs a at_))
  by_cases c1:fs.length≤a
  ·have e:elemX fs a at_ = .error 3:=by
    unfold elemX
    split
    ·rfl
    ·rw [List.getElem?_eq_none V3]
   rw [e]
   refine cF Tryz.func110 rfl V5 rfl rfl ?_
   intro C
   (refine U49 ?_;refine bD O O (cP c1) dS ?_;refine U23 ?_)
   exact V4
  by_cases c2:at_<0
  ·have e:elemX fs a at_ = .error 3:=by unfold elemX;rw [if_pos (.inr c2)]
   rw [e]
   refine cF Tryz.func110 rfl V5 rfl rfl ?_
   intro C
   (refine U49 ?_;refine bD O O (cO c1) dS ?_;refine U2 ?_;refine bK O O (cP c2) (dT O O) ?_;refine U20 ?_)
   exact V4
  obtain ⟨r,hr⟩:∃ r,fs[a.toNat]? = some r:=wg V3
  have hrl:=hrl r (dE hr)
  obtain ⟨blk,off,arr,el,fr,vad,vcap,rfl,hX,hsz,hc,hN⟩:=hfs.at_ _ r hr
  have hio:off+Int.toNat a*1=off+a.toNat:=by omega
  have hia:0≤a∧a<(fs.length:Nat):=by omega
  have he:elemX fs a at_=match r[(at_).toNat]? with|none=>.error 3|some v=>.ok v:=by
   simp only [elemX,if_neg (show ¬ (a<0∨at_<0) by omega),hr]
   cases r[(at_).toNat]? <;> rfl
  by_cases c3:r.length≤at_
  ·rw [he,List.getElem?_eq_none V3]
   refine cF Tryz.func110 rfl V5 rfl rfl ?_
   intro C
   ((refine U49 ?_);(refine bD O O (cO c1) dS ?_;refine U2 ?_;refine bK O O (cO c2) (dT O O) ?_;refine U9 ?_;refine bD O O (cP c3) (dT O O) ?_;refine U10 ?_))
   exact V4
  obtain ⟨v,hv⟩:∃ v,r[(at_).toNat]? = some v:=wg V3
  obtain ⟨vb,vN⟩:=v
  obtain ⟨_,blk2,off2,arr2,el2,fr2,rfl,hX2,hsz2,hcs2⟩:=hN.at hv
  have hib:0≤at_∧at_<(r.length:Nat):=by omega
  have hio2:off2+Int.toNat (at_)*3=off2+(at_).toNat*3:=rfl
  rw [he,hv]
  refine cF Tryz.func110 rfl V5 rfl rfl ?_
  intro C
  ((refine U49 ?_);(refine bD O O (cO c1) dS ?_;refine U2 ?_;refine bK O O (cO c2) (dT O O) ?_;refine U9 ?_;refine bD O O (cO c3) (dT O O) ?_;refine U18 ?_))
  exact V4
 ·by_cases c:at_<0
  ·show PSpec _ _ _ _ (exR (if at_<0 then .error 3 else .ok (false,at_)))
   rw [if_pos c]
   refine cF Tryz.func110 rfl V5 rfl rfl ?_
   intro C
   (refine U27 ?_;refine klt rfl rfl (cP c) ?_;refine U9 ?_)
   exact V4
  ·show PSpec _ _ _ _ (exR (if at_<0 then .error 3 else .ok (false,at_)))
   rw [if_neg c]
   show PSpec _ _ _ _ (.tup [SI false at_,Sn .i64 0])
   rw [SI_small (by omega)]
   have hcv:IntKind.u64.wrap at_=at_:=by rw [IntKind.wrap_u64];omega
   refine cF Tryz.func110 rfl V5 rfl rfl ?_
   intro C
   (refine U27 ?_;refine klt rfl rfl (cO c) ?_;refine U12 ?_)
   exact V4
end Go.Proofs.YtopiioklkkiedaaGreatDoor
end
section
set_option maxHeartbeats 12800000
set_option maxRecDepth 100000
namespace Go.Proofs.YtopiioklkkiedaaGreatDoor
open Go Go.Lg Go.Lg.Fml Go.Lg.Fld Go.Lg.Arith
set_option maxRecDepth 100000
variable (X:Nat→Option Obj)
theorem eqN {b b':Bool} {M N:Int} (hM:In2 M) (hN:In2 N):(b==b'&&(M/18446744073709551616==N/18446744073709551616&&M%18446744073709551616==N%18446744073709551616))=decide (((b,M):Nm)=(b',N)):=by
 by_cases h:b=b'∧M=N
 ·obtain ⟨rfl,rfl⟩:=h
  simp
 ·rw [cO (fun e=>h (by simpa using e))]
  cases hc:(b==b'&&(M/18446744073709551616==N/18446744073709551616&&M%18446744073709551616==N%18446744073709551616)) with
  | false=>rfl
  | true =>
   simp only [Bool.and_eq_true,beq_iff_eq] at hc
   exact absurd ⟨hc.1,by omega⟩ h
theorem eqZ {b:Bool} {M:Int} (hM:In2 M):(b==false&&(M/18446744073709551616==0&&M%18446744073709551616==0))=decide (((b,M):Nm)=(false,0)):=by
 have:=eqN (b:=b) (b':=false) hM (N:=0) (by show 0≤(0:Int)∧(0:Int)<_;omega)
 exact this
theorem cmp_lz {u v:Nm}:decide (cmpI (zz u) (zz v)<0)=decide (zz u<zz v)∧decide (0<cmpI (zz u) (zz v))=decide (zz v<zz u):=by
 unfold cmpI
 by_cases h:zz u<zz v
 ·rw [if_pos h,cP h,cO (show ¬ zz v<zz u by omega)]
  exact V30
 ·rw [if_neg h,cO h]
  by_cases h2:zz v<zz u
  ·rw [if_pos h2,cP h2];exact V30
  ·rw [if_neg h2,cO h2];exact V30
set_option maxHeartbeats 3200000 in
theorem rNode_do (op:Int) (ho:5≤op∧op≤9) (b0:Bool) (M0:Int) (b1:Bool) (M1:Int) (ad:Option Addr) (cap:Nat) (hin:NumsIn X ad [(b0,M0),(b1,M1)]):PSpec Tryz.prog X 112 [Ln .i64 op,Lx ad 2 cap] (exR (nodeX op [(b0,M0),(b1,M1)])):=by
  have hall:=hin.all V2F
  obtain ⟨blk,off,arr,el,fr,rfl,hX,hall⟩:=hall
  obtain ⟨i0,s0,c0⟩:=hall 0 _ _ rfl
  have h0:off+Int.toNat 0*3=off+0*3:=rfl
  have hb0:0≤(0:Int)∧(0:Int)<(2:Nat):=by omega
  obtain ⟨i1,s1,c1⟩:=hall 1 _ _ rfl
  have h1:off+Int.toNat 1*3=off+1*3:=rfl
  have hb1:0≤(1:Int)∧(1:Int)<(2:Nat):=by omega
  have hD:=rDo_spec X op ho (op-4) rfl (b0,M0) (b1,M1) i0 i1
  have hs:IntKind.i64.wrap (op-4)=op-4:=cH V3
  rw [show nodeX op [(b0,M0),(b1,M1)]=doX op (b0,M0) (b1,M1) from if_pos ho]
  cases hd:doX op (b0,M0) (b1,M1) with
  | error e =>
   rw [hd] at hD
   refine cF Tryz.func112 rfl V5 rfl rfl ?_
   intro C
   (refine U12 ?_;refine K.leq O O (cP V3) (dT O O) ?_;refine U4 ?_;refine rgD mixed ?_;refine U16 ?_)
   exact V4
  | ok v =>
   rw [hd] at hD
   refine cF Tryz.func112 rfl V5 rfl rfl ?_
   intro C
   (refine U12 ?_;refine K.leq O O (cP V3) (dT O O) ?_;refine U4 ?_;refine rgD mixed ?_;refine U16 ?_)
   exact V4
set_option maxHeartbeats 3200000 in
theorem rNode_10 (b0:Bool) (M0:Int) (ad:Option Addr) (cap:Nat) (hin:NumsIn X ad [(b0,M0)]):PSpec Tryz.prog X 112 [Ln .i64 10,Lx ad 1 cap] (exR (nodeX 10 [(b0,M0)])):=by
  have hall:=hin.all (by show 0<1;omega)
  obtain ⟨blk,off,arr,el,fr,rfl,hX,hall⟩:=hall
  obtain ⟨i0,s0,c0⟩:=hall 0 _ _ rfl
  have h0:off+Int.toNat 0*3=off+0*3:=rfl
  have hb0:0≤(0:Int)∧(0:Int)<(1:Nat):=by omega
  have hG0:=Good_spec X b0 M0 i0
  cases g0:formB b0 M0 with
  | false =>
   have hG0:=hG0 false g0
   rw [show nodeX 10 [(b0,M0)] = .error 1 by simp [nodeX,gd,g0]]
   refine cF Tryz.func112 rfl V5 rfl rfl ?_
   intro C
   refine U54 ?_
   exact V4
  | true =>
  have hG0:=hG0 true g0
  obtain ⟨e1,r1⟩:=gd_q (u:=(b0,M0)) g0 i0
  have hD:PSpec Tryz.prog X 152 [Ln .i64 2,.sv S0,LI b0 M0] (.tup [SQ (-(zz (b0,M0))),Sn .i64 0]):=by
   have hR:R127 (-(zz (b0,M0))):=by unfold R127 at *;omega
   have h:=Do_2 X 0 (zz (b0,M0)) V2A r1 (-(zz (b0,M0))) (by show 0-zz (b0,M0)=_;omega)
   rw [addR_in hR,← e1] at h
   exact h
  rw [show nodeX 10 [(b0,M0)] = .ok (qn (-(zz (b0,M0)))) by simp [nodeX,gd,g0]]
  clear e1 r1
  refine cF Tryz.func112 rfl V5 rfl rfl ?_
  intro C
  (refine U36 ?_;refine bC O O (r:=false) O (dT O O) ?_;refine U36 ?_)
  exact V4
set_option maxHeartbeats 3200000 in
theorem rNode_15 (b0:Bool) (M0:Int) (ad:Option Addr) (cap:Nat) (hin:NumsIn X ad [(b0,M0)]):PSpec Tryz.prog X 112 [Ln .i64 15,Lx ad 1 cap] (exR (nodeX 15 [(b0,M0)])):=by
  have hall:=hin.all (by show 0<1;omega)
  obtain ⟨blk,off,arr,el,fr,rfl,hX,hall⟩:=hall
  obtain ⟨i0,s0,c0⟩:=hall 0 _ _ rfl
  have h0:off+Int.toNat 0*3=off+0*3:=rfl
  have hb0:0≤(0:Int)∧(0:Int)<(1:Nat):=by omega
  have hG0:=Good_spec X b0 M0 i0
  cases g0:formB b0 M0 with
  | false =>
   have hG0:=hG0 false g0
   rw [show nodeX 15 [(b0,M0)] = .error 1 by simp [nodeX,gd,g0]]
   refine cF Tryz.func112 rfl V5 rfl rfl ?_
   intro C
   refine U54 ?_
   exact V4
  | true =>
  have hG0:=hG0 true g0
  have q:=eqI (b:=b0) (b':=false) (h:=M0/18446744073709551616) (h':=0) (l:=M0%18446744073709551616) (l':=0) _ (eqZ i0)
  have hTr:=rTruth_spec X (decide (((b0,M0):Nm)=(false,0)))
  rw [show nodeX 15 [(b0,M0)] = .ok (truth (decide (((b0,M0):Nm)=(false,0)))) by simp [nodeX,gd,g0]]
  generalize decide (((b0,M0):Nm)=(false,0))=z at *
  refine cF Tryz.func112 rfl V5 rfl rfl ?_
  intro C
  (refine U36 ?_;refine bC O O (r:=false) O (dT O O) ?_;refine U59 ?_;refine bR O O O O V5 q (.inl ⟨O,O⟩) dS ?_;refine U7 ?_)
  exact V4
theorem nodeX_11 (b0 b1:Bool) (M0 M1:Int) (g0:formB b0 M0=true) (g1:formB b1 M1=true):nodeX 11 [(b0,M0),(b1,M1)] = .ok (if zz (b1,M1)<zz (b0,M0) then (b1,M1) else (b0,M0)):=by
 simp [nodeX,gd,g0,g1]
set_option maxHeartbeats 3200000 in
theorem rNode_11 (b0:Bool) (M0:Int) (b1:Bool) (M1:Int) (ad:Option Addr) (cap:Nat) (hin:NumsIn X ad [(b0,M0),(b1,M1)]):PSpec Tryz.prog X 112 [Ln .i64 11,Lx ad 2 cap] (exR (nodeX 11 [(b0,M0),(b1,M1)])):=by
  have hall:=hin.all V2F
  obtain ⟨blk,off,arr,el,fr,rfl,hX,hall⟩:=hall
  obtain ⟨i0,s0,c0⟩:=hall 0 _ _ rfl
  have h0:off+Int.toNat 0*3=off+0*3:=rfl
  have hb0:0≤(0:Int)∧(0:Int)<(2:Nat):=by omega
  obtain ⟨i1,s1,c1⟩:=hall 1 _ _ rfl
  have h1:off+Int.toNat 1*3=off+1*3:=rfl
  have hb1:0≤(1:Int)∧(1:Int)<(2:Nat):=by omega
  have hG0:=Good_spec X b0 M0 i0
  have hG1:=Good_spec X b1 M1 i1
  cases g0:formB b0 M0 with
  | false =>
   have hG0:=hG0 false g0
   rw [show nodeX 11 [(b0,M0),(b1,M1)] = .error 1 by simp [nodeX,gd,g0]]
   refine cF Tryz.func112 rfl V5 rfl rfl ?_
   intro C
   refine U54 ?_
   exact V4
  | true =>
  have hG0:=hG0 true g0
  cases g1:formB b1 M1 with
  | false =>
   have hG1:=hG1 false g1
   rw [show nodeX 11 [(b0,M0),(b1,M1)] = .error 1 by simp [nodeX,gd,g0,g1]]
   refine cF Tryz.func112 rfl V5 rfl rfl ?_
   intro C
   refine U54 ?_
   exact V4
  | true =>
  have hG1:=hG1 true g1
  obtain ⟨e0,r0⟩:=gd_q (u:=(b0,M0)) g0 i0
  obtain ⟨e1,r1⟩:=gd_q (u:=(b1,M1)) g1 i1
  have hC:=RCmp_spec X (zz (b1,M1)) (zz (b0,M0)) r1 r0 _ rfl
  rw [← e0,← e1] at hC
  obtain ⟨k1,k2⟩:=cmp_lz (u:=(b1,M1)) (v:=(b0,M0))
  have hk:=nodeX_11 b0 b1 M0 M1 g0 g1
  rw [hk]
  clear e0 e1 hk
  by_cases c:zz (b1,M1)<zz (b0,M0)
  ·rw [if_pos c]
   rw [cP c] at k1
   generalize cmpI (zz (b1,M1)) (zz (b0,M0))=z at *
   refine cF Tryz.func112 rfl V5 rfl rfl ?_
   intro C
   (refine U60 ?_;refine U8 ?_;refine rgD mixed ?_;refine U7 ?_;refine klt rfl rfl k1 ?_;refine U12 ?_)
   exact V4
  ·rw [if_neg c]
   rw [cO c] at k1
   generalize cmpI (zz (b1,M1)) (zz (b0,M0))=z at *
   refine cF Tryz.func112 rfl V5 rfl rfl ?_
   intro C
   ((refine U44 ?_);(refine U24 ?_;refine rgD mixed ?_;refine U7 ?_;refine klt rfl rfl k1 ?_;refine U13 ?_))
   exact V4
theorem nodeX_12 (b0 b1:Bool) (M0 M1:Int) (g0:formB b0 M0=true) (g1:formB b1 M1=true):nodeX 12 [(b0,M0),(b1,M1)] = .ok (if zz (b0,M0)<zz (b1,M1) then (b1,M1) else (b0,M0)):=by
 simp [nodeX,gd,g0,g1]
set_option maxHeartbeats 3200000 in
theorem rNode_12 (b0:Bool) (M0:Int) (b1:Bool) (M1:Int) (ad:Option Addr) (cap:Nat) (hin:NumsIn X ad [(b0,M0),(b1,M1)]):PSpec Tryz.prog X 112 [Ln .i64 12,Lx ad 2 cap] (exR (nodeX 12 [(b0,M0),(b1,M1)])):=by
  have hall:=hin.all V2F
  obtain ⟨blk,off,arr,el,fr,rfl,hX,hall⟩:=hall
  obtain ⟨i0,s0,c0⟩:=hall 0 _ _ rfl
  have h0:off+Int.toNat 0*3=off+0*3:=rfl
  have hb0:0≤(0:Int)∧(0:Int)<(2:Nat):=by omega
  obtain ⟨i1,s1,c1⟩:=hall 1 _ _ rfl
  have h1:off+Int.toNat 1*3=off+1*3:=rfl
  have hb1:0≤(1:Int)∧(1:Int)<(2:Nat):=by omega
  have hG0:=Good_spec X b0 M0 i0
  have hG1:=Good_spec X b1 M1 i1
  cases g0:formB b0 M0 with
  | false =>
   have hG0:=hG0 false g0
   rw [show nodeX 12 [(b0,M0),(b1,M1)] = .error 1 by simp [nodeX,gd,g0]]
   refine cF Tryz.func112 rfl V5 rfl rfl ?_
   intro C
   refine U54 ?_
   exact V4
  | true =>
  have hG0:=hG0 true g0
  cases g1:formB b1 M1 with
  | false =>
   have hG1:=hG1 false g1
   rw [show nodeX 12 [(b0,M0),(b1,M1)] = .error 1 by simp [nodeX,gd,g0,g1]]
   refine cF Tryz.func112 rfl V5 rfl rfl ?_
   intro C
   refine U54 ?_
   exact V4
  | true =>
  have hG1:=hG1 true g1
  obtain ⟨e0,r0⟩:=gd_q (u:=(b0,M0)) g0 i0
  obtain ⟨e1,r1⟩:=gd_q (u:=(b1,M1)) g1 i1
  have hC:=RCmp_spec X (zz (b1,M1)) (zz (b0,M0)) r1 r0 _ rfl
  rw [← e0,← e1] at hC
  obtain ⟨k1,k2⟩:=cmp_lz (u:=(b1,M1)) (v:=(b0,M0))
  have hk:=nodeX_12 b0 b1 M0 M1 g0 g1
  rw [hk]
  clear e0 e1 hk
  by_cases c:zz (b0,M0)<zz (b1,M1)
  ·rw [if_pos c]
   rw [cP c] at k2
   generalize cmpI (zz (b1,M1)) (zz (b0,M0))=z at *
   refine cF Tryz.func112 rfl V5 rfl rfl ?_
   intro C
   ((refine U44 ?_);(refine U30 ?_;refine rgD mixed ?_;refine U7 ?_;refine aS O O k2 dS ?_;refine U12 ?_))
   exact V4
  ·rw [if_neg c]
   rw [cO c] at k2
   generalize cmpI (zz (b1,M1)) (zz (b0,M0))=z at *
   refine cF Tryz.func112 rfl V5 rfl rfl ?_
   intro C
   ((refine U44 ?_);(refine U30 ?_;refine rgD mixed ?_;refine U7 ?_;refine aS O O k2 dS ?_;refine U13 ?_))
   exact V4
set_option maxHeartbeats 3200000 in
theorem rNode_13 (b0:Bool) (M0:Int) (b1:Bool) (M1:Int) (ad:Option Addr) (cap:Nat) (hin:NumsIn X ad [(b0,M0),(b1,M1)]):PSpec Tryz.prog X 112 [Ln .i64 13,Lx ad 2 cap] (exR (nodeX 13 [(b0,M0),(b1,M1)])):=by
  have hall:=hin.all V2F
  obtain ⟨blk,off,arr,el,fr,rfl,hX,hall⟩:=hall
  obtain ⟨i0,s0,c0⟩:=hall 0 _ _ rfl
  have h0:off+Int.toNat 0*3=off+0*3:=rfl
  have hb0:0≤(0:Int)∧(0:Int)<(2:Nat):=by omega
  obtain ⟨i1,s1,c1⟩:=hall 1 _ _ rfl
  have h1:off+Int.toNat 1*3=off+1*3:=rfl
  have hb1:0≤(1:Int)∧(1:Int)<(2:Nat):=by omega
  have hG0:=Good_spec X b0 M0 i0
  have hG1:=Good_spec X b1 M1 i1
  cases g0:formB b0 M0 with
  | false =>
   have hG0:=hG0 false g0
   rw [show nodeX 13 [(b0,M0),(b1,M1)] = .error 1 by simp [nodeX,gd,g0]]
   refine cF Tryz.func112 rfl V5 rfl rfl ?_
   intro C
   refine U54 ?_
   exact V4
  | true =>
  have hG0:=hG0 true g0
  cases g1:formB b1 M1 with
  | false =>
   have hG1:=hG1 false g1
   rw [show nodeX 13 [(b0,M0),(b1,M1)] = .error 1 by simp [nodeX,gd,g0,g1]]
   refine cF Tryz.func112 rfl V5 rfl rfl ?_
   intro C
   refine U54 ?_
   exact V4
  | true =>
  have hG1:=hG1 true g1
  have q:=eqI (b:=b0) (b':=b1) (h:=M0/18446744073709551616) (h':=M1/18446744073709551616) (l:=M0%18446744073709551616) (l':=M1%18446744073709551616) _ (eqN i0 i1)
  have hTr:=rTruth_spec X (decide (((b0,M0):Nm)=(b1,M1)))
  rw [show nodeX 13 [(b0,M0),(b1,M1)] = .ok (truth (decide (((b0,M0):Nm)=(b1,M1)))) by simp [nodeX,gd,g0,g1]]
  generalize decide (((b0,M0):Nm)=(b1,M1))=z at *
  refine cF Tryz.func112 rfl V5 rfl rfl ?_
  intro C
  ((refine U44 ?_);(refine U35 ?_;refine rgD mixed ?_;refine U6 ?_;refine bR O O O O V5 q (.inl ⟨O,O⟩) dS ?_;refine U8 ?_))
  exact V4
set_option maxHeartbeats 3200000 in
theorem rNode_14 (b0:Bool) (M0:Int) (b1:Bool) (M1:Int) (ad:Option Addr) (cap:Nat) (hin:NumsIn X ad [(b0,M0),(b1,M1)]):PSpec Tryz.prog X 112 [Ln .i64 14,Lx ad 2 cap] (exR (nodeX 14 [(b0,M0),(b1,M1)])):=by
  have hall:=hin.all V2F
  obtain ⟨blk,off,arr,el,fr,rfl,hX,hall⟩:=hall
  obtain ⟨i0,s0,c0⟩:=hall 0 _ _ rfl
  have h0:off+Int.toNat 0*3=off+0*3:=rfl
  have hb0:0≤(0:Int)∧(0:Int)<(2:Nat):=by omega
  obtain ⟨i1,s1,c1⟩:=hall 1 _ _ rfl
  have h1:off+Int.toNat 1*3=off+1*3:=rfl
  have hb1:0≤(1:Int)∧(1:Int)<(2:Nat):=by omega
  have hG0:=Good_spec X b0 M0 i0
  have hG1:=Good_spec X b1 M1 i1
  cases g0:formB b0 M0 with
  | false =>
   have hG0:=hG0 false g0
   rw [show nodeX 14 [(b0,M0),(b1,M1)] = .error 1 by simp [nodeX,gd,g0]]
   refine cF Tryz.func112 rfl V5 rfl rfl ?_
   intro C
   refine U54 ?_
   exact V4
  | true =>
  have hG0:=hG0 true g0
  cases g1:formB b1 M1 with
  | false =>
   have hG1:=hG1 false g1
   rw [show nodeX 14 [(b0,M0),(b1,M1)] = .error 1 by simp [nodeX,gd,g0,g1]]
   refine cF Tryz.func112 rfl V5 rfl rfl ?_
   intro C
   refine U54 ?_
   exact V4
  | true =>
  have hG1:=hG1 true g1
  obtain ⟨e0,r0⟩:=gd_q (u:=(b0,M0)) g0 i0
  obtain ⟨e1,r1⟩:=gd_q (u:=(b1,M1)) g1 i1
  have hC:=RCmp_spec X (zz (b0,M0)) (zz (b1,M1)) r0 r1 _ rfl
  rw [← e0,← e1] at hC
  obtain ⟨k1,_⟩:=cmp_lz (u:=(b0,M0)) (v:=(b1,M1))
  have hTr:=rTruth_spec X (decide (zz (b0,M0)<zz (b1,M1)))
  rw [show nodeX 14 [(b0,M0),(b1,M1)] = .ok (truth (decide (zz (b0,M0)<zz (b1,M1)))) by simp [nodeX,gd,g0,g1]]
  clear e0 e1
  generalize decide (zz (b0,M0)<zz (b1,M1))=y at *
  generalize cmpI (zz (b0,M0)) (zz (b1,M1))=z at *
  refine cF Tryz.func112 rfl V5 rfl rfl ?_
  intro C
  ((refine U44 ?_);(refine U41 ?_;refine rgD mixed ?_;refine U7 ?_;refine klt rfl rfl k1 ?_;refine U8 ?_))
  exact V4
set_option maxHeartbeats 3200000 in
theorem rNode_16 (b0:Bool) (M0:Int) (b1:Bool) (M1:Int) (b2:Bool) (M2:Int) (ad:Option Addr) (cap:Nat) (hin:NumsIn X ad [(b0,M0),(b1,M1),(b2,M2)]):PSpec Tryz.prog X 112 [Ln .i64 16,Lx ad 3 cap] (exR (nodeX 16 [(b0,M0),(b1,M1),(b2,M2)])):=by
  have hall:=hin.all (by show 0<3;omega)
  obtain ⟨blk,off,arr,el,fr,rfl,hX,hall⟩:=hall
  obtain ⟨i0,s0,c0⟩:=hall 0 _ _ rfl
  have h0:off+Int.toNat 0*3=off+0*3:=rfl
  have hb0:0≤(0:Int)∧(0:Int)<(3:Nat):=by omega
  obtain ⟨i1,s1,c1⟩:=hall 1 _ _ rfl
  have h1:off+Int.toNat 1*3=off+1*3:=rfl
  have hb1:0≤(1:Int)∧(1:Int)<(3:Nat):=by omega
  obtain ⟨i2,s2,c2⟩:=hall 2 _ _ rfl
  have h2:off+Int.toNat 2*3=off+2*3:=rfl
  have hb2:0≤(2:Int)∧(2:Int)<(3:Nat):=by omega
  have hG0:=Good_spec X b0 M0 i0
  cases g0:formB b0 M0 with
  | false =>
   have hG0:=hG0 false g0
   rw [show nodeX 16 [(b0,M0),(b1,M1),(b2,M2)] = .error 1 by simp [nodeX,gd,g0]]
   refine cF Tryz.func112 rfl V5 rfl rfl ?_
   intro C
   refine U54 ?_
   exact V4
  | true =>
  have hG0:=hG0 true g0
  have q:=eqI (b:=b0) (b':=false) (h:=M0/18446744073709551616) (h':=0) (l:=M0%18446744073709551616) (l':=0) _ (eqZ i0)
  rw [show nodeX 16 [(b0,M0),(b1,M1),(b2,M2)] = .ok (if ((b0,M0):Nm)=(false,0) then (b2,M2) else (b1,M1)) by simp [nodeX,gd,g0]]
  by_cases c:((b0,M0):Nm)=(false,0)
  ·rw [if_pos c]
   rw [cP c] at q
   refine cF Tryz.func112 rfl V5 rfl rfl ?_
   intro C
   ((refine U36 ?_;refine bC O O (r:=false) O (dT O O) ?_;refine U23 ?_);(refine U38 ?_;refine bR (c:=false) O O O O V5 q (.inr ⟨O,O⟩) dS ?_;refine U12 ?_))
   exact V4
  ·rw [if_neg c]
   rw [cO c] at q
   refine cF Tryz.func112 rfl V5 rfl rfl ?_
   intro C
   ((refine U36 ?_;refine bC O O (r:=false) O (dT O O) ?_;refine U23 ?_);(refine U38 ?_;refine bR (c:=true) O O O O V5 q (.inr ⟨O,O⟩) dS ?_;refine U11 ?_))
   exact V4
set_option maxHeartbeats 3200000 in
theorem rNode_17 (b0:Bool) (M0:Int) (b1:Bool) (M1:Int) (ad:Option Addr) (cap:Nat) (hin:NumsIn X ad [(b0,M0),(b1,M1)]):PSpec Tryz.prog X 112 [Ln .i64 17,Lx ad 2 cap] (exR (nodeX 17 [(b0,M0),(b1,M1)])):=by
  have hall:=hin.all V2F
  obtain ⟨blk,off,arr,el,fr,rfl,hX,hall⟩:=hall
  obtain ⟨i0,s0,c0⟩:=hall 0 _ _ rfl
  have h0:off+Int.toNat 0*3=off+0*3:=rfl
  have hb0:0≤(0:Int)∧(0:Int)<(2:Nat):=by omega
  obtain ⟨i1,s1,c1⟩:=hall 1 _ _ rfl
  have h1:off+Int.toNat 1*3=off+1*3:=rfl
  have hb1:0≤(1:Int)∧(1:Int)<(2:Nat):=by omega
  have hG1:=Good_spec X b1 M1 i1
  cases g1:formB b1 M1 with
  | false =>
   have hG1:=hG1 false g1
   rw [show nodeX 17 [(b0,M0),(b1,M1)] = .error 1 by simp [nodeX,gd,g1]]
   refine cF Tryz.func112 rfl V5 rfl rfl ?_
   intro C
   refine U41 ?_
   exact V4
  | true =>
  have hG1:=hG1 true g1
  have q:=eqI (b:=b1) (b':=false) (h:=M1/18446744073709551616) (h':=0) (l:=M1%18446744073709551616) (l':=0) _ (eqZ i1)
  rw [show nodeX 17 [(b0,M0),(b1,M1)]=(if ((b1,M1):Nm)=(false,0) then .error 9 else .ok (b0,M0)) by simp [nodeX,gd,g1]]
  by_cases c:((b1,M1):Nm)=(false,0)
  ·rw [if_pos c]
   rw [cP c] at q
   refine cF Tryz.func112 rfl V5 rfl rfl ?_
   intro C
   (refine U42 ?_;refine bR O O O O V5 q (.inl ⟨O,O⟩) dS ?_;refine U9 ?_)
   exact V4
  ·rw [if_neg c]
   rw [cO c] at q
   refine cF Tryz.func112 rfl V5 rfl rfl ?_
   intro C
   (refine U42 ?_;refine bR O O O O V5 q (.inl ⟨O,O⟩) dS ?_;refine U12 ?_)
   exact V4
theorem rNode_spec (op:Int) (a:List Nm) (hl:a.length=takes op) (hpos:0<takes op) (ad:Option Addr) (cap:Nat) (hin:NumsIn X ad a):PSpec Tryz.prog X 112 [Ln .i64 op,Lx ad a.length cap] (exR (nodeX op a)):=by
 have h517:5≤op∧op≤17:=by
  unfold takes at hpos
  split at hpos
  ·omega
  ·split at hpos
   ·omega
   ·split at hpos<;>omega
 have t1:∀ {n:Nat} (_:a.length=n),n=1→∃ b0 M0,a=[(b0,M0)]:=fun h e=>by
  subst e
  match a,h with
  | [(b0,M0)],_=>exact ⟨_,_,rfl⟩
 have t2:∀ {n:Nat} (_:a.length=n),n=2→∃ b0 M0 b1 M1,a=[(b0,M0),(b1,M1)]:=fun h e=>by
  subst e
  match a,h with
  | [(b0,M0),(b1,M1)],_=>exact ⟨_,_,_,_,rfl⟩
 have t3:∀ {n:Nat} (_:a.length=n),n=3→∃ b0 M0 b1 M1 b2 M2,a=[(b0,M0),(b1,M1),(b2,M2)]:=fun h e=>by
  subst e
  match a,h with
  | [(b0,M0),(b1,M1),(b2,M2)],_=>exact ⟨_,_,_,_,_,_,rfl⟩
 by_cases h9:op≤9
 ·obtain ⟨b0,M0,b1,M1,rfl⟩:=t2 hl (by unfold takes;rw [if_neg V3,if_neg V3,if_pos V3])
  exact rNode_do X op ⟨by omega,h9⟩ b0 M0 b1 M1 ad cap hin
 ·rcases (show op=10∨op=11∨op=12∨op=13∨op=14∨op=15∨op=16∨op=17 by omega) with rfl|rfl|rfl|rfl|rfl|rfl|rfl|rfl
  ·obtain ⟨b0,M0,rfl⟩:=t1 hl rfl
   exact rNode_10 X b0 M0 ad cap hin
  ·obtain ⟨b0,M0,b1,M1,rfl⟩:=t2 hl rfl
   exact rNode_11 X b0 M0 b1 M1 ad cap hin
  ·obtain ⟨b0,M0,b1,M1,rfl⟩:=t2 hl rfl
   exact rNode_12 X b0 M0 b1 M1 ad cap hin
  ·obtain ⟨b0,M0,b1,M1,rfl⟩:=t2 hl rfl
   exact rNode_13 X b0 M0 b1 M1 ad cap hin
  ·obtain ⟨b0,M0,b1,M1,rfl⟩:=t2 hl rfl
   exact rNode_14 X b0 M0 b1 M1 ad cap hin
  ·obtain ⟨b0,M0,rfl⟩:=t1 hl rfl
   exact rNode_15 X b0 M0 ad cap hin
  ·obtain ⟨b0,M0,b1,M1,b2,M2,rfl⟩:=t3 hl rfl
   exact rNode_16 X b0 M0 b1 M1 b2 M2 ad cap hin
  ·obtain ⟨b0,M0,b1,M1,rfl⟩:=t2 hl rfl
   exact rNode_17 X b0 M0 b1 M1 ad cap hin
end Go.Proofs.YtopiioklkkiedaaGreatDoor
end
section
set_option maxHeartbeats 12800000
set_option maxRecDepth 100000
namespace Go.Proofs.YtopiioklkkiedaaGreatDoor
open Go Go.Lg Go.Lg.Fml Go.Lg.Fld Go.Lg.Arith
set_option maxRecDepth 100000
variable (X:Nat→Option Obj)
theorem szle (a b:List UInt8) (h:a.length+b.length≤9223372036854775807):(⟨a.toArray⟩:ByteArray).size+(⟨b.toArray⟩:ByteArray).size≤9223372036854775807:=h
theorem encErr_chk {l:List Ins} (h:chkX l≠0):encErr l=chkX l∧encTX l=[]:=by
 have e:encErr l=chkX l:=if_neg h
 exact ⟨e,by unfold encTX;rw [e,if_neg h]⟩
theorem encErr_bad {l:List Ins} {x:Ins} (hz:chkX l=0) (hx:x∈l) (hp:plainI x=false):encErr l=1∧encTX l=[]:=by
 have e:encErr l=1:=by
  unfold encErr
  rw [if_pos hz,if_neg]
  intro h
  rw [List.all_eq_true.1 h x hx] at hp
  cases hp
 exact ⟨e,by unfold encTX;rw [e];rfl⟩
theorem encErr_ok {l:List Ins} (hz:chkX l=0) (hp:l.all plainI=true):encErr l=0∧encTX l=encX l:=by
 have e:encErr l=0:=by
  unfold encErr
  rw [if_pos hz,if_pos hp]
 exact ⟨e,by unfold encTX;rw [if_pos e]⟩
theorem encIs_snoc {l:List Ins} {i:Nat} {x:Ins} (h:l[i]? = some x):encIs (l.take (i+1))=encIs (l.take i)++encI x:=by
 rw [take_snoc h,encIs_app]
 simp [encIs]
set_option maxHeartbeats 12800000 in
theorem rEncode11 (l:List Ins) (ad:Option Addr) (cap:Nat) (hin:InsIn X ad l) (hbig:l.length<1152921504606846976):PSpec Tryz.prog X 131 [Lx ad l.length cap] (.tup [Ss (encTX l),Sn .i64 (encErr l)]):=by
 have hC:=rCheck11 X l ad cap hin V3
 by_cases hz:chkX l=0
 case neg =>
  obtain ⟨e1,e2⟩:=encErr_chk hz
  rw [e1,e2]
  refine cF Tryz.func131 rfl V5 rfl rfl ?_
  intro C
  (refine U15 ?_;refine kne rfl rfl (cU hz) ?_;refine U9 ?_)
  exact V1E
 rw [hz] at hC
 have h64:=(chkX_zero hz).1
 have wl:=wrap_o8 (l.length:Nat)
 refine cF Tryz.func131 rfl V5 rfl rfl ?_
 intro C
 (refine U23 ?_;refine kcv O wl ?_;refine aZ (zs:=[.int .u8 0]) (sz:=1) (e:=5) (cs':=[o8 (l.length:Nat)].map bc) V5 O O O O O O dS<|bS (l:=[o8 (l.length:Nat)]) O O V5 StrT.u (dO _) O dS ?_;refine U8 ?_)
 refine cL (fun m σ=>∃ i:Nat,i≤l.length∧m=l.length-i∧(l.take i).all plainI=true∧σ=⟨[(0,Lx ad l.length cap),(5,Ls (o8 (l.length:Nat)::encIs (l.take i))),(6,Ln .i64 (i:Nat))],[],X⟩) l.length
  ⟨⟨[(0,Lx ad l.length cap),(5,Ls (o8 (l.length:Nat)::encIs (l.take 0))),(6,Ln .i64 (0:Nat))],[],X⟩,Le.of V9 VC V2 V2 V2,0,by omega,rfl,rfl,rfl⟩ ?_
 rintro m σ ⟨i,hi,rfl,hpl,rfl⟩
 have hSl:(o8 (l.length:Nat)::encIs (l.take i)).length≤1153:=by
  have:=encIs_len (l.take i)
  rw [dA] at this
  rw [dJ];omega
 by_cases hlt:i<l.length
 case neg =>
  have e:i=l.length:=by omega
  subst e
  rw [dG] at hpl hSl ⊢
  obtain ⟨e1,e2⟩:=encErr_ok hz hpl
  rw [e1,e2]
  unfold encX
  refine U17 ?_
  exact V1E
 obtain ⟨x,hx⟩:=wg hlt
 have hmem:=dE hx
 obtain ⟨blk,off,arr,el,fr,rfl,hX,hsz,hcs,_⟩:=hin.at hx
 have hio:=wo off i 6
 obtain ⟨_,_,_,hk2⟩:=hin.small x hmem
 obtain ⟨h17,hgk,ha7,hb7⟩:=okI_facts (chkX_ok hz x hmem)
 have hbad:=fun h=>encErr_bad (x:=x) hz hmem h
 have hgood:=fun h:plainI x=true=>show (l.take (i+1)).all plainI=true by rw [take_snoc hx,List.all_append,hpl];simp [h]
 have hnext:o8 (l.length:Nat)::encIs (l.take (i+1))=(o8 (l.length:Nat)::encIs (l.take i))++encI x:=by rw [encIs_snoc hx];rfl
 obtain ⟨op,a,b,kb,kN⟩:=x
 simp only at h17 hgk ha7 hb7 hk2
 have q:=eqI (b:=kb) (b':=false) (h:=kN/18446744073709551616) (h':=0) (l:=kN%18446744073709551616) (l':=0) _ (eqZ hk2)
 have hW1:=rWord_spec X (loW kN) (by unfold loW;omega)
 have hW2:=rWord_spec X (hiW kN) (by unfold hiW In2 at *;omega)
 rw [show ((loW kN:Nat):Int)=kN%18446744073709551616 by unfold loW;omega] at hW1
 rw [show ((hiW kN:Nat):Int)=kN/18446744073709551616 by unfold hiW In2 at *;omega] at hW2
 have l8:=leB_length 8 (loW kN)
 have w0:=wrap_o8 op
 have wa:=wrap_o8 a
 have wb:=wrap_o8 b
 have hadd:IntKind.i64.wrap ((i:Int)+1)=((i+1:Nat):Int):=by rw [cH V3];omega
 generalize hS:o8 (l.length:Nat)::encIs (l.take i)=S at *
 generalize hS':o8 (l.length:Nat)::encIs (l.take (i+1))=S' at *
 by_cases hc:op=1
 case pos =>
  have heo1:op=1:=hc
  have hno2:op≠2:=by omega
  have hno3:op≠3:=by omega
  by_cases cB:b=0
  case neg =>
   have hp:plainI ⟨op,a,b,(kb,kN)⟩=false:=by
    unfold plainI
    simp only
    rw [cO (show ¬ op=2 by omega),cO cB];simp
   obtain ⟨e1,e2⟩:=hbad hp
   rw [e1,e2]
   (refine U26 ?_;refine kne O O (cT heo1) ?_;refine U13 ?_;refine aX O O (cU cB) (dT O O) ?_;refine U25 ?_)
   exact V1E
  by_cases cA:a=0
  case neg =>
   have hp:plainI ⟨op,a,b,(kb,kN)⟩=false:=by
    unfold plainI
    simp only
    rw [cO (show ¬ op=2 by omega),cO (show ¬ op=3 by omega),cO cA];simp
   obtain ⟨e1,e2⟩:=hbad hp
   rw [e1,e2]
   ((refine U26 ?_;refine kne O O (cT heo1) ?_;refine U13 ?_;refine aX O O (cT cB) (dT O O) ?_);(refine U9 ?_;refine aX O O (cU hno3) (dT O O) ?_;refine U4 ?_;refine aX O O (cU cA) (dT O O) ?_;refine U1 ?_);(refine U9 ?_))
   exact V1E
  have hpn:=hgood (by
   unfold plainI
   simp only
   rw [Bool.and_eq_true,Bool.and_eq_true,Bool.or_eq_true,Bool.or_eq_true,Bool.or_eq_true,Bool.or_eq_true]
   simp only [decide_eq_true_eq]
   exact ⟨.inl hc,.inr cB,.inr (.inr cA)⟩)
  have he:encI ⟨op,a,b,(kb,kN)⟩=o8 op::(sgB kb::(leB 8 (loW kN)++leB 8 (hiW kN))):=by unfold encI;simp only;rw [if_pos hc]
  rw [he] at hnext
  generalize leB 8 (loW kN)=B1 at *
  have l82:=leB_length 8 (hiW kN)
  generalize leB 8 (hiW kN)=B2 at *
  cases kb with
  | false =>
   have hcat:(⟨((((S++[o8 op])++[sgB false])++B1)).toArray⟩:ByteArray)++⟨B2.toArray⟩=⟨S'.toArray⟩:=by rw [str_add,hnext];simp only [dN,List.cons_append,List.nil_append]
   ((refine U26 ?_;refine kne O O (cT heo1) ?_;refine U13 ?_;refine aX O O (cT cB) (dT O O) ?_);(refine U9 ?_;refine aX O O (cU hno3) (dT O O) ?_;refine U4 ?_;refine aX O O (cT cA) (dT O O) ?_;refine U1 ?_);(refine U10 ?_;refine aZ (zs:=[.int .u8 0]) (sz:=1) (e:=5) (cs':=[o8 op].map bc) V5 O O O O O O dS<|bS (l:=[o8 op]) O O V5 StrT.u (dO _) O dS<|bM O O (szle S [o8 op] (by simp only [cZ];omega)) (str_add S [o8 op]) dS ?_;refine U10 ?_;refine keq O O (r:=true) (cV hc) ?_;refine U16 ?_;refine rgD mixed ?_;refine U2 ?_;refine aZ (zs:=[.int .u8 0]) (sz:=1) (e:=5) (cs':=[sgB false].map bc) V5 O O O O O O dS<|bS (l:=[sgB false]) O O V5 StrT.u (dO _) O dS<|bM O O (szle (S++[o8 op]) [sgB false] V25) (str_add (S++[o8 op]) [sgB false]) dS ?_;refine U2 ?_);(refine U2 ?_;refine bM O O (szle ((S++[o8 op])++[sgB false]) B1 V25) (str_add ((S++[o8 op])++[sgB false]) B1) dS ?_;refine U4 ?_;refine bM O O (szle (((S++[o8 op])++[sgB false])++B1) B2 V25) hcat dS ?_;refine U8 ?_))
   exact ⟨_,⟨[(0,Lx (some ⟨blk,off,none⟩) l.length cap),(5,Ls S'),(6,Ln .i64 (i+1:Nat))],[],X⟩,by omega,Le.of V9 VC V2 V2 V2,i+1,by omega,rfl,hpn,by rw [hS']⟩
  | true =>
   have hcat:(⟨((((S++[o8 op])++[sgB true])++B1)).toArray⟩:ByteArray)++⟨B2.toArray⟩=⟨S'.toArray⟩:=by rw [str_add,hnext];simp only [dN,List.cons_append,List.nil_append]
   ((refine U26 ?_;refine kne O O (cT heo1) ?_;refine U13 ?_;refine aX O O (cT cB) (dT O O) ?_);(refine U9 ?_;refine aX O O (cU hno3) (dT O O) ?_;refine U4 ?_;refine aX O O (cT cA) (dT O O) ?_;refine U1 ?_);(refine U10 ?_;refine aZ (zs:=[.int .u8 0]) (sz:=1) (e:=5) (cs':=[o8 op].map bc) V5 O O O O O O dS<|bS (l:=[o8 op]) O O V5 StrT.u (dO _) O dS<|bM O O (szle S [o8 op] (by simp only [cZ];omega)) (str_add S [o8 op]) dS ?_;refine U10 ?_;refine keq O O (r:=true) (cV hc) ?_;refine U18 ?_;refine rgD mixed ?_;refine U2 ?_;refine aZ (zs:=[.int .u8 0]) (sz:=1) (e:=5) (cs':=[sgB true].map bc) V5 O O O O O O dS<|bS (l:=[sgB true]) O O V5 StrT.u (dO _) O dS<|bM O O (szle (S++[o8 op]) [sgB true] V25) (str_add (S++[o8 op]) [sgB true]) dS ?_;refine U4 ?_;refine bM O O (szle ((S++[o8 op])++[sgB true]) B1 V25) (str_add ((S++[o8 op])++[sgB true]) B1) dS ?_;refine U1 ?_);(refine U3 ?_;refine bM O O (szle (((S++[o8 op])++[sgB true])++B1) B2 V25) hcat dS ?_;refine U8 ?_))
   exact ⟨_,⟨[(0,Lx (some ⟨blk,off,none⟩) l.length cap),(5,Ls S'),(6,Ln .i64 (i+1:Nat))],[],X⟩,by omega,Le.of V9 VC V2 V2 V2,i+1,by omega,rfl,hpn,by rw [hS']⟩
 by_cases hc2:op=2
 case pos =>
  have hc:=hc2
  have hno1:op≠1:=by omega
  have heo2:op=2:=hc
  have hno3:op≠3:=by omega
  by_cases cK:((kb,kN):Nm)=(false,0)
  case neg =>
   have hp:plainI ⟨op,a,b,(kb,kN)⟩=false:=by
    unfold plainI
    simp only
    rw [cO (show ¬ op=1 by omega),cO cK];rfl
   obtain ⟨e1,e2⟩:=hbad hp
   rw [e1,e2]
   rw [cO cK] at q
   (refine U26 ?_;refine kne O O (cU hno1) ?_;refine U4 ?_;refine bR (c:=true) O O O O V5 q (.inr ⟨O,O⟩) (dT O O) ?_;refine U34 ?_)
   exact V1E
  rw [cP cK] at q
  have hpn:=hgood (by
   unfold plainI
   simp only
   rw [Bool.and_eq_true,Bool.and_eq_true,Bool.or_eq_true,Bool.or_eq_true,Bool.or_eq_true,Bool.or_eq_true]
   simp only [decide_eq_true_eq]
   exact ⟨.inr cK,.inl hc,.inl hc⟩)
  have he:encI ⟨op,a,b,(kb,kN)⟩=o8 op::[o8 a,o8 b]:=by unfold encI;simp only;rw [if_neg (show ¬ op=1 by omega),if_pos hc]
  rw [he] at hnext
  have hcat:(⟨(S++[o8 op]).toArray⟩:ByteArray)++⟨([o8 a,o8 b]:List UInt8).toArray⟩=⟨S'.toArray⟩:=by rw [str_add,hnext];simp only [dN,List.cons_append,List.nil_append]
  ((refine U26 ?_;refine kne O O (cU hno1) ?_;refine U4 ?_;refine bR (c:=false) O O O O V5 q (.inr ⟨O,O⟩) (dT O O) ?_;refine U4 ?_);(refine aX O O (cT heo2) (dT O O) ?_;refine U9 ?_;refine aX O O (cT heo2) (dT O O) ?_;refine U20 ?_;refine aZ (zs:=[.int .u8 0]) (sz:=1) (e:=5) (cs':=[o8 op].map bc) V5 O O O O O O dS<|bS (l:=[o8 op]) O O V5 StrT.u (dO _) O dS<|bM O O (szle S [o8 op] (by simp only [cZ];omega)) (str_add S [o8 op]) dS ?_;refine U5 ?_);(refine U11 ?_;refine keq O O (r:=true) (cV hc) ?_;refine U7 ?_;refine kcv O wa ?_;refine U2 ?_;refine kcv O wb ?_;refine aZ (zs:=[.int .u8 0,.int .u8 0]) (sz:=1) (e:=5) (cs':=[o8 a,o8 b].map bc) V5 O O O O O O dS<|bS (l:=[o8 a,o8 b]) O O V5 StrT.u (dO _) O dS<|bM O O (szle (S++[o8 op]) [o8 a,o8 b] (by simp only [cW,cZ,dJ,dP];omega)) hcat dS ?_;refine U7 ?_))
  exact ⟨_,⟨[(0,Lx (some ⟨blk,off,none⟩) l.length cap),(5,Ls S'),(6,Ln .i64 (i+1:Nat))],[],X⟩,by omega,Le.of V9 VC V2 V2 V2,i+1,by omega,rfl,hpn,by rw [hS']⟩
 by_cases hc3:op=3
 case pos =>
  have hc:=hc3
  have hno1:op≠1:=by omega
  have hno2:op≠2:=by omega
  have heo3:op=3:=hc
  by_cases cK:((kb,kN):Nm)=(false,0)
  case neg =>
   have hp:plainI ⟨op,a,b,(kb,kN)⟩=false:=by
    unfold plainI
    simp only
    rw [cO (show ¬ op=1 by omega),cO cK];rfl
   obtain ⟨e1,e2⟩:=hbad hp
   rw [e1,e2]
   rw [cO cK] at q
   (refine U26 ?_;refine kne O O (cU hno1) ?_;refine U4 ?_;refine bR (c:=true) O O O O V5 q (.inr ⟨O,O⟩) (dT O O) ?_;refine U34 ?_)
   exact V1E
  rw [cP cK] at q
  by_cases cB:b=0
  case neg =>
   have hp:plainI ⟨op,a,b,(kb,kN)⟩=false:=by
    unfold plainI
    simp only
    rw [cO (show ¬ op=2 by omega),cO cB];simp
   obtain ⟨e1,e2⟩:=hbad hp
   rw [e1,e2]
   (refine U26 ?_;refine kne O O (cU hno1) ?_;refine U4 ?_;refine bR (c:=false) O O O O V5 q (.inr ⟨O,O⟩) (dT O O) ?_;refine U8 ?_;refine aX O O (cU cB) (dT O O) ?_;refine U25 ?_)
   exact V1E
  have hpn:=hgood (by
   unfold plainI
   simp only
   rw [Bool.and_eq_true,Bool.and_eq_true,Bool.or_eq_true,Bool.or_eq_true,Bool.or_eq_true,Bool.or_eq_true]
   simp only [decide_eq_true_eq]
   exact ⟨.inr cK,.inr cB,.inr (.inl hc)⟩)
  have he:encI ⟨op,a,b,(kb,kN)⟩=o8 op::[o8 a]:=by unfold encI;simp only;rw [if_neg (show ¬ op=1 by omega),if_neg (show ¬ op=2 by omega),if_pos hc]
  rw [he] at hnext
  have hcat:(⟨(S++[o8 op]).toArray⟩:ByteArray)++⟨([o8 a]:List UInt8).toArray⟩=⟨S'.toArray⟩:=by rw [str_add,hnext];simp only [dN,List.cons_append,List.nil_append]
  ((refine U26 ?_;refine kne O O (cU hno1) ?_;refine U4 ?_;refine bR (c:=false) O O O O V5 q (.inr ⟨O,O⟩) (dT O O) ?_;refine U4 ?_);(refine U4 ?_;refine aX O O (cT cB) (dT O O) ?_;refine U9 ?_;refine aX O O (cT heo3) (dT O O) ?_;refine U1 ?_);(refine U15 ?_;refine aZ (zs:=[.int .u8 0]) (sz:=1) (e:=5) (cs':=[o8 op].map bc) V5 O O O O O O dS<|bS (l:=[o8 op]) O O V5 StrT.u (dO _) O dS<|bM O O (szle S [o8 op] (by simp only [cZ];omega)) (str_add S [o8 op]) dS ?_;refine U22 ?_;refine keq O O (r:=true) (cV hc) ?_;refine U7 ?_;refine kcv O wa ?_;refine aZ (zs:=[.int .u8 0]) (sz:=1) (e:=5) (cs':=[o8 a].map bc) V5 O O O O O O dS<|bS (l:=[o8 a]) O O V5 StrT.u (dO _) O dS<|bM O O (szle (S++[o8 op]) [o8 a] (by simp only [cW,cZ,dJ,dP];omega)) hcat dS ?_;refine U7 ?_))
  exact ⟨_,⟨[(0,Lx (some ⟨blk,off,none⟩) l.length cap),(5,Ls S'),(6,Ln .i64 (i+1:Nat))],[],X⟩,by omega,Le.of V9 VC V2 V2 V2,i+1,by omega,rfl,hpn,by rw [hS']⟩
 have hno1:op≠1:=by omega
 have hno2:op≠2:=by omega
 have hno3:op≠3:=by omega
 by_cases cK:((kb,kN):Nm)=(false,0)
 case neg =>
  have hp:plainI ⟨op,a,b,(kb,kN)⟩=false:=by
   unfold plainI
   simp only
   rw [cO (show ¬ op=1 by omega),cO cK];rfl
  obtain ⟨e1,e2⟩:=hbad hp
  rw [e1,e2]
  rw [cO cK] at q
  (refine U26 ?_;refine kne O O (cU hno1) ?_;refine U4 ?_;refine bR (c:=true) O O O O V5 q (.inr ⟨O,O⟩) (dT O O) ?_;refine U34 ?_)
  exact V1E
 rw [cP cK] at q
 by_cases cB:b=0
 case neg =>
  have hp:plainI ⟨op,a,b,(kb,kN)⟩=false:=by
   unfold plainI
   simp only
   rw [cO (show ¬ op=2 by omega),cO cB];simp
  obtain ⟨e1,e2⟩:=hbad hp
  rw [e1,e2]
  (refine U26 ?_;refine kne O O (cU hno1) ?_;refine U4 ?_;refine bR (c:=false) O O O O V5 q (.inr ⟨O,O⟩) (dT O O) ?_;refine U8 ?_;refine aX O O (cU cB) (dT O O) ?_;refine U25 ?_)
  exact V1E
 by_cases cA:a=0
 case neg =>
  have hp:plainI ⟨op,a,b,(kb,kN)⟩=false:=by
   unfold plainI
   simp only
   rw [cO (show ¬ op=2 by omega),cO (show ¬ op=3 by omega),cO cA];simp
  obtain ⟨e1,e2⟩:=hbad hp
  rw [e1,e2]
  ((refine U26 ?_;refine kne O O (cU hno1) ?_;refine U4 ?_;refine bR (c:=false) O O O O V5 q (.inr ⟨O,O⟩) (dT O O) ?_;refine U4 ?_);(refine U4 ?_;refine aX O O (cT cB) (dT O O) ?_;refine U9 ?_;refine aX O O (cU hno3) (dT O O) ?_;refine U1 ?_);(refine U3 ?_;refine aX O O (cU cA) (dT O O) ?_;refine U10 ?_))
  exact V1E
 have hpn:=hgood (by
  unfold plainI
  simp only
  rw [Bool.and_eq_true,Bool.and_eq_true,Bool.or_eq_true,Bool.or_eq_true,Bool.or_eq_true,Bool.or_eq_true]
  simp only [decide_eq_true_eq]
  exact ⟨.inr cK,.inr cB,.inr (.inr cA)⟩)
 have he:encI ⟨op,a,b,(kb,kN)⟩=o8 op::[]:=by unfold encI;simp only;rw [if_neg (show ¬ op=1 by omega),if_neg (show ¬ op=2 by omega),if_neg (show ¬ op=3 by omega)]
 rw [he] at hnext
 ((refine U26 ?_;refine kne O O (cU hno1) ?_;refine U4 ?_;refine bR (c:=false) O O O O V5 q (.inr ⟨O,O⟩) (dT O O) ?_;refine U4 ?_);(refine U4 ?_;refine aX O O (cT cB) (dT O O) ?_;refine U9 ?_;refine aX O O (cU hno3) (dT O O) ?_;refine U1 ?_);(refine U3 ?_;refine aX O O (cT cA) (dT O O) ?_;refine U11 ?_;refine aZ (zs:=[.int .u8 0]) (sz:=1) (e:=5) (cs':=[o8 op].map bc) V5 O O O O O O dS<|bS (l:=[o8 op]) O O V5 StrT.u (dO _) O dS<|bM O O (szle S [o8 op] (by simp only [cZ];omega)) (str_add S [o8 op]) dS ?_;refine U26 ?_);(refine U6 ?_))
 exact ⟨_,⟨[(0,Lx (some ⟨blk,off,none⟩) l.length cap),(5,Ls (S++[o8 op])),(6,Ln .i64 (i+1:Nat))],[],X⟩,by omega,Le.of V9 VC V2 V2 V2,i+1,by omega,rfl,hpn,by rw [hS',hnext]⟩
end Go.Proofs.YtopiioklkkiedaaGreatDoor
end
section
set_option maxHeartbeats 12800000
set_option maxRecDepth 100000
namespace Go.Proofs.YtopiioklkkiedaaGreatDoor
open Go Go.Lg Go.Lg.Fml Go.Lg.Fld Go.Lg.Arith
set_option maxRecDepth 100000
variable (X:Nat→Option Obj)
def inssV (l:List Ins):List Value:=(l.map insV).flatten
theorem inssV_len (l:List Ins):((inssV l).map CV.val).length=l.length*6:=by
 unfold inssV
 rw [cX]
 induction l with
 | nil=>rfl
 | cons x t ih=>simp only [List.map_cons,List.flatten_cons,cW,dJ,ih,insV,dP];omega
theorem inssV_snoc (l:List Ins) (x:Ins) {cs:List CV} (h:cs=(insV x).map CV.val):(inssV l).map CV.val++cs=(inssV (l++[x])).map CV.val:=by
 unfold inssV
 rw [h,dI,List.flatten_append,dI]
 simp
theorem ins_in {Y:Nat→Option Obj} {blk:Nat} {arr:Array Value} {el:TypeId} {fr:Nat×Nat} {l:List Ins} (hY:Y blk=some (.cells arr el fr)) (hi:∀ x∈l,smallI x) (hsp:∃ sp,arr.toList=inssV l++sp):InsIn Y (some ⟨blk,0,none⟩) l:=
 ⟨rows_in hY (fun r hr=>by obtain ⟨x,_,rfl⟩:=List.mem_map.1 hr;rfl) hsp,hi⟩
end Go.Proofs.YtopiioklkkiedaaGreatDoor
end
section
set_option maxHeartbeats 12800000
set_option maxRecDepth 100000
namespace Go.Proofs.YtopiioklkkiedaaGreatDoor
open Go Go.Lg Go.Lg.Fml Go.Lg.Fld Go.Lg.Arith
set_option maxRecDepth 100000
variable (X:Nat→Option Obj)
abbrev LPg (va vb:Int) (ad:Option Addr) (n cap:Nat):LV:=.sv (.agg [.val (.int .i64 va),.val (.int .i64 vb),.val (.slice ad n cap)])
abbrev v3B (t:TypeId) (k:Nat) (a b:Int) (ad:Option Addr) (n cap:Nat):Nat×Option Box:=(k,some ⟨t,[.val (.int .i64 a),.val (.int .i64 b),.val (.slice ad n cap)],false⟩)
def lastR (rs:List Rl):Nat→Int
 | 0=>0
 | j+1=>match rs[j]? with
  | some r=>r.nw
  | none=>0
theorem lastR_at {rs:List Rl} {j:Nat} {r:Rl} (h:rs[j]? = some r):lastR rs (j+1)=r.nw:=by simp only [lastR,h]
theorem chkRs_cons {r:Rl} {last:Int} {t:List Rl}:chkRs last (r::t)=if chkR r last=0 then chkRs r.nw t else chkR r last:=rfl
theorem firstX_cons {c:List Ins} {t:List (List Ins)}:firstX (c::t)=if encErr c=0 then firstX t else encErr c:=rfl
theorem drop_at {α:Type} {l:List α} {i:Nat} {x:α} (h:l[i]? = some x):l.drop i=x::l.drop (i+1):=by
 obtain ⟨hi,e⟩:=List.getElem?_eq_some_iff.1 h
 rw [List.drop_eq_getElem_cons hi,e]
theorem chkP_bad {p:Pg} (h:¬(verOk p.va&&verOk p.vb)=true):chkP p=1:=if_neg h
theorem chkP_good {p:Pg} (h:(verOk p.va&&verOk p.vb)=true):chkP p=chkRs 0 p.rs:=if_pos h
theorem CodesIn.get {X:Nat→Option Obj} {ad:Option Addr} {cs:List (List Ins)} (h:CodesIn X ad cs) {i:Nat} {c:List Ins} (hc:cs[i]? = some c):∃ (blk off:Nat) (arr:Array Value) (el:TypeId) (fr:Nat×Nat) (vad:Option Addr) (vcap:Nat),ad=some ⟨blk,off,none⟩∧X blk=some (.cells arr el fr)∧arr[off+i*1]? = some (.slice vad c.length vcap)∧InsIn X vad c:=by
 obtain ⟨blk,off,arr,el,fr,vad,vcap,h1,h2,h3,h4,h5⟩:=h.at_ i c hc
 exact ⟨blk,off,arr,el,fr,vad,vcap,h1,h2,by rw [Nat.mul_one];exact h4,h5⟩
set_option maxHeartbeats 12800000 in
theorem rCheck12 (p:Pg) (ad:Option Addr) (cap:Nat) (hin:RulesIn X ad p.rs) (hbig:p.rs.length<4611686018427387904) (hsz:sizeR p.rs):PSpec Tryz.prog X 94 [LPg p.va p.vb ad p.rs.length cap] (Ln .i64 (chkP p)):=by
 obtain ⟨va,vb,rs⟩:=p
 simp only at hin hbig hsz ⊢
 refine cF Tryz.func94 rfl V5 rfl rfl ?_
 intro C
 by_cases hv1:va<1
 ·rw [chkP_bad (by unfold verOk;simp;omega)]
  refine U33 ?_
  exact V6
 by_cases hv2:1073741824<va
 ·rw [chkP_bad (by unfold verOk;simp;omega)]
  refine U33 ?_
  exact V6
 by_cases hv3:vb<1
 ·rw [chkP_bad (by unfold verOk;simp;omega)]
  (refine U19 ?_;refine bK O O (cP V3) (dT O O) ?_;refine U13 ?_)
  exact V6
 by_cases hv4:1073741824<vb
 ·rw [chkP_bad (by unfold verOk;simp;omega)]
  refine U33 ?_
  exact V6
 rw [chkP_good (show (verOk va&&verOk vb)=true by unfold verOk;simp;omega)]
 refine U35 ?_
 refine cL (fun m σ=>∃ i:Nat,i≤rs.length∧m=rs.length-i∧chkRs 0 rs=chkRs (lastR rs i) (rs.drop i)∧σ=⟨[(1,Lp 1),(3,Ln .i64 (i:Nat))],[v3B 42 1 va vb ad rs.length cap],X⟩) rs.length
  ⟨_,Le.of VE V13 V2 V2 V0,0,by omega,by omega,rfl,rfl⟩ ?_
 rintro m σ ⟨i,hi,rfl,hpre,rfl⟩
 by_cases hlt:i<rs.length
 case neg =>
  rw [hpre,List.drop_eq_nil_of_le (by omega)]
  refine U16 ?_
  exact V6
 obtain ⟨r,hr⟩:=wg hlt
 obtain ⟨blk,off,arr,el,fr,ead,ecap,rfl,hX,hsiz,hcs,g1,g2,g3,hE⟩:=hin.get hr
 have hio:=wo off i 3
 obtain ⟨hel,hcl⟩:=hsz r (dE hr)
 rw [drop_at hr,chkRs_cons] at hpre
 have fin:∀ e,chkR r (lastR rs i)=e→e≠0→chkRs 0 rs=e:=fun e he h0=>by rw [hpre,he,if_neg h0]
 refine U25 ?_
 refine LWP.le (σ':=⟨[(1,Lp 1),(3,Ln .i64 (i:Nat)),(4,Lp 4)],[v3B 39 4 r.nw r.old ead r.ex.length ecap,v3B 42 1 va vb (some ⟨blk,off,none⟩) rs.length cap],X⟩) (Le.of V9 VE V2 V2 V0) ?_
 by_cases c1:r.nw<1
 ·rw [fin 1 (if_pos V3) VA]
  (refine rgD mixed ?_;refine U42 ?_)
  exact V6
 by_cases c2:24<r.nw
 ·rw [fin 1 (if_pos V3) VA]
  (refine rgD mixed ?_;refine U42 ?_)
  exact V6
 by_cases c3:r.old<0
 ·rw [fin 1 (if_pos V3) VA]
  (refine rgD mixed ?_;refine U11 ?_;refine bK O O (cP V3) (dT O O) ?_;refine U30 ?_)
  exact V6
 by_cases c4:24<r.old
 ·rw [fin 1 (if_pos V3) VA]
  (refine rgD mixed ?_;refine U42 ?_)
  exact V6
 by_cases c5:0<i∧r.nw≤lastR rs i
 ·rw [fin 1 (if_pos V3) VA]
  obtain ⟨q,hq⟩:∃ q,rs[i-1]? = some q:=wg V3
  have hla:=lastR_at hq
  rw [show i-1+1=i by omega] at hla
  obtain ⟨blk',off',arr',el',fr',_,_,e1,hX',_,_,g1',_,_,_⟩:=hin.get hq
  simp only [Option.some.injEq,Addr.mk.injEq] at e1
  obtain ⟨rfl,rfl,_⟩:=e1
  rw [hX] at hX'
  simp only [Option.some.injEq,Obj.cells.injEq] at hX'
  obtain ⟨rfl,rfl,rfl⟩:=hX'
  have hsub:IntKind.i64.wrap (((i:Nat):Int)-1)=((i-1:Nat):Int):=by rw [cH V3];omega
  have hio2:off+Int.toNat ((i-1:Nat):Int)*3=off+(i-1)*3:=by rw [dH]
  ((refine rgD mixed ?_;refine U23 ?_);(refine U2 ?_;refine bA O O hsub (dT O O) ?_;refine U5 ?_;refine bD O O (cP V3) (dT O O) ?_;refine U10 ?_))
  exact V6
 have hlow:¬(r.nw<1∨24<r.nw∨r.old<0∨24<r.old∨r.nw≤lastR rs i):=by
  by_cases h0:i=0
  ·subst h0
   have hz:lastR rs 0=0:=rfl
   omega
  ·omega
 refine LWP.meet0 (fun σ=>σ=⟨[(1,Lp 1),(3,Ln .i64 (i:Nat)),(4,Lp 4),(71,Lb false)],[v3B 39 4 r.nw r.old ead r.ex.length ecap,v3B 42 1 va vb (some ⟨blk,off,none⟩) rs.length cap],X⟩) ?_ ?_
 ·by_cases hi0:i=0
  ·subst hi0
   (refine rgD mixed ?_;refine U36 ?_)
   exact ⟨_,Le.of V8 VE V2 V2 V0,O⟩
  ·
   obtain ⟨q,hq⟩:∃ q,rs[i-1]? = some q:=wg V3
   have hla:=lastR_at hq
   rw [show i-1+1=i by omega] at hla
   obtain ⟨blk',off',arr',el',fr',_,_,e1,hX',_,_,g1',_,_,_⟩:=hin.get hq
   simp only [Option.some.injEq,Addr.mk.injEq] at e1
   obtain ⟨rfl,rfl,_⟩:=e1
   rw [hX] at hX'
   simp only [Option.some.injEq,Obj.cells.injEq] at hX'
   obtain ⟨rfl,rfl,rfl⟩:=hX'
   have hsub:IntKind.i64.wrap (((i:Nat):Int)-1)=((i-1:Nat):Int):=by rw [cH V3];omega
   have hio2:off+Int.toNat ((i-1:Nat):Int)*3=off+(i-1)*3:=by rw [dH]
   ((refine rgD mixed ?_;refine U23 ?_);(refine U2 ?_;refine bA O O hsub (dT O O) ?_;refine U10 ?_))
   exact ⟨_,Le.of V8 VE V2 V2 V0,O⟩
 rintro σ rfl
 by_cases c6:r.old=0∧0<r.ex.length
 ·rw [fin 4 (by unfold chkR;rw [if_neg hlow,if_pos ⟨c6.1,fun e=>by rw [e] at c6;exact absurd c6.2 VA⟩]) VA]
  (refine U7 ?_;refine keq rfl rfl (cV c6.1) ?_;refine U13 ?_)
  exact V6
 repeat (first|refine aA ?_|refine LWP.skip ?_|refine LWP.block ?_|refine LWP.condF O ?_)
 refine LWP.meet0 (fun σ=>σ=⟨[(1,Lp 1),(3,Ln .i64 (i:Nat)),(4,Lp 4),(80,Lb false)],[v3B 39 4 r.nw r.old ead r.ex.length ecap,v3B 42 1 va vb (some ⟨blk,off,none⟩) rs.length cap],X⟩) ?_ ?_
 ·by_cases ho:r.old=0
  ·(refine U3 ?_;refine keq rfl rfl (cV ho) ?_;refine U7 ?_)
   exact ⟨_,Le.of V8 VE V2 V2 V0,O⟩
  ·(refine U3 ?_;refine keq rfl rfl (cS ho) ?_;refine U7 ?_)
   exact ⟨_,Le.of V8 VE V2 V2 V0,O⟩
 rintro σ rfl
 have h6:¬(r.old=0∧r.ex≠[]):=fun h=>c6 ⟨h.1,List.length_pos_iff.2 h.2⟩
 by_cases c7:8<r.ex.length
 ·rw [fin 5 (by unfold chkR;rw [if_neg hlow,if_neg h6,if_pos c7]) VA]
  refine U16 ?_
  exact V6
 have hfx:chkR r (lastR rs i)=firstX r.ex:=by unfold chkR;rw [if_neg hlow,if_neg h6,if_neg c7]
 refine U17 ?_
 refine cL (fun m σ=>∃ k:Nat,k≤r.ex.length∧m=r.ex.length-k∧firstX r.ex=firstX (r.ex.drop k)∧σ=⟨[(1,Lp 1),(3,Ln .i64 (i:Nat)),(4,Lp 4),(5,Ln .i64 (k:Nat))],[v3B 39 4 r.nw r.old ead r.ex.length ecap,v3B 42 1 va vb (some ⟨blk,off,none⟩) rs.length cap],X⟩) r.ex.length
  ⟨_,Le.of V8 VE V2 V2 V0,0,by omega,by omega,rfl,rfl⟩ ?_
 rintro m σ ⟨k,hk,rfl,hpx,rfl⟩
 by_cases hkl:k<r.ex.length
 case neg =>
  rw [List.drop_eq_nil_of_le (by omega)] at hpx
  rw [hfx,hpx,if_pos (show firstX []=0 from rfl)] at hpre
  have hadd:IntKind.i64.wrap ((i:Int)+1)=((i+1:Nat):Int):=by rw [cH V3];omega
  refine U16 ?_
  exact ⟨_,⟨[(1,Lp 1),(3,Ln .i64 (i+1:Nat))],[v3B 42 1 va vb (some ⟨blk,off,none⟩) rs.length cap],X⟩,by omega,Le.of VE V13 V2 V2 V0,i+1,by omega,rfl,by rw [lastR_at hr];exact hpre,rfl⟩
 obtain ⟨c,hc⟩:=wg hkl
 obtain ⟨eb,eo,earr,eel,efr,vad,vcap,rfl,hEX,hec,hI⟩:=hE.get hc
 have hio3:=wo eo k 1
 have hEn:=rEncode11 X c vad vcap hI (hcl c (dE hc))
 rw [drop_at hc,firstX_cons] at hpx
 by_cases he:encErr c=0
 ·rw [if_pos he] at hpx
  rw [he] at hEn
  have hadd:IntKind.i64.wrap ((k:Int)+1)=((k+1:Nat):Int):=by rw [cH V3];omega
  refine U39 ?_
  exact ⟨_,⟨[(1,Lp 1),(3,Ln .i64 (i:Nat)),(4,Lp 4),(5,Ln .i64 (k+1:Nat))],[v3B 39 4 r.nw r.old (some ⟨eb,eo,none⟩) r.ex.length ecap,v3B 42 1 va vb (some ⟨blk,off,none⟩) rs.length cap],X⟩,by omega,Le.of V8 VE V2 V2 V0,k+1,by omega,O,hpx,O⟩
 ·rw [if_neg he] at hpx
  rw [fin (encErr c) (by rw [hfx,hpx]) he]
  (refine U30 ?_;refine kne rfl rfl (cU he) ?_;refine U8 ?_)
  exact V6
end Go.Proofs.YtopiioklkkiedaaGreatDoor
end
