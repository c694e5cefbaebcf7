/- A piece of a proof over this program: contracts of its functions, and a logic to prove them by. -/
import Derived.Test.YtopiioklkkiedaaGreatDoorS3
import Derived.Test.YtopiioklkkiedaaGreatDoorS4
import Derived.Test.YtopiioklkkiedaaGreatDoorS5
import Derived.Lib.Join
import Derived.Lib.ItoaLen
section
namespace Go.Proofs.YtopiioklkkiedaaGreatDoor
open Go Go.Lg Go.Lg.Fml Go.Lg.Fld Go.Lg.Arith
set_option maxRecDepth 100000
def MoreM (X Y:Nat→Option Obj):Prop := ∀ b o,X b=some o→Y b=some o
theorem MoreM.refl (X:Nat→Option Obj):MoreM X X:=fun _ _ h=>h
theorem MoreM.trans {X Y Z:Nat→Option Obj} (h:MoreM X Y) (h':MoreM Y Z):MoreM X Z:=fun b o hb=>h' b o (h b o hb)
abbrev capL (caps:List Value):List LV:=caps.map fun v=>.sv (.one (.val v))
def OneV (Y:Nat→Option Obj) (v:Value) (F:Nm→Except Int Nm):Prop := ∃ (f:FuncId) (caps:List Value),v = .func (.func f) #[] caps.toArray∧∀ Z,MoreM Y Z→∀ x:Nm,In2 x.2→PSpec Tryz.prog Z f ([LI x.1 x.2]++capL caps) (exR (F x))
def TwoV (Y:Nat→Option Obj) (v:Value) (F:Nm→Nm→Except Int Nm):Prop := ∃ (f:FuncId) (caps:List Value),v = .func (.func f) #[] caps.toArray∧∀ Z,MoreM Y Z→∀ x y:Nm,In2 x.2→In2 y.2→PSpec Tryz.prog Z f ([LI x.1 x.2,LI y.1 y.2]++capL caps) (exR (F x y))
def ThreeV (Y:Nat→Option Obj) (v:Value) (F:Nm→Nm→Nm→Except Int Nm):Prop := ∃ (f:FuncId) (caps:List Value),v = .func (.func f) #[] caps.toArray∧∀ Z,MoreM Y Z→∀ x y z:Nm,In2 x.2→In2 y.2→In2 z.2→PSpec Tryz.prog Z f ([LI x.1 x.2,LI y.1 y.2,LI z.1 z.2]++capL caps) (exR (F x y z))
structure EnvIn (Z:Nat→Option Obj) (fad:Option Addr) (fs:List (List Nm)) (at_:Int):Prop where
 fss:FssIn Z fad fs
 len:fs.length<4611686018427387904
 rows:∀ r∈fs,r.length<4611686018427387904
 place : -9223372036854775808≤at_∧at_<9223372036854775808
theorem EnvIn.mono {Y Z:Nat→Option Obj} (h:MoreM Y Z) {fad:Option Addr} {fs:List (List Nm)} {at_:Int} (e:EnvIn Y fad fs at_):EnvIn Z fad fs at_:=⟨e.fss.mono h,e.len,e.rows,e.place⟩
def DeedV (Y:Nat→Option Obj) (v:Value) (op:Int):Prop := ∃ (f:FuncId) (caps:List Value),v = .func (.func f) #[] caps.toArray∧∀ Z,MoreM Y Z→∀ x:Ins,x.op=op→smallI x→∀ (fad:Option Addr) (fcap:Nat) (fs:List (List Nm)) (at_:Int),EnvIn Z fad fs at_ →
 ∀ (tad:Option Addr) (tcap:Nat) (ts:List Nm),NumsIn Z tad ts→ts.length=takes op→PSpec Tryz.prog Z f ([LIn x,LEnv fad fs.length fcap at_,Lx tad ts.length tcap]++capL caps) (exR (oneX fs at_ x ts))
theorem DeedV.mono {Y Z:Nat→Option Obj} (h:MoreM Y Z) {v:Value} {op:Int} (hv:DeedV Y v op):DeedV Z v op:=by
 obtain ⟨f,caps,e,hp⟩:=hv
 exact ⟨f,caps,e,fun W hW=>hp W (h.trans hW)⟩
theorem two_fn (Y:Nat→Option Obj) {f:FuncId} {F:Nm→Nm→Except Int Nm} (h:∀ (Z:Nat→Option Obj) (x y:Nm),In2 x.2→In2 y.2→PSpec Tryz.prog Z f [LI x.1 x.2,LI y.1 y.2] (exR (F x y))):TwoV Y (.func (.func f) #[] #[]) F:=⟨f,[],rfl,fun Z _ x y hx hy=>h Z x y hx hy⟩
theorem three_fn (Y:Nat→Option Obj) {f:FuncId} {F:Nm→Nm→Nm→Except Int Nm} (h:∀ (Z:Nat→Option Obj) (x y z:Nm),In2 x.2→In2 y.2→In2 z.2→PSpec Tryz.prog Z f [LI x.1 x.2,LI y.1 y.2,LI z.1 z.2] (exR (F x y z))):ThreeV Y (.func (.func f) #[] #[]) F:=⟨f,[],rfl,fun Z _ x y z hx hy hz=>h Z x y z hx hy hz⟩
abbrev pv (blk:Nat):Value:=.pointer (some ⟨blk,0,none⟩)
section
variable {Y:Nat→Option Obj} {blk:Nat} {arr:Array Value} {el:TypeId} {fr:Nat×Nat} {v:Value}
theorem two_swapped {F:Nm→Nm→Except Int Nm} (hY:Y blk=some (.cells arr el fr)) (hv:arr[0]? = some v) (hF:TwoV Y v F):TwoV Y (.func (.func 222) #[] #[pv blk]) (fun x y=>F y x):=by
 obtain ⟨f,caps,rfl,hF⟩:=hF
 refine ⟨222,[pv blk],O,fun Z hZ x y hx hy => ?_⟩
 have hP:=hF Z hZ y x hy hx
 have hX:=hZ _ _ hY
 show PSpec _ Z _ [LI x.1 x.2,LI y.1 y.2,.sv (.one (.val (pv blk)))] (exR (F y x))
 rw [exR_eq] at hP ⊢
 generalize exE (F y x)=e at *
 generalize exV (F y x)=v at *
 obtain ⟨vb,vN⟩:=v
 refine cC Tryz.func222 rfl (by kernel_rfl) rfl rfl ?_
 intro C
 (refine aA<|rgN<|aL O O O dO<|aL O O O dO<|aP O dO ?_;refine kas O<|aB<|aA<|rgN<|aW O hX O hv dO<|aK O O O dO ?_;refine aK O O O dO ?_;refine K.callF O O O hP dO ?_;refine kex O O<|kex O O<|aM O O O O O O dO ?_;refine kas O<|aB<|aI ?_)
 exact ⟨[_,_],⟨⟨_,_,O,O,O,.inl ⟨AggT.h,O⟩⟩,O,trivial⟩,O⟩
def choX (G:Nm→Nm→Except Int Nm) (x y:Nm):Except Int Nm:=match G x y with | .error e=>.error e | .ok a=>pickX a x y
theorem two_chosen {F:Nm→Nm→Except Int Nm} (hY:Y blk=some (.cells arr el fr)) (hv:arr[0]? = some v) (hF:TwoV Y v F) (h2:∀ x y a,F x y = .ok a→In2 a.2) (hz:∀ x y e,F x y = .error e→e≠0):TwoV Y (.func (.func 220) #[] #[pv blk]) (choX F):=by
 obtain ⟨f,caps,rfl,hF⟩:=hF
 refine ⟨220,[pv blk],O,fun Z hZ x y hx hy => ?_⟩
 have hP:=hF Z hZ x y hx hy
 have hX:=hZ _ _ hY
 show PSpec _ Z _ [LI x.1 x.2,LI y.1 y.2,.sv (.one (.val (pv blk)))] (exR (choX F x y))
 unfold choX
 cases hf:F x y with
 | error e =>
  have he:=hz x y e hf
  rw [hf] at hP
  show PSpec _ Z _ _ (.tup [S0,Sn .i64 e])
  have hP:PSpec Tryz.prog Z f ([LI x.1 x.2,LI y.1 y.2]++capL caps) (.tup [S0,Sn .i64 e]):=hP
  refine cC Tryz.func220 rfl (by kernel_rfl) rfl rfl ?_
  intro C
  (refine aA<|rgN<|aL O O O dO<|aL O O O dO<|aP O dO ?_;refine kas O<|aB<|aA<|rgN<|aW O hX O hv dO<|aK O O O dO ?_;refine aK O O O dO ?_;refine K.callF O O O hP dO ?_;refine kmv O<|kex O O<|kex O O<|aP O dO ?_;refine aM O O O O O O dO ?_;refine kas O<|aB<|aA<|aA<|rgN<|kmv O<|kne O O (r:=true) (cP he)<|aB<|aE O ?_;refine aA<|rgN<|aT O O (by exact O) (by exact nl3 O O O O) dO ?_;refine kmv O<|aM O O O O O O dO ?_;refine kas O<|aB<|aI ?_)
  exact ⟨[_,_],⟨⟨_,_,O,O,O,.inl ⟨AggT.h,O⟩⟩,O,trivial⟩,O⟩
 | ok a =>
  have ha:=h2 x y a hf
  rw [hf] at hP
  have hP:PSpec Tryz.prog Z f ([LI x.1 x.2,LI y.1 y.2]++capL caps) (.tup [SI a.1 a.2,Sn .i64 0]):=hP
  have hK:=tPick Z a x y ha
  show PSpec _ Z _ _ (exR (pickX a x y))
  rw [exR_eq] at hK ⊢
  generalize exE (pickX a x y)=e at *
  generalize exV (pickX a x y)=v at *
  obtain ⟨vb,vN⟩:=v
  refine cC Tryz.func220 rfl (by kernel_rfl) rfl rfl ?_
  intro C
  (refine aA<|rgN<|aL O O O dO<|aL O O O dO<|aP O dO ?_;refine kas O<|aB<|aA<|rgN<|aW O hX O hv dO<|aK O O O dO ?_;refine aK O O O dO ?_;refine K.callF O O O hP dO ?_;refine kmv O<|kex O O<|kex O O<|aP O dO ?_;refine aM O O O O O O dO ?_;refine kas O<|aB<|aA<|aA<|rgN<|kmv O<|kne O O (r:=false) O<|aB<|aF O ?_;refine aH ?_;refine aA<|rgN<|aK O O O dO ?_;refine aK O O O dO ?_;refine aK O O O dO ?_;refine kca O O (hK)<|kex O O<|kex O O<|aM O O O O O O dO ?_;refine kas O<|aB<|aI ?_)
  exact ⟨[_,_],⟨⟨_,_,O,O,O,.inl ⟨AggT.h,O⟩⟩,O,trivial⟩,O⟩
theorem one_zero {F:Nm→Nm→Except Int Nm} (hY:Y blk=some (.cells arr el fr)) (hv:arr[0]? = some v) (hF:TwoV Y v F):OneV Y (.func (.func 219) #[] #[pv blk]) (fun x=>F (false,0) x):=by
 obtain ⟨f,caps,rfl,hF⟩:=hF
 refine ⟨219,[pv blk],O,fun Z hZ x hx => ?_⟩
 have hP:PSpec Tryz.prog Z f ([.sv S0,LI x.1 x.2]++capL caps) (exR (F (false,0) x)):=hF Z hZ (false,0) x ⟨by decide,by decide⟩ hx
 have hX:=hZ _ _ hY
 show PSpec _ Z _ [LI x.1 x.2,.sv (.one (.val (pv blk)))] (exR (F (false,0) x))
 rw [exR_eq] at hP ⊢
 generalize exE (F (false,0) x)=e at *
 generalize exV (F (false,0) x)=v at *
 obtain ⟨vb,vN⟩:=v
 refine cC Tryz.func219 rfl (by kernel_rfl) rfl rfl ?_
 intro C
 (refine aA<|rgN<|aL O O O dO<|aP O dO ?_;refine kas O<|aB<|aA<|rgN<|aW O hX O hv dO<|aT O O (by exact O) (by exact nl3 O O O O) dO ?_;refine aK O O O dO ?_;refine K.callF O O O hP dO ?_;refine kex O O<|kex O O<|aM O O O O O O dO ?_;refine kas O<|aB<|aI ?_)
 exact ⟨[_,_],⟨⟨_,_,O,O,O,.inl ⟨AggT.h,O⟩⟩,O,trivial⟩,O⟩
theorem deed_one {op:Int} {F:Nm→Except Int Nm} (ht:takes op=1) (hY:Y blk=some (.cells arr el fr)) (hv:arr[0]? = some v) (hF:OneV Y v F) (hop:∀ u,In2 u.2→nodeX op [u]=F u):DeedV Y (.func (.func 218) #[] #[pv blk]) op:=by
 obtain ⟨f,caps,rfl,hF⟩:=hF
 refine ⟨218,[pv blk],O,fun Z hZ x hxo hx fad fcap fs at_ hE tad tcap ts hts hlen => ?_⟩
 rw [ht] at hlen
 match ts,hlen,hts with
 | [u],_,hts =>
 have e1:oneX fs at_ x [u]=F u:=by unfold oneX;rw [hxo,if_neg (by rw [ht];decide),hop u (hts.in2 _ (by simp))]
 rw [e1]
 obtain ⟨tb,tof,ta,te,tf,rfl,hT,hall⟩:=hts.all (by show 0<1;omega)
 obtain ⟨i0,s0,c0⟩:=hall 0 _ _ rfl
 have h0:tof+Int.toNat 0*3=tof+0*3:=rfl
 have hb0:0≤(0:Int)∧(0:Int)<(1:Nat):=by omega
 have hP:=hF Z hZ u i0
 have hX:=hZ _ _ hY
 show PSpec _ Z _ [LIn x,LEnv fad fs.length fcap at_,Lx (some ⟨tb,tof,none⟩) 1 tcap,.sv (.one (.val (pv blk)))] (exR (F u))
 rw [exR_eq] at hP ⊢
 generalize exE (F u)=e at *
 generalize exV (F u)=v at *
 obtain ⟨vb,vN⟩:=v
 refine cC Tryz.func218 rfl (by kernel_rfl) rfl rfl ?_
 intro C
 (refine aA<|rgN<|aL O O O dO<|aL O O O dO<|aP O dO ?_;refine kas O<|aB<|aA<|rgD mixed<|aW O hX O hv dO<|kmv O<|aR O O bZ hb0 h0 dO<|aY O hT (by kernel_rfl) s0 c0 dO<|K.callF O O O hP dO ?_;refine kex O O<|kex O O<|aM O O O O O O dO ?_;refine kas O<|aB<|rgA ?_;refine aI ?_)
 exact ⟨[_,_],⟨⟨_,_,O,O,O,.inl ⟨AggT.h,O⟩⟩,O,trivial⟩,O⟩
theorem deed_two {op:Int} {F:Nm→Nm→Except Int Nm} (ht:takes op=2) (hY:Y blk=some (.cells arr el fr)) (hv:arr[0]? = some v) (hF:TwoV Y v F) (hop:∀ u w,In2 u.2→In2 w.2→nodeX op [u,w]=F u w):DeedV Y (.func (.func 211) #[] #[pv blk]) op:=by
 obtain ⟨f,caps,rfl,hF⟩:=hF
 refine ⟨211,[pv blk],O,fun Z hZ x hxo hx fad fcap fs at_ hE tad tcap ts hts hlen => ?_⟩
 rw [ht] at hlen
 match ts,hlen,hts with
 | [u,z],_,hts =>
 have e1:oneX fs at_ x [u,z]=F u z:=by unfold oneX;rw [hxo,if_neg (by rw [ht];decide),hop u z (hts.in2 _ (by simp)) (hts.in2 _ (by simp))]
 rw [e1]
 obtain ⟨tb,tof,ta,te,tf,rfl,hT,hall⟩:=hts.all (by show 0<2;omega)
 obtain ⟨i0,s0,c0⟩:=hall 0 _ _ rfl
 have h0:tof+Int.toNat 0*3=tof+0*3:=rfl
 have hb0:0≤(0:Int)∧(0:Int)<(2:Nat):=by omega
 obtain ⟨i1,s1,c1⟩:=hall 1 _ _ rfl
 have h1:tof+Int.toNat 1*3=tof+1*3:=rfl
 have hb1:0≤(1:Int)∧(1:Int)<(2:Nat):=by omega
 have hP:=hF Z hZ u z i0 i1
 have hX:=hZ _ _ hY
 show PSpec _ Z _ [LIn x,LEnv fad fs.length fcap at_,Lx (some ⟨tb,tof,none⟩) 2 tcap,.sv (.one (.val (pv blk)))] (exR (F u z))
 rw [exR_eq] at hP ⊢
 generalize exE (F u z)=e at *
 generalize exV (F u z)=v at *
 obtain ⟨vb,vN⟩:=v
 refine cC Tryz.func211 rfl (by kernel_rfl) rfl rfl ?_
 intro C
 (refine aA<|rgN<|aL O O O dO<|aL O O O dO<|aP O dO ?_;refine kas O<|aB<|aA<|rgD mixed<|aW O hX O hv dO<|kmv O<|aR O O bZ hb0 h0 dO<|aY O hT (by kernel_rfl) s0 c0 dO<|kmv O<|aR O O bZ hb1 h1 dO<|aY O hT (by kernel_rfl) s1 c1 dO<|K.callF O O O hP dO ?_;refine kex O O<|kex O O<|aM O O O O O O dO ?_;refine kas O<|aB<|rgA ?_;refine aI ?_)
 exact ⟨[_,_],⟨⟨_,_,O,O,O,.inl ⟨AggT.h,O⟩⟩,O,trivial⟩,O⟩
theorem deed_three {op:Int} {F:Nm→Nm→Nm→Except Int Nm} (ht:takes op=3) (hY:Y blk=some (.cells arr el fr)) (hv:arr[0]? = some v) (hF:ThreeV Y v F) (hop:∀ u w z,In2 u.2→In2 w.2→In2 z.2→nodeX op [u,w,z]=F u w z):DeedV Y (.func (.func 223) #[] #[pv blk]) op:=by
 obtain ⟨f,caps,rfl,hF⟩:=hF
 refine ⟨223,[pv blk],O,fun Z hZ x hxo hx fad fcap fs at_ hE tad tcap ts hts hlen => ?_⟩
 rw [ht] at hlen
 match ts,hlen,hts with
 | [u,z,q],_,hts =>
 have e1:oneX fs at_ x [u,z,q]=F u z q:=by unfold oneX;rw [hxo,if_neg (by rw [ht];decide),hop u z q (hts.in2 _ (by simp)) (hts.in2 _ (by simp)) (hts.in2 _ (by simp))]
 rw [e1]
 obtain ⟨tb,tof,ta,te,tf,rfl,hT,hall⟩:=hts.all (by show 0<3;omega)
 obtain ⟨i0,s0,c0⟩:=hall 0 _ _ rfl
 have h0:tof+Int.toNat 0*3=tof+0*3:=rfl
 have hb0:0≤(0:Int)∧(0:Int)<(3:Nat):=by omega
 obtain ⟨i1,s1,c1⟩:=hall 1 _ _ rfl
 have h1:tof+Int.toNat 1*3=tof+1*3:=rfl
 have hb1:0≤(1:Int)∧(1:Int)<(3:Nat):=by omega
 obtain ⟨i2,s2,c2⟩:=hall 2 _ _ rfl
 have h2:tof+Int.toNat 2*3=tof+2*3:=rfl
 have hb2:0≤(2:Int)∧(2:Int)<(3:Nat):=by omega
 have hP:=hF Z hZ u z q i0 i1 i2
 have hX:=hZ _ _ hY
 show PSpec _ Z _ [LIn x,LEnv fad fs.length fcap at_,Lx (some ⟨tb,tof,none⟩) 3 tcap,.sv (.one (.val (pv blk)))] (exR (F u z q))
 rw [exR_eq] at hP ⊢
 generalize exE (F u z q)=e at *
 generalize exV (F u z q)=v at *
 obtain ⟨vb,vN⟩:=v
 refine cC Tryz.func223 rfl (by kernel_rfl) rfl rfl ?_
 intro C
 (refine aA<|rgN<|aL O O O dO<|aL O O O dO<|aP O dO ?_;refine kas O<|aB<|aA<|rgD mixed<|aW O hX O hv dO<|kmv O<|aR O O bZ hb0 h0 dO<|aY O hT (by kernel_rfl) s0 c0 dO<|kmv O<|aR O O bZ hb1 h1 dO<|aY O hT (by kernel_rfl) s1 c1 dO<|kmv O<|aR O O bZ hb2 h2 dO<|aY O hT (by kernel_rfl) s2 c2 dO ?_;refine K.callF O O O hP dO ?_;refine kex O O<|kex O O<|aM O O O O O O dO ?_;refine kas O<|aB<|rgA ?_;refine aI ?_)
 exact ⟨[_,_],⟨⟨_,_,O,O,O,.inl ⟨AggT.h,O⟩⟩,O,trivial⟩,O⟩
end
variable (X:Nat→Option Obj)
theorem tFind (fad:Option Addr) (fcap:Nat) (fs:List (List Nm)) (at_:Int) (hE:EnvIn X fad fs at_) (a b:Int) (ha : -9223372036854775808≤a∧a<9223372036854775808) (hb : -9223372036854775808≤b∧b<9223372036854775808):
  PSpec Tryz.prog X 210 [LEnv fad fs.length fcap at_,Ln .i64 a,Ln .i64 b] (exR (elemX fs a b)):=by
 have hfl:=hE.len
 by_cases c1:a<0
 ·rw [show elemX fs a b = .error 3 by unfold elemX;rw [if_pos (.inl c1)]]
  refine cC Tryz.func210 rfl (by kernel_rfl) rfl rfl ?_
  intro C
  (refine aA<|rgN<|aL O O O dO<|aP O dO ?_;refine kas O<|aB<|aA<|aA<|rgN<|kmv O<|klt O O (r:=true) (cL c1)<|kmv O<|aC O O O<|aC O O O<|aC O O O<|aC O O O<|aC O O O<|kpt O O ?_;refine aB<|aE O ?_;refine aA<|rgN<|aT O O (by exact O) (by exact nl3 O O O O) dO ?_;refine aM O O O O O O dO ?_;refine kas O<|aB<|aI ?_)
  exact ⟨[_,_],⟨⟨_,_,O,O,O,.inl ⟨AggT.h,O⟩⟩,O,trivial⟩,O⟩
 by_cases c2:(fs.length:Int)≤a
 ·rw [show elemX fs a b = .error 3 by unfold elemX;split<;>first|rfl|(rw [List.getElem?_eq_none (by omega)])]
  refine cC Tryz.func210 rfl (by kernel_rfl) rfl rfl ?_
  intro C
  (refine aA<|rgN<|aL O O O dO<|aP O dO ?_;refine kas O<|aB<|aA<|aA<|rgN<|kmv O<|klt O O (r:=false) (cK c1)<|kmv O<|gmv O O O<|aN O O (dP O O) ?_;refine aO O O O (dP O O) ?_;refine aQ O bZ O (dP O O) ?_;refine bD O O (r:=true) (cL c2) (dP O O) ?_;refine kpf O O<|aB<|aE O ?_;refine aA<|rgN<|aT O O (by exact O) (by exact nl3 O O O O) dO ?_;refine aM O O O O O O dO ?_;refine kas O<|aB<|aI ?_)
  exact ⟨[_,_],⟨⟨_,_,O,O,O,.inl ⟨AggT.h,O⟩⟩,O,trivial⟩,O⟩
 obtain ⟨r,hr⟩:∃ r,fs[a.toNat]? = some r:=⟨_,cU (by omega)⟩
 obtain ⟨blk,off,arr,el,fr,vad,vcap,rfl,hX,hsz,hcell,hN⟩:=hE.fss.at_ _ _ hr
 have hrl:=hE.rows r (cZ hr)
 have hio:off+Int.toNat a*1=off+a.toNat:=by omega
 by_cases c3:b<0
 ·rw [show elemX fs a b = .error 3 by unfold elemX;rw [if_pos (.inr c3)]]
  refine cC Tryz.func210 rfl (by kernel_rfl) rfl rfl ?_
  intro C
  (refine aA<|rgN<|aL O O O dO<|aP O dO ?_;refine kas O<|aB<|aA<|aA<|rgN<|kmv O<|klt O O (r:=false) (cK c1)<|kmv O<|gmv O O O<|aN O O (dP O O) ?_;refine aO O O O (dP O O) ?_;refine aQ O bZ O (dP O O) ?_;refine bD O O (r:=false) (cK c2) (dP O O) ?_;refine kpf O O<|aB<|aF O ?_;refine aH ?_;refine aA<|rgN<|kfa O O ?_;refine kl1 O O O<|kmv O<|aR O O bZ (by omega) hio dO<|aW O hX O hcell dO<|kas O<|aB<|aA<|aA<|rgN<|kmv O<|klt O O (r:=true) (cL c3)<|kmv O<|aC O O O<|aC O O O ?_;refine aC O O O<|aC O O O<|kpt O O<|aB<|aE O ?_;refine aA<|rgN<|aT O O (by exact O) (by exact nl3 O O O O) dO ?_;refine aM O O O O O O dO ?_;refine kas O<|aB<|aI ?_)
  exact ⟨[_,_],⟨⟨_,_,O,O,O,.inl ⟨AggT.h,O⟩⟩,O,trivial⟩,O⟩
 by_cases c4:(r.length:Int)≤b
 ·rw [show elemX fs a b = .error 3 by unfold elemX;rw [if_neg (by omega),hr];simp only;rw [List.getElem?_eq_none (by omega)]]
  refine cC Tryz.func210 rfl (by kernel_rfl) rfl rfl ?_
  intro C
  (refine aA<|rgN<|aL O O O dO<|aP O dO ?_;refine kas O<|aB<|aA<|aA<|rgN<|kmv O<|klt O O (r:=false) (cK c1)<|kmv O<|gmv O O O<|aN O O (dP O O) ?_;refine aO O O O (dP O O) ?_;refine aQ O bZ O (dP O O) ?_;refine bD O O (r:=false) (cK c2) (dP O O) ?_;refine kpf O O<|aB<|aF O ?_;refine aH ?_;refine aA<|rgN<|kfa O O ?_;refine kl1 O O O<|kmv O<|aR O O bZ (by omega) hio dO<|aW O hX O hcell dO<|kas O<|aB<|aA<|aA<|rgN<|kmv O<|klt O O (r:=false) (cK c3)<|kmv O<|gmv O O O<|gmv O O O ?_;refine aQ O bZ O (dP O O) ?_;refine bD O O (r:=true) (cL c4) (dP O O) ?_;refine kpf O O<|aB<|aE O ?_;refine aA<|rgN<|aT O O (by exact O) (by exact nl3 O O O O) dO ?_;refine aM O O O O O O dO ?_;refine kas O<|aB<|aI ?_)
  exact ⟨[_,_],⟨⟨_,_,O,O,O,.inl ⟨AggT.h,O⟩⟩,O,trivial⟩,O⟩
 obtain ⟨⟨vb,vN⟩,hv⟩:∃ v,r[b.toNat]? = some v:=⟨_,cU (by omega)⟩
 obtain ⟨_,blk2,off2,arr2,el2,fr2,rfl,hX2,hsz2,hcs2⟩:=hN.at hv
 have hio2:off2+Int.toNat b*3=off2+b.toNat*3:=rfl
 rw [show elemX fs a b = .ok (vb,vN) by unfold elemX;rw [if_neg (by omega),hr];simp only;rw [hv]]
 refine cC Tryz.func210 rfl (by kernel_rfl) rfl rfl ?_
 intro C
 (refine aA<|rgN<|aL O O O dO<|aP O dO ?_;refine kas O<|aB<|aA<|aA<|rgN<|kmv O<|klt O O (r:=false) (cK c1)<|kmv O<|gmv O O O<|aN O O (dP O O) ?_;refine aO O O O (dP O O) ?_;refine aQ O bZ O (dP O O) ?_;refine bD O O (r:=false) (cK c2) (dP O O) ?_;refine kpf O O<|aB<|aF O ?_;refine aH ?_;refine aA<|rgN<|kfa O O ?_;refine kl1 O O O<|kmv O<|aR O O bZ (by omega) hio dO<|aW O hX O hcell dO<|kas O<|aB<|aA<|aA<|rgN<|kmv O<|klt O O (r:=false) (cK c3)<|kmv O<|gmv O O O<|gmv O O O ?_;refine aQ O bZ O (dP O O) ?_;refine bD O O (r:=false) (cK c4) (dP O O) ?_;refine kpf O O<|aB<|aF O ?_;refine aH ?_;refine aA<|rgN<|kmv O<|kmv O<|aR O O bZ (by omega) hio2 dO<|aY O hX2 (by kernel_rfl) hsz2 hcs2 dO<|aM O O O O O O dO ?_;refine kas O<|aB<|aI ?_)
 exact ⟨[_,_],⟨⟨_,_,O,O,O,.inl ⟨AggT.h,O⟩⟩,O,trivial⟩,O⟩
theorem deed_num:DeedV X (.func (.func 178) #[] #[]) 1:=by
 refine ⟨178,[],O,fun Z hZ x hxo hx fad fcap fs at_ hE tad tcap ts hts hlen => ?_⟩
 rw [show oneX fs at_ x ts = .ok x.k by unfold oneX leafX;rw [hxo];rfl]
 show PSpec _ Z _ [LIn x,LEnv fad fs.length fcap at_,Lx tad ts.length tcap] (.tup [SI x.k.1 x.k.2,Sn .i64 0])
 refine cC Tryz.func178 rfl (by kernel_rfl) rfl rfl ?_
 intro C
 (refine aA<|rgN<|aL O O O dO<|aL O O O dO<|aP O dO ?_;refine kas O<|aB<|aA<|rgN<|kfa O O ?_;refine bJ O O O (by exact nl3 O O O O) dO ?_;refine aM O O O O O O dO ?_;refine kas O<|aB<|aI ?_)
 exact ⟨[_,_],⟨⟨_,_,O,O,O,.inl ⟨AggT.h,O⟩⟩,O,trivial⟩,O⟩
theorem deed_elem:DeedV X (.func (.func 179) #[] #[]) 2:=by
 refine ⟨179,[],O,fun Z hZ x hxo hx fad fcap fs at_ hE tad tcap ts hts hlen => ?_⟩
 rw [show oneX fs at_ x ts=elemX fs x.a x.b by unfold oneX leafX;rw [hxo];rfl]
 have hP:=tFind Z fad fcap fs at_ hE x.a x.b hx.2.1 hx.2.2.1
 show PSpec _ Z _ [LIn x,LEnv fad fs.length fcap at_,Lx tad ts.length tcap] (exR (elemX fs x.a x.b))
 rw [exR_eq] at hP ⊢
 generalize exE (elemX fs x.a x.b)=e at *
 generalize exV (elemX fs x.a x.b)=v at *
 obtain ⟨vb,vN⟩:=v
 refine cC Tryz.func179 rfl (by kernel_rfl) rfl rfl ?_
 intro C
 (refine aA<|rgN<|aL O O O dO<|aL O O O dO<|aP O dO ?_;refine kas O<|aB<|aA<|rgN<|aK O O O dO ?_;refine kfa O O ?_;refine kl1 O O O<|kfa O O ?_;refine kl1 O O O<|kca O O (hP)<|kex O O<|kex O O<|aM O O O O O O dO ?_;refine kas O<|aB<|aI ?_)
 exact ⟨[_,_],⟨⟨_,_,O,O,O,.inl ⟨AggT.h,O⟩⟩,O,trivial⟩,O⟩
theorem deed_here:DeedV X (.func (.func 180) #[] #[]) 3:=by
 refine ⟨180,[],O,fun Z hZ x hxo hx fad fcap fs at_ hE tad tcap ts hts hlen => ?_⟩
 rw [show oneX fs at_ x ts=elemX fs x.a at_ by unfold oneX leafX;rw [hxo];rfl]
 have hP:=tFind Z fad fcap fs at_ hE x.a at_ hx.2.1 hE.place
 show PSpec _ Z _ [LIn x,LEnv fad fs.length fcap at_,Lx tad ts.length tcap] (exR (elemX fs x.a at_))
 rw [exR_eq] at hP ⊢
 generalize exE (elemX fs x.a at_)=e at *
 generalize exV (elemX fs x.a at_)=v at *
 obtain ⟨vb,vN⟩:=v
 refine cC Tryz.func180 rfl (by kernel_rfl) rfl rfl ?_
 intro C
 (refine aA<|rgN<|aL O O O dO<|aL O O O dO<|aP O dO ?_;refine kas O<|aB<|aA<|rgN<|aK O O O dO ?_;refine kfa O O ?_;refine kl1 O O O<|kfa O O ?_;refine kl1 O O O<|kca O O (hP)<|kex O O<|kex O O<|aM O O O O O O dO ?_;refine kas O<|aB<|aI ?_)
 exact ⟨[_,_],⟨⟨_,_,O,O,O,.inl ⟨AggT.h,O⟩⟩,O,trivial⟩,O⟩
theorem deed_place:DeedV X (.func (.func 181) #[] #[]) 4:=by
 refine ⟨181,[],O,fun Z hZ x hxo hx fad fcap fs at_ hE tad tcap ts hts hlen => ?_⟩
 have hpl:=hE.place
 rw [show oneX fs at_ x ts=(if at_<0 then .error 3 else .ok (false,at_)) by unfold oneX leafX;rw [hxo];rfl]
 show PSpec _ Z _ [LIn x,LEnv fad fs.length fcap at_,Lx tad ts.length tcap] _
 by_cases c:at_<0
 ·rw [if_pos c]
  refine cC Tryz.func181 rfl (by kernel_rfl) rfl rfl ?_
  intro C
  (refine aA<|rgN<|aL O O O dO<|aL O O O dO<|aP O dO ?_;refine kas O<|aB<|aA<|aA<|rgN<|kfa O O ?_;refine kl1 O O O<|klt O O (r:=true) (cL c)<|aB<|aE O ?_;refine aA<|rgN<|aT O O (by exact O) (by exact nl3 O O O O) dO ?_;refine aM O O O O O O dO ?_;refine kas O<|aB<|aI ?_)
  exact ⟨[_,_],⟨⟨_,_,O,O,O,.inl ⟨AggT.h,O⟩⟩,O,trivial⟩,O⟩
 ·rw [if_neg c]
  have hO:=Of_spec Z at_ hpl
  rw [show LQ at_=LI false at_ by unfold LQ;rw [mg_pos (by omega),cK c]] at hO
  show PSpec _ Z _ _ (.tup [SI false at_,Sn .i64 0])
  refine cC Tryz.func181 rfl (by kernel_rfl) rfl rfl ?_
  intro C
  (refine aA<|rgN<|aL O O O dO<|aL O O O dO<|aP O dO ?_;refine kas O<|aB<|aA<|aA<|rgN<|kfa O O ?_;refine kl1 O O O<|klt O O (r:=false) (cK c)<|aB<|aF O ?_;refine aH ?_;refine aA<|rgN<|kfa O O ?_;refine kl1 O O O<|kca O O (hO)<|aM O O O O O O dO ?_;refine kas O<|aB<|aI ?_)
  exact ⟨[_,_],⟨⟨_,_,O,O,O,.inl ⟨AggT.h,O⟩⟩,O,trivial⟩,O⟩
end Go.Proofs.YtopiioklkkiedaaGreatDoor
end
section
namespace Go.Proofs.YtopiioklkkiedaaGreatDoor
open Go Go.Lg Go.Lg.Fml Go.Lg.Fld Go.Lg.Arith
set_option maxRecDepth 100000
abbrev ptrF (f:FuncId) (k:Nat):CV:=.fn (.func f) (fun i=>[pv i]) k
abbrev fnV (f:FuncId):Value:=.func (.func f) #[] #[]
abbrev vB (t:TypeId) (k:Nat) (c:CV):Nat×Option Box:=(k,some ⟨t,[c],false⟩)
variable (X:Nat→Option Obj)
theorem mA_ofTwo (g:FuncId):MSpec Tryz.prog X 182 [.sv (.one (.val (fnV g)))] [] (.sv (.one (ptrF 211 1000001))) [vB 275 1000001 (.val (fnV g))]:=by
 refine cD Tryz.func182 rfl (by kernel_rfl) rfl (by exact (by repeat' (first|refine bS ?_ ?_|rfl|exact bU|exact bT|exact bV rfl))) (by exact (by repeat' (first|refine bS ?_ ?_|rfl|exact bU|exact bT|exact bV rfl))) rfl rfl ?_
 intro C
 (refine aA<|rgN<|K.box1 O O O dO<|kas O<|aB<|aA<|rgN<|K.makeFuncP O O dO ?_;refine kas O<|aB<|aI ?_)
 exact ⟨[(1000001,1)],⟨[_],⟨rfl,trivial⟩,rfl⟩,(by repeat' (first|exact trivial|refine cM ⟨_,rfl,?_⟩ ?_|refine cM ⟨_,rfl⟩ ?_|rfl|exact bW _ _ _ _|exact bX _ _ _ _|exact bY rfl)),rfl,rfl⟩
theorem mB_ofTwo (g h:FuncId) (t:TypeId):MSpec Tryz.prog X 182 [.sv (.one (ptrF g 1000002))] [vB t 1000002 (.val (fnV h))] (.sv (.one (ptrF 211 1000001))) [vB 275 1000001 (ptrF g 1000002),vB t 1000002 (.val (fnV h))]:=by
 refine cD Tryz.func182 rfl (by kernel_rfl) rfl (by exact (by repeat' (first|refine bS ?_ ?_|rfl|exact bU|exact bT|exact bV rfl))) (by exact (by repeat' (first|refine bS ?_ ?_|rfl|exact bU|exact bT|exact bV rfl))) rfl rfl ?_
 intro C
 (refine aA<|rgN<|K.box1 O O O dO<|kas O<|aB<|aA<|rgN<|K.makeFuncP O O dO ?_;refine kas O<|aB<|aI ?_)
 exact ⟨[(1000001,1)],⟨[_],⟨rfl,trivial⟩,rfl⟩,(by repeat' (first|exact trivial|refine cM ⟨_,rfl,?_⟩ ?_|refine cM ⟨_,rfl⟩ ?_|rfl|exact bW _ _ _ _|exact bX _ _ _ _|exact bY rfl)),rfl,rfl⟩
theorem mC_ofTwo (g h i:FuncId) (t:TypeId):MSpec Tryz.prog X 182 [.sv (.one (ptrF g 1000002))] [vB t 1000002 (ptrF h 1000003),vB t 1000003 (.val (fnV i))] (.sv (.one (ptrF 211 1000001))) [vB 275 1000001 (ptrF g 1000002),vB t 1000002 (ptrF h 1000003),vB t 1000003 (.val (fnV i))]:=by
 refine cD Tryz.func182 rfl (by kernel_rfl) rfl (by exact (by repeat' (first|refine bS ?_ ?_|rfl|exact bU|exact bT|exact bV rfl))) (by exact (by repeat' (first|refine bS ?_ ?_|rfl|exact bU|exact bT|exact bV rfl))) rfl rfl ?_
 intro C
 (refine aA<|rgN<|K.box1 O O O dO<|kas O<|aB<|aA<|rgN<|K.makeFuncP O O dO ?_;refine kas O<|aB<|aI ?_)
 exact ⟨[(1000001,1)],⟨[_],⟨rfl,trivial⟩,rfl⟩,(by repeat' (first|exact trivial|refine cM ⟨_,rfl,?_⟩ ?_|refine cM ⟨_,rfl⟩ ?_|rfl|exact bW _ _ _ _|exact bX _ _ _ _|exact bY rfl)),rfl,rfl⟩
theorem mB_ofOne (g h:FuncId) (t:TypeId):MSpec Tryz.prog X 188 [.sv (.one (ptrF g 1000002))] [vB t 1000002 (.val (fnV h))] (.sv (.one (ptrF 218 1000001))) [vB 273 1000001 (ptrF g 1000002),vB t 1000002 (.val (fnV h))]:=by
 refine cD Tryz.func188 rfl (by kernel_rfl) rfl (by exact (by repeat' (first|refine bS ?_ ?_|rfl|exact bU|exact bT|exact bV rfl))) (by exact (by repeat' (first|refine bS ?_ ?_|rfl|exact bU|exact bT|exact bV rfl))) rfl rfl ?_
 intro C
 (refine aA<|rgN<|K.box1 O O O dO<|kas O<|aB<|aA<|rgN<|K.makeFuncP O O dO ?_;refine kas O<|aB<|aI ?_)
 exact ⟨[(1000001,1)],⟨[_],⟨rfl,trivial⟩,rfl⟩,(by repeat' (first|exact trivial|refine cM ⟨_,rfl,?_⟩ ?_|refine cM ⟨_,rfl⟩ ?_|rfl|exact bW _ _ _ _|exact bX _ _ _ _|exact bY rfl)),rfl,rfl⟩
theorem mA_ofThree (g:FuncId):MSpec Tryz.prog X 194 [.sv (.one (.val (fnV g)))] [] (.sv (.one (ptrF 223 1000001))) [vB 297 1000001 (.val (fnV g))]:=by
 refine cD Tryz.func194 rfl (by kernel_rfl) rfl (by exact (by repeat' (first|refine bS ?_ ?_|rfl|exact bU|exact bT|exact bV rfl))) (by exact (by repeat' (first|refine bS ?_ ?_|rfl|exact bU|exact bT|exact bV rfl))) rfl rfl ?_
 intro C
 (refine aA<|rgN<|K.box1 O O O dO<|kas O<|aB<|aA<|rgN<|K.makeFuncP O O dO ?_;refine kas O<|aB<|aI ?_)
 exact ⟨[(1000001,1)],⟨[_],⟨rfl,trivial⟩,rfl⟩,(by repeat' (first|exact trivial|refine cM ⟨_,rfl,?_⟩ ?_|refine cM ⟨_,rfl⟩ ?_|rfl|exact bW _ _ _ _|exact bX _ _ _ _|exact bY rfl)),rfl,rfl⟩
theorem mA_withZero (g:FuncId):MSpec Tryz.prog X 189 [.sv (.one (.val (fnV g)))] [] (.sv (.one (ptrF 219 1000001))) [vB 275 1000001 (.val (fnV g))]:=by
 refine cD Tryz.func189 rfl (by kernel_rfl) rfl (by exact (by repeat' (first|refine bS ?_ ?_|rfl|exact bU|exact bT|exact bV rfl))) (by exact (by repeat' (first|refine bS ?_ ?_|rfl|exact bU|exact bT|exact bV rfl))) rfl rfl ?_
 intro C
 (refine aA<|rgN<|K.box1 O O O dO<|kas O<|aB<|aA<|rgN<|K.makeFuncP O O dO ?_;refine kas O<|aB<|aI ?_)
 exact ⟨[(1000001,1)],⟨[_],⟨rfl,trivial⟩,rfl⟩,(by repeat' (first|exact trivial|refine cM ⟨_,rfl,?_⟩ ?_|refine cM ⟨_,rfl⟩ ?_|rfl|exact bW _ _ _ _|exact bX _ _ _ _|exact bY rfl)),rfl,rfl⟩
theorem mA_chosen (g:FuncId):MSpec Tryz.prog X 190 [.sv (.one (.val (fnV g)))] [] (.sv (.one (ptrF 220 1000001))) [vB 275 1000001 (.val (fnV g))]:=by
 refine cD Tryz.func190 rfl (by kernel_rfl) rfl (by exact (by repeat' (first|refine bS ?_ ?_|rfl|exact bU|exact bT|exact bV rfl))) (by exact (by repeat' (first|refine bS ?_ ?_|rfl|exact bU|exact bT|exact bV rfl))) rfl rfl ?_
 intro C
 (refine aA<|rgN<|K.box1 O O O dO<|kas O<|aB<|aA<|rgN<|K.makeFuncP O O dO ?_;refine kas O<|aB<|aI ?_)
 exact ⟨[(1000001,1)],⟨[_],⟨rfl,trivial⟩,rfl⟩,(by repeat' (first|exact trivial|refine cM ⟨_,rfl,?_⟩ ?_|refine cM ⟨_,rfl⟩ ?_|rfl|exact bW _ _ _ _|exact bX _ _ _ _|exact bY rfl)),rfl,rfl⟩
theorem mB_chosen (g h:FuncId) (t:TypeId):MSpec Tryz.prog X 190 [.sv (.one (ptrF g 1000002))] [vB t 1000002 (.val (fnV h))] (.sv (.one (ptrF 220 1000001))) [vB 275 1000001 (ptrF g 1000002),vB t 1000002 (.val (fnV h))]:=by
 refine cD Tryz.func190 rfl (by kernel_rfl) rfl (by exact (by repeat' (first|refine bS ?_ ?_|rfl|exact bU|exact bT|exact bV rfl))) (by exact (by repeat' (first|refine bS ?_ ?_|rfl|exact bU|exact bT|exact bV rfl))) rfl rfl ?_
 intro C
 (refine aA<|rgN<|K.box1 O O O dO<|kas O<|aB<|aA<|rgN<|K.makeFuncP O O dO ?_;refine kas O<|aB<|aI ?_)
 exact ⟨[(1000001,1)],⟨[_],⟨rfl,trivial⟩,rfl⟩,(by repeat' (first|exact trivial|refine cM ⟨_,rfl,?_⟩ ?_|refine cM ⟨_,rfl⟩ ?_|rfl|exact bW _ _ _ _|exact bX _ _ _ _|exact bY rfl)),rfl,rfl⟩
theorem mA_swapped (g:FuncId):MSpec Tryz.prog X 192 [.sv (.one (.val (fnV g)))] [] (.sv (.one (ptrF 222 1000001))) [vB 275 1000001 (.val (fnV g))]:=by
 refine cD Tryz.func192 rfl (by kernel_rfl) rfl (by exact (by repeat' (first|refine bS ?_ ?_|rfl|exact bU|exact bT|exact bV rfl))) (by exact (by repeat' (first|refine bS ?_ ?_|rfl|exact bU|exact bT|exact bV rfl))) rfl rfl ?_
 intro C
 (refine aA<|rgN<|K.box1 O O O dO<|kas O<|aB<|aA<|rgN<|K.makeFuncP O O dO ?_;refine kas O<|aB<|aI ?_)
 exact ⟨[(1000001,1)],⟨[_],⟨rfl,trivial⟩,rfl⟩,(by repeat' (first|exact trivial|refine cM ⟨_,rfl,?_⟩ ?_|refine cM ⟨_,rfl⟩ ?_|rfl|exact bW _ _ _ _|exact bX _ _ _ _|exact bY rfl)),rfl,rfl⟩
def deedR (f:FuncId) (op:Int):Rsc:=⟨fun ρ H=>DeedV H (.func (.func f) #[] #[pv ρ.1]) op⟩
section
variable {X:Nat→Option Obj} {n:Nat} {C:Ctx} {Mid:St→Prop} {s:List (Nat×LV)} {bx:List (Nat×Option Box)} {k k1 k2 k3:Nat} {t1 t2 t3:TypeId} {f g h:FuncId} {op:Int} {v:Value}
theorem deed_shut1 (hD:∀ (Y:Nat→Option Obj) b a e fr,Y b=some (.cells a e fr)→a[0]? = some v→DeedV Y (.func (.func f) #[] #[pv b]) op)
  (hl:Leads n C Mid ⟨s,(k,some ⟨0,[],.res (deedR f op)⟩)::bx,X⟩):Leads n C Mid ⟨s,vB t1 k (.val v)::bx,X⟩:=by
 have:=Leads.closeRes (el:=t1) (H:=fun _=>none) (vals:=[v]) (R:=deedR f op) (OwnedM.nil C X) (fun ρ fr _ _ _=>hD _ ρ.1 _ t1 fr (cJ _ _ _) rfl) hl
 rw [joinM_nil] at this
 exact this
theorem deed_shut2 (hD:∀ (Y:Nat→Option Obj) b a e fr b' a' e' fr',Y b=some (.cells a e fr)→a[0]? = some v→Y b'=some (.cells a' e' fr')→a'[0]? = some (.func (.func g) #[] #[pv b])→DeedV Y (.func (.func f) #[] #[pv b']) op)
  (h1:Go.Lg.look k1 (vB t2 k2 (ptrF g k1)::bx)=none) (h2:s.all (fun p=>p.2.inUse (vB t2 k2 (ptrF g k1)::bx))=true) (h3:bx.all (fun p=>match p.2 with|some b=>b.cells.all (CV.inUse (vB t2 k2 (ptrF g k1)::bx))|none=>true)=true)
  (hl:Leads n C Mid ⟨s,(k2,some ⟨0,[],.res (deedR f op)⟩)::bx,X⟩):Leads n C Mid ⟨s,vB t2 k2 (ptrF g k1)::vB t1 k1 (.val v)::bx,X⟩:=by
 refine Leads.fixBox (vals:=[v]) (el:=t1) (row:=false) [] [vB t2 k2 (ptrF g k1)] h1 h2 h3 rfl (by simp [CV.fixIn]) ?_
 intro blk arr fr hX hF hsp
 obtain ⟨sp,hsp⟩:=hsp
 have ha:arr[0]? = some v:=by rw [← Array.getElem?_toList,hsp];rfl
 have hO:OwnedM C X (withBlock (fun _=>none) blk (.cells arr t1 fr)):=(OwnedM.nil C X).more hF (by rw [joinM_nil];exact hX)
 have e:withBlock X blk (.cells arr t1 fr)=joinM X (withBlock (fun _=>none) blk (.cells arr t1 fr)):=by rw [← joinM_with,joinM_nil]
 rw [e]
 have hfix:fixB k1 blk [vB t2 k2 (ptrF g k1)]++bx=(k2,some ⟨t2,([.func (.func g) #[] #[pv blk]]:List Value).map .val,false⟩)::bx:=by
  simp [fixB,Box.fix,CV.fix,Nat.beq_refl]
 rw [hfix]
 refine Leads.closeRes hO (fun ρ fr2 h5 h6 _ => ?_) hl
 exact hD _ blk arr t1 fr ρ.1 _ t2 fr2 (cF h5 _ _ (cJ _ _ _)) ha (cJ _ _ _) O
theorem deed_shut3 (hD:∀ (Y:Nat→Option Obj) b a e fr b' a' e' fr' b2 a2 e2 fr2,Y b=some (.cells a e fr)→a[0]? = some v→Y b'=some (.cells a' e' fr')→a'[0]? = some (.func (.func h) #[] #[pv b])→Y b2=some (.cells a2 e2 fr2)→a2[0]? = some (.func (.func g) #[] #[pv b'])→DeedV Y (.func (.func f) #[] #[pv b2]) op)
  (h1:Go.Lg.look k1 (vB t3 k3 (ptrF g k2)::vB t2 k2 (ptrF h k1)::bx)=none) (h2:s.all (fun p=>p.2.inUse (vB t3 k3 (ptrF g k2)::vB t2 k2 (ptrF h k1)::bx))=true) (h3:bx.all (fun p=>match p.2 with|some b=>b.cells.all (CV.inUse (vB t3 k3 (ptrF g k2)::vB t2 k2 (ptrF h k1)::bx))|none=>true)=true)
  (h1':Go.Lg.look k2 (vB t3 k3 (ptrF g k2)::bx)=none) (h2':s.all (fun p=>p.2.inUse (vB t3 k3 (ptrF g k2)::bx))=true) (h3':bx.all (fun p=>match p.2 with|some b=>b.cells.all (CV.inUse (vB t3 k3 (ptrF g k2)::bx))|none=>true)=true) (h4:Nat.beq k2 k1=false)
  (hl:Leads n C Mid ⟨s,(k3,some ⟨0,[],.res (deedR f op)⟩)::bx,X⟩):Leads n C Mid ⟨s,vB t3 k3 (ptrF g k2)::vB t2 k2 (ptrF h k1)::vB t1 k1 (.val v)::bx,X⟩:=by
 have h5:(Go.Lg.look k2 (vB t3 k3 (ptrF g k2)::vB t2 k2 (ptrF h k1)::bx)).isSome=true:=by
  cases hb:Nat.beq k3 k2 with
  | true=>simp only [Go.Lg.look,hb,cond_true];rfl
  | false=>simp only [Go.Lg.look,hb,cond_false,Nat.beq_refl,cond_true];rfl
 refine Leads.fixBox (vals:=[v]) (el:=t1) (row:=false) [] [vB t3 k3 (ptrF g k2),vB t2 k2 (ptrF h k1)] h1 h2 h3 rfl (by simp only [List.all_cons,List.all_nil,CV.fixIn,Nat.beq_refl,Bool.true_or,Bool.and_true,Bool.or_eq_true];exact .inr h5) ?_
 intro blk arr fr hX hF hsp
 obtain ⟨sp,hsp⟩:=hsp
 have ha:arr[0]? = some v:=by rw [← Array.getElem?_toList,hsp];rfl
 have hO:OwnedM C X (withBlock (fun _=>none) blk (.cells arr t1 fr)):=(OwnedM.nil C X).more hF (by rw [joinM_nil];exact hX)
 have e:withBlock X blk (.cells arr t1 fr)=joinM X (withBlock (fun _=>none) blk (.cells arr t1 fr)):=by rw [← joinM_with,joinM_nil]
 rw [e]
 have hfix:fixB k1 blk [vB t3 k3 (ptrF g k2),vB t2 k2 (ptrF h k1)]++bx=vB t3 k3 (ptrF g k2)::(k2,some ⟨t2,([.func (.func h) #[] #[pv blk]]:List Value).map .val,false⟩)::bx:=by
  simp [fixB,Box.fix,CV.fix,Nat.beq_refl,h4]
 rw [hfix]
 refine Leads.fixBox (vals:=[.func (.func h) #[] #[pv blk]]) (el:=t2) (row:=false) [] [vB t3 k3 (ptrF g k2)] h1' h2' h3' rfl (by simp [CV.fixIn]) ?_
 intro blk2 arr2 fr2 hX2 hF2 hsp2
 obtain ⟨sp2,hsp2⟩:=hsp2
 have ha2:arr2[0]? = some (.func (.func h) #[] #[pv blk]):=by rw [← Array.getElem?_toList,hsp2];rfl
 have hO2:=hO.more (el:=t2) hF2 hX2
 have hn2:=(joinM_none hX2).1
 rw [joinM_with]
 have hfix:fixB k2 blk2 [vB t3 k3 (ptrF g k2)]++bx=(k3,some ⟨t3,([.func (.func g) #[] #[pv blk2]]:List Value).map .val,false⟩)::bx:=by
  simp [fixB,Box.fix,CV.fix,Nat.beq_refl]
 rw [hfix]
 refine Leads.closeRes hO2 (fun ρ fr3 h5 h6 _ => ?_) hl
 exact hD _ blk arr t1 fr blk2 arr2 t2 fr2 ρ.1 _ t3 fr3 (cF h5 _ _ (cF hn2 _ _ (cJ _ _ _))) ha (cF h5 _ _ (cJ _ _ _)) ha2 (cJ _ _ _) O
end
theorem gd_truth (b:Bool):gd (truth b)=true:=by cases b<;>rfl
theorem pick_truth (b:Bool) (x y:Nm):pickX (truth b) x y = .ok (if b=true then x else y):=by
 unfold pickX
 rw [gd_truth,if_neg (by decide)]
 cases b
 ·rw [if_pos (show truth false=(false,0) from rfl)];rfl
 ·rw [if_neg (show truth true≠(false,0) by decide)];rfl
theorem zz_inj {x y:Nm} (hx:In2 x.2) (hy:In2 y.2) (gx:gd x=true) (gy:gd y=true) (h:zz x=zz y):x=y:=by
 obtain ⟨a,M⟩:=x
 obtain ⟨b,N⟩:=y
 unfold gd formB at gx gy
 unfold zz zv at h
 unfold In2 at hx hy
 simp only at *
 cases a<;>cases b<;>simp_all<;>omega
theorem node_neg {u:Nm} (hu:In2 u.2):nodeX 10 [u]=doX 6 (false,0) u:=by
 rw [nodeX]
 unfold doX
 rw [show (gd (false,0)&&gd u)=gd u by rw [show gd (false,0)=true from rfl,Bool.true_and]]
 cases g:gd u with
 | false=>rfl
 | true =>
  have hr:=(gd_q g hu).2
  rw [if_neg (by decide),if_pos rfl,if_neg (by decide),if_neg (by omega),show arith 6 (zz (false,0)) (zz u) = -(zz u) by unfold arith;rw [if_neg (by decide),if_pos rfl,show zz (false,0)=0 from rfl];omega,if_pos (by unfold R127 at *;omega)]
theorem node_not (u:Nm):nodeX 15 [u]=sameX (false,0) u:=by
 rw [nodeX]
 unfold sameX truX
 rw [show (gd (false,0)&&gd u)=gd u by rw [show gd (false,0)=true from rfl,Bool.true_and],if_neg (show ¬ (15:Int)=10 by decide)]
 have e:decide (((false,0):Nm)=u)=decide (u=(false,0)):=by
  by_cases h:u=(false,0)
  ·rw [cL h,cL h.symm]
  ·rw [cK h,cK (fun e=>h e.symm)]
 rw [e]
theorem less_ok {x y a:Nm} (h:lessX x y = .ok a):In2 a.2:=by
 unfold lessX truX at h
 split at h
 ·cases h
 ·cases h;exact truth_in2 _
theorem less_err {x y:Nm} {e:Int} (h:lessX x y = .error e):e≠0:=by
 unfold lessX truX at h
 split at h
 ·cases h;decide
 ·cases h
theorem node_least {x y:Nm} (hx:In2 x.2) (hy:In2 y.2):nodeX 11 [x,y]=choX lessX x y:=by
 rw [nodeX]
 rw [if_neg (by decide),if_neg (by decide),if_pos (rfl:(11:Int)=11)]
 unfold choX lessX truX
 cases g:(gd x&&gd y) with
 | false=>rfl
 | true =>
  obtain ⟨gx,gy⟩:=Bool.and_eq_true_iff.1 g
  simp only [Bool.true_eq_false,if_false,pick_truth]
  by_cases h:zz x<zz y
  ·rw [if_neg (by omega),if_pos (cL h)]
  ·rw [if_neg (show ¬ decide (zz x<zz y)=true by rw [cK h];decide)]
   by_cases h2:zz y<zz x
   ·rw [if_pos h2]
   ·rw [if_neg h2,zz_inj hx hy gx gy (by omega)]
theorem node_great {x y:Nm} (hx:In2 x.2) (hy:In2 y.2):nodeX 12 [x,y]=choX (fun x y=>lessX y x) x y:=by
 rw [nodeX]
 rw [if_neg (by decide),if_neg (by decide),if_neg (show ¬ (12:Int)=11 by decide),if_pos (rfl:(12:Int)=12)]
 unfold choX lessX truX
 simp only
 rw [Bool.and_comm]
 cases g:(gd y&&gd x) with
 | false=>rfl
 | true =>
  obtain ⟨gy,gx⟩:=Bool.and_eq_true_iff.1 g
  simp only [Bool.true_eq_false,if_false,pick_truth]
  by_cases h:zz y<zz x
  ·rw [if_neg (by omega),if_pos (cL h)]
  ·rw [if_neg (show ¬ decide (zz y<zz x)=true by rw [cK h];decide)]
   by_cases h2:zz x<zz y
   ·rw [if_pos h2]
   ·rw [if_neg h2,zz_inj hx hy gx gy (by omega)]
theorem node_same (x y:Nm):nodeX 13 [x,y]=sameX x y:=by
 rw [nodeX]
 rw [if_neg (by decide),if_neg (by decide),if_neg (show ¬ (13:Int)=11 by decide),if_neg (show ¬ (13:Int)=12 by decide),if_pos (rfl:(13:Int)=13)]
 rfl
theorem node_less (x y:Nm):nodeX 14 [x,y]=lessX x y:=by
 rw [nodeX]
 rw [if_neg (by decide),if_neg (by decide),if_neg (show ¬ (14:Int)=11 by decide),if_neg (show ¬ (14:Int)=12 by decide),if_neg (show ¬ (14:Int)=13 by decide)]
 rfl
theorem node_need (x y:Nm):nodeX 17 [x,y]=needX x y:=by
 rw [nodeX]
 rw [if_neg (by decide),if_pos rfl]
 rfl
theorem node_do {op:Int} (ho:5≤op∧op≤9) (x y:Nm):nodeX op [x,y]=doX op x y:=if_pos ho
def cloF (op:Int):FuncId:=if op=16 then 223 else if op=10∨op=15 then 218 else 211
def wordS (op:Int):List UInt8:=if 5≤op∧op≤17 then wordX op else []
def rowL (op:Int):List Value:=[.string ⟨(wordS op).toArray⟩,.int .i64 (takes op:Nat),.bool (op==2||op==3),.bool (op==2),.bool (op==1)]
abbrev LRow (op:Int) (c:CV):LV:=.sv (.agg ((rowL op).map .val++[c]))
abbrev dB (k:Nat) (op:Int):Nat×Option Box:=(k,some ⟨0,[],.res (deedR (cloF op) op)⟩)
def leafV (op:Int):Value:=if op=1 then fnV 178 else if op=2 then fnV 179 else if op=3 then fnV 180 else if op=4 then fnV 181 else .nilFunc
def rwR (op:Int):LV:=if 5≤op∧op≤17 then LRow op (ptrF (cloF op) 1000001) else LRow op (.val (leafV op))
def rwBx (op:Int):List (Nat×Option Box):=if 5≤op∧op≤17 then [dB 1000001 op] else []
theorem rw_fn {op:Int} (h:5≤op∧op≤17):rwR op=LRow op (ptrF (cloF op) 1000001)∧rwBx op=[dB 1000001 op]:=⟨if_pos h,if_pos h⟩
theorem rw_no {op:Int} (h:¬ (5≤op∧op≤17)):rwR op=LRow op (.val (leafV op))∧rwBx op=[]:=⟨if_neg h,if_neg h⟩
theorem rwBx_use (op:Int):((rwBx op).all fun p=>match p.2 with|some b=>b.cells.all (CV.inUse (rwBx op))|none=>true)=true:=by
 by_cases h:5≤op∧op≤17
 ·rw [(rw_fn h).2];rfl
 ·rw [(rw_no h).2];rfl
theorem rwR_use (op:Int):LV.inUse (rwBx op) (rwR op)=true:=by
 by_cases h:5≤op∧op≤17
 ·rw [(rw_fn h).1,(rw_fn h).2];rfl
 ·rw [(rw_no h).1,(rw_no h).2];rfl
theorem rowL_bad {op:Int} (h:op<1∨17<op):rowL op=[.string ⟨#[]⟩,.int .i64 0,.bool false,.bool false,.bool false]:=by
 unfold rowL wordS
 rw [if_neg (by omega),takes_out (by omega),cN (show op≠2 by omega),cN (show op≠3 by omega),cN (show op≠1 by omega)]
 rfl
set_option maxHeartbeats 12800000 in
theorem rowOf_all (op:Int):MSpec Tryz.prog X 143 [Ln .i64 op] [] (rwR op) (rwBx op):=by
 refine cD Tryz.func143 rfl (by kernel_rfl) rfl (rwR_use op) (rwBx_use op) rfl rfl ?_
 intro C
 refine LWP.ends ?_
 (refine aA<|rgN<|aP O dO ?_;refine aB<|aA<|aA<|rgN<|kmv O<|aB<|aG<|aA ?_)
 by_cases c1:op=1
 ·subst c1
  rw [(rw_no (op:=1) (by decide)).1,(rw_no (op:=1) (by decide)).2]
  (refine rgN<|keq O O (r:=true) O<|kas O<|aB<|aE O ?_;refine aA<|rgN<|aT O O (by exact O) (by exact nl3 O O O O) dO ?_;refine aT O O (by exact O) (by exact nl6 O O O O O O O) dO ?_;refine aM O O O O O O dO ?_;refine aB<|aI ?_)
  exact cA ⟨[],⟨[_],⟨⟨_,_,O,O,O,.inl ⟨AggT.h,O⟩⟩,trivial⟩,O⟩,trivial,O,O⟩
 (refine rgN<|keq O O (r:=false) (cN c1)<|kas O<|aB<|aF O ?_;refine aA ?_)
 by_cases c2:op=2
 ·subst c2
  rw [(rw_no (op:=2) (by decide)).1,(rw_no (op:=2) (by decide)).2]
  (refine rgN<|keq O O (r:=true) O<|kas O<|aB<|aE O ?_;refine aA<|rgN<|aT O O (by exact O) (by exact nl3 O O O O) dO ?_;refine aT O O (by exact O) (by exact nl6 O O O O O O O) dO ?_;refine aM O O O O O O dO ?_;refine aB<|aI ?_)
  exact cA ⟨[],⟨[_],⟨⟨_,_,O,O,O,.inl ⟨AggT.h,O⟩⟩,trivial⟩,O⟩,trivial,O,O⟩
 (refine rgN<|keq O O (r:=false) (cN c2)<|kas O<|aB<|aF O ?_;refine aA ?_)
 by_cases c3:op=3
 ·subst c3
  rw [(rw_no (op:=3) (by decide)).1,(rw_no (op:=3) (by decide)).2]
  (refine rgN<|keq O O (r:=true) O<|kas O<|aB<|aE O ?_;refine aA<|rgN<|aT O O (by exact O) (by exact nl3 O O O O) dO ?_;refine aT O O (by exact O) (by exact nl6 O O O O O O O) dO ?_;refine aM O O O O O O dO ?_;refine aB<|aI ?_)
  exact cA ⟨[],⟨[_],⟨⟨_,_,O,O,O,.inl ⟨AggT.h,O⟩⟩,trivial⟩,O⟩,trivial,O,O⟩
 (refine rgN<|keq O O (r:=false) (cN c3)<|kas O<|aB<|aF O ?_;refine aA ?_)
 by_cases c4:op=4
 ·subst c4
  rw [(rw_no (op:=4) (by decide)).1,(rw_no (op:=4) (by decide)).2]
  (refine rgN<|keq O O (r:=true) O<|kas O<|aB<|aE O ?_;refine aA<|rgN<|aT O O (by exact O) (by exact nl6 O O O O O O O) dO ?_;refine aM O O O O O O dO ?_;refine aB<|aI ?_)
  exact cA ⟨[],⟨[_],⟨⟨_,_,O,O,O,.inl ⟨AggT.h,O⟩⟩,trivial⟩,O⟩,trivial,O,O⟩
 (refine rgN<|keq O O (r:=false) (cN c4)<|kas O<|aB<|aF O ?_;refine aA ?_)
 by_cases c5:op=5
 ·subst c5
  rw [(rw_fn (op:=5) (by decide)).1,(rw_fn (op:=5) (by decide)).2]
  (refine rgN<|keq O O (r:=true) O<|kas O<|aB<|aE O ?_;refine aA<|rgN<|bE [(1000001,501)] (.sv (.one (ptrF 211 501))) [vB 275 501 (.val (fnV 183))] ((mA_ofTwo X 183)) O O (by exact trivial) O O O O O (by exact (.box O O .nil)) dO<|aT O O (by exact O) (by exact nl6 O O O O O O O) dO ?_;refine aM O O O O O O dO ?_;refine aB<|aI ?_)
  refine cB (σ':=⟨[(2,Lp 2)],vB 275 501 (.val (fnV 183))::(2,some ⟨190,(rowL 5).map .val++[ptrF (cloF 5) 501],false⟩)::[],X⟩) (Le.of (by exact ⟨O,trivial⟩) (by exact ⟨O,O,trivial⟩) (by exact O) (by exact O) (by repeat' (first|refine bS ?_ ?_|rfl|exact bU|exact bT|exact bV O))) ?_
  refine deed_shut1 (f:=cloF 5) (op:=5) (fun Y _ _ _ _ h1 h2=>deed_two O h1 h2 (two_fn Y (fun Z x y hx hy=>wAdd_do Z x y hx hy)) (fun u w _ _=>node_do (by decide) u w)) (cA ?_)
  exact ⟨[(1000001,501)],⟨[_],⟨⟨_,_,rfl,rfl,rfl,.inl ⟨AggT.h,rfl⟩⟩,trivial⟩,rfl⟩,(by repeat' (first|exact trivial|refine cM ⟨_,rfl,?_⟩ ?_|refine cM ⟨_,rfl⟩ ?_|rfl|exact bW _ _ _ _|exact bX _ _ _ _|exact bY rfl)),rfl,rfl⟩
 (refine rgN<|keq O O (r:=false) (cN c5)<|kas O<|aB<|aF O ?_;refine aA ?_)
 by_cases c6:op=6
 ·subst c6
  rw [(rw_fn (op:=6) (by decide)).1,(rw_fn (op:=6) (by decide)).2]
  (refine rgN<|keq O O (r:=true) O<|kas O<|aB<|aE O ?_;refine aA<|rgN<|bE [(1000001,501)] (.sv (.one (ptrF 211 501))) [vB 275 501 (.val (fnV 184))] ((mA_ofTwo X 184)) O O (by exact trivial) O O O O O (by exact (.box O O .nil)) dO<|aT O O (by exact O) (by exact nl6 O O O O O O O) dO ?_;refine aM O O O O O O dO ?_;refine aB<|aI ?_)
  refine cB (σ':=⟨[(2,Lp 2)],vB 275 501 (.val (fnV 184))::(2,some ⟨190,(rowL 6).map .val++[ptrF (cloF 6) 501],false⟩)::[],X⟩) (Le.of (by exact ⟨O,trivial⟩) (by exact ⟨O,O,trivial⟩) (by exact O) (by exact O) (by repeat' (first|refine bS ?_ ?_|rfl|exact bU|exact bT|exact bV O))) ?_
  refine deed_shut1 (f:=cloF 6) (op:=6) (fun Y _ _ _ _ h1 h2=>deed_two O h1 h2 (two_fn Y (fun Z x y hx hy=>wSub_do Z x y hx hy)) (fun u w _ _=>node_do (by decide) u w)) (cA ?_)
  exact ⟨[(1000001,501)],⟨[_],⟨⟨_,_,rfl,rfl,rfl,.inl ⟨AggT.h,rfl⟩⟩,trivial⟩,rfl⟩,(by repeat' (first|exact trivial|refine cM ⟨_,rfl,?_⟩ ?_|refine cM ⟨_,rfl⟩ ?_|rfl|exact bW _ _ _ _|exact bX _ _ _ _|exact bY rfl)),rfl,rfl⟩
 (refine rgN<|keq O O (r:=false) (cN c6)<|kas O<|aB<|aF O ?_;refine aA ?_)
 by_cases c7:op=7
 ·subst c7
  rw [(rw_fn (op:=7) (by decide)).1,(rw_fn (op:=7) (by decide)).2]
  (refine rgN<|keq O O (r:=true) O<|kas O<|aB<|aE O ?_;refine aA<|rgN<|bE [(1000001,501)] (.sv (.one (ptrF 211 501))) [vB 275 501 (.val (fnV 185))] ((mA_ofTwo X 185)) O O (by exact trivial) O O O O O (by exact (.box O O .nil)) dO<|aT O O (by exact O) (by exact nl6 O O O O O O O) dO ?_;refine aM O O O O O O dO ?_;refine aB<|aI ?_)
  refine cB (σ':=⟨[(2,Lp 2)],vB 275 501 (.val (fnV 185))::(2,some ⟨190,(rowL 7).map .val++[ptrF (cloF 7) 501],false⟩)::[],X⟩) (Le.of (by exact ⟨O,trivial⟩) (by exact ⟨O,O,trivial⟩) (by exact O) (by exact O) (by repeat' (first|refine bS ?_ ?_|rfl|exact bU|exact bT|exact bV O))) ?_
  refine deed_shut1 (f:=cloF 7) (op:=7) (fun Y _ _ _ _ h1 h2=>deed_two O h1 h2 (two_fn Y (fun Z x y hx hy=>wMul_do Z x y hx hy)) (fun u w _ _=>node_do (by decide) u w)) (cA ?_)
  exact ⟨[(1000001,501)],⟨[_],⟨⟨_,_,rfl,rfl,rfl,.inl ⟨AggT.h,rfl⟩⟩,trivial⟩,rfl⟩,(by repeat' (first|exact trivial|refine cM ⟨_,rfl,?_⟩ ?_|refine cM ⟨_,rfl⟩ ?_|rfl|exact bW _ _ _ _|exact bX _ _ _ _|exact bY rfl)),rfl,rfl⟩
 (refine rgN<|keq O O (r:=false) (cN c7)<|kas O<|aB<|aF O ?_;refine aA ?_)
 by_cases c8:op=8
 ·subst c8
  rw [(rw_fn (op:=8) (by decide)).1,(rw_fn (op:=8) (by decide)).2]
  (refine rgN<|keq O O (r:=true) O<|kas O<|aB<|aE O ?_;refine aA<|rgN<|bE [(1000001,501)] (.sv (.one (ptrF 211 501))) [vB 275 501 (.val (fnV 186))] ((mA_ofTwo X 186)) O O (by exact trivial) O O O O O (by exact (.box O O .nil)) dO<|aT O O (by exact O) (by exact nl6 O O O O O O O) dO ?_;refine aM O O O O O O dO ?_;refine aB<|aI ?_)
  refine cB (σ':=⟨[(2,Lp 2)],vB 275 501 (.val (fnV 186))::(2,some ⟨190,(rowL 8).map .val++[ptrF (cloF 8) 501],false⟩)::[],X⟩) (Le.of (by exact ⟨O,trivial⟩) (by exact ⟨O,O,trivial⟩) (by exact O) (by exact O) (by repeat' (first|refine bS ?_ ?_|rfl|exact bU|exact bT|exact bV O))) ?_
  refine deed_shut1 (f:=cloF 8) (op:=8) (fun Y _ _ _ _ h1 h2=>deed_two O h1 h2 (two_fn Y (fun Z x y hx hy=>wQuo_do Z x y hx hy)) (fun u w _ _=>node_do (by decide) u w)) (cA ?_)
  exact ⟨[(1000001,501)],⟨[_],⟨⟨_,_,rfl,rfl,rfl,.inl ⟨AggT.h,rfl⟩⟩,trivial⟩,rfl⟩,(by repeat' (first|exact trivial|refine cM ⟨_,rfl,?_⟩ ?_|refine cM ⟨_,rfl⟩ ?_|rfl|exact bW _ _ _ _|exact bX _ _ _ _|exact bY rfl)),rfl,rfl⟩
 (refine rgN<|keq O O (r:=false) (cN c8)<|kas O<|aB<|aF O ?_;refine aA ?_)
 by_cases c9:op=9
 ·subst c9
  rw [(rw_fn (op:=9) (by decide)).1,(rw_fn (op:=9) (by decide)).2]
  (refine rgN<|keq O O (r:=true) O<|kas O<|aB<|aE O ?_;refine aA<|rgN<|bE [(1000001,501)] (.sv (.one (ptrF 211 501))) [vB 275 501 (.val (fnV 187))] ((mA_ofTwo X 187)) O O (by exact trivial) O O O O O (by exact (.box O O .nil)) dO<|aT O O (by exact O) (by exact nl6 O O O O O O O) dO ?_;refine aM O O O O O O dO ?_;refine aB<|aI ?_)
  refine cB (σ':=⟨[(2,Lp 2)],vB 275 501 (.val (fnV 187))::(2,some ⟨190,(rowL 9).map .val++[ptrF (cloF 9) 501],false⟩)::[],X⟩) (Le.of (by exact ⟨O,trivial⟩) (by exact ⟨O,O,trivial⟩) (by exact O) (by exact O) (by repeat' (first|refine bS ?_ ?_|rfl|exact bU|exact bT|exact bV O))) ?_
  refine deed_shut1 (f:=cloF 9) (op:=9) (fun Y _ _ _ _ h1 h2=>deed_two O h1 h2 (two_fn Y (fun Z x y hx hy=>wRem_do Z x y hx hy)) (fun u w _ _=>node_do (by decide) u w)) (cA ?_)
  exact ⟨[(1000001,501)],⟨[_],⟨⟨_,_,rfl,rfl,rfl,.inl ⟨AggT.h,rfl⟩⟩,trivial⟩,rfl⟩,(by repeat' (first|exact trivial|refine cM ⟨_,rfl,?_⟩ ?_|refine cM ⟨_,rfl⟩ ?_|rfl|exact bW _ _ _ _|exact bX _ _ _ _|exact bY rfl)),rfl,rfl⟩
 (refine rgN<|keq O O (r:=false) (cN c9)<|kas O<|aB<|aF O ?_;refine aA ?_)
 by_cases c10:op=10
 ·subst c10
  rw [(rw_fn (op:=10) (by decide)).1,(rw_fn (op:=10) (by decide)).2]
  (refine rgN<|keq O O (r:=true) O<|kas O<|aB<|aE O ?_;refine aA<|rgN<|bE [(1000001,501)] (.sv (.one (ptrF 219 501))) [vB 275 501 (.val (fnV 184))] ((mA_withZero X 184)) O O (by exact trivial) O O O O O (by exact (.box O O .nil)) dO<|bE [(1000001,502),(1000002,501)] (.sv (.one (ptrF 218 502))) [vB 273 502 (ptrF 219 501),vB 275 501 (.val (fnV 184))] ((mB_ofOne X 219 184 275)) O O (by exact (cM ⟨_,O,O⟩ trivial)) (by exact (bS (bS O O) O)) O O O O (by exact (.box O O (.box O O .nil))) dO<|aT O O (by exact O) (by exact nl6 O O O O O O O) dO ?_;refine aM O O O O O O dO ?_;refine aB<|aI ?_)
  refine cB (σ':=⟨[(2,Lp 2)],vB 273 502 (ptrF 219 501)::vB 275 501 (.val (fnV 184))::(2,some ⟨190,(rowL 10).map .val++[ptrF (cloF 10) 502],false⟩)::[],X⟩) (Le.of (by exact ⟨O,trivial⟩) (by exact ⟨O,O,O,trivial⟩) (by exact O) (by exact O) (by repeat' (first|refine bS ?_ ?_|rfl|exact bU|exact bT|exact bV O))) ?_
  refine deed_shut2 (f:=cloF 10) (op:=10) (fun Y _ _ _ _ _ _ _ _ h1 h2 h3 h4=>deed_one O h3 h4 (one_zero h1 h2 (two_fn Y (fun Z x y hx hy=>wSub_do Z x y hx hy))) (fun u hu=>node_neg hu)) O O O (cA ?_)
  exact ⟨[(1000001,502)],⟨[_],⟨⟨_,_,rfl,rfl,rfl,.inl ⟨AggT.h,rfl⟩⟩,trivial⟩,rfl⟩,(by repeat' (first|exact trivial|refine cM ⟨_,rfl,?_⟩ ?_|refine cM ⟨_,rfl⟩ ?_|rfl|exact bW _ _ _ _|exact bX _ _ _ _|exact bY rfl)),rfl,rfl⟩
 (refine rgN<|keq O O (r:=false) (cN c10)<|kas O<|aB<|aF O ?_;refine aA ?_)
 by_cases c11:op=11
 ·subst c11
  rw [(rw_fn (op:=11) (by decide)).1,(rw_fn (op:=11) (by decide)).2]
  (refine rgN<|keq O O (r:=true) O<|kas O<|aB<|aE O ?_;refine aA<|rgN<|bE [(1000001,501)] (.sv (.one (ptrF 220 501))) [vB 275 501 (.val (fnV 191))] ((mA_chosen X 191)) O O (by exact trivial) O O O O O (by exact (.box O O .nil)) dO<|bE [(1000001,502),(1000002,501)] (.sv (.one (ptrF 211 502))) [vB 275 502 (ptrF 220 501),vB 275 501 (.val (fnV 191))] ((mB_ofTwo X 220 191 275)) O O (by exact (cM ⟨_,O,O⟩ trivial)) (by exact (bS (bS O O) O)) O O O O (by exact (.box O O (.box O O .nil))) dO<|aT O O (by exact O) (by exact nl6 O O O O O O O) dO ?_;refine aM O O O O O O dO ?_;refine aB<|aI ?_)
  refine cB (σ':=⟨[(2,Lp 2)],vB 275 502 (ptrF 220 501)::vB 275 501 (.val (fnV 191))::(2,some ⟨190,(rowL 11).map .val++[ptrF (cloF 11) 502],false⟩)::[],X⟩) (Le.of (by exact ⟨O,trivial⟩) (by exact ⟨O,O,O,trivial⟩) (by exact O) (by exact O) (by repeat' (first|refine bS ?_ ?_|rfl|exact bU|exact bT|exact bV O))) ?_
  refine deed_shut2 (f:=cloF 11) (op:=11) (fun Y _ _ _ _ _ _ _ _ h1 h2 h3 h4=>deed_two O h3 h4 (two_chosen h1 h2 (two_fn Y (fun Z x y hx hy=>tLess Z x y hx hy)) (fun _ _ _ h=>less_ok h) (fun _ _ _ h=>less_err h)) (fun u w hu hw=>node_least hu hw)) O O O (cA ?_)
  exact ⟨[(1000001,502)],⟨[_],⟨⟨_,_,rfl,rfl,rfl,.inl ⟨AggT.h,rfl⟩⟩,trivial⟩,rfl⟩,(by repeat' (first|exact trivial|refine cM ⟨_,rfl,?_⟩ ?_|refine cM ⟨_,rfl⟩ ?_|rfl|exact bW _ _ _ _|exact bX _ _ _ _|exact bY rfl)),rfl,rfl⟩
 (refine rgN<|keq O O (r:=false) (cN c11)<|kas O<|aB<|aF O ?_;refine aA ?_)
 by_cases c12:op=12
 ·subst c12
  rw [(rw_fn (op:=12) (by decide)).1,(rw_fn (op:=12) (by decide)).2]
  (refine rgN<|keq O O (r:=true) O<|kas O<|aB<|aE O ?_;refine aA<|rgN<|bE [(1000001,501)] (.sv (.one (ptrF 222 501))) [vB 275 501 (.val (fnV 191))] ((mA_swapped X 191)) O O (by exact trivial) O O O O O (by exact (.box O O .nil)) dO<|bE [(1000001,502),(1000002,501)] (.sv (.one (ptrF 220 502))) [vB 275 502 (ptrF 222 501),vB 275 501 (.val (fnV 191))] ((mB_chosen X 222 191 275)) O O (by exact (cM ⟨_,O,O⟩ trivial)) (by exact (bS (bS O O) O)) O O O O (by exact (.box O O (.box O O .nil))) dO<|bE [(1000001,503),(1000002,502),(1000003,501)] (.sv (.one (ptrF 211 503))) [vB 275 503 (ptrF 220 502),vB 275 502 (ptrF 222 501),vB 275 501 (.val (fnV 191))] ((mC_ofTwo X 220 222 191 275)) O O (by exact (cM ⟨_,O,O⟩ (cM ⟨_,O,O⟩ trivial))) (by exact (bS (bS O O) (bS (bS O O) O))) O O O O (by exact (.box O O (.box O O (.box O O .nil)))) dO<|aT O O (by exact O) (by exact nl6 O O O O O O O) dO ?_;refine aM O O O O O O dO ?_;refine aB<|aI ?_)
  refine cB (σ':=⟨[(2,Lp 2)],vB 275 503 (ptrF 220 502)::vB 275 502 (ptrF 222 501)::vB 275 501 (.val (fnV 191))::(2,some ⟨190,(rowL 12).map .val++[ptrF (cloF 12) 503],false⟩)::[],X⟩) (Le.of (by exact ⟨O,trivial⟩) (by exact ⟨O,O,O,O,trivial⟩) (by exact O) (by exact O) (by repeat' (first|refine bS ?_ ?_|rfl|exact bU|exact bT|exact bV O))) ?_
  refine deed_shut3 (f:=cloF 12) (op:=12) (fun Y _ _ _ _ _ _ _ _ _ _ _ _ h1 h2 h3 h4 h5 h6=>deed_two O h5 h6 (two_chosen h3 h4 (two_swapped h1 h2 (two_fn Y (fun Z x y hx hy=>tLess Z x y hx hy))) (fun _ _ _ h=>less_ok h) (fun _ _ _ h=>less_err h)) (fun u w hu hw=>node_great hu hw)) O O O O O O O (cA ?_)
  exact ⟨[(1000001,503)],⟨[_],⟨⟨_,_,rfl,rfl,rfl,.inl ⟨AggT.h,rfl⟩⟩,trivial⟩,rfl⟩,(by repeat' (first|exact trivial|refine cM ⟨_,rfl,?_⟩ ?_|refine cM ⟨_,rfl⟩ ?_|rfl|exact bW _ _ _ _|exact bX _ _ _ _|exact bY rfl)),rfl,rfl⟩
 (refine rgN<|keq O O (r:=false) (cN c12)<|kas O<|aB<|aF O ?_;refine aA ?_)
 by_cases c13:op=13
 ·subst c13
  rw [(rw_fn (op:=13) (by decide)).1,(rw_fn (op:=13) (by decide)).2]
  (refine rgN<|keq O O (r:=true) O<|kas O<|aB<|aE O ?_;refine aA<|rgN<|bE [(1000001,501)] (.sv (.one (ptrF 211 501))) [vB 275 501 (.val (fnV 193))] ((mA_ofTwo X 193)) O O (by exact trivial) O O O O O (by exact (.box O O .nil)) dO<|aT O O (by exact O) (by exact nl6 O O O O O O O) dO ?_;refine aM O O O O O O dO ?_;refine aB<|aI ?_)
  refine cB (σ':=⟨[(2,Lp 2)],vB 275 501 (.val (fnV 193))::(2,some ⟨190,(rowL 13).map .val++[ptrF (cloF 13) 501],false⟩)::[],X⟩) (Le.of (by exact ⟨O,trivial⟩) (by exact ⟨O,O,trivial⟩) (by exact O) (by exact O) (by repeat' (first|refine bS ?_ ?_|rfl|exact bU|exact bT|exact bV O))) ?_
  refine deed_shut1 (f:=cloF 13) (op:=13) (fun Y _ _ _ _ h1 h2=>deed_two O h1 h2 (two_fn Y (fun Z x y hx hy=>tSame Z x y hx hy)) (fun u w _ _=>node_same u w)) (cA ?_)
  exact ⟨[(1000001,501)],⟨[_],⟨⟨_,_,rfl,rfl,rfl,.inl ⟨AggT.h,rfl⟩⟩,trivial⟩,rfl⟩,(by repeat' (first|exact trivial|refine cM ⟨_,rfl,?_⟩ ?_|refine cM ⟨_,rfl⟩ ?_|rfl|exact bW _ _ _ _|exact bX _ _ _ _|exact bY rfl)),rfl,rfl⟩
 (refine rgN<|keq O O (r:=false) (cN c13)<|kas O<|aB<|aF O ?_;refine aA ?_)
 by_cases c14:op=14
 ·subst c14
  rw [(rw_fn (op:=14) (by decide)).1,(rw_fn (op:=14) (by decide)).2]
  (refine rgN<|keq O O (r:=true) O<|kas O<|aB<|aE O ?_;refine aA<|rgN<|bE [(1000001,501)] (.sv (.one (ptrF 211 501))) [vB 275 501 (.val (fnV 191))] ((mA_ofTwo X 191)) O O (by exact trivial) O O O O O (by exact (.box O O .nil)) dO<|aT O O (by exact O) (by exact nl6 O O O O O O O) dO ?_;refine aM O O O O O O dO ?_;refine aB<|aI ?_)
  refine cB (σ':=⟨[(2,Lp 2)],vB 275 501 (.val (fnV 191))::(2,some ⟨190,(rowL 14).map .val++[ptrF (cloF 14) 501],false⟩)::[],X⟩) (Le.of (by exact ⟨O,trivial⟩) (by exact ⟨O,O,trivial⟩) (by exact O) (by exact O) (by repeat' (first|refine bS ?_ ?_|rfl|exact bU|exact bT|exact bV O))) ?_
  refine deed_shut1 (f:=cloF 14) (op:=14) (fun Y _ _ _ _ h1 h2=>deed_two O h1 h2 (two_fn Y (fun Z x y hx hy=>tLess Z x y hx hy)) (fun u w _ _=>node_less u w)) (cA ?_)
  exact ⟨[(1000001,501)],⟨[_],⟨⟨_,_,rfl,rfl,rfl,.inl ⟨AggT.h,rfl⟩⟩,trivial⟩,rfl⟩,(by repeat' (first|exact trivial|refine cM ⟨_,rfl,?_⟩ ?_|refine cM ⟨_,rfl⟩ ?_|rfl|exact bW _ _ _ _|exact bX _ _ _ _|exact bY rfl)),rfl,rfl⟩
 (refine rgN<|keq O O (r:=false) (cN c14)<|kas O<|aB<|aF O ?_;refine aA ?_)
 by_cases c15:op=15
 ·subst c15
  rw [(rw_fn (op:=15) (by decide)).1,(rw_fn (op:=15) (by decide)).2]
  (refine rgN<|keq O O (r:=true) O<|kas O<|aB<|aE O ?_;refine aA<|rgN<|bE [(1000001,501)] (.sv (.one (ptrF 219 501))) [vB 275 501 (.val (fnV 193))] ((mA_withZero X 193)) O O (by exact trivial) O O O O O (by exact (.box O O .nil)) dO<|bE [(1000001,502),(1000002,501)] (.sv (.one (ptrF 218 502))) [vB 273 502 (ptrF 219 501),vB 275 501 (.val (fnV 193))] ((mB_ofOne X 219 193 275)) O O (by exact (cM ⟨_,O,O⟩ trivial)) (by exact (bS (bS O O) O)) O O O O (by exact (.box O O (.box O O .nil))) dO<|aT O O (by exact O) (by exact nl6 O O O O O O O) dO ?_;refine aM O O O O O O dO ?_;refine aB<|aI ?_)
  refine cB (σ':=⟨[(2,Lp 2)],vB 273 502 (ptrF 219 501)::vB 275 501 (.val (fnV 193))::(2,some ⟨190,(rowL 15).map .val++[ptrF (cloF 15) 502],false⟩)::[],X⟩) (Le.of (by exact ⟨O,trivial⟩) (by exact ⟨O,O,O,trivial⟩) (by exact O) (by exact O) (by repeat' (first|refine bS ?_ ?_|rfl|exact bU|exact bT|exact bV O))) ?_
  refine deed_shut2 (f:=cloF 15) (op:=15) (fun Y _ _ _ _ _ _ _ _ h1 h2 h3 h4=>deed_one O h3 h4 (one_zero h1 h2 (two_fn Y (fun Z x y hx hy=>tSame Z x y hx hy))) (fun u hu=>node_not u)) O O O (cA ?_)
  exact ⟨[(1000001,502)],⟨[_],⟨⟨_,_,rfl,rfl,rfl,.inl ⟨AggT.h,rfl⟩⟩,trivial⟩,rfl⟩,(by repeat' (first|exact trivial|refine cM ⟨_,rfl,?_⟩ ?_|refine cM ⟨_,rfl⟩ ?_|rfl|exact bW _ _ _ _|exact bX _ _ _ _|exact bY rfl)),rfl,rfl⟩
 (refine rgN<|keq O O (r:=false) (cN c15)<|kas O<|aB<|aF O ?_;refine aA ?_)
 by_cases c16:op=16
 ·subst c16
  rw [(rw_fn (op:=16) (by decide)).1,(rw_fn (op:=16) (by decide)).2]
  (refine rgN<|keq O O (r:=true) O<|kas O<|aB<|aE O ?_;refine aA<|rgN<|bE [(1000001,501)] (.sv (.one (ptrF 223 501))) [vB 297 501 (.val (fnV 195))] ((mA_ofThree X 195)) O O (by exact trivial) O O O O O (by exact (.box O O .nil)) dO<|aT O O (by exact O) (by exact nl6 O O O O O O O) dO ?_;refine aM O O O O O O dO ?_;refine aB<|aI ?_)
  refine cB (σ':=⟨[(2,Lp 2)],vB 297 501 (.val (fnV 195))::(2,some ⟨190,(rowL 16).map .val++[ptrF (cloF 16) 501],false⟩)::[],X⟩) (Le.of (by exact ⟨O,trivial⟩) (by exact ⟨O,O,trivial⟩) (by exact O) (by exact O) (by repeat' (first|refine bS ?_ ?_|rfl|exact bU|exact bT|exact bV O))) ?_
  refine deed_shut1 (f:=cloF 16) (op:=16) (fun Y _ _ _ _ h1 h2=>deed_three O h1 h2 (three_fn Y (fun Z x y z hx hy hz=>tPick Z x y z hx)) (fun u w z _ _ _=>O)) (cA ?_)
  exact ⟨[(1000001,501)],⟨[_],⟨⟨_,_,rfl,rfl,rfl,.inl ⟨AggT.h,rfl⟩⟩,trivial⟩,rfl⟩,(by repeat' (first|exact trivial|refine cM ⟨_,rfl,?_⟩ ?_|refine cM ⟨_,rfl⟩ ?_|rfl|exact bW _ _ _ _|exact bX _ _ _ _|exact bY rfl)),rfl,rfl⟩
 (refine rgN<|keq O O (r:=false) (cN c16)<|kas O<|aB<|aF O ?_;refine aA ?_)
 by_cases c17:op=17
 ·subst c17
  rw [(rw_fn (op:=17) (by decide)).1,(rw_fn (op:=17) (by decide)).2]
  (refine rgN<|keq O O (r:=true) O<|kas O<|aB<|aE O ?_;refine aA<|rgN<|bE [(1000001,501)] (.sv (.one (ptrF 211 501))) [vB 275 501 (.val (fnV 196))] ((mA_ofTwo X 196)) O O (by exact trivial) O O O O O (by exact (.box O O .nil)) dO<|aT O O (by exact O) (by exact nl6 O O O O O O O) dO ?_;refine aM O O O O O O dO ?_;refine aB<|aI ?_)
  refine cB (σ':=⟨[(2,Lp 2)],vB 275 501 (.val (fnV 196))::(2,some ⟨190,(rowL 17).map .val++[ptrF (cloF 17) 501],false⟩)::[],X⟩) (Le.of (by exact ⟨O,trivial⟩) (by exact ⟨O,O,trivial⟩) (by exact O) (by exact O) (by repeat' (first|refine bS ?_ ?_|rfl|exact bU|exact bT|exact bV O))) ?_
  refine deed_shut1 (f:=cloF 17) (op:=17) (fun Y _ _ _ _ h1 h2=>deed_two O h1 h2 (two_fn Y (fun Z x y hx hy=>tNeed Z x y hy)) (fun u w _ _=>node_need u w)) (cA ?_)
  exact ⟨[(1000001,501)],⟨[_],⟨⟨_,_,rfl,rfl,rfl,.inl ⟨AggT.h,rfl⟩⟩,trivial⟩,rfl⟩,(by repeat' (first|exact trivial|refine cM ⟨_,rfl,?_⟩ ?_|refine cM ⟨_,rfl⟩ ?_|rfl|exact bW _ _ _ _|exact bX _ _ _ _|exact bY rfl)),rfl,rfl⟩
 (refine rgN<|keq O O (r:=false) (cN c17)<|kas O<|aB<|aF O ?_;refine aH ?_;refine aA ?_)
 have hbad:op<1∨17<op:=by omega
 rw [(rw_no (op:=op) (by omega)).1,(rw_no (op:=op) (by omega)).2]
 unfold LRow
 rw [rowL_bad hbad,show leafV op = .nilFunc by unfold leafV;rw [if_neg c1,if_neg c2,if_neg c3,if_neg c4]]
 (refine rgN<|aT O O (by exact O) (by exact nl6 O O O O O O O) dO ?_;refine aM O O O O O O dO ?_;refine aB<|aI ?_)
 exact cA ⟨[],⟨[_],⟨⟨_,_,O,O,O,.inl ⟨AggT.h,O⟩⟩,trivial⟩,O⟩,trivial,O,O⟩
theorem rowOf_fn (op:Int) (h:5≤op∧op≤17):MSpec Tryz.prog X 143 [Ln .i64 op] [] (LRow op (ptrF (cloF op) 1000001)) [dB 1000001 op]:=by
 have:=rowOf_all X op
 rw [(rw_fn h).1,(rw_fn h).2] at this
 exact this
theorem rowOf_leaf (op:Int) (h:¬ (5≤op∧op≤17)):PSpec Tryz.prog X 143 [Ln .i64 op] (LRow op (.val (leafV op))):=by
 have:=rowOf_all X op
 rw [(rw_no h).1,(rw_no h).2] at this
 exact this.plain
theorem rowOf_1:PSpec Tryz.prog X 143 [Ln .i64 1] (LRow 1 (.val (fnV 178))):=rowOf_leaf X 1 (by decide)
theorem rowOf_2:PSpec Tryz.prog X 143 [Ln .i64 2] (LRow 2 (.val (fnV 179))):=rowOf_leaf X 2 (by decide)
theorem rowOf_3:PSpec Tryz.prog X 143 [Ln .i64 3] (LRow 3 (.val (fnV 180))):=rowOf_leaf X 3 (by decide)
theorem rowOf_4:PSpec Tryz.prog X 143 [Ln .i64 4] (LRow 4 (.val (fnV 181))):=rowOf_leaf X 4 (by decide)
theorem rowOf_no (op:Int) (h:op<1∨17<op):PSpec Tryz.prog X 143 [Ln .i64 op] (LRow op (.val .nilFunc)):=by
 have:=rowOf_leaf X op (by omega)
 rw [show leafV op = .nilFunc by unfold leafV;rw [if_neg (by omega),if_neg (by omega),if_neg (by omega),if_neg (by omega)]] at this
 exact this
end Go.Proofs.YtopiioklkkiedaaGreatDoor
end
section
namespace Go.Proofs.YtopiioklkkiedaaGreatDoor
open Go Go.Lg Go.Lg.Fml Go.Lg.Fld Go.Lg.Arith
set_option maxRecDepth 100000
variable (X:Nat→Option Obj)
theorem tSmall (n:Int):PSpec Tryz.prog X 197 [Ln .i64 n] (Lb (decide (0≤n)&&decide (n≤7))):=by
 by_cases h:0≤n
 ·rw [cL h,Bool.true_and]
  refine cC Tryz.func197 rfl (by kernel_rfl) rfl rfl ?_
  intro C
  (refine aA<|rgN<|kas O<|aB<|aA<|rgN<|kmv O<|bD O O (r:=true) (cL h) dO<|kmv O<|gmv O O O<|K.leq O O O (dP O O) ?_;refine kpt O O<|kas O<|aB<|aI ?_)
  exact ⟨[_],⟨O,trivial⟩,O⟩
 ·rw [cK h,Bool.false_and]
  refine cC Tryz.func197 rfl (by kernel_rfl) rfl rfl ?_
  intro C
  (refine aA<|rgN<|kas O<|aB<|aA<|rgN<|kmv O<|bD O O (r:=false) (cK h) dO<|kmv O<|aC O O O<|aC O O O<|kpf O O<|kas O<|aB ?_;refine aI ?_)
  exact ⟨[_],⟨O,trivial⟩,O⟩
def bndI (x:Ins):Bool:=(decide (0≤x.a)&&decide (x.a≤7))&&((decide (0≤x.b)&&decide (x.b≤7))&&gd x.k)
theorem okI_bnd (x:Ins):okI x=((decide (1≤x.op)&&decide (x.op≤17))&&bndI x):=by
 unfold okI bndI
 cases gd x.k<;>cases (decide (0≤x.a)&&decide (x.a≤7))<;>cases (decide (0≤x.b)&&decide (x.b≤7))<;>rfl
theorem tBounded (x:Ins) (hx:smallI x) (r:Bool) (hr:bndI x=r):PSpec Tryz.prog X 144 [LIn x] (Lb r):=by
 subst hr
 unfold bndI
 have hA:=tSmall X x.a
 have hB:=tSmall X x.b
 have hG:=tForm X x.k hx.2.2.2 _ rfl
 generalize (decide (0≤x.a)&&decide (x.a≤7))=A at *
 generalize (decide (0≤x.b)&&decide (x.b≤7))=B at *
 generalize gd x.k=G at *
 cases A with
 | false =>
  refine cC Tryz.func144 rfl (by kernel_rfl) rfl rfl ?_
  intro C
  (refine aA<|rgN<|aL O O O dO<|kas O<|aB<|aA<|rgN<|kfa O O ?_;refine kl1 O O O<|kca O O hA<|kmv O<|aC O O O<|aC O O O<|aC O O O<|kpf O O<|kmv O<|aC O O O<|aC O O O<|aC O O O<|kpf O O<|kas O<|aB ?_;refine aI ?_)
  exact ⟨[_],⟨O,trivial⟩,O⟩
 | true =>
 cases B with
 | false =>
  refine cC Tryz.func144 rfl (by kernel_rfl) rfl rfl ?_
  intro C
  (refine aA<|rgN<|aL O O O dO<|kas O<|aB<|aA<|rgN<|kfa O O ?_;refine kl1 O O O<|kca O O hA<|kmv O<|aN O O (dP O O) ?_;refine aO O O O (dP O O) ?_;refine gca O O hB O O<|kpt O O<|kmv O<|aC O O O<|aC O O O<|aC O O O<|kpf O O<|kas O<|aB<|aI ?_)
  exact ⟨[_],⟨O,trivial⟩,O⟩
 | true =>
  refine cC Tryz.func144 rfl (by kernel_rfl) rfl rfl ?_
  intro C
  (refine aA<|rgN<|aL O O O dO<|kas O<|aB<|aA<|rgN<|kfa O O ?_;refine kl1 O O O<|kca O O hA<|kmv O<|aN O O (dP O O) ?_;refine aO O O O (dP O O) ?_;refine gca O O hB O O<|kpt O O<|kmv O<|aN O O (dP O O) ?_;refine bJ O O O (by exact nl3 O O O O) (dP O O) ?_;refine gca O O (hG) O O<|kpt O O<|kas O<|aB<|aI ?_)
  exact ⟨[_],⟨O,trivial⟩,O⟩
def rowVs (p:Int×Value):List Value:=rowL p.1++[p.2]
def rwsV (q:List (Int×Value)):List Value:=(q.map rowVs).flatten
theorem rowVs_len (p:Int×Value):(rowVs p).length=6:=rfl
theorem rwsV_len (q:List (Int×Value)):(rwsV q).length=q.length*6:=by
 unfold rwsV
 induction q with
 | nil=>rfl
 | cons x t ih=>rw [List.map_cons,List.flatten_cons,cS,ih,rowVs_len,dF];omega
theorem rwsV_snoc (q:List (Int×Value)) (p:Int×Value):rwsV (q++[p])=rwsV q++rowVs p:=by
 unfold rwsV
 rw [dE,List.flatten_append]
 simp
def zeR (k:Nat):List Value:=(List.replicate k [Value.string ⟨#[]⟩,.int .i64 0,.bool false,.bool false,.bool false,.nilFunc]).flatten
theorem zeR_succ (k:Nat):zeR (k+1)=[Value.string ⟨#[]⟩,.int .i64 0,.bool false,.bool false,.bool false,.nilFunc]++zeR k:=by unfold zeR;rw [List.replicate_succ,List.flatten_cons]
theorem zeR_len (k:Nat):(zeR k).length=k*6:=by
 induction k with
 | zero=>rfl
 | succ k ih=>rw [zeR_succ,cS,ih];simp;omega
def rowsR (l:List Ins):Rsc:=⟨fun ρ H=>∃ (q:List (Int×Value)) (fr:Nat×Nat),H ρ.1=some (.cells (rwsV q).toArray 190 fr)∧ρ.2=(rwsV q).length∧q.map (·.1)=l.map Ins.op∧∀ p∈q,DeedV H p.2 p.1⟩
structure RowsOK (Y:Nat→Option Obj) (ad:Option Addr) (l:List Ins):Prop where
 ex:∃ q:List (Int×Value),Go.Lg.RowsIn Y ad 6 (q.map rowVs)∧q.map (·.1)=l.map Ins.op∧∀ p∈q,DeedV Y p.2 p.1
theorem RowsOK.mono {Y Z:Nat→Option Obj} (h:MoreM Y Z) {ad:Option Addr} {l:List Ins} (hr:RowsOK Y ad l):RowsOK Z ad l:=by
 obtain ⟨q,h1,h2,h3⟩:=hr.ex
 exact ⟨q,h1.mono h,h2,fun p hp=>(h3 p hp).mono h⟩
theorem rows_fix {l:List Ins} {ρ:Nat×Nat} {H Y:Nat→Option Obj} (h:(rowsR l).holds ρ H) (hY:MoreM H Y):RowsOK Y (some ⟨ρ.1,0,none⟩) l:=by
 obtain ⟨q,fr,h1,h2,h3,h4⟩:=h
 refine ⟨q,rows_in (hY _ _ h1) (fun r hr=>by obtain ⟨x,_,rfl⟩:=List.mem_map.1 hr;rfl) ⟨[],by rw [dG];rfl⟩,h3,fun p hp=>(h4 p hp).mono hY⟩
theorem RowsOK.at {Y:Nat→Option Obj} {ad:Option Addr} {l:List Ins} (h:RowsOK Y ad l) {i:Nat} {x:Ins} (hx:l[i]? = some x):
  ∃ (blk off:Nat) (arr:Array Value) (el:TypeId) (fr:Nat×Nat) (v:Value),ad=some ⟨blk,off,none⟩∧Y blk=some (.cells arr el fr)∧off+i*6+6≤arr.size∧((arr.toList.drop (off+i*6)).take 6).map CV.val=(rowVs (x.op,v)).map CV.val∧DeedV Y v x.op:=by
 obtain ⟨q,h1,h2,h3⟩:=h.ex
 have hq:(q.map (·.1))[i]? = some x.op:=by rw [h2,dI,hx];rfl
 rw [dI] at hq
 cases hp:q[i]? with
 | none=>rw [hp] at hq;cases hq
 | some p =>
  rw [hp] at hq
  have hq:p.1=x.op:=by simpa using hq
  obtain ⟨blk,off,arr,el,fr,e1,e2,e3,e4⟩:=h1 i (rowVs p) (by rw [dI,hp];rfl)
  have h5:=h3 p (cZ hp)
  obtain ⟨o,v⟩:=p
  have hq:o=x.op:=hq
  subst hq
  exact ⟨blk,off,arr,el,fr,v,e1,e2,e3,by rw [e4],h5⟩
def rsR (l:List Ins):LV:=if chkX l=0 then .tup [.one (.slc 1000001 0 l.length 6),Sn .i64 0] else .tup [Vnil,Sn .i64 (chkX l)]
def rsBx (l:List Ins):List (Nat×Option Box):=if chkX l=0 then [(1000001,some ⟨0,[],.res (rowsR l)⟩)] else []
theorem rs_ok {l:List Ins} (h:chkX l=0):rsR l = .tup [.one (.slc 1000001 0 l.length 6),Sn .i64 0]∧rsBx l=[(1000001,some ⟨0,[],.res (rowsR l)⟩)]:=⟨if_pos h,if_pos h⟩
theorem rs_no {l:List Ins} (h:chkX l≠0):rsR l = .tup [Vnil,Sn .i64 (chkX l)]∧rsBx l=[]:=⟨if_neg h,if_neg h⟩
theorem rsBx_use (l:List Ins):((rsBx l).all fun p=>match p.2 with|some b=>b.cells.all (CV.inUse (rsBx l))|none=>true)=true:=by
 by_cases h:chkX l=0
 ·rw [(rs_ok h).2];rfl
 ·rw [(rs_no h).2];rfl
theorem rsR_use (l:List Ins):LV.inUse (rsBx l) (rsR l)=true:=by
 by_cases h:chkX l=0
 ·rw [(rs_ok h).1,(rs_ok h).2];rfl
 ·rw [(rs_no h).1,(rs_no h).2];rfl
theorem joinM_assoc (X H G:Nat→Option Obj):joinM (joinM X H) G=joinM X (joinM H G):=by
 funext b
 unfold joinM
 cases G b<;>rfl
theorem owned_join {C:Ctx} {X H G:Nat→Option Obj} (h:OwnedM C X H) (h':OwnedM C (joinM X H) G):OwnedM C X (joinM H G)∧MoreM H (joinM H G)∧MoreM G (joinM H G):=by
 have hn:∀ b o,G b=some o→H b=none∧X b=none:=fun b o hb=>joinM_none (h'.own b o hb).2.2
 refine ⟨⟨fun b o hb => ?_⟩,fun b o hb => ?_,fun b o hb=>joinM_in hb⟩
 ·cases hg:G b with
  | some o' =>
   rw [joinM_in hg] at hb
   cases hb
   obtain ⟨h1,h2,_⟩:=h'.own b o hg
   exact ⟨h1,h2,(hn b o hg).2⟩
  | none=>rw [joinM_out hg] at hb;exact h.own b o hb
 ·cases hg:G b with
  | some o'=>rw [(hn b o' hg).1] at hb;cases hb
  | none=>rw [joinM_out hg];exact hb
abbrev rwSt (ad:Option Addr) (n cap i:Nat) (d:Nat) (cells:List Value) (ms:List (Nat×LV)) (mb:List (Nat×Option Box)) (Y:Nat→Option Obj):St:=
 ⟨ms++[(0,Lx ad n cap),(4,.sv (.one (.slc 500 0 n 6))),(5,Ln .i64 (d:Nat)),(15,Lx ad n cap),(16,Ln .i64 (n:Nat)),(17,Ln .i64 (i:Nat))],mb++[(500,some ⟨190,cells.map .val,false⟩)],Y⟩
abbrev rdB8 (x:Ins) (c:CV):List (Nat×Option Box):=[(7,some ⟨88,(insV x).map .val,false⟩),(8,some ⟨190,(rowL x.op).map .val++[c],false⟩)]
set_option maxHeartbeats 12800000 in
theorem tRowsOf (l:List Ins) (ad:Option Addr) (cap:Nat) (hin:InsIn X ad l) (hbig:l.length<1152921504606846976):MSpec Tryz.prog X 103 [Lx ad l.length cap] [] (rsR l) (rsBx l):=by
 refine cD Tryz.func103 rfl (by kernel_rfl) rfl (rsR_use l) (rsBx_use l) rfl rfl ?_
 intro C
 by_cases h64:64<l.length
 ·have hc:chkX l=5:=if_pos h64
  obtain ⟨q1,q2⟩:=rs_no (l:=l) (by rw [hc];decide)
  rw [q1,q2,hc]
  (refine aA<|rgN<|kas O<|kas O<|aB<|aA<|aA<|rgN<|kmv O<|aQ O bZ O dO ?_;refine aS O O (r:=true) (cL (by omega)) dO<|aB<|aE O ?_;refine aA<|rgN<|kas O<|kas O<|aB<|aI ?_)
  exact ⟨[],⟨[_,_],⟨O,O,trivial⟩,O⟩,trivial,O,O⟩
 have hmk:slcBuild Tryz.prog 181 l.length=some (zeR l.length,6,190):=slcBuild_many (z := #[.string ⟨#[]⟩,.int .i64 0,.bool false,.bool false,.bool false,.nilFunc]) (by kernel_rfl) (by kernel_rfl) rfl (by omega)
 refine LWP.ends ?_
 (refine aA<|rgN<|kas O<|kas O<|aB<|aA<|aA<|rgN<|kmv O<|aQ O bZ O dO ?_;refine aS O O (r:=false) (cK (by omega)) dO<|aB<|aF O ?_;refine aH ?_;refine aA<|rgN<|kmv O<|aQ O bZ O dO ?_;refine K.makeSlc (m:=l.length) (bytes:=40) O O hmk (by kernel_rfl) (by omega) O O dO<|kas O<|kas O<|aB<|aA<|aA<|rgN<|kmv O<|aQ O bZ O dO ?_;refine kmv O<|aB<|aG ?_)
 refine cH (fun k σ=>∃ (i d:Nat) (q:List (Int×Value)) (H:Nat→Option Obj),i≤l.length∧k=l.length-i∧q.map (·.1)=(l.take i).map Ins.op∧(∀ p∈q,DeedV H p.2 p.1)∧OwnedM C X H∧dep okI 0 (l.take i)=some d∧σ=rwSt ad l.length cap i d (rwsV q++zeR (l.length-i)) [] [] (joinM X H)) l.length
  (cB (σ':=rwSt ad l.length cap 0 0 (rwsV []++zeR (l.length-0)) [] [] X) ?_ (cA ⟨0,0,[],fun _=>none,by omega,by omega,rfl,fun p hp=>absurd hp (by simp),OwnedM.nil _ _,rfl,by rw [joinM_nil]⟩)) ?_
 ·exact Le.ofR [(500,14)] (by exact ⟨rfl,rfl,rfl,rfl,rfl,rfl,trivial⟩) (by repeat' (first|exact trivial|refine cM ⟨_,rfl,?_⟩ ?_|refine cM ⟨_,rfl⟩ ?_|rfl|exact bW _ _ _ _|exact bX _ _ _ _|exact bY rfl)) (by exact rfl) (by exact rfl) (by repeat' (first|refine bS ?_ ?_|rfl|exact bU|exact bT|exact bV rfl)) (by exact rfl) (by exact rfl)
 rintro k σ ⟨i,d,q,H,hi,rfl,hq,hD,hO,hdep,rfl⟩
 have hqn:q.length=i:=by
  have:=congrArg List.length hq
  rw [cT,cT,cW] at this
  omega
 have hd16:=dep_le (by omega) hdep
 by_cases hlt:i<l.length
 ·obtain ⟨x,hx⟩:∃ x,l[i]? = some x:=⟨_,cU hlt⟩
  have hmem:=cZ hx
  have hsx:=hin.small x hmem
  have hinJ:InsIn (joinM X H) ad l:=hin.mono fun b o hb=>by
   cases hc:H b with
   | none=>rw [joinM_out hc];exact hb
   | some o'=>have:=(hO.own b o' hc).2.2;rw [hb] at this;cases this
  obtain ⟨blk,off,arr,el,fr,rfl,hX,hsz,hcs,hop⟩:=hinJ.at hx
  have hio:off+Int.toNat (i:Int)*6=off+i*6:=by simp
  have hin0:0≤(i:Int)∧(i:Int)<(l.length:Nat):=by omega
  have hsn:=dep_snoc hdep hx
  have hok:=okI_bnd x
  have htk:=takes_le x.op
  have bad:¬ (okI x=true∧takes x.op≤d∧d-takes x.op+1≤16)→chkX l=4:=fun h=>chkX_bad h64 hdep hx h
  by_cases hop17:x.op<1∨17<x.op
  ·have hc:=bad (fun h=>by have:=(okI_facts h.1).1;omega)
   obtain ⟨q1,q2⟩:=rs_no (l:=l) (by rw [hc];decide)
   rw [q1,q2,hc]
   have hR:=rowOf_no (joinM X H) x.op hop17
   (refine aA<|rgN<|klt O O (cL (by omega))<|aB<|aA<|aE O ?_;refine aH ?_;refine aA<|aG<|aA<|rgN<|kmv O<|aR O O bZ hin0 hio dO<|aY O hX (by kernel_rfl) hsz hcs dO<|aP O dO ?_;refine kas O<|aM O O O O O O dO ?_;refine aB<|aA<|rgN<|kfa O O ?_;refine kl1 O O O<|kca O O (hR)<|aP O dO ?_;refine aM O O O O O O dO ?_;refine aB<|aA<|aA<|rgN<|kfa O O ?_;refine kl1 O O O<|K.funcNil O (by kernel_rfl) (r:=true) (.inl ⟨O,O⟩) dO ?_;refine kmv O<|aC O O O<|aC O O O<|aC O O O<|kpt O O<|kmv O<|aC O O O<|aC O O O<|aC O O O<|aC O O O<|kpt O O<|aB<|aE O ?_;refine aA<|rgN<|kas O<|kas O<|aB<|aI ?_)
   exact cA ⟨[],⟨[_,_],⟨O,O,trivial⟩,O⟩,trivial,O,O⟩
  (refine aA<|rgN<|klt O O (cL (by omega))<|aB<|aA<|aE O ?_;refine aH ?_;refine aA<|aG<|aA<|rgN<|kmv O<|aR O O bZ hin0 hio dO<|aY O hX (by kernel_rfl) hsz hcs dO<|aP O dO ?_;refine kas O<|aM O O O O O O dO ?_;refine aB<|aA ?_)
  refine LWP.meetL (fun σ=>∃ (v:Value) (G:Nat→Option Obj),DeedV G v x.op∧MoreM H G∧OwnedM C X G∧σ=rwSt (some ⟨blk,off,none⟩) l.length cap i d (rwsV q++zeR (l.length-i)) [(6,Ln .i64 (i:Nat)),(7,Lp 7),(8,Lp 8)] (rdB8 x (.val v)) (joinM X G)) ?_ ?_
  ·by_cases h5:x.op<5
   ·obtain ⟨f,hDf,hR⟩:∃ f,DeedV H (fnV f) x.op∧PSpec Tryz.prog (joinM X H) 143 [Ln .i64 x.op] (LRow x.op (.val (fnV f))):=by
     generalize x.op=op at *
     rcases (show op=1∨op=2∨op=3∨op=4 by omega) with rfl|rfl|rfl|rfl
     ·exact ⟨_,deed_num H,rowOf_1 _⟩
     ·exact ⟨_,deed_elem H,rowOf_2 _⟩
     ·exact ⟨_,deed_here H,rowOf_3 _⟩
     ·exact ⟨_,deed_place H,rowOf_4 _⟩
    (refine rgN<|kfa O O ?_;refine kl1 O O O<|kca O O (hR)<|aP O dO ?_;refine aM O O O O O O dO ?_;refine aB ?_)
    exact cB (Le.of (by exact ⟨O,O,O,O,O,O,O,O,O,trivial⟩) (by exact ⟨O,O,O,trivial⟩) (by exact O) (by exact O) (by repeat' (first|refine bS ?_ ?_|rfl|exact bU|exact bT|exact bV O))) (cA ⟨_,H,hDf,MoreM.refl H,hO,O⟩)
   ·have hR:=rowOf_fn (joinM X H) x.op (by omega)
    (refine rgN<|kfa O O ?_;refine kl1 O O O<|bE [(1000001,600)] (LRow x.op (ptrF (cloF x.op) 600)) [dB 600 x.op] (hR) O O (by exact trivial) O O O O O (by exact (.box O O .nil)) dO<|aP O dO ?_;refine aM O O O O O O dO ?_;refine aB ?_)
    refine cB (σ':=⟨[(6,Ln .i64 (i:Nat)),(7,Lp 7),(8,Lp 8),(0,Lx (some ⟨blk,off,none⟩) l.length cap),(4,.sv (.one (.slc 500 0 l.length 6))),(5,Ln .i64 (d:Nat)),(15,Lx (some ⟨blk,off,none⟩) l.length cap),(16,Ln .i64 (l.length:Nat)),(17,Ln .i64 (i:Nat))],rdB8 x (ptrF (cloF x.op) 600)++dB 600 x.op::[(500,some ⟨190,(rwsV q++zeR (l.length-i)).map .val,false⟩)],joinM X H⟩) (Le.of (by exact ⟨O,O,O,O,O,O,O,O,O,trivial⟩) (by exact ⟨O,O,O,O,trivial⟩) (by exact O) (by exact O) (by repeat' (first|refine bS ?_ ?_|rfl|exact bU|exact bT|exact bV O))) ?_
    refine Leads.fixRsc [] (rdB8 x (ptrF (cloF x.op) 600)) O O (by exact (by repeat' (first|refine bS ?_ ?_|rfl|exact bU|exact bT|exact bV O))) O O fun ρ G2 hR2 hO2 => ?_
    obtain ⟨k1,k2,k3⟩:=owned_join hO hO2
    rw [joinM_assoc]
    exact cA ⟨.func (.func (cloF x.op)) #[] #[pv ρ.1],joinM H G2,DeedV.mono k3 hR2,k2,k1,O⟩
  rintro σ ⟨v,G,hDv,hHG,hOG,rfl⟩
  obtain ⟨f,caps,ev,_⟩:=id hDv
  subst ev
  have hB:=tBounded (joinM X G) x hsx _ rfl
  cases hb:bndI x with
  | false =>
   rw [hb] at hB hok
   have hc:=bad (fun h=>by rw [hok,Bool.and_false] at h;cases h.1)
   obtain ⟨q1,q2⟩:=rs_no (l:=l) (by rw [hc];decide)
   rw [q1,q2,hc]
   (refine aA<|aA<|rgN<|kfa O O ?_;refine kl1 O O O<|K.funcNil O (by kernel_rfl) (r:=false) (.inr ⟨⟨_,_,_,O⟩,O⟩) dO ?_;refine kmv O<|aK O O O (dP O O) ?_;refine gca O O hB O O<|aV O O (dP O O) ?_;refine kpf O O<|kmv O<|aC O O O<|aC O O O<|aC O O O<|aC O O O<|kpt O O<|aB<|aE O ?_;refine aA<|rgN<|kas O<|kas O<|aB<|aI ?_)
   exact cA ⟨[],⟨[_,_],⟨O,O,trivial⟩,O⟩,trivial,O,O⟩
  | true =>
  rw [hb] at hB hok
  rw [cL (show 1≤x.op by omega),cL (show x.op≤17 by omega)] at hok
  have hok:okI x=true:=hok
  by_cases hd:d<takes x.op
  ·have hc:=bad (fun h=>by omega)
   obtain ⟨q1,q2⟩:=rs_no (l:=l) (by rw [hc];decide)
   rw [q1,q2,hc]
   (refine aA<|aA<|rgN<|kfa O O ?_;refine kl1 O O O<|K.funcNil O (by kernel_rfl) (r:=false) (.inr ⟨⟨_,_,_,O⟩,O⟩) dO ?_;refine kmv O<|aK O O O (dP O O) ?_;refine gca O O hB O O<|aV O O (dP O O) ?_;refine kpf O O<|kmv O<|gmv O O O<|aN O O (dP O O) ?_;refine aO O O O (dP O O) ?_;refine bK O O (r:=true) (cL (by omega)) (dP O O) ?_;refine kpf O O<|aB<|aE O ?_;refine aA<|rgN<|kas O<|kas O<|aB<|aI ?_)
   exact cA ⟨[],⟨[_,_],⟨O,O,trivial⟩,O⟩,trivial,O,O⟩
  have hix:0+Int.toNat (i:Int)*6=i*6:=by rw [dD];omega
  have hpl:(rwsV q).length=i*6:=by rw [rwsV_len,hqn]
  have hroom:i*6+6≤((rwsV q++zeR (l.length-i)).map CV.val).length:=by rw [cT,cS,hpl,zeR_len];omega
  have hspl:splice ((rwsV q++zeR (l.length-i)).map CV.val) (i*6) ((rowL x.op).map .val++[.val (.func (.func f) #[] caps.toArray)])=(rwsV (q++[(x.op,.func (.func f) #[] caps.toArray)])++zeR (l.length-(i+1))).map CV.val:=by
   rw [rwsV_snoc,show l.length-i=(l.length-(i+1))+1 by omega,zeR_succ]
   unfold splice
   simp only [dE,dJ]
   have hml:((rwsV q).map CV.val).length=i*6:=by rw [cT,hpl]
   generalize (rwsV q).map CV.val=R at *
   rw [← hml,List.take_left,List.drop_length_add_append]
   simp [rowVs,rowL]
  have hsub:IntKind.i64.wrap (1-((takes x.op:Nat):Int))=1-((takes x.op:Nat):Int):=cE (by omega)
  have hadd:IntKind.i64.wrap (((d:Nat):Int)+(1-((takes x.op:Nat):Int)))=((d-takes x.op+1:Nat):Int):=by rw [cE (by omega)];omega
  have hinc:IntKind.i64.wrap (((i:Nat):Int)+1)=((i+1:Nat):Int):=by rw [cE (by omega)];omega
  by_cases h16:16<d-takes x.op+1
  ·have hc:=bad (fun h=>by omega)
   obtain ⟨q1,q2⟩:=rs_no (l:=l) (by rw [hc];decide)
   rw [q1,q2,hc]
   (refine aA<|aA<|rgN<|kfa O O ?_;refine kl1 O O O<|K.funcNil O (by kernel_rfl) (r:=false) (.inr ⟨⟨_,_,_,O⟩,O⟩) dO ?_;refine kmv O<|aK O O O (dP O O) ?_;refine gca O O hB O O<|aV O O (dP O O) ?_;refine kpf O O<|kmv O<|gmv O O O<|aN O O (dP O O) ?_;refine aO O O O (dP O O) ?_;refine bK O O (r:=false) (cK (by omega)) (dP O O) ?_;refine kpf O O<|aB<|aF O ?_;refine aH ?_;refine aA<|rgN<|kmv O<|kmv O<|aK O O O dO ?_;refine K.indexSlc O O (by omega) hix dO ?_;refine K.store O O O O (by kernel_rfl) hroom hspl dO<|aB<|aA<|rgN<|kmv O<|kfa O O ?_;refine kl1 O O O<|bA O O hsub dO<|kad O O hadd<|kas O<|aB<|aA<|rgN<|kmv O<|aS O O (r:=true) (cL (by omega)) dO<|aB<|aE O ?_;refine aA<|rgN<|kas O<|kas O<|aB<|aI ?_)
   exact cA ⟨[],⟨[_,_],⟨O,O,trivial⟩,O⟩,trivial,O,O⟩
  ·rw [if_pos ⟨hok,by omega,by omega⟩] at hsn
   (refine aA<|aA<|rgN<|kfa O O ?_;refine kl1 O O O<|K.funcNil O (by kernel_rfl) (r:=false) (.inr ⟨⟨_,_,_,O⟩,O⟩) dO ?_;refine kmv O<|aK O O O (dP O O) ?_;refine gca O O hB O O<|aV O O (dP O O) ?_;refine kpf O O<|kmv O<|gmv O O O<|aN O O (dP O O) ?_;refine aO O O O (dP O O) ?_;refine bK O O (r:=false) (cK (by omega)) (dP O O) ?_;refine kpf O O<|aB<|aF O ?_;refine aH ?_;refine aA<|rgN<|kmv O<|kmv O<|aK O O O dO ?_;refine K.indexSlc O O (by omega) hix dO ?_;refine K.store O O O O (by kernel_rfl) hroom hspl dO<|aB<|aA<|rgN<|kmv O<|kfa O O ?_;refine kl1 O O O<|bA O O hsub dO<|kad O O hadd<|kas O<|aB<|aA<|rgN<|kmv O<|aS O O (r:=false) (cK (by omega)) dO<|aB<|aF O ?_;refine aH ?_;refine rgN<|kad O O hinc<|kmv O<|aB ?_)
   refine cB (σ':=rwSt (some ⟨blk,off,none⟩) l.length cap (i+1) (d-takes x.op+1) (rwsV (q++[(x.op,.func (.func f) #[] caps.toArray)])++zeR (l.length-(i+1))) [] [] (joinM X G)) (Le.of (by exact ⟨O,O,O,O,O,O,trivial⟩) (by exact ⟨O,trivial⟩) (by exact O) (by exact O) (by repeat' (first|refine bS ?_ ?_|rfl|exact bU|exact bT|exact bV O))) (cA ⟨l.length-(i+1),by omega,i+1,_,_,G,by omega,O,?_,?_,hOG,hsn,O⟩)
   ·rw [dE,hq,List.take_add_one,hx,dE]
    rfl
   ·intro p hp
    rcases List.mem_append.1 hp with hp|hp
    ·exact (hD p hp).mono hHG
    ·rw [List.mem_singleton] at hp
     subst hp
     exact hDv
 ·have e:i=l.length:=by omega
  subst e
  rw [dC] at hq hdep
  have hz:zeR (l.length-l.length)=[]:=by rw [Nat.sub_self];rfl
  rw [hz,dG]
  by_cases h1:d=1
  ·subst h1
   have hc:chkX l=0:=by unfold chkX;rw [if_neg h64,if_pos hdep]
   obtain ⟨q1,q2⟩:=rs_ok hc
   rw [q1,q2]
   (refine aA<|rgN<|klt O O (cK (by omega))<|aB<|aA<|aF O ?_;refine aJ<|aA<|aA<|rgN<|kmv O<|kne O O (r:=false) O<|aB<|aF O ?_;refine aH ?_;refine aA<|rgN<|kmv O<|kas O<|kas O<|aB<|aI ?_)
   refine cB (σ':=⟨[(2,.sv (.one (.slc 500 0 l.length 6))),(3,Ln .i64 0)],[(500,some ⟨190,(rwsV q).map .val,false⟩)],joinM X H⟩) (Le.of (by exact ⟨O,O,trivial⟩) (by exact ⟨O,trivial⟩) (by exact O) (by exact O) (by repeat' (first|refine bS ?_ ?_|rfl|exact bU|exact bT|exact bV O))) ?_
   refine Leads.closeRes (R:=rowsR l) hO (fun ρ fr g1 g2 g3=>⟨q,fr,cJ _ _ _,g3,hq,fun p hp=>(hD p hp).mono (cF g1)⟩) (cA ?_)
   exact ⟨[(1000001,500)],⟨[_,_],⟨rfl,rfl,trivial⟩,rfl⟩,(by repeat' (first|exact trivial|refine cM ⟨_,rfl,?_⟩ ?_|refine cM ⟨_,rfl⟩ ?_|rfl|exact bW _ _ _ _|exact bX _ _ _ _|exact bY rfl)),rfl,rfl⟩
  ·have hc:chkX l=4:=by unfold chkX;rw [if_neg h64,if_neg (fun h=>h1 (by rw [hdep] at h;exact Option.some.inj h))]
   obtain ⟨q1,q2⟩:=rs_no (l:=l) (by rw [hc];decide)
   rw [q1,q2,hc]
   (refine aA<|rgN<|klt O O (cK (by omega))<|aB<|aA<|aF O ?_;refine aJ<|aA<|aA<|rgN<|kmv O<|kne O O (r:=true) (cP (by omega))<|aB<|aE O ?_;refine aA<|rgN<|kas O<|kas O<|aB<|aI ?_)
   exact cA ⟨[],⟨[_,_],⟨O,O,trivial⟩,O⟩,trivial,O,O⟩
theorem gCheck' (l:List Ins) (ad:Option Addr) (cap:Nat) (hin:InsIn X ad l) (hl:l.length<1152921504606846976):PSpec Tryz.prog X 139 [Lx ad l.length cap] (Ln .i64 (chkX l)):=by
 have hR:=tRowsOf X l ad cap hin hl
 refine cC Tryz.func139 rfl (by kernel_rfl) rfl rfl ?_
 intro C
 by_cases h:chkX l=0
 ·rw [(rs_ok h).1,(rs_ok h).2] at hR
  rw [h]
  (refine aA<|rgN<|kas O<|aB<|aA<|rgN<|kmv O<|bE [(1000001,500)] (.tup [.one (.slc 500 0 l.length 6),Sn .i64 0]) [(500,some ⟨0,[],.res (rowsR l)⟩)] (hR) O O (by exact trivial) O O O O O (by exact (.box O O .nil)) dO<|kmv O<|kex O O<|kex O O<|kas O<|kas O<|aB ?_;refine aA<|rgN<|kmv O<|kas O<|aB<|aI ?_)
  exact ⟨[_],⟨O,trivial⟩,O⟩
 ·rw [(rs_no h).1,(rs_no h).2] at hR
  (refine aA<|rgN<|kas O<|aB<|aA<|rgN<|kmv O<|aU [] [] (hR) O O (by exact trivial) O O O O O (by exact .nil) dO<|kmv O<|kex O O<|kex O O<|kas O<|kas O<|aB ?_;refine aA<|rgN<|kmv O<|kas O<|aB<|aI ?_)
  exact ⟨[_],⟨O,trivial⟩,O⟩
end Go.Proofs.YtopiioklkkiedaaGreatDoor
end
section
namespace Go.Lg.Fml
theorem dep_step {okJ:Ins→Bool} {l:List Ins} {m i d:Nat} {x:Ins} (h:dep okJ 0 l=some m) (hd:dep okJ 0 (l.take i)=some d) (hx:l[i]? = some x):okJ x=true∧takes x.op≤d∧d-takes x.op+1≤16∧dep okJ 0 (l.take (i+1))=some (d-takes x.op+1):=by
 have h1:=dep_snoc hd hx
 by_cases c:okJ x=true∧takes x.op≤d∧d-takes x.op+1≤16
 ·rw [if_pos c] at h1
  exact ⟨c.1,c.2.1,c.2.2,h1⟩
 ·rw [if_neg c] at h1
  have:=dep_none h1
  rw [h] at this
  cases this
section
variable {V:Type} {one:Ins→List V→Except Int V}
theorem run_snoc {l:List Ins} {i:Nat} {x:Ins} {st:List V} (h:run one (l.take i) [] = .ok st) (hx:l[i]? = some x):run one (l.take (i+1)) []=match one x (st.take (takes x.op)).reverse with | .error e=>.error e | .ok v=>.ok (v::st.drop (takes x.op)):=by
 rw [List.take_add_one,hx,run_app,h]
 simp only [Option.toList_some,run]
 cases one x (st.take (takes x.op)).reverse<;>rfl
theorem run_fail {l:List Ins} {i:Nat} {x:Ins} {st:List V} {e:Int} (h:run one (l.take i) [] = .ok st) (hx:l[i]? = some x) (ho:one x (st.take (takes x.op)).reverse = .error e):run one l [] = .error e:=by
 have h1:=run_snoc h hx
 rw [ho] at h1
 rw [← List.take_append_drop (i+1) l,run_app,h1]
def headX:Except Int (List V)→Except Int V
 | .error e=>.error e
 | .ok (v::_)=>.ok v
 | .ok []=>.error 0
end
end Go.Lg.Fml
namespace Go.Proofs.YtopiioklkkiedaaGreatDoor
open Go Go.Lg Go.Lg.Fml Go.Lg.Fld Go.Lg.Arith
set_option maxRecDepth 100000
theorem exR_closed (r:Except Int Nm):(exR r).closed=true:=by cases r<;>rfl
def StepN (Y:Nat→Option Obj) (v:Value) (one:Ins→List Nm→Except Int Nm):Prop := ∃ (f:FuncId) (caps:List Value),v = .func (.func f) #[] caps.toArray∧∀ Z,MoreM Y Z→∀ x:Ins,smallI x→∀ dv:Value,DeedV Z dv x.op→∀ (tad:Option Addr) (tcap:Nat) (ts:List Nm),NumsIn Z tad ts→ts.length=takes x.op →
 PSpec Tryz.prog Z f ([LRow x.op (.val dv),LIn x,Lx tad ts.length tcap]++capL caps) (exR (one x ts))
theorem step_eval {Y:Nat→Option Obj} {blk:Nat} {arr:Array Value} {el:TypeId} {fr:Nat×Nat} {fad:Option Addr} {fcap:Nat} {fs:List (List Nm)} {at_:Int} (hY:Y blk=some (.cells arr el fr)) (hsp:∃ sp,arr.toList=[.slice fad fs.length fcap,.int .i64 at_]++sp) (hE:EnvIn Y fad fs at_):StepN Y (.func (.func 105) #[] #[pv blk]) (oneX fs at_):=by
 refine ⟨105,[pv blk],O,fun Z hZ x hx dv hD tad tcap ts hts hlen => ?_⟩
 obtain ⟨f,caps,rfl,hF⟩:=hD
 have hP:=hF Z (MoreM.refl Z) x rfl hx fad fcap fs at_ (hE.mono hZ) tad tcap ts hts hlen
 have hX:=hZ _ _ hY
 obtain ⟨sp,hsp⟩:=hsp
 have hs0:0+2≤arr.size:=by rw [← Array.length_toList,hsp];simp
 have hc0:((arr.toList.drop 0).take 2).map CV.val=[.val (.slice fad fs.length fcap),.val (.int .i64 at_)]:=by rw [hsp];rfl
 show PSpec _ Z _ [LRow x.op (.val (.func (.func f) #[] caps.toArray)),LIn x,Lx tad ts.length tcap,.sv (.one (.val (pv blk)))] (exR (oneX fs at_ x ts))
 rw [exR_eq] at hP ⊢
 generalize exE (oneX fs at_ x ts)=e at *
 generalize exV (oneX fs at_ x ts)=v at *
 obtain ⟨vb,vN⟩:=v
 refine cC Tryz.func105 rfl (by kernel_rfl) rfl rfl ?_
 intro C
 (refine aA<|rgN<|aL O O O dO<|aL O O O dO<|aP O dO ?_;refine kas O<|aB<|aA<|rgN<|kfa O O ?_;refine kl1 O O O<|aK O O O dO ?_;refine aY O hX (by kernel_rfl) hs0 hc0 dO<|kmv O<|K.callF O O O hP dO ?_;refine kex O O<|kex O O<|aM O O O O O O dO ?_;refine kas O<|aB<|aI ?_)
 exact ⟨[_,_],⟨⟨_,_,O,O,O,.inl ⟨AggT.h,O⟩⟩,O,trivial⟩,O⟩
theorem nums_tail {Z:Nat→Option Obj} {sb:Nat} {arr:Array Value} {el:TypeId} {fr:Nat×Nat} {ns:List Nm} {rest cap:Nat} (hZ:Z sb=some (.cells arr el fr)) (h2:∀ u∈ns,In2 u.2) (hsp:∃ sp,arr.toList=nmsV ns++sp) (hc:cap=rest→ns.drop rest=[]):
  NumsIn Z (some ⟨sb,if cap=rest then 0 else 0+rest*3,none⟩) (ns.drop rest):=by
 have hN:=nms_in hZ h2 hsp
 refine ⟨fun i r hi => ?_,fun u hu=>h2 u (List.mem_of_mem_drop hu)⟩
 by_cases c:cap=rest
 ·rw [hc c] at hi;simp at hi
 ·rw [if_neg c]
  rw [dI,List.getElem?_drop] at hi
  obtain ⟨blk,off,arr',el',fr',e1,e2,e3,e4⟩:=hN.rows (rest+i) r (by rw [dI];exact hi)
  simp only [Option.some.injEq,Addr.mk.injEq] at e1
  obtain ⟨rfl,rfl,_⟩:=e1
  refine ⟨sb,0+rest*3,arr',el',fr',O,e2,by omega,?_⟩
  rw [← e4,show 0+rest*3+i*3=0+(rest+i)*3 by omega]
theorem nmsV_app (a b:List Nm):nmsV (a++b)=nmsV a++nmsV b:=by unfold nmsV;rw [dE,List.flatten_append]
theorem more_join {C:Ctx} {X H:Nat→Option Obj} (hO:OwnedM C X H):MoreM X (joinM X H)∧MoreM H (joinM X H):=by
 refine ⟨fun b o hb => ?_,fun b o hb=>joinM_in hb⟩
 cases hc:H b with
 | none=>rw [joinM_out hc];exact hb
 | some o'=>have:=(hO.own b o' hc).2.2;rw [hb] at this;cases this
variable (X:Nat→Option Obj)
abbrev rnSt (rad ad:Option Addr) (n rcap cap i:Nat) (v:Value) (ms:List (Nat×LV)) (mb:List (Nat×Option Box)) (Y:Nat→Option Obj):St:=
 ⟨ms++[(0,Lx rad n rcap),(1,Lx ad n cap),(2,.sv (.one (.val v))),(6,Lp 6),(15,Lx rad n rcap),(16,Ln .i64 (n:Nat)),(17,Ln .i64 (i:Nat))],mb++[(6,some ⟨86,[.val (.bool false),.val (.int .u64 0),.val (.int .u64 0)],false⟩)],Y⟩
set_option maxHeartbeats 12800000 in
theorem tRunN (l:List Ins) (hchk:chkX l=0) (ad:Option Addr) (cap:Nat) (hin:InsIn X ad l) (rad:Option Addr) (rcap:Nat) (hrows:RowsOK X rad l) (v:Value) (one:Ins→List Nm→Except Int Nm) (hv:StepN X v one)
  (h2:∀ x∈l,∀ a u,(∀ w∈a,In2 w.2)→one x a = .ok u→In2 u.2) (he:∀ x a e,a.length=takes x.op→one x a = .error e→e≠0):
  PSpec Tryz.prog X 104 [Lx rad l.length rcap,Lx ad l.length cap,.sv (.one (.val v))] (exR (headX (run one l []))):=by
 obtain ⟨h64,hdep1⟩:=chkX_zero hchk
 obtain ⟨f,caps,rfl,hF⟩:=hv
 refine cC Tryz.func104 rfl (by kernel_rfl) rfl (exR_closed _) ?_
 intro C
 have hmk:slcBuild Tryz.prog 28 16=some ((List.replicate 16 [Value.bool false,.int .u64 0,.int .u64 0]).flatten,3,86):=slcBuild_many (z := #[.bool false,.int .u64 0,.int .u64 0]) (by kernel_rfl) (by kernel_rfl) rfl (by omega)
 (refine aA<|rgN<|aP O dO ?_;refine kas O<|aB<|aA<|rgN<|K.makeSlc0 (m:=16) (bytes:=24) O O hmk (by kernel_rfl) (by omega) O dO ?_;refine kas O<|aB<|aA<|aA<|rgN<|kmv O<|aQ O bZ O dO ?_;refine kmv O<|aB<|aG ?_)
 refine cG (fun k σ=>∃ (i:Nat) (st:List Nm),i≤l.length∧k=l.length-i∧run one (l.take i) [] = .ok st∧(∀ w∈st,In2 w.2)∧dep okI 0 (l.take i)=some st.length∧σ=rnSt rad ad l.length rcap cap i (.func (.func f) #[] caps.toArray) [(8,.sv (.one (.slc 500 0 st.length 3)))] [(500,some ⟨86,(nmsV st.reverse).map .val,true⟩)] X) l.length
  ⟨rnSt rad ad l.length rcap cap 0 (.func (.func f) #[] caps.toArray) [(8,.sv (.one (.slc 500 0 0 3)))] [(500,some ⟨86,[],true⟩)] X,Le.ofR [(500,14),(6,6)] (by exact ⟨rfl,rfl,rfl,rfl,rfl,rfl,rfl,rfl,trivial⟩) (by repeat' (first|exact trivial|refine cM ⟨_,rfl,?_⟩ ?_|refine cM ⟨_,rfl⟩ ?_|rfl|exact bW _ _ _ _|exact bX _ _ _ _|exact bY rfl)) (by exact rfl) (by exact rfl) (by repeat' (first|refine bS ?_ ?_|rfl|exact bU|exact bT|exact bV rfl)) (by exact rfl) (by exact rfl),0,[],by omega,by omega,rfl,fun w hw=>absurd hw (by simp),rfl,rfl⟩ ?_
 rintro k σ ⟨i,st,hi,rfl,hst,hst2,hdep,rfl⟩
 by_cases hlt:i<l.length
 ·obtain ⟨x,hx⟩:∃ x,l[i]? = some x:=⟨_,cU hlt⟩
  have hmem:=cZ hx
  have hsx:=hin.small x hmem
  obtain ⟨hok,htk,h16,hdn⟩:=dep_step hdep1 hdep hx
  have hd16:=dep_le (by omega) hdep
  obtain ⟨rblk,roff,rarr,rel,rfr,dv,rfl,hXr,hszr,hcsr,hDv⟩:=hrows.at hx
  obtain ⟨g,gcaps,egv,_⟩:=id hDv
  subst egv
  obtain ⟨blk,off,arr,el,fr,rfl,hX,hsz,hcs,hop⟩:=hin.at hx
  have hio:off+Int.toNat (i:Int)*6=off+i*6:=by simp
  have hior:roff+Int.toNat (i:Int)*6=roff+i*6:=by simp
  have hin0:0≤(i:Int)∧(i:Int)<(l.length:Nat):=by omega
  obtain ⟨rest,hrest⟩:∃ rest,st.length-takes x.op=rest:=⟨_,rfl⟩
  have hsub:IntKind.i64.wrap (((st.length:Nat):Int)-((takes x.op:Nat):Int))=((rest:Nat):Int):=by rw [cE (by omega)];omega
  (refine aA<|rgN<|klt O O (cL (by omega))<|aB<|aA<|aE O ?_;refine aH ?_;refine aA<|aG<|aA<|rgN<|kmv O<|aR O O bZ hin0 hior dO<|aY O hXr (by kernel_rfl) hszr hcsr dO<|aP O dO ?_;refine kas O<|aM O O O O O O dO ?_;refine aB<|aA<|rgN<|kmv O<|K.lenSlc O bZ O dO ?_;refine kfa O O ?_;refine kl1 O O O<|bA O O hsub dO<|kas O<|aB<|aA ?_)
  refine LWP.le (σ':=⟨[(8,.sv (.one (.slc 500 0 st.length 3))),(0,Lx (some ⟨rblk,roff,none⟩) l.length rcap),(1,Lx (some ⟨blk,off,none⟩) l.length cap),(2,.sv (.one (.val (.func (.func f) #[] caps.toArray)))),(6,Lp 6),(9,Ln .i64 (i:Nat)),(10,Lp 10),(11,Ln .i64 (rest:Nat)),(15,Lx (some ⟨rblk,roff,none⟩) l.length rcap),(16,Ln .i64 (l.length:Nat)),(17,Ln .i64 (i:Nat))],[(500,some ⟨86,(nmsV st.reverse).map .val,true⟩),(6,some ⟨86,[.val (.bool false),.val (.int .u64 0),.val (.int .u64 0)],false⟩),(10,some ⟨190,(rowVs (x.op,.func (.func g) #[] gcaps.toArray)).map .val,false⟩)],X⟩) (Le.of (by exact ⟨O,O,O,O,O,O,O,O,O,O,O,trivial⟩) (by exact ⟨O,O,O,trivial⟩) (by exact O) (by exact O) (by repeat' (first|refine bS ?_ ?_|rfl|exact bU|exact bT|exact bV O))) ?_
  refine LWP.freeze O (by exact (by repeat' (first|refine bS ?_ ?_|rfl|exact bU|exact bT|exact bV O))) O fun sb scap sarr sfr hn hFz hcp hfit hsp => ?_
  have hXZ:MoreM X (withBlock X sb (.cells sarr 86 sfr)):=cF hn
  have hts:st.reverse.drop rest=(st.take (takes x.op)).reverse:=by rw [List.drop_reverse,← hrest,show st.length-(st.length-takes x.op)=takes x.op by omega]
  have hln:((st.take (takes x.op)).reverse).length=takes x.op:=by rw [List.length_reverse,cW];omega
  have hN:=nums_tail (cap:=scap) (rest:=rest) (cJ X sb (.cells sarr 86 sfr)) (fun u hu=>hst2 u (List.mem_reverse.1 hu)) hsp (fun e=>List.drop_eq_nil_of_le (by rw [List.length_reverse];omega))
  rw [hts] at hN
  have hP:=hF _ hXZ x hsx _ (hDv.mono hXZ) _ (scap-rest) _ hN hln
  have hln2:st.length-rest=((st.take (takes x.op)).reverse).length:=by rw [hln];omega
  have hXc:=hXZ _ _ hX
  have hsn:=run_snoc hst hx
  cases hone:one x (st.take (takes x.op)).reverse with
  | error e =>
   have hne:=he x _ e hln hone
   rw [run_fail hst hx hone]
   rw [hone] at hP
   show LWP _ _ _ _ _ _
   (refine rgD mixed<|kmv O<|aK O O O dO ?_;refine kmv O<|kmv O<|aR O O bZ hin0 hio dO<|aY O hXc (by kernel_rfl) hsz hcs dO<|kmv O<|kmv O<|K.cutLoX O O bZ (by omega) O hln2 O dO ?_;refine K.callF O O O hP dO ?_;refine kmv O<|kex O O<|kex O O<|aP O dO ?_;refine aM O O O O O O dO ?_;refine kas O<|aB<|rgA ?_;refine aA<|aA<|rgN<|kmv O<|kne O O (r:=true) (cP hne)<|aB<|aE O ?_;refine aA<|rgN<|aK O O O dO ?_;refine kmv O<|aM O O O O O O dO ?_;refine kas O<|aB<|aI ?_)
   exact ⟨[_,_],⟨⟨_,_,O,O,O,.inl ⟨AggT.h,O⟩⟩,O,trivial⟩,O⟩
  | ok u =>
   rw [hone] at hP hsn
   simp only at hsn
   have hu2:=h2 x hmem _ u (fun w hw=>hst2 w (List.mem_of_mem_take (List.mem_reverse.1 hw))) hone
   obtain ⟨ub,uN⟩:=u
   have hP:PSpec Tryz.prog (withBlock X sb (.cells sarr 86 sfr)) f ([LRow x.op (.val (.func (.func g) #[] gcaps.toArray)),LIn x,Lx (some ⟨sb,if scap=rest then 0 else 0+rest*3,none⟩) ((st.take (takes x.op)).reverse).length (scap-rest)]++capL caps) (.tup [SI ub uN,Sn .i64 0]):=hP
   (refine rgD mixed<|kmv O<|aK O O O dO ?_;refine kmv O<|kmv O<|aR O O bZ hin0 hio dO<|aY O hXc (by kernel_rfl) hsz hcs dO<|kmv O<|kmv O<|K.cutLoX O O bZ (by omega) O hln2 O dO ?_;refine K.callF O O O hP dO ?_;refine kmv O<|kex O O<|kex O O<|aP O dO ?_;refine aM O O O O O O dO ?_;refine kas O<|aB<|rgA ?_;refine aA<|aA<|rgN<|kmv O<|kne O O (r:=false) O<|aB<|aF O ?_;refine aH ?_)
   have hspl:nmsV st.reverse=nmsV (st.reverse.take rest)++nmsV (st.reverse.drop rest):=by rw [← nmsV_app,List.take_append_drop]
   have hsp2:∃ sp,sarr.toList=nmsV (st.reverse.take rest)++sp:=by
    obtain ⟨sp,hsp⟩:=hsp
    exact ⟨_,by rw [hsp,hspl,dJ]⟩
   have hrl:(st.reverse.take rest).length=rest:=by rw [cW,List.length_reverse];omega
   refine LWP.le (σ':=⟨[(8,.sv (.one (.val (.slice (some ⟨sb,0,none⟩) st.length scap)))),(0,Lx (some ⟨rblk,roff,none⟩) l.length rcap),(1,Lx (some ⟨blk,off,none⟩) l.length cap),(2,.sv (.one (.val (.func (.func f) #[] caps.toArray)))),(6,Lp 6),(11,Ln .i64 (rest:Nat)),(12,Lp 12),(15,Lx (some ⟨rblk,roff,none⟩) l.length rcap),(16,Ln .i64 (l.length:Nat)),(17,Ln .i64 (i:Nat))],[(6,some ⟨86,[.val (.bool false),.val (.int .u64 0),.val (.int .u64 0)],false⟩),(12,some ⟨86,cI ub uN,false⟩)],withBlock X sb (.cells sarr 86 sfr)⟩) (Le.of (by exact ⟨O,O,O,O,O,O,O,O,O,O,trivial⟩) (by exact ⟨O,O,trivial⟩) (by exact O) (by exact O) (by repeat' (first|refine bS ?_ ?_|rfl|exact bU|exact bT|exact bV O))) ?_
   refine LWP.thaw (k:=500) (sz:=3) (vals:=nmsV (st.reverse.take rest)) hn hFz hcp hfit hsp2 O O O (by decide) ?_
   have hl3:((nmsV (st.reverse.take rest)).map CV.val).length=rest*3:=by rw [nmsV_len,hrl]
   have hnc:=nmsV_snoc (st.reverse.take rest) (ub,uN)
   have hinc:IntKind.i64.wrap (((i:Nat):Int)+1)=((i+1:Nat):Int):=by rw [cE (by omega)];omega
   have hst':st.reverse.take rest=(st.drop (takes x.op)).reverse:=by rw [List.take_reverse,← hrest,show st.length-(st.length-takes x.op)=takes x.op by omega]
   have hlen2:(((ub,uN):Nm)::st.drop (takes x.op)).length=rest+1:=by rw [dF,cX];omega
   (refine rgD mixed<|kmv O<|kmv O<|K.cutSlc O O bZ (by omega) dO<|aK O O O dO ?_;refine aZ (zs:=[Value.bool false,.int .u64 0,.int .u64 0]) (sz:=3) (e:=86) (cs':=[.val (.bool ub),.val (.int .u64 (uN/18446744073709551616)),.val (.int .u64 (uN%18446744073709551616))]) (by kernel_rfl) O O O O O O dO<|bP (by_:=24) (e2:=86) (l2:=[.val (.bool ub),.val (.int .u64 (uN/18446744073709551616)),.val (.int .u64 (uN%18446744073709551616))]) (nl:=rest+1) (nc:=(nmsV (st.reverse.take rest++[(ub,uN)])).map .val) O O hl3 O O (dK _) O O (by kernel_rfl) (by kernel_rfl) (by omega) (by omega) O O hnc dO<|kas O<|aB<|rgA ?_;refine rgN<|kad O O hinc<|kmv O<|aB ?_)
   exact ⟨l.length-(i+1),rnSt (some ⟨rblk,roff,none⟩) (some ⟨blk,off,none⟩) l.length rcap cap (i+1) (.func (.func f) #[] caps.toArray) [(8,.sv (.one (.slc 500 0 (rest+1) 3)))] [(500,some ⟨86,(nmsV (st.reverse.take rest++[(ub,uN)])).map .val,true⟩)] X,by omega,Le.ofR [(500,49),(6,6)] (by exact ⟨rfl,rfl,rfl,rfl,rfl,rfl,rfl,rfl,trivial⟩) (by repeat' (first|exact trivial|refine cM ⟨_,rfl,?_⟩ ?_|refine cM ⟨_,rfl⟩ ?_|rfl|exact bW _ _ _ _|exact bX _ _ _ _|exact bY rfl)) (by exact rfl) (by exact rfl) (by repeat' (first|refine bS ?_ ?_|rfl|exact bU|exact bT|exact bV rfl)) (by exact rfl) (by exact rfl),i+1,(ub,uN)::st.drop (takes x.op),by omega,rfl,hsn,(fun w hw=>by
    rcases List.mem_cons.1 hw with rfl|hw
    ·exact hu2
    ·exact hst2 w (List.mem_of_mem_drop hw)),by rw [hdn,hlen2];congr 1;omega,by rw [hlen2,List.reverse_cons,← hst']⟩
 ·have e:i=l.length:=by omega
  subst e
  rw [dC] at hst hdep
  have hl1:st.length=1:=by rw [hdep1] at hdep;exact (Option.some.inj hdep).symm
  match st,hl1,hst,hst2 with
  | [(ub,uN)],_,hst,hst2 =>
  rw [hst]
  show LWP _ _ _ _ _ _
  refine LWP.le (σ':=rnSt rad ad l.length rcap cap l.length (.func (.func f) #[] caps.toArray) [(8,.sv (.one (.slc 500 0 1 3)))] [(500,some ⟨86,cI ub uN,true⟩)] X) (Le.of (by exact ⟨O,O,O,O,O,O,O,O,trivial⟩) (by exact ⟨O,O,trivial⟩) (by exact O) (by exact O) (by repeat' (first|refine bS ?_ ?_|rfl|exact bU|exact bT|exact bV O))) ?_
  (refine aA<|rgN<|klt O O (cK (by omega))<|aB<|aA<|aF O ?_;refine aJ<|aA<|rgN<|kmv O<|K.indexSlc (off':=0) O O (by omega) O dO ?_;refine bJ O O O O dO ?_;refine aM O O O O O O dO ?_;refine kas O<|aB<|aI ?_)
  exact ⟨[_,_],⟨⟨_,_,O,O,O,.inl ⟨AggT.h,O⟩⟩,O,trivial⟩,O⟩
theorem run_len {V:Type} {one:Ins→List V→Except Int V} {okJ:Ins→Bool}:∀ {l:List Ins} {st st':List V} {n m:Nat},st.length=n→dep okJ n l=some m→run one l st = .ok st'→st'.length=m
 | [],st,st',n,m,h,hd,hr=>by
  simp only [dep,Option.some.injEq] at hd
  simp only [run,Except.ok.injEq] at hr
  rw [← hr,h,hd]
 | x::l,st,st',n,m,h,hd,hr=>by
  simp only [dep] at hd
  split at hd
  ·rename_i c
   simp only [run] at hr
   cases ho:one x (st.take (takes x.op)).reverse with
   | error e=>rw [ho] at hr;cases hr
   | ok v =>
    rw [ho] at hr
    exact run_len (n:=n-takes x.op+1) (by rw [dF,cX,h]) hd hr
  ·cases hd
set_option maxHeartbeats 6400000 in
theorem gEval' (l:List Ins) (ad:Option Addr) (cap:Nat) (hin:InsIn X ad l) (hbig:l.length<1152921504606846976) (fad:Option Addr) (fcap:Nat) (fs:List (List Nm)) (at_:Int) (hE:EnvIn X fad fs at_) (hf2:∀ r∈fs,∀ u∈r,In2 u.2):
  PSpec Tryz.prog X 70 [Lx ad l.length cap,LEnv fad fs.length fcap at_] (exR (evX l fs at_)):=by
 have hR:=tRowsOf X l ad cap hin hbig
 by_cases h:chkX l=0
 ·rw [(rs_ok h).1,(rs_ok h).2] at hR
  refine cC Tryz.func70 rfl (by kernel_rfl) rfl (exR_closed _) ?_
  intro C
  (refine aA<|rgN<|aL O O O dO<|aP O dO ?_;refine kas O<|aB<|aA<|rgN<|kmv O<|bE [(1000001,500)] (.tup [.one (.slc 500 0 l.length 6),Sn .i64 0]) [(500,some ⟨0,[],.res (rowsR l)⟩)] (hR) O O (by exact trivial) O O O O O (by exact (.box O O .nil)) dO<|kmv O<|kex O O<|kex O O<|kas O<|kas O<|aB<|aA<|aA ?_;refine rgN<|kmv O<|kne O O ((cO (by omega)))<|aB<|aF O ?_;refine aH ?_;refine aA ?_)
  refine LWP.le (σ':=⟨[(6,.sv (.one (.slc 500 0 l.length 6))),(3,Lp 3),(0,Lx ad l.length cap),(4,Lp 4),(5,Ln .i64 0),(7,Ln .i64 0)],[(500,some ⟨0,[],.res (rowsR l)⟩),(3,some ⟨100,[.val (.slice fad fs.length fcap),.val (.int .i64 at_)],false⟩),(4,some ⟨86,[.val (.bool false),.val (.int .u64 0),.val (.int .u64 0)],false⟩)],X⟩) (Le.of (by exact ⟨O,O,O,O,O,O,trivial⟩) (by exact ⟨O,O,O,trivial⟩) (by exact O) (by exact O) (by repeat' (first|refine bS ?_ ?_|rfl|exact bU|exact bT|exact bV O))) ?_
  refine LWP.fixRes O O O fun ρ H rcap hRr hO _ _ => ?_
  obtain ⟨m1,m2⟩:=more_join hO
  have hrows:=rows_fix hRr m2
  refine LWP.le (σ':=⟨[(3,Lp 3),(6,Lx (some ⟨ρ.1,0,none⟩) l.length rcap),(0,Lx ad l.length cap),(4,Lp 4),(5,Ln .i64 0),(7,Ln .i64 0)],[(3,some ⟨100,([.slice fad fs.length fcap,.int .i64 at_]:List Value).map .val,false⟩),(4,some ⟨86,[.val (.bool false),.val (.int .u64 0),.val (.int .u64 0)],false⟩)],joinM X H⟩) (Le.of (by exact ⟨O,O,O,O,O,O,trivial⟩) (by exact ⟨O,O,trivial⟩) (by exact O) (by exact O) (by repeat' (first|refine bS ?_ ?_|rfl|exact bU|exact bT|exact bV O))) ?_
  refine LWP.freezePtr O O O fun eb earr efr hn hF hsp => ?_
  have m3:MoreM (joinM X H) (withBlock (joinM X H) eb (.cells earr 100 efr)):=cF hn
  have hS:=step_eval (cJ (joinM X H) eb (.cells earr 100 efr)) hsp (hE.mono (m1.trans m3))
  have hP:=tRunN _ l h ad cap (hin.mono (m1.trans m3)) (some ⟨ρ.1,0,none⟩) rcap (hrows.mono m3) _ (oneX fs at_) hS (fun x hx a u ha ho=>one_in2 hf2 (hin.small x hx).2.2.2 hE.place.2 ha ho) (fun x a e hl ho=>one_err hl ho)
  have hev:evX l fs at_=lastX (run (oneX fs at_) l []):=if_pos h
  rw [hev]
  cases hr:run (oneX fs at_) l [] with
  | error e =>
   have hne:e≠0:=by
    have:=evX_err (l:=l) (fs:=fs) (at_:=at_) (e:=e) (by rw [hev,hr];rfl)
    exact this
   rw [hr] at hP
   show LWP _ _ _ _ _ _
   (refine rgN<|kmv O<|kmv O<|K.makeFunc O O dO ?_;refine kca O O hP<|kmv O<|kex O O<|kex O O<|aP O dO ?_;refine aM O O O O O O dO ?_;refine kas O<|aB<|aA<|aG<|aA<|rgN<|kmv O<|kne O O (r:=true) (cP hne)<|kas O<|aB<|aE O ?_;refine aA<|rgN<|aT O O (by exact O) (by exact nl3 O O O O) dO ?_;refine kmv O<|aM O O O O O O dO ?_;refine kas O<|aB<|aI ?_)
   exact ⟨[_,_],⟨⟨_,_,O,O,O,.inl ⟨AggT.h,O⟩⟩,O,trivial⟩,O⟩
  | ok st =>
   have hl1:=run_len rfl (chkX_zero h).2 hr
   match st,hl1,hr with
   | [(ub,uN)],_,hr =>
   rw [hr] at hP
   have hP:PSpec Tryz.prog (withBlock (joinM X H) eb (.cells earr 100 efr)) 104 [Lx (some ⟨ρ.1,0,none⟩) l.length rcap,Lx ad l.length cap,.sv (.one (.val (.func (.func 105) #[] #[pv eb])))] (.tup [SI ub uN,Sn .i64 0]):=hP
   have hu2:In2 uN:=by
    obtain ⟨t,ht,hfl⟩:=parse (chkX_zero h).2
    have h5:t.ev (oneX fs at_) = .ok (ub,uN):=by
     have h6:=run_flat (one:=oneX fs at_) (t:=t) (rest:=[]) (st:=[]) ht
     rw [dG,hfl,hr] at h6
     cases hv:t.ev (oneX fs at_) with
     | error e=>rw [hv] at h6;cases h6
     | ok v=>rw [hv] at h6;simp only [run,Except.ok.injEq,List.cons.injEq,and_true] at h6;rw [h6]
    exact tree_in2 hf2 hE.place.2 (fun x hx=>(hin.small x (by rw [← hfl];exact hx)).2.2.2) h5
   have hG:=tForm (withBlock (joinM X H) eb (.cells earr 100 efr)) (ub,uN) hu2 _ rfl
   show LWP _ _ _ _ _ _
   cases hg:gd (ub,uN) with
   | false =>
    rw [hg] at hG
    rw [show lastX (.ok [(ub,uN)]) = .error 4 by unfold lastX;simp only;rw [hg];rfl]
    (refine rgN<|kmv O<|kmv O<|K.makeFunc O O dO ?_;refine kca O O hP<|kmv O<|kex O O<|kex O O<|aP O dO ?_;refine aM O O O O O O dO ?_;refine kas O<|aB<|aA<|aG<|aA<|rgN<|kmv O<|kne O O (r:=false) O<|kas O<|aB<|aF O ?_;refine aA<|rgN<|aK O O O dO ?_;refine kca O O (hG)<|aV O O dO<|kas O<|aB<|aE O ?_;refine aA<|rgN<|aT O O (by exact O) (by exact nl3 O O O O) dO ?_;refine aM O O O O O O dO ?_;refine kas O<|aB<|aI ?_)
    exact ⟨[_,_],⟨⟨_,_,O,O,O,.inl ⟨AggT.h,O⟩⟩,O,trivial⟩,O⟩
   | true =>
    rw [hg] at hG
    rw [show lastX (.ok [(ub,uN)]) = .ok (ub,uN) by unfold lastX;simp only;rw [hg];rfl]
    (refine rgN<|kmv O<|kmv O<|K.makeFunc O O dO ?_;refine kca O O hP<|kmv O<|kex O O<|kex O O<|aP O dO ?_;refine aM O O O O O O dO ?_;refine kas O<|aB<|aA<|aG<|aA<|rgN<|kmv O<|kne O O (r:=false) O<|kas O<|aB<|aF O ?_;refine aA<|rgN<|aK O O O dO ?_;refine kca O O (hG)<|aV O O dO<|kas O<|aB<|aF O ?_;refine aH ?_;refine aA<|rgN<|aK O O O dO ?_;refine aM O O O O O O dO ?_;refine kas O<|aB<|aI ?_)
    exact ⟨[_,_],⟨⟨_,_,O,O,O,.inl ⟨AggT.h,O⟩⟩,O,trivial⟩,O⟩
 ·rw [(rs_no h).1,(rs_no h).2] at hR
  rw [show evX l fs at_ = .error (chkX l) from if_neg h]
  refine cC Tryz.func70 rfl (by kernel_rfl) rfl rfl ?_
  intro C
  (refine aA<|rgN<|aL O O O dO<|aP O dO ?_;refine kas O<|aB<|aA<|rgN<|kmv O<|aU [] [] (hR) O O (by exact trivial) O O O O O (by exact .nil) dO<|kmv O<|kex O O<|kex O O<|kas O<|kas O<|aB<|aA<|aA ?_;refine rgN<|kmv O<|kne O O (r:=true) (cP h)<|aB<|aE O ?_;refine aA<|rgN<|aT O O (by exact O) (by exact nl3 O O O O) dO ?_;refine kmv O<|aM O O O O O O dO ?_;refine kas O<|aB<|aI ?_)
  exact ⟨[_,_],⟨⟨_,_,O,O,O,.inl ⟨AggT.h,O⟩⟩,O,trivial⟩,O⟩
end Go.Proofs.YtopiioklkkiedaaGreatDoor
end
section
namespace Go.Proofs.YtopiioklkkiedaaGreatDoor
open Go Go.Lg Go.Lg.Fml Go.Lg.Fld Go.Lg.Arith
set_option maxRecDepth 100000
theorem leB1o (n:Nat):leB 1 n=[o8 (n:Nat)]:=by
 simp only [leB]
 congr 1
abbrev LOp (op:Int):LV:=.sv (.agg [.val (.bool (op==2||op==3)),.val (.bool (op==2)),.val (.bool (op==1))])
theorem op_1:LOp 1 = .sv (.agg [.val (.bool false),.val (.bool false),.val (.bool true)]):=rfl
theorem op_2:LOp 2 = .sv (.agg [.val (.bool true),.val (.bool true),.val (.bool false)]):=rfl
theorem op_3:LOp 3 = .sv (.agg [.val (.bool true),.val (.bool false),.val (.bool false)]):=rfl
theorem op_no {op:Int} (h1:op≠1) (h2:op≠2) (h3:op≠3):LOp op = .sv (.agg [.val (.bool false),.val (.bool false),.val (.bool false)]):=by
 unfold LOp
 rw [cN h1,cN h2,cN h3]
 rfl
variable (X:Nat→Option Obj)
set_option maxHeartbeats 6400000 in
theorem tOnly3 (A B K:Bool) (x:Ins) (hx:smallI x):PSpec Tryz.prog X 137 [.sv (.agg [.val (.bool A),.val (.bool B),.val (.bool K)]),LIn x] (Lb ((A||(x.a==0))&&(B||(x.b==0))&&(K||decide (x.k=(false,0))))):=by
 have q:=eqI (b:=x.k.1) (b':=false) (h:=x.k.2/18446744073709551616) (h':=0) (l:=x.k.2%18446744073709551616) (l':=0) _ (eqZ hx.2.2.2)
 rw [show decide (((x.k.1,x.k.2):Nm)=(false,0))=decide (x.k=(false,0)) from rfl] at q
 generalize hr:decide (x.k=(false,0))=r at *
 generalize hp:(x.a==0)=p
 generalize hq:(x.b==0)=s
 cases A<;>cases p<;>cases B<;>cases s<;>cases K
 all_goals
  refine cC Tryz.func137 rfl (by kernel_rfl) rfl rfl ?_
  intro C
  (first|(refine aA<|rgN<|aL O O O dO<|aL O O O dO<|kas O<|aB<|aA<|rgN<|kfa O O ?_;refine kl1 O O O<|kmv O<|aN O O (dP O O) ?_;refine aO O O O (dP O O) ?_;refine bC O O hp (dP O O) ?_;refine kpf O O<|kmv O<|aN O O (dP O O) ?_;refine aO O O O (dP O O) ?_;refine gmv O O O<|aN O O (dP O O) ?_;refine aO O O O (dP O O) ?_;refine bC O O hq (dP O O) ?_;refine bO O O (dP O O) ?_;refine kpt O O<|kmv O<|aN O O (dP O O) ?_;refine aO O O O (dP O O) ?_;refine gmv O O O<|aN O O (dP O O) ?_;refine bJ O O O (by exact nl3 O O O O) (dP O O) ?_;refine aT O O (by exact O) (by exact nl3 O O O O) (dP O O) ?_;refine bQ O O O O (by kernel_rfl) q (.inl ⟨O,O⟩) (dP O O) ?_;refine bO O O (dP O O) ?_;refine kpt O O<|kas O<|aB<|aI ?_)|(refine aA<|rgN<|aL O O O dO<|aL O O O dO<|kas O<|aB<|aA<|rgN<|kfa O O ?_;refine kl1 O O O<|kmv O<|aN O O (dP O O) ?_;refine aO O O O (dP O O) ?_;refine bC O O hp (dP O O) ?_;refine kpf O O<|kmv O<|aN O O (dP O O) ?_;refine aO O O O (dP O O) ?_;refine gmv O O O<|aC O O O<|aC O O O<|aC O O O<|bF O O (dP O O) ?_;refine kpt O O<|kmv O<|aN O O (dP O O) ?_;refine aO O O O (dP O O) ?_;refine gmv O O O<|aN O O (dP O O) ?_;refine bJ O O O (by exact nl3 O O O O) (dP O O) ?_;refine aT O O (by exact O) (by exact nl3 O O O O) (dP O O) ?_;refine bQ O O O O (by kernel_rfl) q (.inl ⟨O,O⟩) (dP O O) ?_;refine bO O O (dP O O) ?_;refine kpt O O<|kas O<|aB<|aI ?_)|(refine aA<|rgN<|aL O O O dO<|aL O O O dO<|kas O<|aB<|aA<|rgN<|kfa O O ?_;refine kl1 O O O<|kmv O<|aC O O O<|aC O O O<|aC O O O<|kpt O O<|kmv O<|aN O O (dP O O) ?_;refine aO O O O (dP O O) ?_;refine gmv O O O<|aN O O (dP O O) ?_;refine aO O O O (dP O O) ?_;refine bC O O hq (dP O O) ?_;refine bO O O (dP O O) ?_;refine kpt O O<|kmv O<|aN O O (dP O O) ?_;refine aO O O O (dP O O) ?_;refine gmv O O O<|aN O O (dP O O) ?_;refine bJ O O O (by exact nl3 O O O O) (dP O O) ?_;refine aT O O (by exact O) (by exact nl3 O O O O) (dP O O) ?_;refine bQ O O O O (by kernel_rfl) q (.inl ⟨O,O⟩) (dP O O) ?_;refine bO O O (dP O O) ?_;refine kpt O O<|kas O<|aB<|aI ?_)|(refine aA<|rgN<|aL O O O dO<|aL O O O dO<|kas O<|aB<|aA<|rgN<|kfa O O ?_;refine kl1 O O O<|kmv O<|aC O O O<|aC O O O<|aC O O O<|kpt O O<|kmv O<|aN O O (dP O O) ?_;refine aO O O O (dP O O) ?_;refine gmv O O O<|aC O O O<|aC O O O<|aC O O O<|bF O O (dP O O) ?_;refine kpt O O<|kmv O<|aN O O (dP O O) ?_;refine aO O O O (dP O O) ?_;refine gmv O O O<|aN O O (dP O O) ?_;refine bJ O O O (by exact nl3 O O O O) (dP O O) ?_;refine aT O O (by exact O) (by exact nl3 O O O O) (dP O O) ?_;refine bQ O O O O (by kernel_rfl) q (.inl ⟨O,O⟩) (dP O O) ?_;refine bO O O (dP O O) ?_;refine kpt O O<|kas O<|aB<|aI ?_)|(refine aA<|rgN<|aL O O O dO<|aL O O O dO<|kas O<|aB<|aA<|rgN<|kfa O O ?_;refine kl1 O O O<|kmv O<|aN O O (dP O O) ?_;refine aO O O O (dP O O) ?_;refine bC O O hp (dP O O) ?_;refine kpf O O<|kmv O<|aN O O (dP O O) ?_;refine aO O O O (dP O O) ?_;refine gmv O O O<|aN O O (dP O O) ?_;refine aO O O O (dP O O) ?_;refine bC O O hq (dP O O) ?_;refine bO O O (dP O O) ?_;refine kpt O O<|kmv O<|aN O O (dP O O) ?_;refine aO O O O (dP O O) ?_;refine gmv O O O<|aC O O O<|aC O O O<|aC O O O<|aC O O O<|bF O O (dP O O) ?_;refine kpt O O<|kas O<|aB<|aI ?_)|(refine aA<|rgN<|aL O O O dO<|aL O O O dO<|kas O<|aB<|aA<|rgN<|kfa O O ?_;refine kl1 O O O<|kmv O<|aN O O (dP O O) ?_;refine aO O O O (dP O O) ?_;refine bC O O hp (dP O O) ?_;refine kpf O O<|kmv O<|aN O O (dP O O) ?_;refine aO O O O (dP O O) ?_;refine gmv O O O<|aC O O O<|aC O O O<|aC O O O<|bF O O (dP O O) ?_;refine kpt O O<|kmv O<|aN O O (dP O O) ?_;refine aO O O O (dP O O) ?_;refine gmv O O O<|aC O O O<|aC O O O<|aC O O O<|aC O O O<|bF O O (dP O O) ?_;refine kpt O O<|kas O<|aB<|aI ?_)|(refine aA<|rgN<|aL O O O dO<|aL O O O dO<|kas O<|aB<|aA<|rgN<|kfa O O ?_;refine kl1 O O O<|kmv O<|aC O O O<|aC O O O<|aC O O O<|kpt O O<|kmv O<|aN O O (dP O O) ?_;refine aO O O O (dP O O) ?_;refine gmv O O O<|aN O O (dP O O) ?_;refine aO O O O (dP O O) ?_;refine bC O O hq (dP O O) ?_;refine bO O O (dP O O) ?_;refine kpt O O<|kmv O<|aN O O (dP O O) ?_;refine aO O O O (dP O O) ?_;refine gmv O O O<|aC O O O<|aC O O O<|aC O O O<|aC O O O<|bF O O (dP O O) ?_;refine kpt O O<|kas O<|aB<|aI ?_)|(refine aA<|rgN<|aL O O O dO<|aL O O O dO<|kas O<|aB<|aA<|rgN<|kfa O O ?_;refine kl1 O O O<|kmv O<|aN O O (dP O O) ?_;refine aO O O O (dP O O) ?_;refine bC O O hp (dP O O) ?_;refine kpf O O<|kmv O<|aN O O (dP O O) ?_;refine aO O O O (dP O O) ?_;refine gmv O O O<|aN O O (dP O O) ?_;refine aO O O O (dP O O) ?_;refine bC O O hq (dP O O) ?_;refine bO O O (dP O O) ?_;refine kpt O O<|kmv O<|aC O O O<|aC O O O<|aC O O O<|aD O O<|aD O O<|aD O O<|aD O O<|aC O O O<|kpf O O<|kas O<|aB<|aI ?_)|(refine aA<|rgN<|aL O O O dO<|aL O O O dO<|kas O<|aB<|aA<|rgN<|kfa O O ?_;refine kl1 O O O<|kmv O<|aC O O O<|aC O O O<|aC O O O<|kpt O O<|kmv O<|aN O O (dP O O) ?_;refine aO O O O (dP O O) ?_;refine gmv O O O<|aC O O O<|aC O O O<|aC O O O<|bF O O (dP O O) ?_;refine kpt O O<|kmv O<|aN O O (dP O O) ?_;refine aO O O O (dP O O) ?_;refine gmv O O O<|aC O O O<|aC O O O<|aC O O O<|aC O O O<|bF O O (dP O O) ?_;refine kpt O O<|kas O<|aB<|aI ?_)|(refine aA<|rgN<|aL O O O dO<|aL O O O dO<|kas O<|aB<|aA<|rgN<|kfa O O ?_;refine kl1 O O O<|kmv O<|aC O O O<|aC O O O<|aC O O O<|kpt O O<|kmv O<|aN O O (dP O O) ?_;refine aO O O O (dP O O) ?_;refine gmv O O O<|aN O O (dP O O) ?_;refine aO O O O (dP O O) ?_;refine bC O O hq (dP O O) ?_;refine bO O O (dP O O) ?_;refine kpt O O<|kmv O<|aC O O O<|aC O O O<|aC O O O<|aD O O<|aD O O<|aD O O<|aD O O<|aC O O O<|kpf O O<|kas O<|aB<|aI ?_)|(refine aA<|rgN<|aL O O O dO<|aL O O O dO<|kas O<|aB<|aA<|rgN<|kfa O O ?_;refine kl1 O O O<|kmv O<|aN O O (dP O O) ?_;refine aO O O O (dP O O) ?_;refine bC O O hp (dP O O) ?_;refine kpf O O<|kmv O<|aC O O O<|aC O O O<|aC O O O<|aD O O<|aD O O<|aD O O<|aC O O O<|kpf O O<|kmv O<|aC O O O<|aC O O O<|aC O O O ?_;refine aD O O<|aD O O<|aD O O<|aD O O<|aC O O O<|kpf O O<|kas O<|aB<|aI ?_))
  exact ⟨[_],⟨O,trivial⟩,O⟩
theorem tOnly (x:Ins) (hx:smallI x):PSpec Tryz.prog X 137 [LOp x.op,LIn x] (Lb (plainI x)):=by
 have h:=tOnly3 X (x.op==2||x.op==3) (x.op==2) (x.op==1) x hx
 have e:(((x.op==2||x.op==3)||(x.a==0))&&((x.op==2)||(x.b==0))&&((x.op==1)||decide (x.k=(false,0))))=plainI x:=by
  unfold plainI
  have hb:∀ a b:Int,(a==b)=decide (a=b):=fun a b=>rfl
  rw [hb,hb,hb,hb,hb]
  generalize decide (x.op=1)=a1
  generalize decide (x.op=2)=a2
  generalize decide (x.op=3)=a3
  generalize decide (x.a=0)=b1
  generalize decide (x.b=0)=b2
  generalize decide (x.k=(false,0))=b3
  cases a1<;>cases a2<;>cases a3<;>cases b1<;>cases b2<;>cases b3<;>rfl
 rw [e] at h
 exact h
theorem ePut_0 (n:Nat) (h:n<256):MSpec Tryz.prog X 136 [Lp 1000000,Ln .i64 (n:Nat)] (w0 1000000) (.tup []) (w1 1000000 1000001 1000002 [o8 (n:Nat)]):=by
 have hN:=WNum_0_1 X n (by omega) (by omega)
 rw [leB1o n] at hN
 refine cD Tryz.func136 rfl (by kernel_rfl) rfl rfl (by repeat' (first|refine bS ?_ ?_|rfl|exact bU|exact bT|exact bV rfl)) rfl rfl ?_
 intro C
 have hw:IntKind.u64.wrap ((n:Nat):Int)=((n:Nat):Int):=wrap_u64 (by omega)
 (refine rgN<|kmv O<|kmv O<|kcv O hw ?_;refine aU [(1000001,501),(1000002,502)] (w1 1000000 501 502 [o8 (n:Nat)]) (hN) O O (by exact (cM ⟨_,O,O⟩ trivial)) (by exact (bS (bS O (bS O O)) O)) O O O O (by exact (.box O O (.box O O (.box O O .nil)))) dO<|aB ?_)
 exact ⟨[(1000001,501),(1000002,502)],⟨[],trivial,rfl⟩,(by repeat' (first|exact trivial|refine cM ⟨_,rfl,?_⟩ ?_|refine cM ⟨_,rfl⟩ ?_|rfl|exact bW _ _ _ _|exact bX _ _ _ _|exact bY rfl)),rfl,rfl⟩
theorem ePut_1 (l:List UInt8) (n:Int) (h:0≤n∧n<256) (hl:l.length<900000000):MSpec Tryz.prog X 136 [Lp 1000000,Ln .i64 n] (w1 1000000 1000001 1000002 l) (.tup []) (w1 1000000 1000001 1000003 (l++[o8 n])++[(1000002,none)]):=by
 obtain ⟨k,rfl⟩:=Int.eq_ofNat_of_zero_le h.1
 have hk:k<256:=by omega
 have hN:=WNum_1_1 X l k (by omega) (by omega) hl
 rw [leB1o k] at hN
 refine cD Tryz.func136 rfl (by kernel_rfl) rfl rfl (by repeat' (first|refine bS ?_ ?_|rfl|exact bU|exact bT|exact bV rfl)) rfl rfl ?_
 intro C
 have hw:IntKind.u64.wrap ((k:Nat):Int)=((k:Nat):Int):=wrap_u64 (by omega)
 (refine rgN<|kmv O<|kmv O<|kcv O hw ?_;refine aU [(1000003,501)] (w1 1000000 1000001 501 (l++[o8 (k:Nat)])++[(1000002,none)]) (hN) O O (by exact (cM ⟨_,O,O⟩ (cM ⟨_,O,O⟩ (cM ⟨_,O,(bW _ _ _ _)⟩ trivial)))) (by exact (bS (bS O (bS O O)) (bS (bS O O) (bS bU O)))) O O O O (by exact (.box O O (.box O O (.box O (bW _ _ _ _) (.dead O .nil))))) dO<|aB ?_)
 exact ⟨[(1000003,501)],⟨[],trivial,rfl⟩,(by repeat' (first|exact trivial|refine cM ⟨_,rfl,?_⟩ ?_|refine cM ⟨_,rfl⟩ ?_|rfl|exact bW _ _ _ _|exact bX _ _ _ _|exact bY rfl)),rfl,rfl⟩
def numX (k:Nm):List UInt8:=sgB k.1::(leB 8 (loW k.2)++leB 8 (hiW k.2))
theorem LI_words {N:Int} (h:In2 N) (b:Bool):LI b N=Li b ((hiW N:Nat):Int) ((loW N:Nat):Int):=by
 obtain ⟨h1,h2,h3⟩:=words h
 unfold LI
 have e1:N/18446744073709551616=((hiW N:Nat):Int):=by unfold In2 at h;unfold hiW;omega
 have e2:N%18446744073709551616=((loW N:Nat):Int):=by unfold loW;omega
 rw [e1,e2]
set_option maxHeartbeats 3200000 in
theorem ePutNum (l:List UInt8) (k:Nm) (hk:In2 k.2) (hl:l.length<800000000):MSpec Tryz.prog X 177 [Lp 1000000,LI k.1 k.2] (w1 1000000 1000001 1000002 l) (.tup []) (w1 1000000 1000001 1000003 (l++numX k)++[(1000002,none)]):=by
 rw [LI_words hk]
 obtain ⟨_,h2,h3⟩:=words hk
 have hp:(256:Nat)^8=18446744073709551616:=by decide
 obtain ⟨b,N⟩:=k
 unfold numX
 simp only at hk h2 h3 ⊢
 generalize loW N=lo at *
 generalize hiW N=hi at *
 have p1:=fun n h=>ePut_1 X l n h (by omega)
 have p2:=WNum_1_8 X (l++[sgB b]) lo (by omega) (by omega) (by rw [cS,cV];omega)
 have p3:=WNum_1_8 X ((l++[sgB b])++leB 8 lo) hi (by omega) (by omega) (by rw [cS,cS,cV,leB_length];omega)
 have hfin:l++sgB b::(leB 8 lo++leB 8 hi)=((l++[sgB b])++leB 8 lo)++leB 8 hi:=by simp
 rw [hfin]
 refine cD Tryz.func177 rfl (by kernel_rfl) rfl rfl (by repeat' (first|refine bS ?_ ?_|rfl|exact bU|exact bT|exact bV rfl)) rfl rfl ?_
 intro C
 cases b with
 | false =>
  have p1:MSpec Tryz.prog X 136 [Lp 1000000,Ln .i64 0] (w1 1000000 1000001 1000002 l) (.tup []) (w1 1000000 1000001 1000003 (l++[sgB false])++[(1000002,none)]):=p1 0 ⟨by decide,by decide⟩
  (refine aA<|rgN<|aL O O O dO<|aB<|aA<|rgN<|kas O<|aB<|aA<|aA<|rgN<|kfa O O ?_;refine kl1 O O O<|aB<|aF O ?_;refine aH ?_;refine aA<|rgN<|kmv O<|kmv O<|aU [(1000003,501)] (w1 1000000 1000001 501 (l++[sgB false])++[(1000002,none)]) (p1) O O (by exact (cM ⟨_,O,O⟩ (cM ⟨_,O,O⟩ (cM ⟨_,O,(bW _ _ _ _)⟩ trivial)))) (by exact (bS (bS O (bS O O)) (bS (bS O O) (bS bU O)))) O O O O (by exact (.box O O (.box O O (.box O (bW _ _ _ _) (.dead O .nil))))) dO<|aB<|aA<|rgN<|kmv O<|kfa O O ?_;refine kl1 O O O<|aU [(1000002,501),(1000003,502)] (w1 1000000 1000001 502 ((l++[sgB false])++leB 8 lo)++[(501,none)]) (p2) O O (by exact (cM ⟨_,O,O⟩ (cM ⟨_,O,O⟩ (cM ⟨_,O,(bW _ _ _ _)⟩ trivial)))) (by exact (bS (bS O (bS O O)) (bS (bS O O) (bS bU O)))) O O O O (by exact (.box O O (.box O O (.box O (bW _ _ _ _) (.dead O .nil))))) dO<|aB<|rgN<|kmv O<|kfa O O ?_;refine kl1 O O O<|aU [(1000002,502),(1000003,503)] (w1 1000000 1000001 503 (((l++[sgB false])++leB 8 lo)++leB 8 hi)++[(502,none)]) (p3) O O (by exact (cM ⟨_,O,O⟩ (cM ⟨_,O,O⟩ (cM ⟨_,O,(bW _ _ _ _)⟩ trivial)))) (by exact (bS (bS O (bS O O)) (bS (bS O O) (bS bU O)))) O O O O (by exact (.box O O (.box O O (.box O (bW _ _ _ _) (.dead O .nil))))) dO<|aB ?_)
  exact ⟨[(1000003,503)],⟨[],trivial,rfl⟩,(by repeat' (first|exact trivial|refine cM ⟨_,rfl,?_⟩ ?_|refine cM ⟨_,rfl⟩ ?_|rfl|exact bW _ _ _ _|exact bX _ _ _ _|exact bY rfl)),rfl,rfl⟩
 | true =>
  have p1:MSpec Tryz.prog X 136 [Lp 1000000,Ln .i64 1] (w1 1000000 1000001 1000002 l) (.tup []) (w1 1000000 1000001 1000003 (l++[sgB true])++[(1000002,none)]):=p1 1 ⟨by decide,by decide⟩
  (refine aA<|rgN<|aL O O O dO<|aB<|aA<|rgN<|kas O<|aB<|aA<|aA<|rgN<|kfa O O ?_;refine kl1 O O O<|aB<|aE O ?_;refine rgN<|kas O<|aB<|aA<|rgN<|kmv O<|kmv O<|aU [(1000003,501)] (w1 1000000 1000001 501 (l++[sgB true])++[(1000002,none)]) (p1) O O (by exact (cM ⟨_,O,O⟩ (cM ⟨_,O,O⟩ (cM ⟨_,O,(bW _ _ _ _)⟩ trivial)))) (by exact (bS (bS O (bS O O)) (bS (bS O O) (bS bU O)))) O O O O (by exact (.box O O (.box O O (.box O (bW _ _ _ _) (.dead O .nil))))) dO<|aB<|aA<|rgN<|kmv O<|kfa O O ?_;refine kl1 O O O<|aU [(1000002,501),(1000003,502)] (w1 1000000 1000001 502 ((l++[sgB true])++leB 8 lo)++[(501,none)]) (p2) O O (by exact (cM ⟨_,O,O⟩ (cM ⟨_,O,O⟩ (cM ⟨_,O,(bW _ _ _ _)⟩ trivial)))) (by exact (bS (bS O (bS O O)) (bS (bS O O) (bS bU O)))) O O O O (by exact (.box O O (.box O O (.box O (bW _ _ _ _) (.dead O .nil))))) dO<|aB<|rgN<|kmv O<|kfa O O ?_;refine kl1 O O O<|aU [(1000002,502),(1000003,503)] (w1 1000000 1000001 503 (((l++[sgB true])++leB 8 lo)++leB 8 hi)++[(502,none)]) (p3) O O (by exact (cM ⟨_,O,O⟩ (cM ⟨_,O,O⟩ (cM ⟨_,O,(bW _ _ _ _)⟩ trivial)))) (by exact (bS (bS O (bS O O)) (bS (bS O O) (bS bU O)))) O O O O (by exact (.box O O (.box O O (.box O (bW _ _ _ _) (.dead O .nil))))) dO<|aB ?_)
  exact ⟨[(1000003,503)],⟨[],trivial,rfl⟩,(by repeat' (first|exact trivial|refine cM ⟨_,rfl,?_⟩ ?_|refine cM ⟨_,rfl⟩ ?_|rfl|exact bW _ _ _ _|exact bX _ _ _ _|exact bY rfl)),rfl,rfl⟩
set_option maxHeartbeats 3200000 in
theorem ePutIns (l:List UInt8) (x:Ins) (hx:smallI x) (hok:okI x=true) (hl:l.length<700000000):MSpec Tryz.prog X 138 [Lp 1000000,LOp x.op,LIn x] (w1 1000000 1000001 1000002 l) (.tup []) (w1 1000000 1000001 1000003 (l++encI x)++[(1000002,none)]):=by
 obtain ⟨h17,hgk,ha7,hb7⟩:=okI_facts hok
 have hk2:=hx.2.2.2
 obtain ⟨op,a,b,k⟩:=x
 simp only at h17 hgk ha7 hb7 hk2 ⊢
 have p1:=ePut_1 X l op (by omega) (by omega)
 have pa:=ePut_1 X (l++[o8 op]) a (by omega) (by rw [cS,cV];omega)
 have pb:=ePut_1 X ((l++[o8 op])++[o8 a]) b (by omega) (by rw [cS,cS,cV,cV];omega)
 have pk:=ePutNum X (l++[o8 op]) k hk2 (by rw [cS,cV];omega)
 by_cases c1:op=1
 ·subst c1
  rw [show encI ⟨1,a,b,k⟩=o8 1::numX k from rfl,show l++o8 1::numX k=(l++[o8 1])++numX k by simp,op_1]
  refine cD Tryz.func138 rfl (by kernel_rfl) rfl rfl (by repeat' (first|refine bS ?_ ?_|rfl|exact bU|exact bT|exact bV rfl)) rfl rfl ?_
  intro C
  (refine aA<|rgN<|aL O O O dO<|aL O O O dO<|aB<|aA<|rgN<|kmv O<|kfa O O ?_;refine kl1 O O O<|aU [(1000003,501)] (w1 1000000 1000001 501 (l++[o8 1])++[(1000002,none)]) (p1) O O (by exact (cM ⟨_,O,O⟩ (cM ⟨_,O,O⟩ (cM ⟨_,O,(bW _ _ _ _)⟩ trivial)))) (by exact (bS (bS O (bS O O)) (bS (bS O O) (bS bU O)))) O O O O (by exact (.box O O (.box O O (.box O (bW _ _ _ _) (.dead O .nil))))) dO<|aB<|aA<|aA<|rgN<|kfa O O ?_;refine kl1 O O O<|aB<|aF O ?_;refine aH ?_;refine aA<|aA<|rgN<|kfa O O ?_;refine kl1 O O O<|aB<|aF O ?_;refine aH ?_;refine aA<|rgN<|kfa O O ?_;refine kl1 O O O<|aB<|aE O ?_;refine rgN<|kmv O<|kfa O O ?_;refine bJ O O O (by exact nl3 O O O O) dO ?_;refine aU [(1000002,501),(1000003,502)] (w1 1000000 1000001 502 ((l++[o8 1])++numX k)++[(501,none)]) (pk) O O (by exact (cM ⟨_,O,O⟩ (cM ⟨_,O,O⟩ (cM ⟨_,O,(bW _ _ _ _)⟩ trivial)))) (by exact (bS (bS O (bS O O)) (bS (bS O O) (bS bU O)))) O O O O (by exact (.box O O (.box O O (.box O (bW _ _ _ _) (.dead O .nil))))) dO<|aB ?_)
  exact ⟨[(1000003,502)],⟨[],trivial,rfl⟩,(by repeat' (first|exact trivial|refine cM ⟨_,rfl,?_⟩ ?_|refine cM ⟨_,rfl⟩ ?_|rfl|exact bW _ _ _ _|exact bX _ _ _ _|exact bY rfl)),rfl,rfl⟩
 by_cases c2:op=2
 ·subst c2
  rw [show encI ⟨2,a,b,k⟩=[o8 2,o8 a,o8 b] from rfl,show l++[o8 2,o8 a,o8 b]=((l++[o8 2])++[o8 a])++[o8 b] by simp,op_2]
  refine cD Tryz.func138 rfl (by kernel_rfl) rfl rfl (by repeat' (first|refine bS ?_ ?_|rfl|exact bU|exact bT|exact bV rfl)) rfl rfl ?_
  intro C
  (refine aA<|rgN<|aL O O O dO<|aL O O O dO<|aB<|aA<|rgN<|kmv O<|kfa O O ?_;refine kl1 O O O<|aU [(1000003,501)] (w1 1000000 1000001 501 (l++[o8 2])++[(1000002,none)]) (p1) O O (by exact (cM ⟨_,O,O⟩ (cM ⟨_,O,O⟩ (cM ⟨_,O,(bW _ _ _ _)⟩ trivial)))) (by exact (bS (bS O (bS O O)) (bS (bS O O) (bS bU O)))) O O O O (by exact (.box O O (.box O O (.box O (bW _ _ _ _) (.dead O .nil))))) dO<|aB<|aA<|aA<|rgN<|kfa O O ?_;refine kl1 O O O<|aB<|aE O ?_;refine rgN<|kmv O<|kfa O O ?_;refine kl1 O O O<|aU [(1000002,501),(1000003,502)] (w1 1000000 1000001 502 ((l++[o8 2])++[o8 a])++[(501,none)]) (pa) O O (by exact (cM ⟨_,O,O⟩ (cM ⟨_,O,O⟩ (cM ⟨_,O,(bW _ _ _ _)⟩ trivial)))) (by exact (bS (bS O (bS O O)) (bS (bS O O) (bS bU O)))) O O O O (by exact (.box O O (.box O O (.box O (bW _ _ _ _) (.dead O .nil))))) dO<|aB<|aA<|aA<|rgN<|kfa O O ?_;refine kl1 O O O<|aB<|aE O ?_;refine rgN<|kmv O<|kfa O O ?_;refine kl1 O O O<|aU [(1000002,502),(1000003,503)] (w1 1000000 1000001 503 (((l++[o8 2])++[o8 a])++[o8 b])++[(502,none)]) (pb) O O (by exact (cM ⟨_,O,O⟩ (cM ⟨_,O,O⟩ (cM ⟨_,O,(bW _ _ _ _)⟩ trivial)))) (by exact (bS (bS O (bS O O)) (bS (bS O O) (bS bU O)))) O O O O (by exact (.box O O (.box O O (.box O (bW _ _ _ _) (.dead O .nil))))) dO<|aB<|aA<|rgN<|kfa O O ?_;refine kl1 O O O<|aB<|aF O ?_;refine aH ?_)
  exact ⟨[(1000003,503)],⟨[],trivial,rfl⟩,(by repeat' (first|exact trivial|refine cM ⟨_,rfl,?_⟩ ?_|refine cM ⟨_,rfl⟩ ?_|rfl|exact bW _ _ _ _|exact bX _ _ _ _|exact bY rfl)),rfl,rfl⟩
 by_cases c3:op=3
 ·subst c3
  rw [show encI ⟨3,a,b,k⟩=[o8 3,o8 a] from rfl,show l++[o8 3,o8 a]=(l++[o8 3])++[o8 a] by simp,op_3]
  refine cD Tryz.func138 rfl (by kernel_rfl) rfl rfl (by repeat' (first|refine bS ?_ ?_|rfl|exact bU|exact bT|exact bV rfl)) rfl rfl ?_
  intro C
  (refine aA<|rgN<|aL O O O dO<|aL O O O dO<|aB<|aA<|rgN<|kmv O<|kfa O O ?_;refine kl1 O O O<|aU [(1000003,501)] (w1 1000000 1000001 501 (l++[o8 3])++[(1000002,none)]) (p1) O O (by exact (cM ⟨_,O,O⟩ (cM ⟨_,O,O⟩ (cM ⟨_,O,(bW _ _ _ _)⟩ trivial)))) (by exact (bS (bS O (bS O O)) (bS (bS O O) (bS bU O)))) O O O O (by exact (.box O O (.box O O (.box O (bW _ _ _ _) (.dead O .nil))))) dO<|aB<|aA<|aA<|rgN<|kfa O O ?_;refine kl1 O O O<|aB<|aE O ?_;refine rgN<|kmv O<|kfa O O ?_;refine kl1 O O O<|aU [(1000002,501),(1000003,502)] (w1 1000000 1000001 502 ((l++[o8 3])++[o8 a])++[(501,none)]) (pa) O O (by exact (cM ⟨_,O,O⟩ (cM ⟨_,O,O⟩ (cM ⟨_,O,(bW _ _ _ _)⟩ trivial)))) (by exact (bS (bS O (bS O O)) (bS (bS O O) (bS bU O)))) O O O O (by exact (.box O O (.box O O (.box O (bW _ _ _ _) (.dead O .nil))))) dO<|aB<|aA<|aA<|rgN<|kfa O O ?_;refine kl1 O O O<|aB<|aF O ?_;refine aH ?_;refine aA<|rgN<|kfa O O ?_;refine kl1 O O O<|aB<|aF O ?_;refine aH ?_)
  exact ⟨[(1000003,502)],⟨[],trivial,rfl⟩,(by repeat' (first|exact trivial|refine cM ⟨_,rfl,?_⟩ ?_|refine cM ⟨_,rfl⟩ ?_|rfl|exact bW _ _ _ _|exact bX _ _ _ _|exact bY rfl)),rfl,rfl⟩
 rw [show encI ⟨op,a,b,k⟩=[o8 op] by unfold encI;simp only;rw [if_neg c1,if_neg c2,if_neg c3],op_no c1 c2 c3]
 refine cD Tryz.func138 rfl (by kernel_rfl) rfl rfl (by repeat' (first|refine bS ?_ ?_|rfl|exact bU|exact bT|exact bV rfl)) rfl rfl ?_
 intro C
 (refine aA<|rgN<|aL O O O dO<|aL O O O dO<|aB<|aA<|rgN<|kmv O<|kfa O O ?_;refine kl1 O O O<|aU [(1000003,501)] (w1 1000000 1000001 501 (l++[o8 op])++[(1000002,none)]) (p1) O O (by exact (cM ⟨_,O,O⟩ (cM ⟨_,O,O⟩ (cM ⟨_,O,(bW _ _ _ _)⟩ trivial)))) (by exact (bS (bS O (bS O O)) (bS (bS O O) (bS bU O)))) O O O O (by exact (.box O O (.box O O (.box O (bW _ _ _ _) (.dead O .nil))))) dO<|aB<|aA<|aA<|rgN<|kfa O O ?_;refine kl1 O O O<|aB<|aF O ?_;refine aH ?_;refine aA<|aA<|rgN<|kfa O O ?_;refine kl1 O O O<|aB<|aF O ?_;refine aH ?_;refine aA<|rgN<|kfa O O ?_;refine kl1 O O O<|aB<|aF O ?_;refine aH ?_)
 exact ⟨[(1000003,501)],⟨[],trivial,rfl⟩,(by repeat' (first|exact trivial|refine cM ⟨_,rfl,?_⟩ ?_|refine cM ⟨_,rfl⟩ ?_|rfl|exact bW _ _ _ _|exact bX _ _ _ _|exact bY rfl)),rfl,rfl⟩
abbrev enSt (rad ad:Option Addr) (n rcap cap i:Nat) (B:List UInt8) (Y:Nat→Option Obj):St:=
 ⟨[(0,Lx ad n cap),(6,Lp 18),(23,Lx rad n rcap),(24,Ln .i64 (n:Nat)),(25,Ln .i64 (i:Nat))],w1 18 601 500 B,Y⟩
set_option maxHeartbeats 6400000 in
theorem gEncode' (l:List Ins) (ad:Option Addr) (cap:Nat) (hin:InsIn X ad l) (hbig:l.length<1152921504606846976):PSpec Tryz.prog X 101 [Lx ad l.length cap] (.tup [Ss (encTX l),Sn .i64 (encErr l)]):=by
 have hR:=tRowsOf X l ad cap hin hbig
 refine cC Tryz.func101 rfl (by kernel_rfl) rfl rfl ?_
 intro C
 by_cases h:chkX l=0
 ·rw [(rs_ok h).1,(rs_ok h).2] at hR
  have h64:=(chkX_zero h).1
  have hall:=chkX_ok h
  (refine aA<|rgN<|kas O<|kas O<|aB<|aA<|rgN<|kmv O<|bE [(1000001,500)] (.tup [.one (.slc 500 0 l.length 6),Sn .i64 0]) [(500,some ⟨0,[],.res (rowsR l)⟩)] (hR) O O (by exact trivial) O O O O O (by exact (.box O O .nil)) dO<|kmv O<|kex O O<|kex O O<|kas O<|kas O ?_;refine aB<|aA<|aA<|rgN<|kmv O<|kne O O ((cO (by omega)))<|aB<|aF O ?_;refine aH ?_;refine aA ?_)
  refine LWP.le (σ':=⟨[(4,.sv (.one (.slc 500 0 l.length 6))),(0,Lx ad l.length cap)],[(500,some ⟨0,[],.res (rowsR l)⟩)],X⟩) (Le.of (by exact ⟨O,O,trivial⟩) (by exact ⟨O,trivial⟩) (by exact O) (by exact O) (by repeat' (first|refine bS ?_ ?_|rfl|exact bU|exact bT|exact bV O))) ?_
  refine LWP.fixRes O O O fun ρ H rcap hRr hO _ _ => ?_
  obtain ⟨m1,m2⟩:=more_join hO
  have hrows:=rows_fix hRr m2
  replace hin:=hin.mono m1
  generalize joinM X H=Y at *
  have p1:=ePut_0 Y l.length (by omega)
  (refine rgN<|aT O O (by exact O) (by exact nl2 O O O) dO ?_;refine aL O O O dO<|kas O<|aB<|aA<|rgN<|kmv O<|kmv O<|aQ O bZ O dO ?_;refine aU [(1000000,18),(1000001,601),(1000002,602)] (w1 18 601 602 [o8 (l.length:Nat)]) (p1) O O (by exact (cM ⟨_,O,O⟩ trivial)) (by exact (bS (bS O (bS O O)) O)) O O O O (by exact (.box O O (.box O O (.box O O .nil)))) dO<|aB<|aA<|aA<|rgN<|kmv O<|aQ O bZ O dO ?_;refine kmv O<|aB<|aG ?_)
  refine cG (fun m σ=>∃ i:Nat,i≤l.length∧m=l.length-i∧(∀ x∈l.take i,plainI x=true)∧σ=enSt (some ⟨ρ.1,0,none⟩) ad l.length rcap cap i (o8 (l.length:Nat)::encIs (l.take i)) Y) l.length
   ⟨enSt (some ⟨ρ.1,0,none⟩) ad l.length rcap cap 0 (o8 (l.length:Nat)::encIs (l.take 0)) Y,Le.ofR [(500,602)] (by exact ⟨rfl,rfl,rfl,rfl,rfl,trivial⟩) (by repeat' (first|exact trivial|refine cM ⟨_,rfl,?_⟩ ?_|refine cM ⟨_,rfl⟩ ?_|rfl|exact bW _ _ _ _|exact bX _ _ _ _|exact bY rfl)) (by exact rfl) (by exact rfl) (by repeat' (first|refine bS ?_ ?_|rfl|exact bU|exact bT|exact bV rfl)) (by exact rfl) (by exact rfl),0,Nat.zero_le _,rfl,fun x hx=>absurd hx (by simp),rfl⟩ ?_
  rintro m σ ⟨i,hi,rfl,hpl,rfl⟩
  have hBl:=encIs_len (l.take i)
  rw [cW] at hBl
  by_cases hlt:i<l.length
  ·obtain ⟨x,hx⟩:∃ x,l[i]? = some x:=⟨_,cU hlt⟩
   have hmem:=cZ hx
   have hsx:=hin.small x hmem
   have hok:=hall x hmem
   obtain ⟨rblk,roff,rarr,rel,rfr,dv,hrad,hXr,hszr,hcsr,hDv⟩:=hrows.at hx
   simp only [Option.some.injEq,Addr.mk.injEq] at hrad
   obtain ⟨rfl,rfl,_⟩:=hrad
   obtain ⟨g,gcaps,egv,_⟩:=id hDv
   subst egv
   obtain ⟨blk,off,arr,el,fr,rfl,hX,hsz,hcs,hop⟩:=hin.at hx
   have hio:off+Int.toNat (i:Int)*6=off+i*6:=by simp
   have hior:0+Int.toNat (i:Int)*6=0+i*6:=by simp
   have hin0:0≤(i:Int)∧(i:Int)<(l.length:Nat):=by omega
   have hO:=tOnly Y x hsx
   cases hp:plainI x with
   | false =>
    have he:encErr l=1:=by
     unfold encErr
     rw [if_pos h,if_neg]
     intro ha
     have:=List.all_eq_true.1 ha x hmem
     rw [hp] at this
     cases this
    rw [show encTX l=[] by unfold encTX;rw [he];rfl,he]
    rw [hp] at hO
    (refine aA<|rgN<|klt O O (cL (by omega))<|aB<|aA<|aE O ?_;refine aH ?_;refine aA<|aG<|aA<|rgN<|kmv O<|aR O O bZ hin0 hior dO<|aY O hXr (by kernel_rfl) hszr hcsr dO<|aP O dO ?_;refine kas O<|aM O O O O O O dO ?_;refine aB<|aA<|aA<|rgD mixed<|kfa O O ?_;refine bJ O O O O dO ?_;refine kmv O<|kmv O<|aR O O bZ hin0 hio dO<|aY O hX (by kernel_rfl) hsz hcs dO<|kca O O hO<|aV O O dO<|aB<|rgA ?_;refine aE O ?_;refine aA<|rgN<|kas O<|kas O<|aB<|aI ?_)
    exact ⟨[_,_],⟨O,O,trivial⟩,O⟩
   | true =>
    rw [hp] at hO
    have hnext:o8 (l.length:Nat)::encIs (l.take (i+1))=(o8 (l.length:Nat)::encIs (l.take i))++encI x:=by
     rw [List.take_add_one,hx,encIs_app]
     simp [encIs]
    have q:=ePutIns Y (o8 (l.length:Nat)::encIs (l.take i)) x hsx hok (by rw [dF];omega)
    rw [← hnext] at q
    have hinc:IntKind.i64.wrap (((i:Nat):Int)+1)=((i+1:Nat):Int):=by rw [cE (by omega)];omega
    (refine aA<|rgN<|klt O O (cL (by omega))<|aB<|aA<|aE O ?_;refine aH ?_;refine aA<|aG<|aA<|rgN<|kmv O<|aR O O bZ hin0 hior dO<|aY O hXr (by kernel_rfl) hszr hcsr dO<|aP O dO ?_;refine kas O<|aM O O O O O O dO ?_;refine aB<|aA<|aA<|rgD mixed<|kfa O O ?_;refine bJ O O O O dO ?_;refine kmv O<|kmv O<|aR O O bZ hin0 hio dO<|aY O hX (by kernel_rfl) hsz hcs dO<|kca O O hO<|aV O O dO<|aB<|rgA ?_;refine aF O ?_;refine aH ?_;refine rgD mixed<|kmv O<|kfa O O ?_;refine bJ O O O O dO ?_;refine kmv O<|kmv O<|aR O O bZ hin0 hio dO<|aY O hX (by kernel_rfl) hsz hcs dO<|aU [(1000000,18),(1000001,601),(1000002,500),(1000003,605)] (w1 18 601 605 (o8 (l.length:Nat)::encIs (l.take (i+1)))++[(500,none)]) (q) O O (by exact (cM ⟨_,O,O⟩ (cM ⟨_,O,O⟩ (cM ⟨_,O,(bW _ _ _ _)⟩ trivial)))) (by exact (bS (bS O (bS O O)) (bS (bS O O) (bS (bS O bU) O)))) O O O O (by exact (.box O O (.box O O (.box O (bW _ _ _ _) (.dead O .nil))))) dO<|aB<|rgA ?_;refine rgN<|kad O O hinc<|kmv O<|aB ?_)
    exact ⟨_,enSt (some ⟨ρ.1,0,none⟩) (some ⟨blk,off,none⟩) l.length rcap cap (i+1) (o8 (l.length:Nat)::encIs (l.take (i+1))) Y,by omega,Le.ofR [(500,605)] (by exact ⟨rfl,rfl,rfl,rfl,rfl,trivial⟩) (by repeat' (first|exact trivial|refine cM ⟨_,rfl,?_⟩ ?_|refine cM ⟨_,rfl⟩ ?_|rfl|exact bW _ _ _ _|exact bX _ _ _ _|exact bY rfl)) (by exact rfl) (by exact rfl) (by repeat' (first|refine bS ?_ ?_|rfl|exact bU|exact bT|exact bV rfl)) (by exact rfl) (by exact rfl),i+1,by omega,rfl,(fun y hy=>by
     rw [List.take_add_one,hx] at hy
     rcases List.mem_append.1 hy with hy|hy
     ·exact hpl y hy
     ·simp only [Option.toList_some,List.mem_singleton] at hy;rw [hy];exact hp),rfl⟩
  ·have e:i=l.length:=by omega
   subst e
   rw [dC] at hpl
   have he:encErr l=0:=by
    unfold encErr
    rw [if_pos h,if_pos (List.all_eq_true.2 hpl)]
   rw [show encTX l=o8 (l.length:Nat)::encIs l by unfold encTX;rw [if_pos he];rfl,he,dC]
   have q:=String_1 Y (o8 (l.length:Nat)::encIs l)
   (refine aA<|rgN<|klt O O (cK (by omega))<|aB<|aA<|aF O ?_;refine aJ<|aA<|rgN<|kmv O<|aU [(1000000,18),(1000001,601),(1000002,500)] (w1 18 601 500 (o8 (l.length:Nat)::encIs l)) (q) O O (by exact (cM ⟨_,O,O⟩ (cM ⟨_,O,O⟩ (cM ⟨_,O,(bW _ _ _ _)⟩ trivial)))) (by exact (bS (bS O (bS O O)) (bS (bS O O) (bS (bS O bU) O)))) O O O O (by exact (.box O O (.box O O (.box O (bW _ _ _ _) .nil)))) dO<|kas O<|kas O<|aB<|aI ?_)
   exact ⟨[_,_],⟨O,O,trivial⟩,O⟩
 ·rw [(rs_no h).1,(rs_no h).2] at hR
  have he:encErr l=chkX l:=if_neg h
  rw [show encTX l=[] by unfold encTX;rw [he,if_neg h],he]
  (refine aA<|rgN<|kas O<|kas O<|aB<|aA<|rgN<|kmv O<|aU [] [] (hR) O O (by exact trivial) O O O O O (by exact .nil) dO<|kmv O<|kex O O<|kex O O<|kas O<|kas O ?_;refine aB<|aA<|aA<|rgN<|kmv O<|kne O O (r:=true) (cP h)<|aB<|aE O ?_;refine aA<|rgN<|kmv O<|kas O<|kas O<|aB<|aI ?_)
  exact ⟨[_,_],⟨O,O,trivial⟩,O⟩
end Go.Proofs.YtopiioklkkiedaaGreatDoor
end
section
namespace Go.Proofs.YtopiioklkkiedaaGreatDoor
open Go Go.Lg Go.Lg.Fml Go.Lg.Fld Go.Lg.Arith
set_option maxRecDepth 100000
def eS:List UInt8×Bool→UInt8×List UInt8×Bool
 | (c::t,false)=>(c,t,false)
 | (l,_)=>(0,l,true)
def eW:List UInt8×Bool→Nat×List UInt8×Bool
 | (l,b)=>if b=false∧8≤l.length then (le (l.take 8),l.drop 8,false) else (0,l,true)
def eN (x:List UInt8×Bool):(Nm×Bool)×List UInt8×Bool:=
 if 1<(eS x).1.toNat then (((false,0),false),(eS x).2)
 else (((decide ((eS x).1.toNat=1),(((eW (eS x).2).1+18446744073709551616*(eW (eW (eS x).2).2).1:Nat):Int)),true),(eW (eW (eS x).2).2).2)
def Lss (x y:List UInt8×Bool):Prop:=y.1.length≤x.1.length∧(x.2=true→y.2=true)
variable (X:Nat→Option Obj)
end Go.Proofs.YtopiioklkkiedaaGreatDoor
end
section
namespace Go.Proofs.YtopiioklkkiedaaGreatDoor
open Go Go.Lg Go.Lg.Fml Go.Lg.Fld Go.Lg.Arith
set_option maxRecDepth 100000
variable (X:Nat→Option Obj)
abbrev usSt (ad:Option Addr) (n cap i:Nat) (q:List Ins) (r:Bool) (Y:Nat→Option Obj):St:=
 ⟨[(0,Lx ad n cap),(3,.sv (.one (.slc 500 0 q.length 6))),(7,Lx ad n cap),(8,Ln .i64 (n:Nat)),(9,Ln .i64 (i:Nat))],[(500,some ⟨88,(inssV q).map .val,r⟩)],Y⟩
theorem uses_take {l:List Ins} {i:Nat} {x:Ins} (hx:l[i]? = some x):usesX (l.take (i+1))=if (x.op==2||x.op==3)=true then usesX (l.take i)++[x] else usesX (l.take i):=by
 unfold usesX
 rw [List.take_add_one,hx,List.filter_append]
 simp only [Option.toList_some,List.filter_cons,List.filter_nil]
 split<;>simp
theorem uses_le (l:List Ins):(usesX l).length≤l.length:=List.length_filter_le _ _
set_option maxHeartbeats 6400000 in
theorem gUses' (l:List Ins) (ad:Option Addr) (cap:Nat) (hin:InsIn X ad l) (hl:l.length≤1000):MSpec Tryz.prog X 140 [Lx ad l.length cap] [] (.sv (.one (.slc 1000001 0 (usesX l).length 6))) [(1000001,some ⟨88,(inssV (usesX l)).map .val,true⟩)]:=by
 refine cD Tryz.func140 rfl (by kernel_rfl) rfl (by exact (by repeat' (first|refine bS ?_ ?_|rfl|exact bU|exact bT|exact bV rfl))) (by exact (by repeat' (first|refine bS ?_ ?_|rfl|exact bU|exact bT|exact bV rfl))) rfl rfl ?_
 intro C
 refine LWP.ends ?_
 (refine aA<|rgN<|kas O<|aB<|aA<|rgN<|aZ (zs:=[]) (sz:=6) (e:=88) (by kernel_rfl) O O O O O O dO<|kas O<|aB<|aA<|aA<|rgN<|kmv O<|aQ O bZ O dO ?_;refine kmv O<|aB<|aG ?_)
 refine cG (fun m σ=>∃ (i:Nat) (r:Bool),i≤l.length∧m=l.length-i∧σ=usSt ad l.length cap i (usesX (l.take i)) r X) l.length
  ⟨usSt ad l.length cap 0 (usesX (l.take 0)) false X,Le.ofR [(500,6)] (by exact ⟨rfl,rfl,rfl,rfl,rfl,trivial⟩) (by repeat' (first|exact trivial|refine cM ⟨_,rfl,?_⟩ ?_|refine cM ⟨_,rfl⟩ ?_|rfl|exact bW _ _ _ _|exact bX _ _ _ _|exact bY rfl)) (by exact rfl) (by exact rfl) (by repeat' (first|refine bS ?_ ?_|rfl|exact bU|exact bT|exact bV rfl)) (by exact rfl) (by exact rfl),0,false,by omega,by omega,rfl⟩ ?_
 rintro m σ ⟨i,r,hi,rfl,rfl⟩
 by_cases hlt:i<l.length
 ·obtain ⟨x,hx⟩:∃ x,l[i]? = some x:=⟨_,cU hlt⟩
  obtain ⟨blk,off,arr,el,fr,rfl,hX,hsz,hcs,hop⟩:=hin.at hx
  have hio:off+Int.toNat (i:Int)*6=off+i*6:=by simp
  have hin0:0≤(i:Int)∧(i:Int)<(l.length:Nat):=by omega
  have hut:=uses_take hx
  have hul:=uses_le (l.take i)
  rw [cW] at hul
  have hinc:IntKind.i64.wrap (((i:Nat):Int)+1)=((i+1:Nat):Int):=by rw [cE (by omega)];omega
  by_cases h2:x.op=2
  ·rw [if_pos (by rw [cR h2];rfl)] at hut
   generalize usesX (l.take i)=q at *
   have hcl:=inssV_len q
   have hnc:(inssV q).map CV.val++(insV x).map CV.val=(inssV (q++[x])).map CV.val:=inssV_snoc q x rfl
   have hnl:q.length+1=(q++[x]).length:=by rw [cS];rfl
   (refine aA<|rgN<|klt O O (cL (by omega))<|aB<|aA<|aE O ?_;refine aH ?_;refine aA<|aG<|aA<|rgN<|aR O O bZ hin0 hio dO<|aY O hX (by kernel_rfl) hsz hcs dO<|aP O dO ?_;refine aM O O O O O O dO ?_;refine aB<|aA<|rgN<|kfa O O ?_;refine kl1 O O O<|keq O O (r:=true) (cR h2)<|kmv O<|aC O O O<|aC O O O<|aC O O O<|kpt O O<|aB<|aE O ?_;refine rgN<|kmv O<|aK O O O dO ?_;refine aZ (zs:=[Value.int .i64 0,.int .i64 0,.int .i64 0,.bool false,.int .u64 0,.int .u64 0]) (sz:=6) (e:=88) (cs':=(insV x).map .val) (by kernel_rfl) O O O O O O dO<|bP (by_:=48) (e2:=88) (l2:=(insV x).map .val) (nl:=(q++[x]).length) (nc:=(inssV (q++[x])).map .val) O O hcl O O (dK _) O O (by kernel_rfl) (by kernel_rfl) (by omega) (by omega) O hnl hnc dO<|kas O<|aB<|rgN<|kad O O hinc<|kmv O<|aB ?_)
   exact ⟨_,usSt (some ⟨blk,off,none⟩) l.length cap (i+1) (q++[x]) true X,by omega,Le.ofR [(500,24)] (by exact ⟨rfl,rfl,rfl,rfl,rfl,trivial⟩) (by repeat' (first|exact trivial|refine cM ⟨_,rfl,?_⟩ ?_|refine cM ⟨_,rfl⟩ ?_|rfl|exact bW _ _ _ _|exact bX _ _ _ _|exact bY rfl)) (by exact rfl) (by exact rfl) (by repeat' (first|refine bS ?_ ?_|rfl|exact bU|exact bT|exact bV rfl)) (by exact rfl) (by exact rfl),i+1,true,by omega,rfl,by rw [hut]⟩
  ·by_cases h3:x.op=3
   ·rw [if_pos (by rw [cR h3,Bool.or_true])] at hut
    generalize usesX (l.take i)=q at *
    have hcl:=inssV_len q
    have hnc:(inssV q).map CV.val++(insV x).map CV.val=(inssV (q++[x])).map CV.val:=inssV_snoc q x rfl
    have hnl:q.length+1=(q++[x]).length:=by rw [cS];rfl
    (refine aA<|rgN<|klt O O (cL (by omega))<|aB<|aA<|aE O ?_;refine aH ?_;refine aA<|aG<|aA<|rgN<|aR O O bZ hin0 hio dO<|aY O hX (by kernel_rfl) hsz hcs dO<|aP O dO ?_;refine aM O O O O O O dO ?_;refine aB<|aA<|rgN<|kfa O O ?_;refine kl1 O O O<|keq O O (r:=false) (cN h2)<|kmv O<|aN O O (dP O O) ?_;refine aO O O O (dP O O) ?_;refine bC O O (r:=true) (cR h3) (dP O O) ?_;refine kpf O O<|aB<|aE O ?_;refine rgN<|kmv O<|aK O O O dO ?_;refine aZ (zs:=[Value.int .i64 0,.int .i64 0,.int .i64 0,.bool false,.int .u64 0,.int .u64 0]) (sz:=6) (e:=88) (cs':=(insV x).map .val) (by kernel_rfl) O O O O O O dO<|bP (by_:=48) (e2:=88) (l2:=(insV x).map .val) (nl:=(q++[x]).length) (nc:=(inssV (q++[x])).map .val) O O hcl O O (dK _) O O (by kernel_rfl) (by kernel_rfl) (by omega) (by omega) O hnl hnc dO<|kas O<|aB<|rgN<|kad O O hinc<|kmv O<|aB ?_)
    exact ⟨_,usSt (some ⟨blk,off,none⟩) l.length cap (i+1) (q++[x]) true X,by omega,Le.ofR [(500,24)] (by exact ⟨rfl,rfl,rfl,rfl,rfl,trivial⟩) (by repeat' (first|exact trivial|refine cM ⟨_,rfl,?_⟩ ?_|refine cM ⟨_,rfl⟩ ?_|rfl|exact bW _ _ _ _|exact bX _ _ _ _|exact bY rfl)) (by exact rfl) (by exact rfl) (by repeat' (first|refine bS ?_ ?_|rfl|exact bU|exact bT|exact bV rfl)) (by exact rfl) (by exact rfl),i+1,true,by omega,rfl,by rw [hut]⟩
   ·rw [if_neg (by rw [cN h2,cN h3];decide)] at hut
    generalize usesX (l.take i)=q at *
    (refine aA<|rgN<|klt O O (cL (by omega))<|aB<|aA<|aE O ?_;refine aH ?_;refine aA<|aG<|aA<|rgN<|aR O O bZ hin0 hio dO<|aY O hX (by kernel_rfl) hsz hcs dO<|aP O dO ?_;refine aM O O O O O O dO ?_;refine aB<|aA<|rgN<|kfa O O ?_;refine kl1 O O O<|keq O O (r:=false) (cN h2)<|kmv O<|aN O O (dP O O) ?_;refine aO O O O (dP O O) ?_;refine bC O O (r:=false) (cN h3) (dP O O) ?_;refine kpf O O<|aB<|aF O ?_;refine aH ?_;refine rgN<|kad O O hinc<|kmv O<|aB ?_)
    exact ⟨_,usSt (some ⟨blk,off,none⟩) l.length cap (i+1) q r X,by omega,Le.of (by exact ⟨rfl,rfl,rfl,rfl,rfl,trivial⟩) (by exact ⟨rfl,trivial⟩) (by exact rfl) (by exact rfl) (by repeat' (first|refine bS ?_ ?_|rfl|exact bU|exact bT|exact bV rfl)),i+1,r,by omega,rfl,by rw [hut]⟩
 ·have e:i=l.length:=by omega
  subst e
  rw [dC]
  (refine aA<|rgN<|klt O O (cK (by omega))<|aB<|aA<|aF O ?_;refine aJ<|aA<|rgN<|kmv O<|kas O<|aB<|aI ?_)
  refine cB (σ':=⟨[(2,.sv (.one (.slc 500 0 (usesX l).length 6)))],[(500,some ⟨88,(inssV (usesX l)).map .val,r⟩)],X⟩) (Le.of (by exact ⟨O,trivial⟩) (by exact ⟨O,trivial⟩) (by exact O) (by exact O) (by repeat' (first|refine bS ?_ ?_|rfl|exact bU|exact bT|exact bV O))) ?_
  refine cB Le.loose (cA ?_)
  exact ⟨[(1000001,500)],⟨[_],⟨rfl,trivial⟩,rfl⟩,(by repeat' (first|exact trivial|refine cM ⟨_,rfl,?_⟩ ?_|refine cM ⟨_,rfl⟩ ?_|rfl|exact bW _ _ _ _|exact bX _ _ _ _|exact bY rfl)),rfl,rfl⟩
end Go.Proofs.YtopiioklkkiedaaGreatDoor
end
section
namespace Go.Proofs.YtopiioklkkiedaaGreatDoor
open Go Go.Lg Go.Lg.Fml Go.Lg.Fld Go.Lg.Arith
set_option maxRecDepth 100000
variable (X:Nat→Option Obj)
theorem gCheck (l:List Ins) (ad:Option Addr) (cap:Nat) (hin:InsIn X ad l) (hl:l.length<1152921504606846976):PSpec Tryz.prog X 139 [Lx ad l.length cap] (Ln .i64 (chkX l)):=by
 exact gCheck' X l ad cap hin hl
theorem gEval (l:List Ins) (ad:Option Addr) (cap:Nat) (hin:InsIn X ad l) (hbig:l.length<1152921504606846976) (fad:Option Addr) (fcap:Nat) (fs:List (List Nm)) (hfs:FssIn X fad fs) (hfl:fs.length<4611686018427387904) (hrl:∀ r∈fs,r.length<4611686018427387904) (hf2:∀ r∈fs,∀ u∈r,In2 u.2) (at_:Int) (hat : -9223372036854775808≤at_∧at_<9223372036854775808):
  PSpec Tryz.prog X 70 [Lx ad l.length cap,LEnv fad fs.length fcap at_] (exR (evX l fs at_)):=by
 exact gEval' X l ad cap hin hbig fad fcap fs at_ ⟨hfs,hfl,hrl,hat⟩ hf2
end Go.Proofs.YtopiioklkkiedaaGreatDoor
end
section
namespace Go.Proofs.YtopiioklkkiedaaGreatDoor
open Go Go.Lg Go.Lg.Fml Go.Lg.Fld Go.Lg.Arith
set_option maxRecDepth 100000
variable (X:Nat→Option Obj)
def sizeB (rs:List Rl):Prop := ∀ r∈rs,r.ex.length<9223372036854775808∧∀ c∈r.ex,c.length<9223372036854775808
def grtR (r:Rl):Bool:=decide (12<r.ex.length)||r.ex.any fun c=>decide (80<c.length)
def grtP (rs:List Rl):Bool:=decide (30<rs.length)||rs.any grtR
theorem grtP_false {rs:List Rl} (h:grtP rs=false):rs.length≤30∧∀ r∈rs,r.ex.length≤12∧∀ c∈r.ex,c.length≤80:=by
 unfold grtP at h
 rw [Bool.or_eq_false_iff,decide_eq_false_iff_not] at h
 refine ⟨by omega,fun r hr => ?_⟩
 have h1:grtR r=false:=by have:=List.any_eq_false.1 h.2 r hr;simpa using this
 unfold grtR at h1
 rw [Bool.or_eq_false_iff,decide_eq_false_iff_not] at h1
 refine ⟨by omega,fun c hc => ?_⟩
 have:=List.any_eq_false.1 h1.2 c hc
 simpa using this
end Go.Proofs.YtopiioklkkiedaaGreatDoor
end
section
namespace Go.Proofs.YtopiioklkkiedaaGreatDoor
open Go Go.Lg Go.Lg.Fml Go.Lg.Fld Go.RowKit Go.ChangeShapes Go.WideShapes Go.Joins
set_option maxRecDepth 100000
section
variable {H:Type} {enc:TypeId×Value→H} {w:World}
theorem open_fields_w {fuel:Nat} {l:List Value} {x:DataW H×List MemPlace} (h:DataW.trod enc Tryz.prog w 0 (fun _=>true) true fuel 22 l=some x) (hw:Light Tryz.prog 22 x.1):
  ∃ (ad:Option Addr) (cap:Nat) (fs:List Fl),l=[.slice ad fs.length cap]∧(fs.length≤4398046511104∧fs.length≤cap)∧FieldsIn (fun b=>w.heap[b]?) ad fs∧∀ f∈fs,f.nm.length≤9223372036854775807:=by
 obtain ⟨ad,cap,rows,rfl,hb,hroom,_,h3,h4⟩:=open_rows_w (e:=83) (sz:=3) (by kernel_rfl) (by kernel_rfl) (by decide) h hw
 obtain ⟨fs,rfl,h5⟩:=map_of (f:=Fl.vals) (q:=fun f=>((-9223372036854775808≤f.kind∧f.kind<9223372036854775808)∧(-9223372036854775808≤f.count∧f.count<9223372036854775808))∧f.nm.length≤9223372036854775807) (vs:=rows) (fun u hu=>by
  obtain ⟨hlen,n,x,hx,_⟩:=h4 u hu
  obtain ⟨y0,y1,y2,n',_,_,g0,g1,g2⟩:=Deep.trod_struct3 (t:=83) Tryz.underlying83 hx
  obtain ⟨e0',e1',e2',rfl⟩:∃ c0 c1 c2,u=[c0,c1,c2]:=by
   match u,hlen with
   | [c0,c1,c2],_=>exact ⟨c0,c1,c2,rfl⟩
  obtain ⟨s,e0,_,hsz⟩:=DataW.trod_string (by kernel_rfl) g0
  obtain ⟨k,e1,_,wa1⟩:=DataW.trod_int (k:=.i64) (by kernel_rfl) g1
  obtain ⟨c,e2,_,wa2⟩:=DataW.trod_int (k:=.i64) (by kernel_rfl) g2
  have q0:e0' = .string s:=by simpa using (show ([e0',e1',e2'].drop 0).take 1=[.string s] from e0)
  have q1:e1' = .int .i64 k:=by simpa using (show ([e0',e1',e2'].drop 1).take 1=[.int .i64 k] from e1)
  have q2:e2' = .int .i64 c:=by simpa using (show ([e0',e1',e2'].drop 2).take 1=[.int .i64 c] from e2)
  subst q0 q1 q2
  have b1:=bounds_i64 wa1
  have b2:=bounds_i64 wa2
  exact ⟨⟨s.data.toList,k,c⟩,rfl,(show (-9223372036854775808≤k∧k<9223372036854775808)∧(-9223372036854775808≤c∧c<9223372036854775808) by omega),(show s.data.toList.length≤_ from (by unfold maxLen at hsz;rw [Array.length_toList];exact hsz))⟩)
 exact ⟨ad,cap,fs,by rw [cT],⟨by rw [cT,show Tryz.prog.bytesOf 83=32 by kernel_rfl,show reachBytes=140737488351232 by decide] at hb;omega,by rw [cT] at hroom;exact hroom⟩,⟨h3,fun f hf=>(h5 f hf).1⟩,fun f hf=>(h5 f hf).2⟩
theorem open_comps_w {fuel:Nat} {l:List Value} {x:DataW H×List MemPlace} (h:DataW.trod enc Tryz.prog w 0 (fun _=>true) true fuel 31 l=some x) (hw:Light Tryz.prog 31 x.1):
  ∃ (ad:Option Addr) (cap:Nat) (cs:List Cp),l=[.slice ad cs.length cap]∧cs.length≤4398046511104∧CompsIn (fun b=>w.heap[b]?) ad cs∧NamesIn cs∧∀ c∈cs,c.fs.length≤4398046511104:=by
 obtain ⟨ad,cap,rows,rfl,hb,h1,_,h3,h4⟩:=open_rows_w (e:=24) (sz:=3) (by kernel_rfl) (by kernel_rfl) (by decide) h hw
 obtain ⟨ts,rfl,h5⟩:=map_of (f:=fun t:Cp×Option Addr×Nat=>[.int .i64 t.1.id,.string ⟨t.1.nm.toArray⟩,.slice t.2.1 t.1.fs.length t.2.2]) (q:=fun t=>(FieldsIn (fun b=>w.heap[b]?) t.2.1 t.1.fs∧((-9223372036854775808≤t.1.id∧t.1.id<9223372036854775808)∧t.1.fs.length≤4398046511104))∧t.1.nm.length≤9223372036854775807∧∀ f∈t.1.fs,f.nm.length≤9223372036854775807) (vs:=rows) (fun u hu=>by
  obtain ⟨hlen,n,x,hx,hxw⟩:=h4 u hu
  obtain ⟨y0,y1,y2,n',ex,_,g0,g1,g2⟩:=Deep.trod_struct3 (t:=24) Tryz.underlying24 hx
  rw [ex] at hxw
  have hF3:=(Light.struct3 Tryz.underlying24 hxw).2.2
  obtain ⟨e0',e1',e2',rfl⟩:∃ c0 c1 c2,u=[c0,c1,c2]:=by
   match u,hlen with
   | [c0,c1,c2],_=>exact ⟨c0,c1,c2,rfl⟩
  obtain ⟨k,e0,_,wa1⟩:=DataW.trod_int (k:=.i64) (by kernel_rfl) g0
  obtain ⟨s,e1,_,hsz⟩:=DataW.trod_string (by kernel_rfl) g1
  obtain ⟨fad,fcap,fs,e2,hFl,hF,hFn⟩:=open_fields_w g2 hF3
  have q0:e0' = .int .i64 k:=by simpa using (show ([e0',e1',e2'].drop 0).take 1=[.int .i64 k] from e0)
  have q1:e1' = .string s:=by simpa using (show ([e0',e1',e2'].drop 1).take 1=[.string s] from e1)
  have q2:e2' = .slice fad fs.length fcap:=by simpa using (show ([e0',e1',e2'].drop 2).take 1=[.slice fad fs.length fcap] from e2)
  subst q0 q1 q2
  have b1:=bounds_i64 wa1
  exact ⟨(⟨k,s.data.toList,fs⟩,fad,fcap),rfl,⟨hF,(show -9223372036854775808≤k∧k<9223372036854775808 by omega),hFl.1⟩,(show s.data.toList.length≤_ from (by unfold maxLen at hsz;rw [Array.length_toList];exact hsz)),hFn⟩)
 refine ⟨ad,cap,ts.map (·.1),by rw [cT,cT],by rw [cT,show Tryz.prog.bytesOf 24=48 by kernel_rfl,show reachBytes=140737488351232 by decide] at hb;rw [cT];omega,⟨fun i c hc => ?_,fun c hc => ?_⟩,fun c hc => ?_,fun c hc => ?_⟩
 ·rw [dI] at hc
  cases ht:ts[i]? with
  | none=>rw [ht] at hc;cases hc
  | some t =>
   rw [ht] at hc
   simp only [Option.map_some,Option.some.injEq] at hc
   subst hc
   obtain ⟨blk,off,arr,el,fr,g1,g2,g3,g4⟩:=h3 i _ (by rw [dI,ht];rfl)
   exact ⟨blk,off,arr,el,fr,t.2.1,t.2.2,g1,g2,g3,g4,(h5 t (cZ ht)).1.1⟩
 ·obtain ⟨t,ht,rfl⟩:=List.mem_map.1 hc
  exact (h5 t ht).1.2.1
 ·obtain ⟨t,ht,rfl⟩:=List.mem_map.1 hc
  exact (h5 t ht).2
 ·obtain ⟨t,ht,rfl⟩:=List.mem_map.1 hc
  exact (h5 t ht).1.2.2
theorem open_schema_w {r:Reach} {b0:Nat} {v:Value} {d:DataW H} {p:List MemPlace} (hv:Value.okWide Tryz.prog w r b0 33 v) (h:DataW.Trod enc Tryz.prog w 0 (fun _=>true) true 33 v d p) (hw:Light Tryz.prog 33 d):
  ∃ (ver:Int) (ad:Option Addr) (cap:Nat) (cs:List Cp),v = .agg #[.int .i64 ver,.slice ad cs.length cap]∧(-9223372036854775808≤ver∧ver<9223372036854775808)∧cs.length≤4398046511104∧CompsIn (fun b=>w.heap[b]?) ad cs∧NamesIn cs∧∀ c∈cs,c.fs.length≤4398046511104:=by
 obtain ⟨v0,v1,y0,y1,m,rfl,rfl,rfl,hy0,hy1⟩:=open_agg2 Tryz.underlying33 (by kernel_rfl) cellsS hv h
 have hw1:=(Light.struct2 Tryz.underlying33 hw).2
 obtain ⟨x,e0,rfl,wx⟩:=DataW.trod_int (k:=.i64) (by kernel_rfl) hy0
 obtain ⟨ad,cap,cs,e1,h1,h2,h3,h4⟩:=open_comps_w hy1 hw1
 simp at e0 e1
 subst e0 e1
 have b0:=bounds_i64 wx
 exact ⟨x,ad,cap,cs,O,by omega,h1,h2,h3,h4⟩
end
end Go.Proofs.YtopiioklkkiedaaGreatDoor
end
section
namespace Go.Proofs.YtopiioklkkiedaaGreatDoor
open Go Go.Lg Go.Lg.Fml Go.Lg.Fld Go.Lg.Arith
def findE (fs:List Fl) (f:Fl) (x:Ins):Int:=
 if x.op=2∨x.op=3 then (match fs[x.a.toNat]? with
  | none=>3
  | some g=>if (x.op=2∧g.count≤x.b)∨(x.op=3∧g.count<f.count) then 3 else if (g.kind=10)=(f.kind=10) then 0 else 8)
 else 0
def atE {α:Type} (g:α→Int) (l:List α) (i:Nat):Int:=match l[i]? with|some x=>g x|none=>0
theorem atE_at {α:Type} {g:α→Int} {l:List α} {i:Nat} {x:α} (h:l[i]? = some x):atE g l i=g x:=by unfold atE;rw [h]
def seqE {α:Type} (g:α→Int) (l:List α):Int:=firstE (atE g l) 0 l.length
theorem seqE_zero {α:Type} {g:α→Int} {l:List α} (h:seqE g l=0):∀ x∈l,g x=0:=fun x hx=>by
 obtain ⟨i,hi⟩:=List.mem_iff_getElem?.1 hx
 have:=firstE_zero h i (Nat.zero_le _) (by have:=(List.getElem?_eq_some_iff.1 hi).1;omega)
 rw [atE_at hi] at this;exact this
theorem seqE_none {α:Type} {g:α→Int} {l:List α} (h:∀ x∈l,g x=0):seqE g l=0:=firstE_none fun j _ _=>by
 unfold atE
 split
 ·rename_i x hx;exact h x (cZ hx)
 ·rfl
def refE (f:Fl):List Ins→Int
 | [x]=>if f.kind=10∧(x.op=4∨(x.op=1∧x.k≠(false,0))) then 8 else 0
 | _=>if f.kind=10 then 8 else 0
def fmE (fs:List Fl) (f:Fl) (l:List Ins):Int:=if chkX l=0 then (if seqE (findE fs f) l=0 then refE f l else seqE (findE fs f) l) else chkX l
def ruE (fs gs:List Fl) (r:Rl):Int:=if r.old=0 then 0 else if r.ex.length=gs.length then seqE (fun q:Fl×List Ins=>fmE fs q.1 q.2) (gs.zip r.ex) else 4
def findC (cs:List Cp) (id:Int):Option Cp:=cs.find? fun c=>c.id==id
def nwE (a:Sc) (q:Rl×Cp):Int:=if q.1.nw=q.2.id∧(q.1.old=0∨(findC a.cs q.1.old).isSome) then 0 else 6
def flC (a:Sc) (id:Int):List Fl:=match findC a.cs id with|some c=>c.fs|none=>[]
def ruC (a:Sc) (q:Rl×Cp):Int:=ruE (flC a q.1.old) q.2.fs q.1
def ckE (a b:Sc) (p:Pg):Int:=
 if chkE a=0 then (if chkE b=0 then (if chkP p=0 then (if p.va=a.ver∧p.vb=b.ver∧p.va<p.vb then (if p.rs.length=b.cs.length then (if seqE (nwE a) (p.rs.zip b.cs)=0 then seqE (ruC a) (p.rs.zip b.cs) else 6) else 6) else 7) else chkP p) else chkE b) else chkE a
def num0:Ins:=⟨1,0,0,(false,0)⟩
def plainF (fs:List Fl) (f:Fl):Ins:=match fs.findIdx? (fun g=>g.nm==f.nm) with
 | none=>num0
 | some i=>match fs[i]? with
  | none=>num0
  | some g=>if f.count≤g.count∧((g.kind=10)=(f.kind=10)) then ⟨3,i,0,(false,0)⟩ else num0
def plainR (a:Sc) (c:Cp):Rl:=match findC a.cs c.id with
 | none=>⟨c.id,0,[]⟩
 | some o=>⟨c.id,c.id,c.fs.map fun f=>[plainF o.fs f]⟩
def plainP (a b:Sc):Pg:=⟨a.ver,b.ver,b.cs.map (plainR a)⟩
theorem findC_some {cs:List Cp} {id:Int} {c:Cp} (h:findC cs id=some c):c∈cs∧c.id=id:=⟨List.mem_of_find?_eq_some h,by have:=List.find?_some h;simpa using this⟩
theorem findC_at {cs:List Cp} {id:Int} {c:Cp} (h:findC cs id=some c):∃ i,cs[i]? = some c∧c.id=id∧∀ (j:Nat) (y:Cp),j<i→cs[j]? = some y→(y.id==id)=false:=by
 obtain ⟨hp,i,hi,he,hj⟩:=List.find?_eq_some_iff_getElem.1 h
 refine ⟨i,by rw [cU hi,he],by simpa using hp,fun j y hji hy => ?_⟩
 obtain ⟨hj',e⟩:=List.getElem?_eq_some_iff.1 hy
 have:=hj j hji
 rw [e] at this
 simpa using this
theorem findC_no {cs:List Cp} {id:Int} (h:findC cs id=none):∀ (j:Nat) (y:Cp),cs[j]? = some y→(y.id==id)=false:=fun j y hy=>by
 have:=List.find?_eq_none.1 h y (cZ hy)
 simpa using this
theorem chkX_one {x:Ins} (h:okI x=true) (h0:takes x.op=0):chkX [x]=0:=by
 unfold chkX
 rw [if_neg (by simp)]
 have:dep okI 0 [x]=some 1:=by
  simp only [dep,h0,h]
  rfl
 rw [this];rfl
theorem plainF_cases (fs:List Fl) (f:Fl):plainF fs f=num0∨∃ (i:Nat) (g:Fl),fs[i]? = some g∧f.count≤g.count∧((g.kind=10)=(f.kind=10))∧plainF fs f=⟨3,i,0,(false,0)⟩:=by
 unfold plainF
 split
 ·exact .inl rfl
 ·rename_i i hi
  split
  ·exact .inl rfl
  ·rename_i g hg
   by_cases h:f.count≤g.count∧((g.kind=10)=(f.kind=10))
   ·rw [if_pos h];exact .inr ⟨i,g,hg,h.1,h.2,rfl⟩
   ·rw [if_neg h];exact .inl rfl
theorem plainF_okI {fs:List Fl} (h8:fs.length≤8) (f:Fl):okI (plainF fs f)=true∧takes (plainF fs f).op=0:=by
 rcases plainF_cases fs f with h|⟨i,g,hi,_,_,h⟩
 ·rw [h];exact ⟨by decide +kernel,by decide +kernel⟩
 ·rw [h]
  have:=(List.getElem?_eq_some_iff.1 hi).1
  refine ⟨?_,by show takes 3=0;decide⟩
  unfold okI
  simp only [Bool.and_eq_true,decide_eq_true_eq]
  exact ⟨by decide,by decide +kernel,by omega,by omega⟩
theorem plainF_fm {fs:List Fl} (h8:fs.length≤8) (f:Fl):fmE fs f [plainF fs f]=0:=by
 obtain ⟨h1,h2⟩:=plainF_okI h8 f
 unfold fmE
 rw [if_pos (chkX_one h1 h2)]
 have hs:seqE (findE fs f) [plainF fs f]=0:=seqE_none fun x hx=>by
  rw [List.mem_singleton.1 hx]
  rcases plainF_cases fs f with h|⟨i,g,hi,hc,hk,h⟩
  ·rw [h];rfl
  ·rw [h]
   unfold findE
   rw [if_pos (.inr rfl)]
   simp only [dD,hi]
   rw [if_neg (by omega),if_pos hk]
 rw [if_pos hs]
 show (if f.kind=10∧((plainF fs f).op=4∨((plainF fs f).op=1∧(plainF fs f).k≠(false,0))) then (8:Int) else 0)=0
 rw [if_neg]
 rintro ⟨_,h⟩
 rcases plainF_cases fs f with e|⟨i,g,_,_,_,e⟩
 ·rw [e] at h;simp [num0] at h
 ·rw [e] at h;simp at h
theorem plain_ex_ok {fs:List Fl} (h8:fs.length≤8) (gs:List Fl):firstX (gs.map fun f=>[plainF fs f])=0:=by
 induction gs with
 | nil=>rfl
 | cons f t ih =>
  obtain ⟨h1,h2⟩:=plainF_okI h8 f
  show (if encErr [plainF fs f]=0 then firstX (t.map fun f=>[plainF fs f]) else encErr [plainF fs f])=0
  have:encErr [plainF fs f]=0:=by
   unfold encErr
   rw [if_pos (chkX_one h1 h2)]
   have:plainI (plainF fs f)=true:=by
    rcases plainF_cases fs f with h|⟨i,g,_,_,_,h⟩
    ·rw [h];decide +kernel
    ·rw [h];rfl
   simp only [List.all_cons,List.all_nil,this,Bool.and_self,if_true]
  rw [if_pos this];exact ih
theorem chkE_good {s:Sc} (h:chkE s=0):(1≤s.ver∧s.ver≤1073741824)∧Fld.Good s.cs:=by
 unfold chkE at h
 by_cases hv:s.ver<1∨1073741824<s.ver
 ·rw [if_pos hv] at h;cases h
 ·rw [if_neg hv] at h;exact ⟨by omega,good_of h⟩
theorem _root_.Go.Lg.Fld.Good.len8 {cs:List Cp} (h:Fld.Good cs) {c:Cp} (hc:c∈cs):c.fs.length≤8:=by
 obtain ⟨i,hi⟩:=List.mem_iff_getElem?.1 hc
 exact (layErr_facts (h.one i c hi).2.2.2.2).1
theorem plainR_nw (a:Sc) (c:Cp):(plainR a c).nw=c.id:=by unfold plainR;split<;>rfl
theorem plainR_old {a:Sc} {c:Cp} (h1:1≤c.id):((plainR a c).old=0∧(plainR a c).ex=[])∨∃ o,findC a.cs c.id=some o∧plainR a c=⟨c.id,c.id,c.fs.map fun f=>[plainF o.fs f]⟩:=by
 unfold plainR
 split
 ·exact .inl ⟨rfl,rfl⟩
 ·rename_i o ho;exact .inr ⟨o,ho,rfl⟩
theorem plainR_chk {a:Sc} (ha:Fld.Good a.cs) {c:Cp} (h1:1≤c.id∧c.id≤24) (h8:c.fs.length≤8) {last:Int} (hl:last<c.id):chkR (plainR a c) last=0:=by
 rcases plainR_old (a:=a) h1.1 with ⟨h0,he⟩|⟨o,ho,h⟩
 ·unfold chkR
  rw [h0,he,plainR_nw,if_neg (by omega),if_neg (fun h=>h.2 rfl),if_neg (by simp)]
  rfl
 ·rw [h]
  unfold chkR
  simp only
  rw [if_neg (by omega),if_neg (by omega),if_neg (by rw [cT];omega)]
  exact plain_ex_ok (ha.len8 (findC_some ho).1) c.fs
theorem plain_chkRs {a:Sc} (ha:Fld.Good a.cs):∀ {l:List Cp} {last:Int},(∀ c∈l,(1≤c.id∧c.id≤24)∧c.fs.length≤8)→(∀ c∈l,last<c.id)→l.Pairwise (fun c d=>c.id<d.id)→chkRs last (l.map (plainR a))=0
 | [],_,_,_,_=>rfl
 | c::t,last,h,hl,hp=>by
  obtain ⟨p1,p2⟩:=List.pairwise_cons.1 hp
  have hc:=h c (List.mem_cons_self ..)
  show (if chkR (plainR a c) last=0 then chkRs (plainR a c).nw (t.map (plainR a)) else chkR (plainR a c) last)=0
  rw [if_pos (plainR_chk ha hc.1 hc.2 (hl c (List.mem_cons_self ..))),plainR_nw]
  exact plain_chkRs ha (fun d hd=>h d (List.mem_cons_of_mem _ hd)) p1 p2
theorem _root_.Go.Lg.Fld.Good.pair {cs:List Cp} (h:Fld.Good cs):cs.Pairwise (fun c d=>c.id<d.id):=by
 rw [List.pairwise_iff_getElem]
 intro i j hi hj hij
 exact (h.two i j _ _ hij (cU hi) (cU hj)).1
theorem _root_.Go.Lg.Fld.Good.all {cs:List Cp} (h:Fld.Good cs):∀ c∈cs,(1≤c.id∧c.id≤24)∧c.fs.length≤8:=fun c hc=>by
 obtain ⟨i,hi⟩:=List.mem_iff_getElem?.1 hc
 obtain ⟨g1,g2,_⟩:=h.one i c hi
 exact ⟨⟨g1,g2⟩,h.len8 hc⟩
theorem plain_chkP {a b:Sc} (ha:chkE a=0) (hb:chkE b=0) (n:Nat):chkP ⟨a.ver,b.ver,((plainP a b).rs).take n⟩=0:=by
 obtain ⟨va,ga⟩:=chkE_good ha
 obtain ⟨vb,gb⟩:=chkE_good hb
 unfold chkP verOk plainP
 simp only
 rw [if_pos (by simp;omega),← List.map_take]
 exact plain_chkRs ga (fun c hc=>gb.all c (List.take_subset _ _ hc)) (fun c hc=>by have:=(gb.all c (List.take_subset _ _ hc)).1;omega) (gb.pair.sublist (List.take_sublist _ _))
theorem zip_map_mem {α β:Type} {g:α→β}:∀ {l:List α} {q:β×α},q∈(l.map g).zip l→q.2∈l∧q.1=g q.2
 | [],_,h=>by cases h
 | x::t,q,h=>by
  rcases List.mem_cons.1 h with rfl|h
  ·exact ⟨List.mem_cons_self ..,rfl⟩
  ·obtain ⟨h1,h2⟩:=zip_map_mem h;exact ⟨List.mem_cons_of_mem _ h1,h2⟩
theorem zip_map_mem' {α β:Type} {g:α→β}:∀ {l:List α} {q:α×β},q∈l.zip (l.map g)→q.1∈l∧q.2=g q.1
 | [],_,h=>by cases h
 | x::t,q,h=>by
  rcases List.mem_cons.1 h with rfl|h
  ·exact ⟨List.mem_cons_self ..,rfl⟩
  ·obtain ⟨h1,h2⟩:=zip_map_mem' h;exact ⟨List.mem_cons_of_mem _ h1,h2⟩
theorem plain_ok {a b:Sc} (ha:chkE a=0) (hb:chkE b=0) (hv:a.ver<b.ver):ckE a b (plainP a b)=0:=by
 have h:=plain_chkP ha hb (plainP a b).rs.length
 rw [dC] at h
 obtain ⟨_,ga⟩:=chkE_good ha
 obtain ⟨_,gb⟩:=chkE_good hb
 unfold ckE
 rw [if_pos ha,if_pos hb,if_pos (show chkP (plainP a b)=0 from h),if_pos ⟨rfl,rfl,hv⟩,if_pos (show ((plainP a b).rs).length=b.cs.length by unfold plainP;rw [cT])]
 have hn:seqE (nwE a) ((plainP a b).rs.zip b.cs)=0:=seqE_none fun q hq=>by
  obtain ⟨h1,h2⟩:=zip_map_mem hq
  unfold nwE
  rw [if_pos]
  rw [h2]
  refine ⟨plainR_nw a q.2,?_⟩
  rcases plainR_old (a:=a) (gb.all _ h1).1.1 with ⟨h0,_⟩|⟨o,ho,e⟩
  ·exact .inl h0
  ·exact .inr (by rw [e];rw [ho];rfl)
 rw [if_pos hn]
 refine seqE_none fun q hq => ?_
 obtain ⟨h1,h2⟩:=zip_map_mem hq
 unfold ruC ruE
 rcases plainR_old (a:=a) (gb.all _ h1).1.1 with ⟨h0,_⟩|⟨o,ho,e⟩
 ·rw [h2,if_pos h0]
 ·rw [h2,e]
  simp only
  rw [if_neg (by have:=(gb.all _ h1).1;omega),if_pos (by rw [cT])]
  refine seqE_none fun u hu => ?_
  obtain ⟨_,h4⟩:=zip_map_mem' hu
  unfold flC
  rw [ho,h4]
  exact plainF_fm (ga.len8 (findC_some ho).1) u.1
end Go.Proofs.YtopiioklkkiedaaGreatDoor
end
section
namespace Go.Lg.Sg
open Go Go.Lg
def okJ (id:Int):Bool:=decide (1≤id)&&decide (id≤24)
theorem okI_iff {id:Int}:okJ id=true↔1≤id∧id≤24:=by unfold okJ;simp
def hasB (a:Nat) (id:Int):Bool:=okJ id&&a.testBit id.toNat
end Go.Lg.Sg
namespace Go.Proofs.YtopiioklkkiedaaGreatDoor
open Go Go.Lg Go.Lg.Fld Go.Lg.Sg
set_option maxRecDepth 100000
variable (X:Nat→Option Obj)
end Go.Proofs.YtopiioklkkiedaaGreatDoor
end
section
namespace Go.Lg.Sg
open Go Go.Lg
def txStep (s:List UInt8×Bool) (x:Int):List UInt8×Bool:=(s.1++(if s.2=true then [43] else [])++Lib.itoa x,true)
def txF (l:List Int):List UInt8×Bool:=l.foldl txStep ([],false)
def ofN (ids:List Int):Nat:=ids.foldl (fun n id=>n ||| 2^id.toNat) 0
end Go.Lg.Sg
namespace Go.Proofs.YtopiioklkkiedaaGreatDoor
open Go Go.Lg Go.Lg.Fld Go.Lg.Sg
set_option maxRecDepth 100000
variable (X:Nat→Option Obj)
end Go.Proofs.YtopiioklkkiedaaGreatDoor
end
section
namespace Go.Lg.Sg
open Go Go.Lg
def digS (n:Int) (c:UInt8):Option Int:=if c.toNat<48∨57<c.toNat∨n=0∨99<n∨(n<0∧c.toNat=48) then none else some ((if n<0 then 0 else n)*10+((c.toNat:Int)-48))
def sepS (q:List Int×Int):Option (List Int×Int):=if q.2<1∨24<q.2∨(q.1.getLast?.any fun y=>decide (q.2≤y))=true then none else some (q.1++[q.2],-1)
def chS (q:List Int×Int) (c:UInt8):Option (List Int×Int):=if c=43 then sepS q else (digS q.2 c).map fun n=>(q.1,n)
def runS (q:List Int×Int) (s:List UInt8):Option (List Int×Int):=s.foldlM chS q
def parseA (s:List UInt8):Option Nat:=if s=[45] then some 0 else ((runS ([],-1) s).bind sepS).map fun q=>ofN q.1
def rising (l:List Int):Prop:=l.Pairwise (fun x y=>x<y)
def preT (ids:List Int):List UInt8:=(txF ids).1++if ids=[] then [] else [43]
def digT (n:Int):List UInt8:=if n<0 then [] else Lib.itoa n
structure Rd (p:List UInt8) (q:List Int×Int):Prop where
 text:p=preT q.1++digT q.2
 ids:∀ y∈q.1,1≤y∧y≤24
 rise:rising q.1
 num:q.2 = -1∨(1≤q.2∧q.2≤999)
end Go.Lg.Sg
end
section
namespace Go.Lg.Sg
open Go Go.Lg Go.Lg.Fld
def withN (a:Nat) (id:Int):Nat:=if okJ id=true then a ||| 2^id.toNat else a
theorem with_bit {a:Nat} {id:Int} (j:Nat):(withN a id).testBit j=(a.testBit j||(okJ id&&decide (id.toNat=j))):=by
 unfold withN
 by_cases h:okJ id=true
 ·rw [if_pos h,Nat.testBit_or,Nat.testBit_two_pow,h,Bool.true_and]
 ·rw [if_neg h,show okJ id=false by simpa using h,Bool.false_and,Bool.or_false]
theorem lt32_of_bits {a:Nat} (h:∀ j,32≤j→a.testBit j=false):a<4294967296:=Nat.lt_pow_two_of_testBit (n:=32) _ h
end Go.Lg.Sg
end
section
namespace Go.Proofs.YtopiioklkkiedaaGreatDoor
open Go Go.Lg Go.Lg.Fml Go.Lg.Fld Go.Lg.Arith
abbrev Sp:=Fl×List Ins×Nat
def cutN:List Fl→List Nm→List (List Nm)
 | [],_=>[]
 | f::t,ns=>ns.take f.n::cutN t (ns.drop f.n)
def fldS (f:Fl) (c:List Ins) (n:Nat):List Sp:=(List.range n).map fun k=>(f,c,k)
def stepsN:List Fl→List (List Ins)→List Sp
 | f::t,c::u=>fldS f c f.n++stepsN t u
 | _,_=>[]
def okV:Except Int Nm→Nm | .ok v=>v | .error _=>(false,0)
def erV:Except Int Nm→Int | .ok _=>0 | .error e=>e
def stepV (fs:List (List Nm)) (q:Sp):Nm:=okV (evX q.2.1 fs q.2.2)
def stepE (fs:List (List Nm)) (q:Sp):Int:=if erV (evX q.2.1 fs q.2.2)=0 then (if fitB q.1.kind (stepV fs q).1 (stepV fs q).2=true then 0 else 3) else erV (evX q.2.1 fs q.2.2)
def valE (a b:List Fl) (r:Rl) (ns:List Nm):Int:=
 if fitErr a ns=0 then (if layErr b=0 then (if r.old=0 then 7 else if ruE a b r=0 then seqE (stepE (cutN a ns)) (stepsN b r.ex) else ruE a b r) else layErr b) else fitErr a ns
def valN (a b:List Fl) (r:Rl) (ns:List Nm):List Nm:=(stepsN b r.ex).map (stepV (cutN a ns))
def rowE (a b:List Fl) (r:Rl) (s:List UInt8):Int:=if unpErr a s=0 then valE a b r ((unpZ a s).map qn) else unpErr a s
def rowN (a b:List Fl) (r:Rl) (s:List UInt8):List UInt8:=if rowE a b r s=0 then packB b (valN a b r ((unpZ a s).map qn)) else []
def sigN (rs:List Rl) (s:Nat):Nat:=rs.foldl (fun n r=>if Sg.hasB s r.old=true then Sg.withN n r.nw else n) 0
abbrev Sq:=Rl×Cp×Pt
def partsOf (r:Rl) (c:Cp) (ps:List Pt):List Sq:=(ps.filter fun p=>p.comp==r.old).map fun p=>(r,c,p)
def prS:List Rl→List Cp→List Pt→List Sq
 | r::t,c::u,ps=>partsOf r c ps++prS t u ps
 | _,_,_=>[]
def pqE (a:Sc) (q:Sq):Int:=valE (flC a q.2.2.comp) q.2.1.fs q.1 q.2.2.val
def prV (a:Sc) (q:Sq):Pt:=⟨q.1.nw,valN (flC a q.2.2.comp) q.2.1.fs q.1 q.2.2.val⟩
def psE (a b:Sc) (p:Pg) (ps:List Pt):Int:=if ckE a b p=0 then (if partsE a.cs ps=0 then seqE (pqE a) (prS p.rs b.cs ps) else partsE a.cs ps) else ckE a b p
def psV (a b:Sc) (p:Pg) (ps:List Pt):List Pt:=(prS p.rs b.cs ps).map (prV a)
theorem fldS_succ (f:Fl) (c:List Ins) (k:Nat):fldS f c (k+1)=fldS f c k++[(f,c,k)]:=by unfold fldS;rw [List.range_succ,dE];rfl
theorem fldS_zero (f:Fl) (c:List Ins):fldS f c 0=[]:=rfl
theorem fldS_len (f:Fl) (c:List Ins) (n:Nat):(fldS f c n).length=n:=by unfold fldS;rw [cT,List.length_range]
theorem fldS_split (f:Fl) (c:List Ins):∀ {n k:Nat},k<n→∃ post,fldS f c n=fldS f c k++(f,c,k)::post
 | n+1,k,h=>by
  by_cases e:k=n
  ·subst e;exact ⟨[],fldS_succ f c k⟩
  ·obtain ⟨post,hp⟩:=fldS_split f c (n:=n) (k:=k) (by omega)
   exact ⟨post++[(f,c,n)],by rw [fldS_succ,hp];simp⟩
theorem steps_snoc:∀ {gs:List Fl} {ex:List (List Ins)} {i:Nat} {f:Fl} {c:List Ins},gs[i]? = some f→ex[i]? = some c→stepsN (gs.take (i+1)) (ex.take (i+1))=stepsN (gs.take i) (ex.take i)++fldS f c f.n
 | g::gs,d::ex,0,f,c,h1,h2=>by
  simp only [List.getElem?_cons_zero,Option.some.injEq] at h1 h2
  subst h1 h2
  simp [stepsN]
 | g::gs,d::ex,i+1,f,c,h1,h2=>by
  simp only [List.getElem?_cons_succ] at h1 h2
  simp only [List.take_succ_cons,stepsN]
  rw [steps_snoc h1 h2,dJ]
 | [],_,_,_,_,h,_=>by simp at h
 | _::_,[],_,_,_,_,h=>by simp at h
theorem steps_split:∀ {gs:List Fl} {ex:List (List Ins)} {i:Nat} {f:Fl} {c:List Ins},gs[i]? = some f→ex[i]? = some c→∃ post,stepsN gs ex=stepsN (gs.take i) (ex.take i)++(fldS f c f.n++post)
 | g::gs,d::ex,0,f,c,h1,h2=>by
  simp only [List.getElem?_cons_zero,Option.some.injEq] at h1 h2
  subst h1 h2
  exact ⟨stepsN gs ex,O⟩
 | g::gs,d::ex,i+1,f,c,h1,h2=>by
  simp only [List.getElem?_cons_succ] at h1 h2
  obtain ⟨post,hp⟩:=steps_split h1 h2
  refine ⟨post,?_⟩
  simp only [List.take_succ_cons,stepsN]
  rw [hp,dJ]
 | [],_,_,_,_,h,_=>by simp at h
 | _::_,[],_,_,_,_,h=>by simp at h
theorem steps_at {gs:List Fl} {ex:List (List Ins)} {i k:Nat} {f:Fl} {c:List Ins} (h1:gs[i]? = some f) (h2:ex[i]? = some c) (hk:k<f.n):∃ post,stepsN gs ex=(stepsN (gs.take i) (ex.take i)++fldS f c k)++(f,c,k)::post:=by
 obtain ⟨p1,e1⟩:=steps_split h1 h2
 obtain ⟨p2,e2⟩:=fldS_split f c hk
 exact ⟨p2++p1,by rw [e1,e2];simp⟩
theorem seqE_cons' {α:Type} {g:α→Int} {x:α} {t:List α}:seqE g (x::t)=if g x=0 then seqE g t else g x:=by
 have key:∀ (f:Nat→Int) (n i:Nat),firstE f (i+1) n=firstE (fun j=>f (j+1)) i n:=by
  intro f n
  induction n with
  | zero=>intro i;rfl
  | succ n ih =>
   intro i
   show (if f (i+1)=0 then firstE f (i+1+1) n else f (i+1))=(if f (i+1)=0 then firstE (fun j=>f (j+1)) (i+1) n else f (i+1))
   rw [ih (i+1)]
 show (if atE g (x::t) 0=0 then firstE (atE g (x::t)) (0+1) t.length else atE g (x::t) 0)=_
 rw [key]
 rfl
theorem seqE_app {α:Type} {g:α→Int}:∀ {l m:List α},seqE g (l++m)=if seqE g l=0 then seqE g m else seqE g l
 | [],m=>by rw [List.nil_append,show seqE g ([]:List α)=0 from rfl,if_pos rfl]
 | x::l,m=>by
  rw [List.cons_append,seqE_cons',seqE_cons',seqE_app]
  by_cases h:g x=0
  ·rw [if_pos h,if_pos h]
  ·rw [if_neg h,if_neg h,if_neg h]
theorem seqE_hit {α:Type} {g:α→Int} {l pre post:List α} {x:α} (h:l=pre++x::post) (h0:seqE g pre=0) (hx:g x≠0):seqE g l=g x:=by
 rw [h,seqE_app,if_pos h0,seqE_cons',if_neg hx]
theorem seqE_snoc {α:Type} {g:α→Int} {l:List α} {x:α} (h0:seqE g l=0) (hx:g x=0):seqE g (l++[x])=0:=by
 rw [seqE_app,if_pos h0,seqE_cons',if_pos hx];rfl
theorem prS_snoc:∀ {rs:List Rl} {cs:List Cp} {ps:List Pt} {i:Nat} {r:Rl} {c:Cp},rs[i]? = some r→cs[i]? = some c→prS (rs.take (i+1)) (cs.take (i+1)) ps=prS (rs.take i) (cs.take i) ps++partsOf r c ps
 | g::gs,d::ex,ps,0,f,c,h1,h2=>by
  simp only [List.getElem?_cons_zero,Option.some.injEq] at h1 h2
  subst h1 h2
  simp [prS]
 | g::gs,d::ex,ps,i+1,f,c,h1,h2=>by
  simp only [List.getElem?_cons_succ] at h1 h2
  simp only [List.take_succ_cons,prS]
  rw [prS_snoc h1 h2,dJ]
 | [],_,_,_,_,_,h,_=>by simp at h
 | _::_,[],_,_,_,_,_,h=>by simp at h
theorem prS_split:∀ {rs:List Rl} {cs:List Cp} {ps:List Pt} {i:Nat} {r:Rl} {c:Cp},rs[i]? = some r→cs[i]? = some c→∃ post,prS rs cs ps=prS (rs.take i) (cs.take i) ps++(partsOf r c ps++post)
 | g::gs,d::ex,ps,0,f,c,h1,h2=>by
  simp only [List.getElem?_cons_zero,Option.some.injEq] at h1 h2
  subst h1 h2
  exact ⟨prS gs ex ps,O⟩
 | g::gs,d::ex,ps,i+1,f,c,h1,h2=>by
  simp only [List.getElem?_cons_succ] at h1 h2
  obtain ⟨post,hp⟩:=prS_split (ps:=ps) h1 h2
  refine ⟨post,?_⟩
  simp only [List.take_succ_cons,prS]
  rw [hp,dJ]
 | [],_,_,_,_,_,h,_=>by simp at h
 | _::_,[],_,_,_,_,_,h=>by simp at h
theorem mem_prS:∀ {rs:List Rl} {cs:List Cp} {ps:List Pt} {q:Sq},q∈prS rs cs ps↔((q.1,q.2.1)∈rs.zip cs∧q.2.2∈ps∧q.2.2.comp=q.1.old)
 | [],_,_,q=>by simp [prS]
 | _::_,[],_,q=>by simp [prS]
 | r::rs,c::cs,ps,q=>by
  simp only [prS,List.mem_append,mem_prS (rs:=rs),List.zip_cons_cons,List.mem_cons]
  have h1:q∈partsOf r c ps↔((q.1,q.2.1)=(r,c)∧q.2.2∈ps∧q.2.2.comp=q.1.old):=by
   unfold partsOf
   simp only [List.mem_map,List.mem_filter]
   constructor
   ·rintro ⟨p,⟨h1,h2⟩,rfl⟩
    exact ⟨O,h1,beq_iff_eq.1 h2⟩
   ·rintro ⟨h1,h2,h3⟩
    obtain ⟨q1,q2,q3⟩:=q
    simp only [Prod.mk.injEq] at h1
    obtain ⟨rfl,rfl⟩:=h1
    exact ⟨q3,⟨h2,by simpa using h3⟩,O⟩
  rw [h1]
  constructor
  ·rintro (⟨h,h2⟩|⟨h,h2⟩)
   ·exact ⟨.inl h,h2⟩
   ·exact ⟨.inr h,h2⟩
  ·rintro ⟨h|h,h2⟩
   ·exact .inl ⟨h,h2⟩
   ·exact .inr ⟨h,h2⟩
end Go.Proofs.YtopiioklkkiedaaGreatDoor
end
section
namespace Go.Proofs.YtopiioklkkiedaaGreatDoor
open Go Go.Lg Go.Lg.Fml Go.Lg.Fld Go.Lg.Arith
theorem elems_kinds:∀ (b:List Fl) (ex:List (List Ins)) (a:Nat),ex.length=b.length→(elemsAt a b).map Prod.fst=(stepsN b ex).map fun q=>q.1.kind
 | [],[],_,_=>rfl
 | f::t,c::u,a,h=>by
  simp only [dF] at h
  have ih:=elems_kinds t u (roundUp a f.w+f.w*f.n) (by omega)
  simp only [elemsAt,stepsN,dE,ih]
  congr 1
  unfold fldS
  rw [List.map_map,List.map_map]
  rfl
 | [],_::_,_,h=>by simp at h
 | _::_,[],_,h=>by simp at h
theorem steps_len {b:List Fl} {ex:List (List Ins)} (h:ex.length=b.length):(stepsN b ex).length=(elemsAt 0 b).length:=by
 have:=congrArg List.length (elems_kinds b ex 0 h)
 rw [cT,cT] at this
 exact this.symm
theorem stepE_zero {fs:List (List Nm)} {q:Sp} (h:stepE fs q=0):erV (evX q.2.1 fs q.2.2)=0∧fitB q.1.kind (stepV fs q).1 (stepV fs q).2=true:=by
 unfold stepE at h
 by_cases h1:erV (evX q.2.1 fs q.2.2)=0
 ·rw [if_pos h1] at h
  by_cases h2:fitB q.1.kind (stepV fs q).1 (stepV fs q).2=true
  ·exact ⟨h1,h2⟩
  ·rw [if_neg h2] at h;cases h
 ·rw [if_neg h1] at h;exact absurd h h1
theorem val_fit {b:List Fl} {ex:List (List Ins)} {fs:List (List Nm)} (hb:layErr b=0) (hl:ex.length=b.length) (h:seqE (stepE fs) (stepsN b ex)=0):fitErr b ((stepsN b ex).map (stepV fs))=0:=by
 unfold fitErr
 rw [if_pos hb,if_pos (by rw [cT,steps_len hl]),if_pos]
 unfold fitAll
 rw [List.all_eq_true]
 intro p hp
 obtain ⟨i,hi⟩:=List.mem_iff_getElem?.1 hp
 obtain ⟨h1,h2⟩:=List.getElem?_zip_eq_some.1 hi
 rw [dI] at h2
 cases hq:(stepsN b ex)[i]? with
 | none=>rw [hq] at h2;cases h2
 | some q =>
  rw [hq] at h2
  simp only [Option.map_some,Option.some.injEq] at h2
  have hk:=congrArg (fun l=>l[i]?) (elems_kinds b ex 0 hl)
  simp only [dI,h1,hq,Option.map_some,Option.some.injEq] at hk
  have:=(stepE_zero (seqE_zero h q (cZ hq))).2
  rw [h2,← hk] at this
  exact this
theorem ruE_len {a b:List Fl} {r:Rl} (h:ruE a b r=0) (h0:r.old≠0):r.ex.length=b.length:=by
 unfold ruE at h
 rw [if_neg h0] at h
 by_cases e:r.ex.length=b.length
 ·exact e
 ·rw [if_neg e] at h;cases h
theorem valE_zero {a b:List Fl} {r:Rl} {ns:List Nm} (h:valE a b r ns=0):fitErr a ns=0∧layErr b=0∧r.old≠0∧ruE a b r=0∧seqE (stepE (cutN a ns)) (stepsN b r.ex)=0:=by
 unfold valE at h
 by_cases h1:fitErr a ns=0
 ·rw [if_pos h1] at h
  by_cases h2:layErr b=0
  ·rw [if_pos h2] at h
   by_cases h3:r.old=0
   ·rw [if_pos h3] at h;cases h
   ·rw [if_neg h3] at h
    by_cases h4:ruE a b r=0
    ·rw [if_pos h4] at h;exact ⟨h1,h2,h3,h4,h⟩
    ·rw [if_neg h4] at h;exact absurd h h4
  ·rw [if_neg h2] at h;exact absurd h h2
 ·rw [if_neg h1] at h;exact absurd h h1
theorem valN_fit {a b:List Fl} {r:Rl} {ns:List Nm} (h:valE a b r ns=0):fitErr b (valN a b r ns)=0:=by
 obtain ⟨_,h2,h3,h4,h5⟩:=valE_zero h
 exact val_fit h2 (ruE_len h4 h3) h5
theorem prt_facts {cs:List Cp} {ps:List Pt} (h:partsE cs ps=0):ps.Pairwise (fun x y=>x.comp≠y.comp)∧∀ p∈ps,∃ c,cs.find? (fun c=>c.id==p.comp)=some c∧fitErr c.fs p.val=0:=by
 have key:∀ (i:Nat) (p:Pt),ps[i]? = some p→(ps.take i).any (fun g=>g.comp==p.comp)=false∧partE cs p=0:=fun i p hp=>by
  have h1:=firstE_zero h i (Nat.zero_le _) (by have:=(List.getElem?_eq_some_iff.1 hp).1;omega)
  unfold ptE at h1
  rw [hp] at h1
  simp only at h1
  by_cases e:(ps.take i).any (fun g=>g.comp==p.comp)=true
  ·rw [if_pos e] at h1;cases h1
  ·rw [if_neg e] at h1;exact ⟨by simpa using e,h1⟩
 refine ⟨?_,fun p hp => ?_⟩
 ·rw [List.pairwise_iff_getElem]
  intro i j hi hj hij e
  obtain ⟨h1,_⟩:=key j _ (cU hj)
  have:=any_true (p:=fun g:Pt=>g.comp==ps[j].comp) hij (cU hi) (by rw [beq_iff_eq];exact e)
  rw [h1] at this;cases this
 ·obtain ⟨i,hi⟩:=List.mem_iff_getElem?.1 hp
  obtain ⟨_,h2⟩:=key i p hi
  unfold partE at h2
  cases hf:cs.find? (fun c=>c.id==p.comp) with
  | none=>rw [hf] at h2;cases h2
  | some c=>rw [hf] at h2;exact ⟨c,rfl,h2⟩
theorem prt_ok {cs:List Cp} {ps:List Pt} (h1:ps.Pairwise (fun x y=>x.comp≠y.comp)) (h2:∀ p∈ps,∃ c,cs.find? (fun c=>c.id==p.comp)=some c∧fitErr c.fs p.val=0):partsE cs ps=0:=by
 refine firstE_none fun i _ hi => ?_
 obtain ⟨p,hp⟩:∃ p,ps[i]? = some p:=⟨_,cU (by omega)⟩
 unfold ptE
 rw [hp]
 simp only
 rw [any_false fun j y hj hy=>cN (by
  have:=List.pairwise_iff_getElem.1 h1 j i (by have:=(List.getElem?_eq_some_iff.1 hy).1;omega) (by omega) hj
  rw [(List.getElem?_eq_some_iff.1 hy).2,(List.getElem?_eq_some_iff.1 hp).2] at this
  exact this),if_neg (by decide)]
 obtain ⟨c,hc,hf⟩:=h2 p (cZ hp)
 unfold partE
 rw [hc];exact hf
theorem filter_one {ps:List Pt} (h:ps.Pairwise (fun x y=>x.comp≠y.comp)) (o:Int):(ps.filter fun p=>p.comp==o).length≤1:=by
 have hp:=h.sublist (List.filter_sublist (p:=fun p:Pt=>p.comp==o) (l:=ps))
 have hm:∀ x∈ps.filter (fun p=>p.comp==o),x.comp=o:=fun x hx=>by simpa using (List.mem_filter.1 hx).2
 generalize ps.filter (fun p=>p.comp==o)=l at *
 match l,hp,hm with
 | [],_,_=>exact Nat.zero_le _
 | [_],_,_=>exact dK _
 | x::y::t,hp,hm =>
  have:=(List.pairwise_cons.1 hp).1 y (List.mem_cons_self ..)
  exact absurd ((hm x (List.mem_cons_self ..)).trans (hm y (List.mem_cons_of_mem _ (List.mem_cons_self ..))).symm) this
theorem prS_sub:∀ {rs:List Rl} {cs:List Cp} {ps:List Pt},ps.Pairwise (fun x y=>x.comp≠y.comp)→((prS rs cs ps).map (·.1)).Sublist rs
 | [],_,_,_=>by simp [prS]
 | _::_,[],_,_=>by simp [prS]
 | r::rs,c::cs,ps,h=>by
  have ih:=prS_sub (rs:=rs) (cs:=cs) h
  have h1:=filter_one h r.old
  simp only [prS,dE]
  unfold partsOf
  rw [List.map_map]
  generalize ps.filter (fun p=>p.comp==r.old)=l at h1
  match l,h1 with
  | [],_=>exact ih.cons r
  | [x],_=>exact ih.cons_cons r
  | _::_::_,h1=>simp at h1
theorem chkRs_pair:∀ {l:List Rl} {last:Int},chkRs last l=0→l.Pairwise (fun r q=>r.nw<q.nw)∧∀ r∈l,last<r.nw∧(1≤r.nw∧r.nw≤24)∧(0≤r.old∧r.old≤24)
 | [],_,_=>⟨List.Pairwise.nil,fun r hr=>by cases hr⟩
 | r::t,last,h=>by
  unfold chkRs at h
  by_cases e:chkR r last=0
  ·rw [if_pos e] at h
   obtain ⟨g1,g2,g3,_⟩:=chkR_zero e
   obtain ⟨i1,i2⟩:=chkRs_pair h
   refine ⟨List.pairwise_cons.2 ⟨fun q hq=>(i2 q hq).1,i1⟩,fun q hq => ?_⟩
   rcases List.mem_cons.1 hq with rfl|hq
   ·exact ⟨g3,g1,g2⟩
   ·obtain ⟨j1,j2⟩:=i2 q hq
    exact ⟨by omega,j2⟩
  ·rw [if_neg e] at h;exact absurd h e
theorem ckE_facts {a b:Sc} {p:Pg} (h:ckE a b p=0):chkE a=0∧chkE b=0∧chkP p=0∧p.rs.length=b.cs.length∧∀ q∈p.rs.zip b.cs,(q.1.nw=q.2.id∧(q.1.old=0∨(findC a.cs q.1.old).isSome=true))∧ruC a q=0:=by
 unfold ckE at h
 by_cases h1:chkE a=0
 ·rw [if_pos h1] at h
  by_cases h2:chkE b=0
  ·rw [if_pos h2] at h
   by_cases h3:chkP p=0
   ·rw [if_pos h3] at h
    by_cases h4:p.va=a.ver∧p.vb=b.ver∧p.va<p.vb
    ·rw [if_pos h4] at h
     by_cases h5:p.rs.length=b.cs.length
     ·rw [if_pos h5] at h
      by_cases h6:seqE (nwE a) (p.rs.zip b.cs)=0
      ·rw [if_pos h6] at h
       refine ⟨h1,h2,h3,h5,fun q hq=>⟨?_,seqE_zero h q hq⟩⟩
       have:=seqE_zero h6 q hq
       unfold nwE at this
       split at this
       ·rename_i g;exact g
       ·cases this
      ·rw [if_neg h6] at h;cases h
     ·rw [if_neg h5] at h;cases h
    ·rw [if_neg h4] at h;cases h
   ·rw [if_neg h3] at h;exact absurd h h3
  ·rw [if_neg h2] at h;exact absurd h h2
 ·rw [if_neg h1] at h;exact absurd h h1
theorem chkP_rs {p:Pg} (h:chkP p=0):chkRs 0 p.rs=0:=by
 unfold chkP at h
 split at h
 ·exact h
 ·cases h
theorem find_good {cs:List Cp} (h:Fld.Good cs) {c:Cp} (hc:c∈cs):cs.find? (fun d=>d.id==c.id)=some c:=by
 obtain ⟨i,hi⟩:=List.mem_iff_getElem?.1 hc
 exact find_at (fun j y hj hy=>cN (by have:=(h.two j i y c hj hy hi).1;omega)) hi O
section
variable {a b:Sc} {p:Pg} {ps:List Pt} (h:psE a b p ps=0)
include h
theorem psE_facts:ckE a b p=0∧partsE a.cs ps=0∧seqE (pqE a) (prS p.rs b.cs ps)=0:=by
 unfold psE at h
 by_cases h1:ckE a b p=0
 ·rw [if_pos h1] at h
  by_cases h2:partsE a.cs ps=0
  ·rw [if_pos h2] at h;exact ⟨h1,h2,h⟩
  ·rw [if_neg h2] at h;exact absurd h h2
 ·rw [if_neg h1] at h;exact absurd h h1
theorem whole_order:(psV a b p ps).Pairwise (fun x y=>x.comp<y.comp):=by
 obtain ⟨h1,h2,_⟩:=psE_facts h
 obtain ⟨_,_,hp,_,_⟩:=ckE_facts h1
 have hr:=(chkRs_pair (chkP_rs hp)).1
 have hs:=hr.sublist (prS_sub (cs:=b.cs) (prt_facts h2).1)
 unfold psV
 rw [List.pairwise_map] at hs ⊢
 exact hs
theorem whole_fit:partsE b.cs (psV a b p ps)=0:=by
 obtain ⟨h1,h2,h3⟩:=psE_facts h
 obtain ⟨_,hb,_,_,hz⟩:=ckE_facts h1
 refine prt_ok ((whole_order h).imp fun e=>by omega) fun x hx => ?_
 obtain ⟨q,hq,rfl⟩:=List.mem_map.1 hx
 obtain ⟨g1,_,_⟩:=mem_prS.1 hq
 obtain ⟨⟨g2,_⟩,_⟩:=hz _ g1
 have hc:q.2.1∈b.cs:=(List.of_mem_zip g1).2
 refine ⟨q.2.1,?_,valN_fit (seqE_zero h3 q hq)⟩
 show b.cs.find? (fun c=>c.id==q.1.nw)=some q.2.1
 rw [show q.1.nw=q.2.1.id from g2]
 exact find_good (chkE_good hb).2 hc
end
theorem prS_snoc_len:∀ (rs:List Rl) (cs:List Cp) (ps:List Pt) (x:Pt),(prS rs cs (ps++[x])).length=(prS rs cs ps).length+(prS rs cs [x]).length
 | [],_,_,_=>by simp [prS]
 | _::_,[],_,_=>by simp [prS]
 | r::rs,c::cs,ps,x=>by
  simp only [prS,cS,prS_snoc_len rs cs ps x]
  unfold partsOf
  simp only [cT,List.filter_append,cS]
  omega
theorem sigN_bit (rs:List Rl) (s j:Nat):(sigN rs s).testBit j=rs.any fun r=>Sg.hasB s r.old&&(Sg.okJ r.nw&&decide (r.nw.toNat=j)):=by
 unfold sigN
 suffices H:∀ (l:List Rl) (n:Nat),(l.foldl (fun n r=>if Sg.hasB s r.old=true then Sg.withN n r.nw else n) n).testBit j=(n.testBit j||l.any fun r=>Sg.hasB s r.old&&(Sg.okJ r.nw&&decide (r.nw.toNat=j))) by
  rw [H,Nat.zero_testBit,Bool.false_or]
 intro l
 induction l with
 | nil=>intro n;simp
 | cons r t ih =>
  intro n
  rw [List.foldl_cons,ih,List.any_cons,← Bool.or_assoc]
  congr 1
  cases hs:Sg.hasB s r.old with
  | true=>rw [if_pos rfl,Sg.with_bit,Bool.true_and]
  | false=>rw [if_neg (by decide),Bool.false_and,Bool.or_false]
end Go.Proofs.YtopiioklkkiedaaGreatDoor
end
