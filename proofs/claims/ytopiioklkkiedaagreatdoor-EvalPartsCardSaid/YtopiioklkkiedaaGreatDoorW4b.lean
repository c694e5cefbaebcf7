/- A piece of a proof over this program: contracts of its functions, and a logic to prove them by. -/
import Derived.Test.YtopiioklkkiedaaGreatDoorW4a
section
set_option maxHeartbeats 12800000
set_option maxRecDepth 100000
namespace Go.Proofs.YtopiioklkkiedaaGreatDoor
open Go Go.Lg Go.Lg.Arith Go.Lg.Dig Go.RowKit
variable (X:Nat→Option Obj)
theorem Sum_more (a b:Bool) (hab:(a != b)=true) (M N:Nat) (hM:M<T40) (hN:N<T40) (h:N≤M):PSpec Tryz.prog X 200 [LN a (dg M),LN b (dg N)] (LN a (dg (M-N))):=by
 obtain ⟨r,hr,c1,c2,c3⟩:=cmp_facts_0 M N
 have hS:=Size_spec X a b M N hM hN r hr
 refine cF Tryz.func200 rfl V5 rfl rfl ?_
 intro C
 (refine U13 ?_;refine K.neqB O O hab dS ?_;refine U15 ?_;refine kca O O (less_spec _ a b M N h) ?_;refine U3 ?_)
 exact VF
theorem Sum_less (a b:Bool) (hab:(a != b)=true) (M N:Nat) (hM:M<T40) (hN:N<T40) (h:M<N):PSpec Tryz.prog X 200 [LN a (dg M),LN b (dg N)] (LN b (dg (N-M))):=by
 obtain ⟨r,hr,c1,c2,c3⟩:=cmp_facts_0 M N
 have hS:=Size_spec X a b M N hM hN r hr
 refine cF Tryz.func200 rfl V5 rfl rfl ?_
 intro C
 (refine U13 ?_;refine K.neqB O O hab dS ?_;refine U16 ?_;refine kca O O (less_spec _ b a N M V3) ?_;refine U3 ?_)
 exact VF
theorem Sum_same (a b:Bool) (hab:(a != b)=false) (M N:Nat):PSpec Tryz.prog X 200 [LN a (dg M),LN b (dg N)] (LN a (dg (M+N))):=by
 refine cF Tryz.func200 rfl V5 rfl rfl ?_
 intro C
 (refine U13 ?_;refine K.neqB O O hab dS ?_;refine U21 ?_)
 refine cL (fun m σ=>∃ i:Nat,i≤40∧m=40-i∧σ=⟨[(2,.sv (.one (.ptr 2 0))),(3,.sv (.one (.ptr 3 0))),(4,.sv (.one (.ptr 4 0))),(5,.sv (.one (.ptr 5 0))),(6,Ln .i64 (car M N i:Nat)),(7,Ln .i64 (i:Nat))],[(2,some { elem:=202,cells:=num a (dg M) }),(3,some { elem:=202,cells:=num b (dg N) }),(4,some { elem:=202,cells:=num false (fun _=>0) }),(5,some { elem:=202,cells:=num a (low (M+N) i) })],X⟩) 40
  ⟨_,Le.of (by exact ⟨rfl,rfl,rfl,rfl,by rw [show car M N 0=0 by unfold car;rw [Nat.pow_zero,Nat.mod_one,Nat.mod_one]];rfl,rfl,trivial⟩) V8 V2 V2 V2,0,by omega,rfl,rfl⟩ ?_
 rintro m σ ⟨i,hi,rfl,rfl⟩
 by_cases h40:i<40
 ·have s:=add_digit M N i
  have hb:=car_le M N i
  have hn:=car_next M N i
  have l1:=dg_lt M i
  have l2:=dg_lt N i
  have w1:(((dg M i:Nat):Int)+(dg N i:Nat)+(car M N i:Nat)).tmod 256=((dg (M+N) i:Nat):Int):=by rw [rem_pos V3];omega
  have w2:IntKind.i64.wrap ((((dg M i:Nat):Int)+(dg N i:Nat)+(car M N i:Nat)).tdiv 256)=((car M N (i+1):Nat):Int):=by rw [quo_i64 V3 V3];omega
  (refine U11 ?_;refine rgD mixed ?_;refine U3 ?_;refine kl1 O O (num_at (i:=i) h40) ?_;refine U3 ?_;refine kl1 O O (num_at (i:=i) h40) ?_;refine U10 ?_;refine K.rem O O V3 w1 dS ?_;refine U2 ?_;refine bG O O O O (num_blt (i:=i) h40) ((num_set (i:=i) h40).trans (low_step a (M+N) i)) dS ?_;refine U3 ?_;refine K.quo O O V3 w2 dS ?_;refine U7 ?_)
  exact ⟨_,_,by omega,Le.of V11 V8 V2 V2 V2,i+1,by omega,O,O⟩
 ·have e:i=40:=by omega
  subst e
  refine U14 ?_
  exact ⟨[_],⟨⟨_,_,rfl,rfl,rfl,.inl ⟨AggT.h,rfl⟩⟩,trivial⟩,by unfold LN;rw [← low_all];rfl⟩
end Go.Proofs.YtopiioklkkiedaaGreatDoor
end
section
set_option maxHeartbeats 12800000
set_option maxRecDepth 100000
namespace Go.Proofs.YtopiioklkkiedaaGreatDoor
open Go Go.Lg Go.Lg.Arith Go.Lg.Dig Go.RowKit
variable (X:Nat→Option Obj)
theorem Good_spec (b:Bool) (N:Int) (hN:In2 N) (r:Bool) (hr:formB b N=r):PSpec Tryz.prog X 75 [LI b N] (Lb r):=by
 obtain ⟨h0,h1⟩:=hN
 refine cF Tryz.func75 rfl V5 rfl rfl ?_
 intro C
 by_cases ha:N<170141183460469231731687303715884105728
 ·cases b with
  | false =>
   have e:r=true:=by rw [← hr];simp [formB,ha]
   refine U28 ?_
   exact ⟨[_],⟨rfl,trivial⟩,by rw [e];rfl⟩
  | true =>
   by_cases hh:N/18446744073709551616=0
   ·by_cases hl:N%18446744073709551616=0
    ·have e:r=false:=by rw [← hr];unfold formB;rw [show (N==0)=true from cV V3];simp
     refine U28 ?_
     exact ⟨[_],⟨rfl,trivial⟩,by rw [e];rfl⟩
    ·have e:r=true:=by rw [← hr];unfold formB;rw [show (N==0)=false from cS V3];simp [ha]
     refine U28 ?_
     exact ⟨[_],⟨rfl,trivial⟩,by rw [e];rfl⟩
   ·have e:r=true:=by rw [← hr];unfold formB;rw [show (N==0)=false from cS V3];simp [ha]
    refine U28 ?_
    exact ⟨[_],⟨rfl,trivial⟩,by rw [e];rfl⟩
 ·have e:r=false:=by rw [← hr];simp [formB,ha]
  refine U28 ?_
  exact ⟨[_],⟨rfl,trivial⟩,by rw [e];rfl⟩
theorem mg_nat (x:Int):(((mg x).toNat:Nat):Int)=mg x:=by have:=mg_nonneg x;omega
theorem From_q (x:Int) (hx:R127 x):PSpec Tryz.prog X 114 [LQ x] (LN (decide (x<0)) (dg (mg x).toNat)):=by
 have h:=From_spec X (decide (x<0)) (mg x).toNat (by have:=mg_lim hx;have:=mg_nonneg x;omega)
 rw [mg_nat] at h
 exact h
theorem lim40 {n:Nat} (h:n<340282366920938463463374607431768211456):n<T40:=by
 unfold T40
 rw [pow40]
 omega
theorem RCmp_spec (x y:Int) (hx:R127 x) (hy:R127 y) (r:Int) (hr:cmpI x y=r):PSpec Tryz.prog X 77 [LQ x,LQ y] (Ln .i64 r):=by
 have f1:=From_q X x hx
 have f2:=From_q X y hy
 have n1:=mg_nonneg x
 have n2:=mg_nonneg y
 have m1:=mg_lim hx
 have m2:=mg_lim hy
 obtain ⟨s,hs,c1,c2,c3⟩:=cmp_facts_0 ((mg x).toNat:Nat) ((mg y).toNat:Nat)
 have hS:=Size_spec X (decide (x<0)) (decide (y<0)) (mg x).toNat (mg y).toNat (lim40 V3) (lim40 V3) s hs
 rw [mg_nat,mg_nat] at c1 c2 c3
 refine cF Tryz.func77 rfl V5 rfl rfl ?_
 intro C
 by_cases cx:x<0
 ·by_cases cy:y<0
  ·have hb:(decide (x<0) != decide (y<0))=false:=by rw [cP cx,cP cy];rfl
   have e:r=0-s:=by
    rw [mg_neg cx,mg_neg cy] at c1 c2 c3
    rw [← hr]
    unfold cmpI
    rcases Int.lt_trichotomy x y with h|h|h
    ·rw [if_pos h];omega
    ·rw [if_neg V3,if_neg V3];omega
    ·rw [if_neg V3,if_pos h];omega
   have sb : -1≤s∧s≤1:=by rcases Int.lt_trichotomy (mg x) (mg y) with h|h|h<;>omega
   (refine U13 ?_;refine K.neqB O O hb dS ?_;refine U4 ?_;refine rgD mixed ?_;refine U14 ?_;refine LWP.condT (ev_bool (cP cx)) ?_;refine U3 ?_;refine K.neg O (cH V3) dS ?_;refine U3 ?_)
   exact ⟨[_],⟨rfl,trivial⟩,by rw [e];rfl⟩
  ·have hb:(decide (x<0) != decide (y<0))=true:=by rw [cP cx,cO cy];rfl
   have e:r = -1:=by rw [← hr];unfold cmpI;rw [if_pos V3]
   (refine U13 ?_;refine K.neqB O O hb dS ?_;refine U8 ?_;refine LWP.condT (ev_bool (cP cx)) ?_;refine U5 ?_)
   exact ⟨[_],⟨rfl,trivial⟩,by rw [e];rfl⟩
 ·by_cases cy:y<0
  ·have hb:(decide (x<0) != decide (y<0))=true:=by rw [cO cx,cP cy];rfl
   have e:r=1:=by rw [← hr];unfold cmpI;rw [if_neg V3,if_pos V3]
   (refine U13 ?_;refine K.neqB O O hb dS ?_;refine U8 ?_;refine LWP.condF (ev_bool (cO cx)) ?_;refine U6 ?_)
   exact ⟨[_],⟨rfl,trivial⟩,by rw [e];rfl⟩
  ·have hb:(decide (x<0) != decide (y<0))=false:=by rw [cO cx,cO cy];rfl
   have e:r=s:=by
    rw [mg_pos (Int.not_lt.1 cx),mg_pos (Int.not_lt.1 cy)] at c1 c2 c3
    rw [← hr]
    unfold cmpI
    rcases Int.lt_trichotomy x y with h|h|h
    ·rw [if_pos h];omega
    ·rw [if_neg V3,if_neg V3];omega
    ·rw [if_neg V3,if_pos h];omega
   (refine U13 ?_;refine K.neqB O O hb dS ?_;refine U4 ?_;refine rgD mixed ?_;refine U14 ?_;refine LWP.condF (ev_bool (cO cx)) ?_;refine U7 ?_)
   exact ⟨[_],⟨rfl,trivial⟩,by rw [e];rfl⟩
end Go.Proofs.YtopiioklkkiedaaGreatDoor
end
section
set_option maxHeartbeats 12800000
set_option maxRecDepth 100000
namespace Go.Lg.Fld
open Go Go.Lg
abbrev tabW:List CV:=[.val (.int .i64 0),.val (.int .i64 1),.val (.int .i64 1),.val (.int .i64 2),.val (.int .i64 4),.val (.int .i64 8),.val (.int .i64 1),.val (.int .i64 2),.val (.int .i64 4),.val (.int .i64 8),.val (.int .i64 8)]
abbrev tabB:List CV:=[.val (.int .u64 0),.val (.int .u64 0),.val (.int .u64 128),.val (.int .u64 32768),.val (.int .u64 2147483648),.val (.int .u64 9223372036854775808),.val (.int .u64 0),.val (.int .u64 0),.val (.int .u64 0),.val (.int .u64 0),.val (.int .u64 0)]
abbrev tabA:List CV:=[.val (.int .u64 0),.val (.int .u64 1),.val (.int .u64 127),.val (.int .u64 32767),.val (.int .u64 2147483647),.val (.int .u64 9223372036854775807),.val (.int .u64 255),.val (.int .u64 65535),.val (.int .u64 4294967295),.val (.int .u64 18446744073709551615),.val (.int .u64 18446744073709551615)]
theorem tabW_at {k:Int} (h:kK k=true):tabW[0+k.toNat*1]? = some (.val (.int .i64 (kW k:Nat))):=by
 rcases kin h with rfl|rfl|rfl|rfl|rfl|rfl|rfl|rfl|rfl|rfl<;>rfl
theorem tabB_at {k:Int} (h:kK k=true):tabB[0+k.toNat*1]? = some (.val (.int .u64 (kB k))):=by
 rcases kin h with rfl|rfl|rfl|rfl|rfl|rfl|rfl|rfl|rfl|rfl<;>rfl
theorem tabA_at {k:Int} (h:kK k=true):tabA[0+k.toNat*1]? = some (.val (.int .u64 (kA k))):=by
 rcases kin h with rfl|rfl|rfl|rfl|rfl|rfl|rfl|rfl|rfl|rfl<;>rfl
end Go.Lg.Fld
namespace Go.Proofs.YtopiioklkkiedaaGreatDoor
open Go Go.Lg Go.Lg.Fld
set_option maxRecDepth 100000
variable (X:Nat→Option Obj)
instance:ArrB Tryz.prog 164 (List.replicate 11 (.int .i64 0)) 1:=⟨by kernel_rfl⟩
instance:ArrB Tryz.prog 198 (List.replicate 11 (.int .u64 0)) 1:=⟨by kernel_rfl⟩
theorem refBytes_spec (k:Int):PSpec Tryz.prog X 43 [Ln .i64 k] (Ln .i64 (kW k:Nat)):=by
 refine cF Tryz.func43 rfl V5 rfl rfl ?_
 intro C
 cases hk:kK k with
 | false =>
  rcases knot hk with h|h
  ·rw [kW_no (.inl h)]
   refine U20 ?_
   exact V6
  ·rw [kW_no (.inr h)]
   refine U20 ?_
   exact V6
 | true =>
  have hb:=(kK_iff k).1 hk
  (refine U18 ?_;refine K.buildArr (cs':=tabW) O O V2 O dS ?_;refine U7 ?_;refine kl1 O O (tabW_at hk) ?_;refine U3 ?_)
  exact V6
theorem SQ_pos {p:Int} (h:0≤p∧p<18446744073709551616):SQ p = .agg [.val (.bool false),.val (.int .u64 0),.val (.int .u64 p)]:=by
 unfold SQ SI
 rw [mg_pos h.1,cO (by omega),show p/18446744073709551616=0 by omega,show p%18446744073709551616=p by omega]
theorem SQ_neg {p:Int} (h:0<p∧p<18446744073709551616):SQ (-p) = .agg [.val (.bool true),.val (.int .u64 0),.val (.int .u64 p)]:=by
 unfold SQ SI
 rw [mg_neg (by omega),cP (by omega),Int.neg_neg,show p/18446744073709551616=0 by omega,show p%18446744073709551616=p by omega]
theorem SQ_low (k:Int):SQ (-kB k) = .agg [.val (.bool (decide (0<kB k))),.val (.int .u64 0),.val (.int .u64 (kB k))]:=by
 have hb:=kfacts k
 by_cases h:0<kB k
 ·rw [SQ_neg ⟨h,by omega⟩,cP h]
 ·rw [cO h,show -kB k=kB k by omega,SQ_pos ⟨by omega,by omega⟩]
theorem Bounds_spec (k:Int):PSpec Tryz.prog X 76 [Ln .i64 k] (.tup [SQ (-kB k),SQ (kA k)]):=by
 have hf:=kfacts k
 rw [SQ_low k,SQ_pos ⟨hf.2.2.1,hf.2.2.2.1⟩]
 refine cF Tryz.func76 rfl V5 rfl rfl ?_
 intro C
 cases hk:kK k with
 | false =>
  rw [kB_no (knot hk),kA_no (knot hk)]
  rcases knot hk with h|h
  ·refine U24 ?_
   exact V1A
  ·refine U24 ?_
   exact V1A
 | true =>
  have hb:=(kK_iff k).1 hk
  (refine U19 ?_;refine K.buildArr (cs':=tabB) O O V2 O dS ?_;refine U5 ?_;refine K.buildArr (cs':=tabA) O O V2 O dS ?_;refine U4 ?_;refine rgD mixed ?_;refine U2 ?_;refine kl1 O O (tabB_at hk)<|aS O O O dS ?_;refine U2 ?_;refine kl1 O O (tabB_at hk) ?_;refine U3 ?_;refine kl1 O O (tabA_at hk) ?_;refine U6 ?_)
  exact V1A
theorem cmp_le (x y:Int) (h:x≤y):∃ r,cmpI x y=r∧r≤0:=⟨_,rfl,by unfold cmpI;rw [if_neg (Int.not_lt.2 h)];split<;>decide⟩
theorem cmp_ge (x y:Int) (h:y≤x):∃ r,cmpI x y=r∧0≤r:=⟨_,rfl,by unfold cmpI;rw [if_neg (Int.not_lt.2 h)];split<;>decide⟩
theorem cmp_lt (x y:Int) (h:x<y):cmpI x y = -1:=by unfold cmpI;rw [if_pos h]
theorem cmp_gt (x y:Int) (h:y<x):cmpI x y=1:=by unfold cmpI;rw [if_neg (Int.not_lt.2 (Int.le_of_lt h)),if_pos h]
theorem refFits_spec (k:Int) (b:Bool) (N:Int) (hN:In2 N) (r:Bool) (hr:fitB k b N=r):PSpec Tryz.prog X 40 [Ln .i64 k,LI b N] (Lb r):=by
 subst hr
 have hB:=refBytes_spec X k
 have hBd:=Bounds_spec X k
 have hG:=Good_spec X b N hN _ rfl
 unfold fitB
 refine cF Tryz.func40 rfl V5 rfl rfl ?_
 intro C
 cases hk:kK k with
 | false =>
  rw [kW_no (knot hk)] at hB
  refine U23 ?_
  exact V6
 | true =>
  have hk0:kW k≠0:=fun e=>by rw [kW_zero] at e;rw [hk] at e;cases e
  cases hf:formB b N with
  | false =>
   rw [hf] at hG
   refine U23 ?_
   exact V6
  | true =>
   rw [hf] at hG
   have hR:=(zv_in hN hf).1
   rw [LI_q hN hf] at hG ⊢
   generalize zv b N=x at *
   have c1:=RCmp_spec X x (-kB k) hR (kBn_R k)
   have c2:=RCmp_spec X x (kA k) hR (kA_R k)
   by_cases h1 : -kB k≤x
   ·obtain ⟨r,hr,hr0⟩:=cmp_ge x (-kB k) h1
    have c1':=c1 r hr
    by_cases h2:x≤kA k
    ·obtain ⟨s,hs,hs0⟩:=cmp_le x (kA k) h2
     have c2':=c2 s hs
     rw [(fitZ_iff k x).2 ⟨h1,h2⟩]
     (refine U41 ?_;refine K.leq O O (cP V3) (dT O O) ?_;refine U4 ?_)
     exact V6
    ·have c2':=c2 1 (cmp_gt x (kA k) V3)
     rw [show fitZ k x=false by rw [fitZ,cO h2,Bool.and_false]]
     (refine U41 ?_;refine K.leq O O (cO V3) (dT O O) ?_;refine U4 ?_)
     exact V6
   ·have c1':=c1 (-1) (cmp_lt x (-kB k) V3)
    rw [show fitZ k x=false by rw [fitZ,cO h1,Bool.false_and]]
    refine U46 ?_
    exact V6
end Go.Proofs.YtopiioklkkiedaaGreatDoor
end
section
set_option maxHeartbeats 12800000
set_option maxRecDepth 100000
namespace Go.Lg.Fld
open Go Go.Lg
structure Fl where
 nm:List UInt8
 kind:Int
 count:Int
def Fl.vals (f:Fl):List Value:=[.string ⟨f.nm.toArray⟩,.int .i64 f.kind,.int .i64 f.count]
def Fl.w (f:Fl):Nat:=kW f.kind
def Fl.n (f:Fl):Nat:=f.count.toNat
def Fl.ok (f:Fl):Bool:=kK f.kind&&(decide (1≤f.count)&&decide (f.count≤8))
def roundUp (a n:Nat):Nat:=a+(n-a%n)%n
def startsAt:Nat→List Fl→List Nat
 | _,[]=>[]
 | a,f::t=>roundUp a f.w::startsAt (roundUp a f.w+f.w*f.n) t
def endAt:Nat→List Fl→Nat
 | a,[]=>a
 | a,f::t=>endAt (roundUp a f.w+f.w*f.n) t
def elemsAt:Nat→List Fl→List (Int×Nat)
 | _,[]=>[]
 | a,f::t=>(List.range f.n).map (fun i=>(f.kind,roundUp a f.w+f.w*i))++elemsAt (roundUp a f.w+f.w*f.n) t
def greatW (l:List Fl):Nat:=l.foldl (fun g f=>max g f.w) 1
def rowSize (l:List Fl):Nat:=roundUp (endAt 0 l) (greatW l)
def layErr (l:List Fl):Int:=if 8<l.length then 1 else if l.all Fl.ok=true then (if 256<rowSize l then 5 else 0) else 1
theorem starts_snoc (f:Fl):∀ (l:List Fl) (a:Nat),startsAt a (l++[f])=startsAt a l++[roundUp (endAt a l) f.w]
 | [],_=>rfl
 | g::t,a=>by simp only [List.cons_append,startsAt,endAt,starts_snoc f t]
theorem end_snoc (f:Fl):∀ (l:List Fl) (a:Nat),endAt a (l++[f])=roundUp (endAt a l) f.w+f.w*f.n
 | [],_=>rfl
 | g::t,a=>by simp only [List.cons_append,endAt,end_snoc f t]
theorem elems_snoc (f:Fl):∀ (l:List Fl) (a:Nat),elemsAt a (l++[f])=elemsAt a l++(List.range f.n).map (fun i=>(f.kind,roundUp (endAt a l) f.w+f.w*i))
 | [],_=>by simp [elemsAt,endAt]
 | g::t,a=>by simp only [List.cons_append,elemsAt,endAt,elems_snoc f t,dN]
theorem great_snoc (f:Fl) (l:List Fl):greatW (l++[f])=max (greatW l) f.w:=by simp [greatW,List.foldl_append]
theorem take_snoc {α:Type} {l:List α} {i:Nat} {f:α} (h:l[i]? = some f):l.take (i+1)=l.take i++[f]:=by
 rw [List.take_add_one,h];rfl
theorem ok_w {f:Fl} (h:f.ok=true):(f.w=1∨f.w=2∨f.w=4∨f.w=8)∧1≤f.n∧f.n≤8∧(f.n:Int)=f.count:=by
 simp only [Fl.ok,Bool.and_eq_true,decide_eq_true_eq] at h
 refine ⟨kW_in h.1,?_,?_,?_⟩<;>unfold Fl.n<;>omega
def isWd (n:Nat):Prop:=n=1∨n=2∨n=4∨n=8
theorem round_facts {n:Nat} (h:isWd n) (a:Nat):roundUp a n%n=0∧a≤roundUp a n∧roundUp a n<a+n∧∀ b,a≤b→b≤roundUp a n→b%n=0→b=roundUp a n:=by
 unfold roundUp
 rcases h with rfl|rfl|rfl|rfl<;>refine ⟨by omega,by omega,by omega,fun b h1 h2 h3=>by omega⟩
theorem great_wd:∀ (l:List Fl),l.all Fl.ok=true→isWd (greatW l):=by
 have key:∀ (l:List Fl) (g:Nat),isWd g→l.all Fl.ok=true→isWd (l.foldl (fun g f=>max g f.w) g):=by
  intro l
  induction l with
  | nil=>intro g hg _;exact hg
  | cons f t ih =>
   intro g hg h
   simp only [List.all_cons,Bool.and_eq_true] at h
   refine ih _ ?_ h.2
   have hf:isWd f.w:=(ok_w h.1).1
   show isWd (max g f.w)
   rcases Nat.le_total g f.w with h3|h3
   ·rw [Nat.max_eq_right h3];exact hf
   ·rw [Nat.max_eq_left h3];exact hg
 exact fun l h=>key l 1 (.inl O) h
theorem end_le:∀ (l:List Fl) (a:Nat),l.all Fl.ok=true→a≤endAt a l∧endAt a l≤a+72*l.length
 | [],a,_=>by simp [endAt]
 | f::t,a,h=>by
  simp only [List.all_cons,Bool.and_eq_true] at h
  obtain ⟨hw,h1,h8,_⟩:=ok_w h.1
  have hr:=round_facts hw a
  have hi:=end_le t (roundUp a f.w+f.w*f.n) h.2
  have hm:f.w*f.n≤64:=by rcases hw with e|e|e|e<;>rw [e]<;>omega
  have hw8:f.w≤8:=by rcases hw with e|e|e|e<;>omega
  simp only [endAt,dJ]
  omega
theorem elems_len:∀ (l:List Fl) (a:Nat),l.all Fl.ok=true→l.length≤(elemsAt a l).length∧(elemsAt a l).length≤8*l.length
 | [],a,_=>by simp [elemsAt]
 | f::t,a,h=>by
  simp only [List.all_cons,Bool.and_eq_true] at h
  obtain ⟨hw,h1,h8,_⟩:=ok_w h.1
  have hi:=elems_len t (roundUp a f.w+f.w*f.n) h.2
  simp only [elemsAt,cW,cX,List.length_range,dJ]
  omega
theorem starts_len:∀ (l:List Fl) (a:Nat),(startsAt a l).length=l.length
 | [],_=>rfl
 | f::t,a=>by simp [startsAt,starts_len t]
def elV (e:Int×Nat):List Value:=[.int .i64 e.1,.int .i64 (e.2:Nat)]
def elVs (l:List (Int×Nat)):List Value:=(l.map elV).flatten
theorem elVs_len (l:List (Int×Nat)):(elVs l).length=l.length*2:=by
 induction l with
 | nil=>rfl
 | cons e t ih=>simp only [elVs,List.map_cons,List.flatten_cons,cW] at ih ⊢;rw [ih];simp [elV];omega
theorem elVs_app (l m:List (Int×Nat)):elVs (l++m)=elVs l++elVs m:=by simp [elVs]
def ntV (l:List Nat):List Value:=l.map fun n=>.int .i64 (n:Nat)
structure FieldsIn (X:Nat→Option Obj) (ad:Option Addr) (fs:List Fl):Prop where
 rows:RowsIn X ad 3 (fs.map Fl.vals)
 small:∀ f∈fs,(-9223372036854775808≤f.kind∧f.kind<9223372036854775808)∧(-9223372036854775808≤f.count∧f.count<9223372036854775808)
theorem FieldsIn.at {X:Nat→Option Obj} {ad:Option Addr} {fs:List Fl} (h:FieldsIn X ad fs) {i:Nat} {f:Fl} (hf:fs[i]? = some f):
  ∃ (blk off:Nat) (arr:Array Value) (el:TypeId) (fr:Nat×Nat),ad=some ⟨blk,off,none⟩∧X blk=some (.cells arr el fr)∧off+i*3+3≤arr.size∧((arr.toList.drop (off+i*3)).take 3).map CV.val=f.vals.map CV.val:=by
 obtain ⟨blk,off,arr,el,fr,h1,h2,h3,h4⟩:=h.rows i f.vals (by rw [dM,hf];rfl)
 exact ⟨blk,off,arr,el,fr,h1,h2,h3,by rw [h4]⟩
end Go.Lg.Fld
end
section
set_option maxHeartbeats 12800000
set_option maxRecDepth 100000
namespace Go.Proofs.YtopiioklkkiedaaGreatDoor
open Go Go.Lg Go.Lg.Fld
set_option maxRecDepth 100000
variable (X:Nat→Option Obj)
abbrev Lx (ad:Option Addr) (n cap:Nat):LV:=.sv (.one (.val (.slice ad n cap)))
abbrev Vnil:SV:=.one (.val (.slice none 0 0))
def layR (fs:List Fl):LV:=if layErr fs=0 then .tup [.one (.slc 1000001 0 (elemsAt 0 fs).length 2),Sn .i64 (rowSize fs:Nat),.one (.slc 1000002 0 fs.length 1),Sn .i64 0] else .tup [Vnil,Sn .i64 0,Vnil,Sn .i64 (layErr fs)]
def layBx (fs:List Fl):List (Nat×Option Box):=if layErr fs=0 then [(1000001,some ⟨114,(elVs (elemsAt 0 fs)).map .val,Nat.blt 0 (elemsAt 0 fs).length⟩),(1000002,some ⟨3,(ntV (startsAt 0 fs)).map .val,Nat.blt 0 fs.length⟩)] else []
theorem layErr_long {fs:List Fl} (h:8<fs.length):layErr fs=1:=if_pos h
theorem layErr_bad {fs:List Fl} (h:fs.length≤8) {f:Fl} (hf:f∈fs) (hb:f.ok=false):layErr fs=1:=by
 unfold layErr
 rw [if_neg (by omega),if_neg]
 intro ha
 rw [List.all_eq_true.1 ha f hf] at hb
 cases hb
theorem layErr_all {fs:List Fl} (h:fs.length≤8) (ha:fs.all Fl.ok=true):layErr fs=if 256<rowSize fs then 5 else 0:=by
 unfold layErr
 rw [if_neg (by omega),if_pos ha]
theorem take_all {fs:List Fl} {i:Nat} {f:Fl} (h:(fs.take i).all Fl.ok=true) (hf:fs[i]? = some f) (hk:f.ok=true):(fs.take (i+1)).all Fl.ok=true:=by
 rw [take_snoc hf,List.all_append,h]
 simp [hk]
set_option maxHeartbeats 3200000 in
theorem Lay_spec (ad:Option Addr) (cap:Nat) (fs:List Fl) (hin:FieldsIn X ad fs) (hbig:fs.length<4611686018427387904):MSpec Tryz.prog X 37 [Lx ad fs.length cap] [] (layR fs) (layBx fs):=by
 refine cG Tryz.func37 rfl V5 rfl (by unfold layR layBx;split<;>rfl) (by unfold layBx;split<;>exact V0) rfl rfl ?_
 intro C
 by_cases hlong:8<fs.length
 ·unfold layR layBx
  rw [layErr_long hlong,if_neg (by decide),if_neg (by decide)]
  refine U23 ?_
  exact ⟨[],⟨[_,_,_,_],⟨O,O,O,O,trivial⟩,O⟩,trivial,O,O⟩
 have h8:fs.length≤8:=by omega
 (refine U18 ?_;refine aZ (zs:=[]) (sz:=2) (e:=114) V5 O O O O O O dS ?_;refine U4 ?_;refine aZ (zs:=[]) (sz:=1) (e:=3) V5 O O O O O O dS ?_;refine U16 ?_)
 refine cL (fun m σ=>∃ i:Nat,i≤fs.length∧m=fs.length-i∧(fs.take i).all Fl.ok=true∧σ=⟨[(0,Lx ad fs.length cap),(6,.sv (.one (.slc 500 0 (elemsAt 0 (fs.take i)).length 2))),(7,.sv (.one (.slc 501 0 i 1))),(8,Ln .i64 (endAt 0 (fs.take i):Nat)),(9,Ln .i64 (greatW (fs.take i):Nat)),(10,Ln .i64 (i:Nat))],[(500,some ⟨114,(elVs (elemsAt 0 (fs.take i))).map .val,Nat.blt 0 (elemsAt 0 (fs.take i)).length⟩),(501,some ⟨3,(ntV (startsAt 0 (fs.take i))).map .val,Nat.blt 0 i⟩)],X⟩) fs.length
  ⟨_,Le.ofR [(500,17),(501,18)] V11 V1 V2 V2 V0 V2 V2,0,by omega,by omega,rfl,rfl⟩ ?_
 rintro m σ ⟨i,hi,rfl,hall,rfl⟩
 have hEl:=elems_len (fs.take i) 0 hall
 have hSl:=starts_len (fs.take i) 0
 have hend:=end_le (fs.take i) 0 hall
 have hgw:=great_wd (fs.take i) hall
 have htl:(fs.take i).length=i:=by rw [dA];omega
 rw [htl] at hEl hSl hend
 by_cases hlt:i<fs.length
 ·obtain ⟨f,hf⟩:=wg hlt
  obtain ⟨blk,off,arr,el,fr,rfl,hX,hsz,hcells⟩:=hin.at hf
  have hio:=wo off i 3
  have hmem:f∈fs:=dE hf
  have hsm:=hin.small f hmem
  have hB:=refBytes_spec X f.kind
  have hE:elemsAt 0 (fs.take (i+1))=elemsAt 0 (fs.take i)++(List.range f.n).map (fun j=>(f.kind,roundUp (endAt 0 (fs.take i)) f.w+f.w*j)):=by rw [take_snoc hf,elems_snoc]
  have hS:startsAt 0 (fs.take (i+1))=startsAt 0 (fs.take i)++[roundUp (endAt 0 (fs.take i)) f.w]:=by rw [take_snoc hf,starts_snoc]
  have hA:endAt 0 (fs.take (i+1))=roundUp (endAt 0 (fs.take i)) f.w+f.w*f.n:=by rw [take_snoc hf,end_snoc]
  have hG:greatW (fs.take (i+1))=max (greatW (fs.take i)) f.w:=by rw [take_snoc hf,great_snoc]
  cases hok:f.ok with
  | false =>
   have hbad:=layErr_bad h8 hmem hok
   unfold layR layBx
   rw [hbad,if_neg (by decide),if_neg (by decide)]
   clear hE hS hA hG
   generalize elemsAt 0 (fs.take i)=E at *
   generalize startsAt 0 (fs.take i)=S at *
   generalize endAt 0 (fs.take i)=a at *
   generalize greatW (fs.take i)=g at *
   by_cases h0:kW f.kind=0
   ·rw [h0] at hB
    refine U53 ?_
    exact ⟨[],⟨[_,_,_,_],⟨O,O,O,O,trivial⟩,O⟩,trivial,O,O⟩
   ·have hk:kK f.kind=true:=by
     cases e:kK f.kind with
     | true=>rfl
     | false=>exact absurd ((kW_zero f.kind).2 e) h0
    by_cases h1:f.count<1
    ·(refine U36 ?_;refine bK O O (cP V3) (dT O O) ?_;refine U16 ?_)
     exact ⟨[],⟨[_,_,_,_],⟨O,O,O,O,trivial⟩,O⟩,trivial,O,O⟩
    ·have h2:8<f.count:=by
      unfold Fl.ok at hok
      rw [hk,cP (show 1≤f.count by omega)] at hok
      simpa using hok
     refine U53 ?_
     exact ⟨[],⟨[_,_,_,_],⟨O,O,O,O,trivial⟩,O⟩,trivial,O,O⟩
  | true =>
   have hall':=take_all hall hf hok
   obtain ⟨hw,hn1,hn8,hnc⟩:=ok_w hok
   have hR:=round_facts hw (endAt 0 (fs.take i))
   have hwk:kW f.kind=f.w:=rfl
   have hw8:1≤f.w∧f.w≤8:=by rcases hw with e|e|e|e<;>omega
   have hg8:greatW (fs.take i)≤8:=by rcases hgw with e|e|e|e<;>omega
   rw [hwk] at hB
   generalize elemsAt 0 (fs.take i)=E at *
   generalize startsAt 0 (fs.take i)=S at *
   generalize endAt 0 (fs.take i)=a at *
   generalize greatW (fs.take i)=g at *
   have hfc:f.vals.map CV.val=[.val (.string ⟨f.nm.toArray⟩),.val (.int .i64 f.kind),.val (.int .i64 (f.n:Nat))]:=by rw [hnc];rfl
   rw [hfc] at hcells
   generalize f.w=w at *
   generalize hT:roundUp a w=T at *
   generalize f.n=n at *
   refine U48 ?_
   generalize hmx:max g w=mx at *
   refine LWP.cut (fun σ=>σ=⟨[(0,Lx (some ⟨blk,off,none⟩) fs.length cap),(6,.sv (.one (.slc 500 0 (E.length) 2))),(7,.sv (.one (.slc 501 0 (i) 1))),(8,Ln .i64 (a:Nat)),(9,Ln .i64 (mx:Nat)),(10,Ln .i64 (i:Nat)),(11,.sv (.one (.ptr 11 0))),(12,Ln .i64 (w:Nat))],[(500,some ⟨114,(elVs E).map .val,Nat.blt 0 E.length⟩),(501,some ⟨3,(ntV (S)).map .val,Nat.blt 0 i⟩),(11,some ⟨83,[.val (.string ⟨f.nm.toArray⟩),.val (.int .i64 f.kind),.val (.int .i64 (n:Nat))],false⟩)],X⟩) ?_ ?_
   ·by_cases hgl:g<w
    ·have e:mx=w:=by omega
     refine U10 ?_
     exact ⟨_,Le.of (by exact ⟨rfl,rfl,rfl,rfl,by rw [e];rfl,rfl,rfl,rfl,trivial⟩) V9 V2 V2 V0,rfl⟩
    ·have e:mx=g:=by omega
     refine U7 ?_
     exact ⟨_,Le.of (by exact ⟨rfl,rfl,rfl,rfl,by rw [e];rfl,rfl,rfl,rfl,trivial⟩) V9 V2 V2 V0,rfl⟩
   rintro σ rfl
   refine U2 ?_
   refine cL (fun m σ=>∃ b:Nat,a≤b∧b≤T∧m=T-b∧σ=⟨[(0,Lx (some ⟨blk,off,none⟩) fs.length cap),(6,.sv (.one (.slc 500 0 (E.length) 2))),(7,.sv (.one (.slc 501 0 (i) 1))),(8,Ln .i64 (b:Nat)),(9,Ln .i64 (mx:Nat)),(10,Ln .i64 (i:Nat)),(11,.sv (.one (.ptr 11 0))),(12,Ln .i64 (w:Nat))],[(500,some ⟨114,(elVs E).map .val,Nat.blt 0 E.length⟩),(501,some ⟨3,(ntV (S)).map .val,Nat.blt 0 i⟩),(11,some ⟨83,[.val (.string ⟨f.nm.toArray⟩),.val (.int .i64 f.kind),.val (.int .i64 (n:Nat))],false⟩)],X⟩) (T-a)
    ⟨_,Le.of V15 V9 V2 V2 V0,a,dO _,hR.2.1,rfl,rfl⟩ ?_
   rintro m σ ⟨b,hb1,hb2,rfl,rfl⟩
   have hrem:((b:Nat):Int).tmod ((w:Nat):Int)=((b%w:Nat):Int):=by rw [Int.tmod_eq_emod_of_nonneg V3];exact (Int.natCast_emod b w).symm
   by_cases hz:b%w=0
   ·have hbT:=hR.2.2.2 b hb1 hb2 hz
    subst hbT
    rw [hz] at hrem
    have hcl:((ntV S).map CV.val).length=i*1:=by simp [ntV,hSl]
    have hnc1:(ntV S).map CV.val++[.val (.int .i64 (b:Nat))]=(ntV (S++[b])).map CV.val:=by simp [ntV]
    (refine U5 ?_;refine K.rem O O V3 hrem dS ?_;refine U8 ?_;refine aZ (zs:=[.int .i64 0]) (sz:=1) (e:=3) V5 O O O O O O dS<|bQ (by_:=8) (e2:=3) (l2:=[.val (.int .i64 (b:Nat))]) O O hcl O O (dO _) O O V5 V5 V3 V3 O O hnc1 dS ?_;refine U7 ?_)
    refine cL (fun m σ=>∃ j:Nat,j≤n∧m=n-j∧σ=⟨[(0,Lx (some ⟨blk,off,none⟩) fs.length cap),(6,.sv (.one (.slc 500 0 (E.length+j) 2))),(7,.sv (.one (.slc 501 0 (i+1) 1))),(8,Ln .i64 (b+w*j:Nat)),(9,Ln .i64 (mx:Nat)),(10,Ln .i64 (i:Nat)),(11,.sv (.one (.ptr 11 0))),(12,Ln .i64 (w:Nat)),(13,Ln .i64 (j:Nat))],[(500,some ⟨114,(elVs (E++(List.range j).map (fun q=>(f.kind,b+w*q)))).map .val,Nat.blt 0 (E.length+j)⟩),(501,some ⟨3,(ntV (S++[b])).map .val,true⟩),(11,some ⟨83,[.val (.string ⟨f.nm.toArray⟩),.val (.int .i64 f.kind),.val (.int .i64 (n:Nat))],false⟩)],X⟩) n
     ⟨_,Le.ofR [(501,57)] V1B (by rw [List.range_zero,List.map_nil,dK];exact V1) V2 V2 V0 V2 V2,0,by omega,rfl,rfl⟩ ?_
    rintro m σ ⟨j,hj,rfl,rfl⟩
    have hwj:w*j≤64:=Nat.le_trans (Nat.mul_le_mul hw8.2 (Nat.le_trans hj hn8)) VA
    by_cases hjn:j<n
    ·have hrg:(List.range (j+1)).map (fun q=>(f.kind,b+w*q))=(List.range j).map (fun q=>(f.kind,b+w*q))++[(f.kind,b+w*j)]:=by rw [List.range_succ,dI];rfl
     have hcl2:((elVs (E++(List.range j).map (fun q=>(f.kind,b+w*q)))).map CV.val).length=(E.length+j)*2:=by rw [cX,elVs_len];simp
     have hnc2:(elVs (E++(List.range j).map (fun q=>(f.kind,b+w*q)))).map CV.val++[.val (.int .i64 f.kind),.val (.int .i64 (b+w*j:Nat))]=(elVs (E++(List.range (j+1)).map (fun q=>(f.kind,b+w*q)))).map CV.val:=by
      rw [hrg,← dN,elVs_app (E++_) [_],dI]
      rfl
     have hadd:((b+w*j:Nat):Int)+((w:Nat):Int)=((b+w*(j+1):Nat):Int):=by rw [Nat.mul_add,Nat.mul_one];omega
     have hwr:IntKind.i64.wrap (((b+w*j:Nat):Int)+((w:Nat):Int))=((b+w*(j+1):Nat):Int):=by rw [cH V3];exact hadd
     (refine U19 ?_;refine aZ (zs:=[.int .i64 0,.int .i64 0]) (sz:=2) (e:=114) V5 O O O O O O dS<|bQ (by_:=16) (e2:=114) (l2:=[.val (.int .i64 f.kind),.val (.int .i64 (b+w*j:Nat))]) (nl:=E.length+(j+1)) O O hcl2 O O (dO _) O O V5 V5 V3 V3 O O hnc2 dS ?_;refine U13 ?_)
     exact ⟨_,_,by omega,Le.ofR [(500,70)] V1B V1 V2 V2 V0 V2 V2,j+1,by omega,O,O⟩
    ·have e:j=n:=by omega
     subst e
     have hEn:(E++(List.range j).map (fun q=>(f.kind,b+w*q))).length=E.length+j:=by simp
     refine U15 ?_
     exact ⟨_,_,by omega,Le.ofR [] (by exact ⟨rfl,by rw [hE,hEn];rfl,rfl,by rw [hA];rfl,by rw [hG];rfl,rfl,trivial⟩) (by rw [hE,hS,hEn];exact V1) V2 V2 V0 V2 V2,i+1,by omega,rfl,hall',rfl⟩
   ·have hbT:b≠T:=fun e=>hz (by rw [e];exact hR.1)
    (refine U5 ?_;refine K.rem O O V3 hrem dS ?_;refine U10 ?_)
    exact ⟨_,_,by omega,Le.of V15 V9 V2 V2 V0,b+1,by omega,by omega,O,O⟩
 ·have e:i=fs.length:=by omega
  subst e
  rw [dG] at *
  have hR:=round_facts hgw (endAt 0 fs)
  have hg8:1≤greatW fs∧greatW fs≤8:=by rcases hgw with e|e|e|e<;>omega
  have hrs:roundUp (endAt 0 fs) (greatW fs)=rowSize fs:=rfl
  have hle:=layErr_all h8 hall
  refine U12 ?_
  refine cL (fun m σ=>∃ b:Nat,endAt 0 fs≤b∧b≤rowSize fs∧m=rowSize fs-b∧σ=⟨[(6,.sv (.one (.slc 500 0 (elemsAt 0 fs).length 2))),(7,.sv (.one (.slc 501 0 fs.length 1))),(8,Ln .i64 (b:Nat)),(9,Ln .i64 (greatW fs:Nat))],[(500,some ⟨114,(elVs (elemsAt 0 fs)).map .val,Nat.blt 0 (elemsAt 0 fs).length⟩),(501,some ⟨3,(ntV (startsAt 0 fs)).map .val,Nat.blt 0 fs.length⟩)],X⟩) (rowSize fs-endAt 0 fs)
   ⟨_,Le.of V8 VE V2 V2 V0,endAt 0 fs,dO _,hR.2.1,rfl,rfl⟩ ?_
  rintro m σ ⟨b,hb1,hb2,rfl,rfl⟩
  rw [hrs] at hR
  unfold layR layBx
  rw [hle]
  generalize rowSize fs=T at *
  generalize endAt 0 fs=a at *
  generalize elemsAt 0 fs=E at *
  generalize startsAt 0 fs=S at *
  generalize greatW fs=w at *
  have hrem:((b:Nat):Int).tmod ((w:Nat):Int)=((b%w:Nat):Int):=by rw [Int.tmod_eq_emod_of_nonneg V3];exact (Int.natCast_emod b w).symm
  by_cases hz:b%w=0
  ·have hbT:=hR.2.2.2 b hb1 hb2 hz
   subst hbT
   rw [hz] at hrem
   by_cases h256:256<b
   ·rw [if_pos h256,if_neg VA,if_neg VA]
    (refine U5 ?_;refine K.rem O O V3 hrem dS ?_;refine U19 ?_)
    exact ⟨[],⟨[_,_,_,_],⟨O,O,O,O,trivial⟩,O⟩,trivial,O,O⟩
   ·rw [if_neg h256,if_pos rfl,if_pos rfl]
    (refine U5 ?_;refine K.rem O O V3 hrem dS ?_;refine U23 ?_)
    exact ⟨[(1000001,500),(1000002,501)],⟨[_,_,_,_],⟨O,O,O,O,trivial⟩,O⟩,V1,O,O⟩
  ·have hbT:b≠T:=fun e=>hz (by rw [e];exact hR.1)
   (refine U5 ?_;refine K.rem O O V3 hrem dS ?_;refine U10 ?_)
   exact ⟨_,_,by omega,Le.of V8 VE V2 V2 V0,b+1,by omega,by omega,O,O⟩
end Go.Proofs.YtopiioklkkiedaaGreatDoor
end
section
set_option maxHeartbeats 12800000
set_option maxRecDepth 100000
namespace Go.Lg.Fld
open Go Go.Lg
theorem elVs_at:∀ {l:List (Int×Nat)} {i:Nat} {e:Int×Nat},l[i]? = some e→((elVs l).map CV.val)[i*2]? = some (.val (.int .i64 e.1))∧((elVs l).map CV.val)[i*2+1]? = some (.val (.int .i64 (e.2:Nat)))
 | [],i,e,h=>by simp at h
 | d::t,0,e,h=>by
  simp only [List.getElem?_cons_zero,Option.some.injEq] at h
  subst h
  exact V30
 | d::t,i+1,e,h=>by
  have ih:=elVs_at (l:=t) (i:=i) (e:=e) V2E
  have e1:(elVs (d::t)).map CV.val = .val (.int .i64 d.1) :: .val (.int .i64 (d.2:Nat))::(elVs t).map CV.val:=rfl
  rw [e1,Nat.add_mul,Nat.one_mul]
  exact ih
def nmV (n:Bool×Int):List Value:=[.bool n.1,.int .u64 (n.2/18446744073709551616),.int .u64 (n.2%18446744073709551616)]
end Go.Lg.Fld
namespace Go.Proofs.YtopiioklkkiedaaGreatDoor
open Go Go.Lg Go.Lg.Fld
set_option maxRecDepth 100000
variable (X:Nat→Option Obj)
structure NumsIn (X:Nat→Option Obj) (ad:Option Addr) (ns:List (Bool×Int)):Prop where
 rows:Go.Lg.RowsIn X ad 3 (ns.map nmV)
 in2:∀ n∈ns,In2 n.2
theorem NumsIn.at {X:Nat→Option Obj} {ad:Option Addr} {ns:List (Bool×Int)} (h:NumsIn X ad ns) {i:Nat} {b:Bool} {N:Int} (hf:ns[i]? = some (b,N)):
  In2 N∧∃ (blk off:Nat) (arr:Array Value) (el:TypeId) (fr:Nat×Nat),ad=some ⟨blk,off,none⟩∧X blk=some (.cells arr el fr)∧off+i*3+3≤arr.size∧((arr.toList.drop (off+i*3)).take 3).map CV.val=cI b N:=by
 obtain ⟨blk,off,arr,el,fr,h1,h2,h3,h4⟩:=h.rows i (nmV (b,N)) (by rw [dM,hf];rfl)
 exact ⟨h.in2 (b,N) (dE hf),blk,off,arr,el,fr,h1,h2,h3,by rw [h4];rfl⟩
theorem Lay_ok (ad:Option Addr) (cap:Nat) (fs:List Fl) (hin:FieldsIn X ad fs) (hbig:fs.length<4611686018427387904) (h:layErr fs=0):
  MSpec Tryz.prog X 37 [Lx ad fs.length cap] [] (.tup [.one (.slc 1000001 0 (elemsAt 0 fs).length 2),Sn .i64 (rowSize fs:Nat),.one (.slc 1000002 0 fs.length 1),Sn .i64 0])
   [(1000001,some ⟨114,(elVs (elemsAt 0 fs)).map .val,Nat.blt 0 (elemsAt 0 fs).length⟩),(1000002,some ⟨3,(ntV (startsAt 0 fs)).map .val,Nat.blt 0 fs.length⟩)]:=by
 have:=Lay_spec X ad cap fs hin hbig
 unfold layR layBx at this
 rw [if_pos h,if_pos h] at this
 exact this
theorem Lay_no (ad:Option Addr) (cap:Nat) (fs:List Fl) (hin:FieldsIn X ad fs) (hbig:fs.length<4611686018427387904) (h:layErr fs≠0):
  MSpec Tryz.prog X 37 [Lx ad fs.length cap] [] (.tup [Vnil,Sn .i64 0,Vnil,Sn .i64 (layErr fs)]) []:=by
 have:=Lay_spec X ad cap fs hin hbig
 unfold layR layBx at this
 rw [if_neg h,if_neg h] at this
 exact this
theorem layErr_facts {fs:List Fl} (h:layErr fs=0):fs.length≤8∧fs.all Fl.ok=true∧rowSize fs≤256:=by
 unfold layErr at h
 split at h
 ·cases h
 ·split at h
  ·split at h
   ·cases h
   ·rename_i h1 h2 h3;exact ⟨by omega,h2,by omega⟩
  ·cases h
def fitAll (es:List (Int×Nat)) (ns:List (Bool×Int)):Bool:=(es.zip ns).all fun p=>fitB p.1.1 p.2.1 p.2.2
def fitErr (fs:List Fl) (ns:List (Bool×Int)):Int:=if layErr fs=0 then (if (elemsAt 0 fs).length=ns.length then (if fitAll (elemsAt 0 fs) ns=true then 0 else 3) else 4) else layErr fs
theorem zip_at {α β:Type} {es:List α} {ns:List β} {i:Nat} {e:α} {n:β} (h1:es[i]? = some e) (h2:ns[i]? = some n):(es.zip ns)[i]? = some (e,n):=List.getElem?_zip_eq_some.2 ⟨h1,h2⟩
set_option maxHeartbeats 1600000 in
theorem refFit_spec (ad ad2:Option Addr) (cap cap2:Nat) (fs:List Fl) (ns:List (Bool×Int)) (hin:FieldsIn X ad fs) (hbig:fs.length<4611686018427387904) (hns:NumsIn X ad2 ns) (hnb:ns.length<4611686018427387904):
  PSpec Tryz.prog X 36 [Lx ad fs.length cap,Lx ad2 ns.length cap2] (Ln .i64 (fitErr fs ns)):=by
 refine cF Tryz.func36 rfl V5 rfl rfl ?_
 intro C
 unfold fitErr
 by_cases hl:layErr fs=0
 ·have hL:=Lay_ok X ad cap fs hin hbig hl
  obtain ⟨h8,hall,_⟩:=layErr_facts hl
  have hEl:=elems_len fs 0 hall
  rw [if_pos hl]
  generalize elemsAt 0 fs=E at *
  generalize startsAt 0 fs=S at *
  generalize rowSize fs=T at *
  by_cases hn:E.length=ns.length
  ·rw [if_pos hn]
   (refine U7 ?_;refine bE [(1000001,501),(1000002,502)] (.tup [.one (.slc 501 0 E.length 2),Sn .i64 (T:Nat),.one (.slc 502 0 fs.length 1),Sn .i64 0]) [(501,some ⟨114,(elVs E).map .val,Nat.blt 0 E.length⟩),(502,some ⟨3,(ntV S).map .val,Nat.blt 0 fs.length⟩)] (hL) O O VC O O O O O V1D dS ?_;refine U35 ?_)
   refine cL (fun m σ=>∃ i:Nat,i≤E.length∧m=E.length-i∧((E.zip ns).take i).all (fun p=>fitB p.1.1 p.2.1 p.2.2)=true∧σ=⟨[(1,Lx ad2 ns.length cap2),(5,.sv (.one (.slc 501 0 E.length 2))),(9,Ln .i64 (i:Nat))],[(501,some ⟨114,(elVs E).map .val,Nat.blt 0 E.length⟩)],X⟩) E.length
    ⟨_,Le.of V9 V13 V2 V2 V0,0,by omega,rfl,rfl,rfl⟩ ?_
   rintro m σ ⟨i,hi,rfl,hpre,rfl⟩
   by_cases hlt:i<E.length
   ·obtain ⟨e,he⟩:=wg hlt
    obtain ⟨⟨b,N⟩,hv⟩:∃ v,ns[i]? = some v:=wg V3
    obtain ⟨hN,blk,off,arr,el,fr,rfl,hX,hsz,hcells⟩:=hns.at hv
    have hio:=wo off i 3
    have hie:0+Int.toNat (i:Int)*2=i*2:=by simp
    have hc:=(elVs_at he).1
    have hzip:=zip_at he hv
    have hF:=refFits_spec X e.1 b N hN
    cases hf:fitB e.1 b N with
    | true =>
     have hF':=hF true hf
     (refine U13 ?_;refine rgD mixed ?_;refine U4 ?_;refine kl1 rfl rfl hc ?_;refine U15 ?_)
     exact ⟨_,_,by omega,Le.of V9 V13 V2 V2 V0,i+1,by omega,rfl,by rw [take_snoc hzip,List.all_append,hpre];simp [hf],rfl⟩
    | false =>
     have hF':=hF false hf
     have hno:fitAll E ns=false:=by
      unfold fitAll
      cases h:(E.zip ns).all (fun p=>fitB p.1.1 p.2.1 p.2.2) with
      | false=>rfl
      | true=>have:=List.all_eq_true.1 h _ (dE hzip);rw [hf] at this;cases this
     rw [hno]
     (refine U13 ?_;refine rgD mixed ?_;refine U4 ?_;refine kl1 rfl rfl hc ?_;refine U14 ?_)
     exact V6
   ·have e:i=E.length:=by omega
    subst e
    have hyes:fitAll E ns=true:=by
     rw [List.take_of_length_le (by rw [List.length_zip];omega)] at hpre
     exact hpre
    rw [hyes]
    refine U15 ?_
    exact V6
  ·rw [if_neg hn]
   (refine U7 ?_;refine bE [(1000001,501),(1000002,502)] (.tup [.one (.slc 501 0 E.length 2),Sn .i64 (T:Nat),.one (.slc 502 0 fs.length 1),Sn .i64 0]) [(501,some ⟨114,(elVs E).map .val,Nat.blt 0 E.length⟩),(502,some ⟨3,(ntV S).map .val,Nat.blt 0 fs.length⟩)] (hL) O O VC O O O O O V1D dS ?_;refine U33 ?_)
   exact V6
 ·have hL:=Lay_no X ad cap fs hin hbig hl
  rw [if_neg hl]
  generalize layErr fs=e at *
  (refine U7 ?_;refine aU [] [] (hL) O O VC O O O O O V2B dS ?_;refine U23 ?_)
  exact V6
end Go.Proofs.YtopiioklkkiedaaGreatDoor
end
section
set_option maxHeartbeats 12800000
set_option maxRecDepth 100000
namespace Go.Lg.Fld
open Go Go.Lg
def setAt (b:List UInt8) (p:Nat) (s:List UInt8):List UInt8:=b.take p++s++b.drop (p+s.length)
theorem setAt_len {b s:List UInt8} {p:Nat} (h:p+s.length≤b.length):(setAt b p s).length=b.length:=by
 simp only [setAt,cW,dA,dC];omega
end Go.Lg.Fld
namespace Go.Proofs.YtopiioklkkiedaaGreatDoor
open Go Go.Lg Go.Lg.Fld
set_option maxRecDepth 100000
variable (X:Nat→Option Obj)
def numB (k:Int) (n:Bool×Int):List UInt8:=leB (kW k) (wdK k (zv n.1 n.2))
def packE:List (Int×Nat)→List (Bool×Int)→List UInt8→List UInt8
 | e::t,v::u,b=>packE t u (setAt b e.2 (numB e.1 v))
 | _,_,b=>b
theorem packE_snoc (e:Int×Nat) (v:Bool×Int):∀ (l:List (Int×Nat)) (m:List (Bool×Int)) (b:List UInt8),l.length=m.length→packE (l++[e]) (m++[v]) b=setAt (packE l m b) e.2 (numB e.1 v)
 | [],[],b,_=>rfl
 | e'::t,v'::u,b,h=>packE_snoc e v t u _ V2E
 | [],_::_,_,h=>by simp at h
 | _::_,[],_,h=>by simp at h
def Within (es:List (Int×Nat)) (T:Nat):Prop := ∀ e∈es,kK e.1=true∧e.2+kW e.1≤T
theorem elems_in:∀ (l:List Fl) (a:Nat),l.all Fl.ok=true→∀ e∈elemsAt a l,kK e.1=true∧a≤e.2∧e.2+kW e.1≤endAt a l
 | [],a,_,e,he=>by simp [elemsAt] at he
 | f::t,a,h,e,he=>by
  simp only [List.all_cons,Bool.and_eq_true] at h
  obtain ⟨hw,h1,h8,hc⟩:=ok_w h.1
  have hr:=round_facts hw a
  have hi:=end_le t (roundUp a f.w+f.w*f.n) h.2
  simp only [elemsAt,List.mem_append,List.mem_map,List.mem_range] at he
  rcases he with ⟨i,hin,rfl⟩|he
  ·have hk:kK f.kind=true:=by have:=h.1;simp only [Fl.ok,Bool.and_eq_true] at this;exact this.1
   have hm:f.w*i+f.w≤f.w*f.n:=by rw [← Nat.mul_succ];exact Nat.mul_le_mul_left _ hin
   refine ⟨hk,by simp only;omega,?_⟩
   show roundUp a f.w+f.w*i+f.w≤endAt (roundUp a f.w+f.w*f.n) t
   omega
  ·have:=elems_in t _ h.2 e he
   refine ⟨this.1,by omega,?_⟩
   exact this.2.2
theorem within_row {fs:List Fl} (h:fs.all Fl.ok=true):Within (elemsAt 0 fs) (rowSize fs):=fun e he=>by
 have h1:=elems_in fs 0 h e he
 have h2:=round_facts (great_wd fs h) (endAt 0 fs)
 refine ⟨h1.1,Nat.le_trans h1.2.2 h2.2.1⟩
theorem numB_len (k:Int) (n:Bool×Int):(numB k n).length=kW k:=leB_length _ _
theorem packE_len {T:Nat}:∀ {es:List (Int×Nat)} {ns:List (Bool×Int)} {b:List UInt8},Within es T→b.length=T→(packE es ns b).length=T
 | [],_,b,_,hb=>hb
 | _::_,[],b,_,hb=>hb
 | e::t,v::u,b,hw,hb=>by
  have h1:=(hw e V21).2
  exact packE_len (es:=t) (ns:=u) (fun x hx=>hw x (by simp [hx])) (by rw [setAt_len (by rw [numB_len];omega)];exact hb)
def packB (fs:List Fl) (ns:List (Bool×Int)):List UInt8:=packE (elemsAt 0 fs) ns (List.replicate (rowSize fs) 0)
theorem fitErr_facts {fs:List Fl} {ns:List (Bool×Int)} (h:fitErr fs ns=0):layErr fs=0∧(elemsAt 0 fs).length=ns.length∧fitAll (elemsAt 0 fs) ns=true:=by
 unfold fitErr at h
 split at h
 ·rename_i h0
  split at h
  ·rename_i h1
   split at h
   ·rename_i h2;exact ⟨h0,h1,h2⟩
   ·cases h
  ·cases h
 ·contradiction
theorem fitAll_at {es:List (Int×Nat)} {ns:List (Bool×Int)} (h:fitAll es ns=true) {i:Nat} {e:Int×Nat} {b:Bool} {N:Int} (he:es[i]? = some e) (hv:ns[i]? = some (b,N)):formB b N=true∧kK e.1=true∧fitZ e.1 (zv b N)=true:=by
 have:=List.all_eq_true.1 h _ (dE (zip_at he hv))
 simp only [fitB,Bool.and_eq_true] at this
 exact ⟨this.2.1,this.1,this.2.2⟩
end Go.Proofs.YtopiioklkkiedaaGreatDoor
end
section
set_option maxHeartbeats 12800000
set_option maxRecDepth 100000
namespace Go.Proofs.YtopiioklkkiedaaGreatDoor
open Go Go.Lg Go.Lg.Fld
set_option maxRecDepth 100000
variable (X:Nat→Option Obj)
def qn (z:Int):Bool×Int:=(decide (z<0),mg z)
theorem zv_qn (z:Int):zv (qn z).1 (qn z).2=z:=by
 unfold qn zv mg
 by_cases h:z<0
 ·simp [h]
 ·simp [h]
def rdE (s:List UInt8) (e:Int×Nat):Int:=nbK e.1 (le ((s.drop e.2).take (kW e.1)))
def readOk (es:List (Int×Nat)) (s:List UInt8):Bool:=es.all fun e=>fitZ e.1 (rdE s e)
def unpZ (fs:List Fl) (s:List UInt8):List Int:=(elemsAt 0 fs).map (rdE s)
def unpOk (fs:List Fl) (s:List UInt8):Bool:=decide (s.length=rowSize fs)&&(readOk (elemsAt 0 fs) s&&(packB fs ((unpZ fs s).map qn)==s))
def unpErr (fs:List Fl) (s:List UInt8):Int:=if layErr fs=0 then (if unpOk fs s=true then 0 else 4) else layErr fs
def nsV (zs:List Int):List Value:=(zs.map fun z=>nmV (qn z)).flatten
theorem nsV_len (zs:List Int):(nsV zs).length=zs.length*3:=by
 induction zs with
 | nil=>rfl
 | cons z t ih=>simp only [nsV,List.map_cons,List.flatten_cons,cW] at ih ⊢;rw [ih];simp [nmV];omega
theorem read_R {es:List (Int×Nat)} {s:List UInt8} {T:Nat} (hW:Within es T) (hs:s.length=T) {e:Int×Nat} (he:e∈es):((s.drop e.2).take (kW e.1)).length=kW e.1∧R127 (rdE s e):=by
 have h:=hW e he
 have hl:((s.drop e.2).take (kW e.1)).length=kW e.1:=by rw [dA,dC];omega
 refine ⟨hl,?_⟩
 have hb:=le_lt ((s.drop e.2).take (kW e.1))
 rw [hl] at hb
 exact nb_R h.1 hb
theorem nums_in2 {zs:List Int} (h:∀ z∈zs,R127 z):∀ n∈zs.map qn,In2 n.2:=fun n hn=>by
 obtain ⟨z,hz,rfl⟩:=List.mem_map.1 hn
 exact mg_in2 (h z hz)
def unpR (fs:List Fl) (s:List UInt8):LV:=if unpErr fs s=0 then .tup [.one (.slc 1000001 0 (unpZ fs s).length 3),Sn .i64 0] else .tup [Vnil,Sn .i64 (unpErr fs s)]
end Go.Proofs.YtopiioklkkiedaaGreatDoor
end
section
set_option maxHeartbeats 12800000
set_option maxRecDepth 100000
namespace Go.Lg.Fld
open Go Go.Lg
def elemsN (fs:List Fl):Nat:=if layErr fs=0 then (elemsAt 0 fs).length else 0
def sumC (fs:List Fl):Nat:=(fs.map Fl.n).sum
def startN (fs:List Fl) (i:Int):Nat:=if layErr fs=0∧0≤i∧i<fs.length then sumC (fs.take i.toNat) else 0
abbrev planV (size:Int) (c:CV):SV:=.agg [.val (.int .i64 size),c]
theorem elems_sum:∀ (l:List Fl) (a:Nat),(elemsAt a l).length=sumC l
 | [],_=>rfl
 | f::t,a=>by
  simp only [elemsAt,cW,cX,List.length_range,elems_sum t]
  simp [sumC]
theorem sum_snoc (l:List Fl) (f:Fl):sumC (l++[f])=sumC l+f.n:=by simp [sumC]
theorem sum_le:∀ (l:List Fl),l.all Fl.ok=true→sumC l≤8*l.length:=fun l h=>by
 have:=(elems_len l 0 h).2
 rw [elems_sum] at this
 exact this
def canB (fs:List Fl):Bool:=decide (fs.length≤8)&&fs.all Fl.ok
theorem canB_err {fs:List Fl} (h:canB fs=false):layErr fs=1:=by
 unfold canB at h
 unfold layErr
 by_cases h8:8<fs.length
 ·rw [if_pos h8]
 ·rw [if_neg h8]
  rw [cP (show fs.length≤8 by omega),Bool.true_and] at h
  rw [h,if_neg (by simp)]
theorem canB_ok {fs:List Fl} (h:canB fs=true):fs.length≤8∧fs.all Fl.ok=true∧layErr fs=if 256<rowSize fs then 5 else 0:=by
 unfold canB at h
 rw [Bool.and_eq_true,decide_eq_true_eq] at h
 refine ⟨h.1,h.2,?_⟩
 unfold layErr
 rw [if_neg (by omega),if_pos h.2]
theorem round_up {n:Nat} (h:isWd n) (a:Nat):(a+n-1)/n*n=roundUp a n:=by
 unfold roundUp
 rcases h with rfl|rfl|rfl|rfl<;>omega
def blankB (l:List UInt8):Bool:=l.all fun c=>c==0
theorem dropWhile_nil {l:List UInt8}:l.dropWhile (· == (0:UInt8))=[]↔l.all (fun c=>c==0)=true:=by
 induction l with
 | nil=>simp
 | cons c t ih =>
  rw [List.dropWhile_cons]
  cases hc:(c==0) with
  | true=>rw [if_pos rfl,ih,List.all_cons,hc,Bool.true_and]
  | false=>rw [if_neg V21,List.all_cons,hc,Bool.false_and];simp
theorem trim_blank (l:List UInt8):(Lib.trimB l 0==[])=blankB l:=by
 unfold blankB
 have h1:Lib.trimB l 0=[]↔l.all (fun c=>c==0)=true:=by
  unfold Lib.trimB Lib.trimLeftB Lib.trimRightB
  rw [dropWhile_nil,List.all_reverse]
  constructor
  ·intro h
   have h2:l.reverse.dropWhile (· == (0:UInt8))=[]:=by
    cases e:l.reverse.dropWhile (· == (0:UInt8)) with
    | nil=>rfl
    | cons c t =>
     have h3:=List.head_dropWhile_not (fun x=>x==(0:UInt8)) (l:=l.reverse) (by rw [e];simp)
     rw [e] at h
     simp only [List.all_cons,Bool.and_eq_true] at h
     simp only [e,List.head_cons] at h3
     rw [h.1] at h3
     cases h3
   rw [dropWhile_nil,List.all_reverse] at h2
   exact h2
  ·intro h
   have h2:l.reverse.dropWhile (· == (0:UInt8))=[]:=by rw [dropWhile_nil,List.all_reverse];exact h
   rw [h2];rfl
 cases hb:l.all (fun c=>c==0) with
 | true=>rw [h1.2 hb];rfl
 | false =>
  refine cS fun e => ?_
  rw [h1.1 e] at hb
  cases hb
end Go.Lg.Fld
namespace Go.Proofs.YtopiioklkkiedaaGreatDoor
open Go Go.Lg Go.Lg.Fld
set_option maxRecDepth 100000
variable (X:Nat→Option Obj)
theorem trimRight_spec (l:List UInt8) (hl:l.length<4611686018427387904):PSpec Tryz.prog X 163 [Ls l,Ln .u8 0] (Ls (Lib.trimRightB l 0)):=by
 refine cF Tryz.func163 rfl V5 rfl rfl ?_
 intro C
 refine U6 ?_
 refine cL (fun m σ=>∃ k:Nat,k≤l.length∧m=k∧(∀ (j:Nat) b,k≤j→l[j]? = some b→b=0)∧σ=⟨[(0,Ls (l.take k)),(1,Ln .u8 0)],[],X⟩) l.length
  ⟨_,Le.of (by exact ⟨by rw [dG];rfl,rfl,trivial⟩) VC V2 V2 V2,l.length,by omega,rfl,(fun j b hj hb=>by rw [List.getElem?_eq_none hj] at hb;cases hb),rfl⟩ ?_
 rintro m σ ⟨k,hk,rfl,hz,rfl⟩
 have hlen:(⟨(l.take m).toArray⟩:ByteArray).size=m:=by show (l.take m).length=m;rw [dA];omega
 by_cases h0:m=0
 ·subst h0
  rw [Lib.trimRightB_take l 0 0 hk hz (fun _ h=>absurd h (by omega))]
  refine U24 ?_
  exact V6
 ·obtain ⟨c,hc⟩:∃ c,l[m-1]? = some c:=wg V3
  have hc':(l.take m)[m-1]? = some c:=by rw [List.getElem?_take,if_pos V3];exact hc
  have hm1:((m:Nat):Int)-1=((m-1:Nat):Int):=by omega
  have hw:IntKind.i64.wrap (((⟨(l.take m).toArray⟩:ByteArray).size:Nat)-1:Int)=((m-1:Nat):Int):=by rw [hlen,cH V3];omega
  by_cases hcz:c=0
  ·have hcut:(⟨(l.take m).toArray⟩:ByteArray).extract 0 (m-1)=⟨(l.take (m-1)).toArray⟩:=by rw [str_cut,List.drop_zero,List.take_take];congr 3;omega
   have hz':∀ (j:Nat) b,m-1≤j→l[j]? = some b→b=0:=fun j b hj hb=>by
    by_cases e:j=m-1
    ·subst e;rw [hc] at hb;cases hb;exact hcz
    ·exact hz j b V3 hb
   have heq:(((c.toNat:Nat):Int)==0)=true:=by rw [hcz];rfl
   (refine U5 ?_;refine aS O O (cP V22) dS ?_;refine U3 ?_;refine K.lenStr O (dT O O) ?_;refine bA O O hw (dT O O) ?_;refine bB O O V3 (str_at (by rw [dH];exact hc')) (dT O O) ?_;refine U12 ?_;refine bN (l:=0) (h:=m-1) (kl:=.i64) (kh:=.i64) O StrT.u O O ⟨V3,V3⟩ hcut dS ?_;refine U2 ?_)
   exact ⟨m-1,_,by omega,Le.of VE VC V2 V2 V2,m-1,by omega,O,hz',O⟩
  ·have heq:(((c.toNat:Nat):Int)==0)=false:=cS fun e=>hcz (by
    have h5:c.toNat=0:=by omega
    exact UInt8.toNat_inj.1 h5)
   rw [Lib.trimRightB_take l 0 m hk hz (fun b _ hb=>by rw [hc] at hb;cases hb;exact hcz)]
   (refine U5 ?_;refine aS O O (cP V22) dS ?_;refine U3 ?_;refine K.lenStr O (dT O O) ?_;refine bA O O hw (dT O O) ?_;refine bB O O V3 (str_at (by rw [dH];exact hc')) (dT O O) ?_;refine U12 ?_)
   exact V6
theorem trimLeft_spec (l:List UInt8) (hl:l.length<4611686018427387904):PSpec Tryz.prog X 162 [Ls l,Ln .u8 0] (Ls (Lib.trimLeftB l 0)):=by
 refine cF Tryz.func162 rfl V5 rfl rfl ?_
 intro C
 refine U6 ?_
 refine cL (fun m σ=>∃ k:Nat,k≤l.length∧m=l.length-k∧(∀ (j:Nat) b,j<k→l[j]? = some b→b=0)∧σ=⟨[(0,Ls (l.drop k)),(1,Ln .u8 0)],[],X⟩) l.length
  ⟨_,Le.of VE VC V2 V2 V2,0,by omega,rfl,(fun j b hj=>absurd hj V3),rfl⟩ ?_
 rintro m σ ⟨k,hk,rfl,hz,rfl⟩
 have hlen:(⟨(l.drop k).toArray⟩:ByteArray).size=l.length-k:=by show (l.drop k).length=_;rw [dC]
 by_cases h0:k=l.length
 ·subst h0
  rw [Lib.trimLeftB_drop l 0 l.length hk hz (fun b hb=>by rw [List.getElem?_eq_none (dO _)] at hb;cases hb)]
  (refine U5 ?_;refine aS O O (cO V22) dS ?_;refine U15 ?_)
  exact V6
 ·obtain ⟨c,hc⟩:∃ c,l[k]? = some c:=wg V3
  have hc':(l.drop k)[0]? = some c:=by rw [List.getElem?_drop];exact hc
  by_cases hcz:c=0
  ·have hcut:(⟨(l.drop k).toArray⟩:ByteArray).extract 1 (l.length-k)=⟨(l.drop (k+1)).toArray⟩:=by rw [str_cut,List.drop_drop,List.take_of_length_le (by rw [dC];omega)]
   have hz':∀ (j:Nat) b,j<k+1→l[j]? = some b→b=0:=fun j b hj hb=>by
    by_cases e:j=k
    ·subst e;rw [hc] at hb;cases hb;exact hcz
    ·exact hz j b V3 hb
   have heq:(((c.toNat:Nat):Int)==0)=true:=by rw [hcz];rfl
   (refine U5 ?_;refine aS O O (cP V22) dS ?_;refine U2 ?_;refine bB O O V3 (str_at hc') (dT O O) ?_;refine U9 ?_;refine bN (l:=1) (h:=l.length-k) (kl:=.i64) (kh:=.i64) O StrT.u O hlen.symm ⟨V3,V22⟩ hcut dS ?_;refine U2 ?_)
   exact ⟨_,_,by omega,Le.of VE VC V2 V2 V2,k+1,by omega,O,hz',O⟩
  ·have heq:(((c.toNat:Nat):Int)==0)=false:=cS fun e=>hcz (by
    have h5:c.toNat=0:=by omega
    exact UInt8.toNat_inj.1 h5)
   rw [Lib.trimLeftB_drop l 0 k hk hz (fun b hb=>by rw [hc] at hb;cases hb;exact hcz)]
   (refine U5 ?_;refine aS O O (cP V22) dS ?_;refine U2 ?_;refine bB O O V3 (str_at hc') (dT O O) ?_;refine U12 ?_)
   exact V6
theorem trimRight_len (l:List UInt8):(Lib.trimRightB l 0).length≤l.length:=by
 unfold Lib.trimRightB
 rw [List.length_reverse]
 exact Nat.le_trans (List.dropWhile_sublist _).length_le (by rw [List.length_reverse];exact dO _)
theorem trim_spec (l:List UInt8) (hl:l.length<4611686018427387904):PSpec Tryz.prog X 122 [Ls l,Ls [0]] (Ls (Lib.trimB l 0)):=by
 refine cF Tryz.func122 rfl V5 rfl rfl ?_
 intro C
 by_cases h:l=[]
 ·subst h
  (refine U8 ?_;refine kse rfl rfl (strs_eq (r:=true) VA) ?_;refine U12 ?_)
  exact V6
 ·have hR:=trimRight_spec X l hl
  have hL:=trimLeft_spec X (Lib.trimRightB l 0) (Nat.lt_of_le_of_lt (trimRight_len l) hl)
  (refine U8 ?_;refine kse O O (strs_eq (r:=false) (cS h)) ?_;refine U2 ?_;refine K.strEq O O (strs_eq (r:=false) VA) (dT O O) ?_;refine U9 ?_;refine keq O O O ?_;refine U2 ?_;refine bB O O V3 (str_at O) (dT O O) ?_;refine bK O O O (dT O O) ?_;refine U4 ?_;refine rgD mixed ?_;refine U2 ?_;refine bB O O V3 (str_at O) dS ?_;refine U2 ?_;refine bB O O V3 (str_at O) dS ?_;refine U5 ?_)
  exact V6
theorem isBlank_spec (l:List UInt8) (hl:l.length<4611686018427387904) (r:Bool) (hr:blankB l=r):PSpec Tryz.prog X 82 [Ls l] (Lb r):=by
 subst hr
 have hT:=trim_spec X l hl
 rw [← trim_blank]
 refine cF Tryz.func82 rfl V5 rfl rfl ?_
 intro C
 (refine U8 ?_;refine kse rfl rfl (strs_eq rfl) ?_;refine U3 ?_)
 exact V6
theorem multipleFrom_spec (a w:Nat) (hw:isWd w) (ha:a<1000000):PSpec Tryz.prog X 117 [Ln .i64 (a:Nat),Ln .i64 (w:Nat)] (Ln .i64 (roundUp a w:Nat)):=by
 rw [← round_up hw]
 have hw8:1≤w∧w≤8:=by rcases hw with e|e|e|e<;>omega
 have hq:((a+w-1:Nat):Int)/((w:Nat):Int)=(((a+w-1)/w:Nat):Int):=(Int.natCast_ediv _ _).symm
 have hs:IntKind.i64.wrap ((a:Nat)+(w:Nat)-1:Int)=((a+w-1:Nat):Int):=by rw [cH V3];omega
 have hd:IntKind.i64.wrap (((a+w-1:Nat):Int).tdiv ((w:Nat):Int))=(((a+w-1)/w:Nat):Int):=by rw [quo_i64 V3 V3];exact hq
 have hb:(a+w-1)/w*w≤a+w-1:=Nat.div_mul_le_self _ _
 have hm:IntKind.i64.wrap ((((a+w-1)/w:Nat):Int)*((w:Nat):Int))=(((a+w-1)/w*w:Nat):Int):=by
  rw [← Int.natCast_mul,cH (by omega)]
 refine cF Tryz.func117 rfl V5 rfl rfl ?_
 intro C
 (refine U11 ?_;refine K.quo O O V3 hd dS<|kmv O<|bL O O hm dS ?_;refine U3 ?_)
 exact V6
theorem sumOfCounts_spec (ad:Option Addr) (cap:Nat) (fs:List Fl) (hin:FieldsIn X ad fs) (h8:fs.length≤8) (hall:fs.all Fl.ok=true):PSpec Tryz.prog X 69 [Lx ad fs.length cap] (Ln .i64 (sumC fs:Nat)):=by
 refine cF Tryz.func69 rfl V5 rfl rfl ?_
 intro C
 refine U16 ?_
 refine cL (fun m σ=>∃ i:Nat,i≤fs.length∧m=fs.length-i∧σ=⟨[(3,Ln .i64 (sumC (fs.take i):Nat)),(6,Lx ad fs.length cap),(7,Ln .i64 (fs.length:Nat)),(8,Ln .i64 (i:Nat))],[],X⟩) fs.length
  ⟨_,Le.of V8 VC V2 V2 V2,0,by omega,by omega,rfl⟩ ?_
 rintro m σ ⟨i,hi,rfl,rfl⟩
 have hs:=sum_le (fs.take i) (by rw [List.all_eq_true] at hall ⊢;exact fun f hf=>hall f (List.mem_of_mem_take hf))
 rw [dA] at hs
 by_cases hlt:i<fs.length
 ·obtain ⟨f,hf⟩:=wg hlt
  obtain ⟨blk,off,arr,el,fr,rfl,hX,hsz,hcells⟩:=hin.at hf
  have hio:=wo off i 3
  obtain ⟨hw,hn1,hn8,hnc⟩:=ok_w (List.all_eq_true.1 hall f (dE hf))
  have hfc:f.vals.map CV.val=[.val (.string ⟨f.nm.toArray⟩),.val (.int .i64 f.kind),.val (.int .i64 (f.n:Nat))]:=by rw [hnc];rfl
  rw [hfc] at hcells
  have hadd:IntKind.i64.wrap (((sumC (fs.take i):Nat):Int)+((f.n:Nat):Int))=((sumC (fs.take (i+1)):Nat):Int):=by
   rw [take_snoc hf,sum_snoc,cH (by omega)];omega
  refine U27 ?_
  exact ⟨_,_,by omega,Le.of V8 VC V2 V2 V2,i+1,by omega,O,O⟩
 ·have e:i=fs.length:=by omega
  subst e
  rw [dG]
  refine U13 ?_
  exact V6
end Go.Proofs.YtopiioklkkiedaaGreatDoor
end
section
set_option maxHeartbeats 12800000
set_option maxRecDepth 100000
namespace Go.Lg.Fld
open Go Go.Lg
theorem take_ok {fs:List Fl} (h:fs.all Fl.ok=true) (i:Nat):(fs.take i).all Fl.ok=true:=by
 rw [List.all_eq_true] at h ⊢
 exact fun f hf=>h f (List.mem_of_mem_take hf)
theorem drop_at {α:Type} {l:List α} {i:Nat} {x:α} (h:l[i]? = some x):l.drop i=x::l.drop (i+1):=by
 obtain ⟨hi,e⟩:=List.getElem?_eq_some_iff.1 h
 rw [List.drop_eq_getElem_cons hi,e]
theorem fill_set {α:Type} {S:List α} {z x:α} {n i:Nat} (hS:S.length=i) (hi:i<n):(S++List.replicate (n-i) z).set i x=(S++[x])++List.replicate (n-(i+1)) z:=by
 rw [List.set_append_right _ _ (by omega),hS,Nat.sub_self]
 have:n-i=(n-(i+1))+1:=by omega
 rw [this,List.replicate_succ,List.set_cons_zero,dN]
 rfl
theorem fill_at {α:Type} {S:List α} {z x:α} {n i:Nat} (hS:S.length=i):((S++[x])++List.replicate n z)[i]? = some x:=by
 rw [dN,List.getElem?_append_right (by omega),hS,Nat.sub_self]
 rfl
theorem fields_take {X:Nat→Option Obj} {ad:Option Addr} {fs:List Fl} (h:FieldsIn X ad fs) (i:Nat):FieldsIn X ad (fs.take i):=
 ⟨fun j r hr=>h.rows j r (by
  rw [List.map_take,List.getElem?_take] at hr
  split at hr
  ·exact hr
  ·cases hr),fun f hf=>h.small f (List.mem_of_mem_take hf)⟩
end Go.Lg.Fld
namespace Go.Proofs.YtopiioklkkiedaaGreatDoor
open Go Go.Lg Go.Lg.Fld
set_option maxRecDepth 100000
variable (X:Nat→Option Obj)
theorem canBe_spec (ad:Option Addr) (cap:Nat) (fs:List Fl) (hin:FieldsIn X ad fs) (hbig:fs.length<4611686018427387904) (r:Bool) (hr:canB fs=r):PSpec Tryz.prog X 115 [Lx ad fs.length cap] (Lb r):=by
 subst hr
 refine cF Tryz.func115 rfl V5 rfl rfl ?_
 intro C
 by_cases hlong:8<fs.length
 ·have hc:canB fs=false:=by unfold canB;rw [cO V3,Bool.false_and]
  rw [hc]
  refine U17 ?_
  exact V6
 have h8:fs.length≤8:=by omega
 have hcb:canB fs=fs.all Fl.ok:=by unfold canB;rw [cP h8,Bool.true_and]
 rw [hcb]
 refine U21 ?_
 refine cL (fun m σ=>∃ i:Nat,i≤fs.length∧m=fs.length-i∧(fs.take i).all Fl.ok=true∧σ=⟨[(8,Lx ad fs.length cap),(9,Ln .i64 (fs.length:Nat)),(10,Ln .i64 (i:Nat))],[],X⟩) fs.length
  ⟨_,Le.of V9 VC V2 V2 V2,0,by omega,by omega,rfl,rfl⟩ ?_
 rintro m σ ⟨i,hi,rfl,hall,rfl⟩
 by_cases hlt:i<fs.length
 ·obtain ⟨f,hf⟩:=wg hlt
  obtain ⟨blk,off,arr,el,fr,rfl,hX,hsz,hcells⟩:=hin.at hf
  have hio:=wo off i 3
  have hmem:f∈fs:=dE hf
  have hsm:=hin.small f hmem
  have hB:=fSize_spec X f.kind
  cases hok:f.ok with
  | false =>
   have hno:fs.all Fl.ok=false:=by
    cases e:fs.all Fl.ok with
    | false=>rfl
    | true=>rw [List.all_eq_true.1 e f hmem] at hok;cases hok
   rw [hno]
   by_cases h0:kW f.kind=0
   ·rw [h0] at hB
    refine U39 ?_
    exact V6
   ·have hk:kK f.kind=true:=by
     cases e:kK f.kind with
     | true=>rfl
     | false=>exact absurd ((kW_zero f.kind).2 e) h0
    by_cases h1:f.count<1
    ·(refine U25 ?_;refine bK O O (cP V3) (dT O O) ?_;refine U13 ?_)
     exact V6
    ·have h2:8<f.count:=by
      unfold Fl.ok at hok
      rw [hk,cP (show 1≤f.count by omega)] at hok
      simpa using hok
     refine U39 ?_
     exact V6
  | true =>
   have hall':=take_all hall hf hok
   obtain ⟨hw,hn1,hn8,hnc⟩:=ok_w hok
   have hw1:1≤kW f.kind:=by have hwk:kW f.kind=f.w:=rfl;rcases hw with e|e|e|e<;>omega
   refine U39 ?_
   exact ⟨_,_,by omega,Le.of V9 VC V2 V2 V2,i+1,by omega,O,hall',O⟩
 ·have e:i=fs.length:=by omega
  subst e
  rw [dG] at hall
  rw [hall]
  refine U12 ?_
  exact V6
theorem Of_no (ad:Option Addr) (cap:Nat) (fs:List Fl) (hin:FieldsIn X ad fs) (hbig:fs.length<4611686018427387904) (h:canB fs=false):
  PSpec Tryz.prog X 78 [Lx ad fs.length cap] (.tup [planV 0 (.val (.slice none 0 0)),Sn .i64 1]):=by
 have hc:=canBe_spec X ad cap fs hin hbig false h
 refine cF Tryz.func78 rfl V5 rfl rfl ?_
 intro C
 refine U20 ?_
 exact V4
def ofR (fs:List Fl):LV:=if layErr fs=0 then .tup [planV (rowSize fs:Nat) (.slc 1000001 0 fs.length 1),Sn .i64 0] else .tup [planV 0 (.val (.slice none 0 0)),Sn .i64 (layErr fs)]
def ofBx (fs:List Fl):List (Nat×Option Box):=if layErr fs=0 then [(1000001,some ⟨3,(ntV (startsAt 0 fs)).map .val,false⟩)] else []
set_option maxHeartbeats 3200000 in
theorem Of_can (ad:Option Addr) (cap:Nat) (fs:List Fl) (hin:FieldsIn X ad fs) (hbig:fs.length<4611686018427387904) (h:canB fs=true):
  MSpec Tryz.prog X 78 [Lx ad fs.length cap] [] (ofR fs) (ofBx fs):=by
 have hc:=canBe_spec X ad cap fs hin hbig true h
 obtain ⟨h8,hall,hle⟩:=canB_ok h
 refine cG Tryz.func78 rfl V5 rfl (by unfold ofR ofBx;split<;>rfl) (by unfold ofBx;split<;>exact V0) rfl rfl ?_
 intro C
 have hmk:slcBuild Tryz.prog 103 fs.length=some (List.replicate fs.length (.int .i64 0),1,3):=slcBuild_one V5 V5 V3
 (refine U18 ?_;refine K.makeSlc (m:=fs.length) (bytes:=8) O O hmk V5 V3 O O dS ?_;refine U15 ?_)
 refine cL (fun m σ=>∃ i:Nat,i≤fs.length∧m=fs.length-i∧σ=⟨[(2,.sv (.one (.ptr 2 0))),(4,.sv (.one (.slc 17 0 fs.length 1))),(5,Ln .i64 (endAt 0 (fs.take i):Nat)),(6,Ln .i64 (greatW (fs.take i):Nat)),(18,Lx ad fs.length cap),(19,Ln .i64 (fs.length:Nat)),(20,Ln .i64 (i:Nat))],[(2,some ⟨155,[.val (.int .i64 0),.val (.slice none 0 0)],false⟩),(17,some ⟨3,(ntV (startsAt 0 (fs.take i))++List.replicate (fs.length-i) (Value.int .i64 0)).map .val,false⟩)],X⟩) fs.length
  ⟨_,Le.of V14 VE V2 V2 V0,0,by omega,by omega,rfl⟩ ?_
 rintro m σ ⟨i,hi,rfl,rfl⟩
 have ht:=take_ok hall i
 have hSl:=starts_len (fs.take i) 0
 have hend:=end_le (fs.take i) 0 ht
 have hgw:=great_wd (fs.take i) ht
 have htl:(fs.take i).length=i:=by rw [dA];omega
 rw [htl] at hSl hend
 by_cases hlt:i<fs.length
 ·obtain ⟨f,hf⟩:=wg hlt
  obtain ⟨blk,off,arr,el,fr,rfl,hX,hsz,hcells⟩:=hin.at hf
  have hio:=wo off i 3
  have hi1:0+Int.toNat (i:Int)*1=i:=by simp
  have hB:=fSize_spec X f.kind
  have hS:startsAt 0 (fs.take (i+1))=startsAt 0 (fs.take i)++[roundUp (endAt 0 (fs.take i)) f.w]:=by rw [take_snoc hf,starts_snoc]
  have hA:endAt 0 (fs.take (i+1))=roundUp (endAt 0 (fs.take i)) f.w+f.w*f.n:=by rw [take_snoc hf,end_snoc]
  have hG:greatW (fs.take (i+1))=max (greatW (fs.take i)) f.w:=by rw [take_snoc hf,great_snoc]
  obtain ⟨hw,hn1,hn8,hnc⟩:=ok_w (List.all_eq_true.1 hall f (dE hf))
  have hM:=multipleFrom_spec X (endAt 0 (fs.take i)) f.w hw V3
  have hR:=round_facts hw (endAt 0 (fs.take i))
  have hwk:kW f.kind=f.w:=rfl
  rw [hwk] at hB
  have hw8:1≤f.w∧f.w≤8:=by rcases hw with e|e|e|e<;>omega
  have hwn:f.w*f.n≤64:=Nat.le_trans (Nat.mul_le_mul hw8.2 hn8) VA
  have hfc:f.vals.map CV.val=[.val (.string ⟨f.nm.toArray⟩),.val (.int .i64 f.kind),.val (.int .i64 (f.n:Nat))]:=by rw [hnc];rfl
  rw [hfc] at hcells
  generalize startsAt 0 (fs.take i)=S at *
  generalize endAt 0 (fs.take i)=a at *
  generalize greatW (fs.take i)=g at *
  generalize f.w=w at *
  generalize f.n=n at *
  generalize hT:roundUp a w=T at *
  have hnS:(ntV S).length=i:=by simp [ntV,hSl]
  have hlt2:Nat.blt i (((ntV S++List.replicate (fs.length-i) (Value.int .i64 0)).map CV.val).length)=true:=by rw [Nat.blt_eq,cX,cW,hnS,dF];omega
  have hset:((ntV S++List.replicate (fs.length-i) (Value.int .i64 0)).map CV.val).set i (.val (.int .i64 (T:Nat)))=(ntV (S++[T])++List.replicate (fs.length-(i+1)) (Value.int .i64 0)).map CV.val:=by
   rw [← List.map_set,fill_set hnS hlt];simp [ntV]
  have hget:((ntV (S++[T])++List.replicate (fs.length-(i+1)) (Value.int .i64 0)).map CV.val)[i]? = some (.val (.int .i64 (T:Nat))):=by
   rw [dM,show ntV (S++[T])=ntV S++[.int .i64 (T:Nat)] by simp [ntV],fill_at hnS];rfl
  have hmul:IntKind.i64.wrap (((w:Nat):Int)*((n:Nat):Int))=((w*n:Nat):Int):=by rw [← Int.natCast_mul,cH V3]
  have hadd:IntKind.i64.wrap (((T:Nat):Int)+((w*n:Nat):Int))=((T+w*n:Nat):Int):=by rw [cH V3];omega
  have hmx:(if ((w:Nat):Int)>((g:Nat):Int) then ((w:Nat):Int) else ((g:Nat):Int))=((max g w:Nat):Int):=by split<;>omega
  (refine U33 ?_;refine bG O O O O hlt2 hset dS ?_;refine U2 ?_;refine rgD mixed ?_;refine U3 ?_;refine kl1 O O hget ?_;refine U3 ?_;refine bL O O hmul dS ?_;refine U7 ?_;refine K.max2 O O hmx dS ?_;refine U6 ?_)
  exact ⟨_,_,by omega,Le.of (by exact ⟨rfl,rfl,by rw [hA];rfl,by rw [hG];rfl,rfl,rfl,rfl,trivial⟩) (by exact ⟨rfl,by rw [hS];rfl,trivial⟩) V2 V2 V0,i+1,by omega,rfl,rfl⟩
 ·have e:i=fs.length:=by omega
  subst e
  rw [dG] at *
  have hM:=multipleFrom_spec X (endAt 0 fs) (greatW fs) hgw V3
  rw [show roundUp (endAt 0 fs) (greatW fs)=rowSize fs from rfl] at hM
  unfold ofR ofBx
  rw [hle]
  have hz:(ntV (startsAt 0 fs)++List.replicate (fs.length-fs.length) (Value.int .i64 0)).map CV.val=(ntV (startsAt 0 fs)).map CV.val:=by rw [Nat.sub_self,List.replicate_zero,dK]
  rw [hz]
  have hT:rowSize fs<1000000:=by
   have h1:=round_facts hgw (endAt 0 fs)
   have h2:greatW fs≤8:=by rcases hgw with e|e|e|e<;>omega
   have h3:rowSize fs=roundUp (endAt 0 fs) (greatW fs):=rfl
   omega
  generalize rowSize fs=T at *
  by_cases h256:256<T
  ·rw [if_pos h256,if_neg VA,if_neg VA]
   refine U28 ?_
   exact ⟨[],⟨[_,_],⟨⟨_,_,O,O,O,.inl ⟨AggT.h,O⟩⟩,O,trivial⟩,O⟩,trivial,O,O⟩
  ·rw [if_neg h256,if_pos rfl,if_pos rfl]
   refine U31 ?_
   exact ⟨[(1000001,17)],⟨[_,_],⟨⟨_,_,O,O,O,.inl ⟨AggT.h,O⟩⟩,O,trivial⟩,O⟩,V1,O,O⟩
end Go.Proofs.YtopiioklkkiedaaGreatDoor
end
