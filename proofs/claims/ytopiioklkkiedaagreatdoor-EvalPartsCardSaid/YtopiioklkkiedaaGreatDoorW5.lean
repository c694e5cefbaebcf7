/- A piece of a proof over this program: contracts of its functions, and a logic to prove them by. -/
import Derived.Test.YtopiioklkkiedaaGreatDoorW2
import Derived.Test.YtopiioklkkiedaaGreatDoorW3
import Derived.Test.YtopiioklkkiedaaGreatDoorW4
import Derived.Test.YtopiioklkkiedaaGreatDoorRows
import Derived.Lib.ItoaNum
import Derived.Lib.ItoaLen
import Derived.Shelf.Small.Bits
import Derived.Shelf.Strconv.Itoa0
import Derived.Shelf.Strings.Search1
import Derived.Shelf.Bits.Mul64
import Derived.Test.YtopiioklkkiedaaGreatDoorProg
import Derived.Lib.Walk
import Derived.Lib.ItoaMem
import Derived.Lib.AppendIntMem
import Derived.WalkKit
import Derived.BigCall
import Derived.BigGuard
import Derived.Lib.Repeat
import Derived.ChangeKeysEq
section
namespace Go.Lg.Fml
structure Ins where
 op:Int
 a:Int
 b:Int
 k:Bool×Int
 deriving DecidableEq
def takes (op:Int):Nat:=if op=16 then 3 else if op=10∨op=15 then 1 else if 5≤op∧op≤17 then 2 else 0
theorem takes_le (op:Int):takes op≤3:=by unfold takes;split<;>(try split)<;>(try split)<;>omega
inductive Tr where
 | n0 (x:Ins)
 | n1 (x:Ins) (a:Tr)
 | n2 (x:Ins) (a b:Tr)
 | n3 (x:Ins) (a b c:Tr)
def Tr.flat:Tr→List Ins
 | .n0 x=>[x]
 | .n1 x a=>a.flat++[x]
 | .n2 x a b=>a.flat++(b.flat++[x])
 | .n3 x a b c=>a.flat++(b.flat++(c.flat++[x]))
def Tr.ok:Tr→Prop
 | .n0 x=>takes x.op=0
 | .n1 x a=>takes x.op=1∧a.ok
 | .n2 x a b=>takes x.op=2∧a.ok∧b.ok
 | .n3 x a b c=>takes x.op=3∧a.ok∧b.ok∧c.ok
section
variable {V:Type} (one:Ins→List V→Except Int V)
def Tr.ev:Tr→Except Int V
 | .n0 x=>one x []
 | .n1 x a=>match a.ev with
  | .error e=>.error e
  | .ok u=>one x [u]
 | .n2 x a b=>match a.ev with
  | .error e=>.error e
  | .ok u=>match b.ev with
   | .error e=>.error e
   | .ok v=>one x [u,v]
 | .n3 x a b c=>match a.ev with
  | .error e=>.error e
  | .ok u=>match b.ev with
   | .error e=>.error e
   | .ok v=>match c.ev with
    | .error e=>.error e
    | .ok w=>one x [u,v,w]
def run:List Ins→List V→Except Int (List V)
 | [],st=>.ok st
 | x::t,st=>match one x (st.take (takes x.op)).reverse with
  | .error e=>.error e
  | .ok v=>run t (v::st.drop (takes x.op))
variable {one}
theorem run_flat:∀ {t:Tr} {rest:List Ins} {st:List V},t.ok→run one (t.flat++rest) st=match t.ev one with | .error e=>.error e | .ok v=>run one rest (v::st)
 | .n0 x,rest,st,h=>by
  have h:takes x.op=0:=h
  simp only [Tr.flat,List.cons_append,List.nil_append,run,Tr.ev,h,List.take_zero,List.drop_zero,List.reverse_nil]
 | .n1 x a,rest,st,h=>by
  obtain ⟨h1,h2⟩:=h
  simp only [Tr.flat,List.append_assoc,Tr.ev]
  rw [run_flat h2]
  cases a.ev one with
  | error e=>rfl
  | ok u =>
   simp only [List.cons_append,List.nil_append,run,h1]
   simp only [List.take_succ_cons,List.take_zero,List.drop_succ_cons,List.drop_zero,List.reverse_cons,List.reverse_nil,List.nil_append]
 | .n2 x a b,rest,st,h=>by
  obtain ⟨h1,h2,h3⟩:=h
  simp only [Tr.flat,List.append_assoc,Tr.ev]
  rw [run_flat h2]
  cases a.ev one with
  | error e=>rfl
  | ok u =>
   simp only
   rw [run_flat h3]
   cases b.ev one with
   | error e=>rfl
   | ok v =>
    simp only [List.cons_append,List.nil_append,run,h1]
    simp only [List.take_succ_cons,List.take_zero,List.drop_succ_cons,List.drop_zero,List.reverse_cons,List.reverse_nil,List.nil_append,List.cons_append]
 | .n3 x a b c,rest,st,h=>by
  obtain ⟨h1,h2,h3,h4⟩:=h
  simp only [Tr.flat,List.append_assoc,Tr.ev]
  rw [run_flat h2]
  cases a.ev one with
  | error e=>rfl
  | ok u =>
   simp only
   rw [run_flat h3]
   cases b.ev one with
   | error e=>rfl
   | ok v =>
    simp only
    rw [run_flat h4]
    cases c.ev one with
    | error e=>rfl
    | ok w =>
     simp only [List.cons_append,List.nil_append,run,h1]
     simp only [List.take_succ_cons,List.take_zero,List.drop_succ_cons,List.drop_zero,List.reverse_cons,List.reverse_nil,List.nil_append,List.cons_append]
theorem run_app:∀ {l r:List Ins} {st:List V},run one (l++r) st=match run one l st with | .error e=>.error e | .ok st'=>run one r st'
 | [],r,st=>rfl
 | x::l,r,st=>by
  simp only [List.cons_append,run]
  cases one x (st.take (takes x.op)).reverse with
  | error e=>rfl
  | ok v=>exact run_app
end
def dep (okI:Ins→Bool):Nat→List Ins→Option Nat
 | n,[]=>some n
 | n,x::t=>if okI x=true∧takes x.op≤n∧n-takes x.op+1≤16 then dep okI (n-takes x.op+1) t else none
theorem dep_app {okI:Ins→Bool}:∀ {l r:List Ins} {n:Nat},dep okI n (l++r)=(dep okI n l).bind fun m=>dep okI m r
 | [],r,n=>rfl
 | x::l,r,n=>by
  simp only [List.cons_append,dep]
  split
  ·exact dep_app
  ·rfl
def flats:List Tr→List Ins
 | []=>[]
 | t::ts=>flats ts++t.flat
theorem dep_trees {okI:Ins→Bool}:∀ {l:List Ins} {ts:List Tr} {m:Nat},dep okI ts.length l=some m→(∀ t∈ts,t.ok)→∃ ts',ts'.length=m∧(∀ t∈ts',t.ok)∧flats ts'=flats ts++l
 | [],ts,m,h,ho=>by
  simp only [dep,Option.some.injEq] at h
  exact ⟨ts,h,ho,by rw [List.append_nil]⟩
 | x::l,ts,m,h,ho=>by
  simp only [dep] at h
  split at h
  ·rename_i hx
   obtain ⟨_,h1,_⟩:=hx
   have h3:=takes_le x.op
   have key:∃ us:List Tr,us.length=ts.length-takes x.op+1∧(∀ t∈us,t.ok)∧flats us=flats ts++[x]:=by
    rcases (show takes x.op=0∨takes x.op=1∨takes x.op=2∨takes x.op=3 by omega) with e|e|e|e
    ·exact ⟨.n0 x::ts,by rw [e];rfl,fun t ht=>by
      rcases List.mem_cons.1 ht with rfl|ht
      ·exact e
      ·exact ho t ht,rfl⟩
    ·match ts,ho,h1 with
     | a::ts,ho,_=>exact ⟨.n1 x a::ts,by rw [e];rfl,fun t ht=>by
       rcases List.mem_cons.1 ht with rfl|ht
       ·exact ⟨e,ho a List.mem_cons_self⟩
       ·exact ho t (List.mem_cons_of_mem _ ht),by simp only [flats,Tr.flat,List.append_assoc]⟩
     | [],_,h1=>rw [e] at h1;cases h1
    ·match ts,ho,h1 with
     | b::a::ts,ho,_=>exact ⟨.n2 x a b::ts,by rw [e];rfl,fun t ht=>by
       rcases List.mem_cons.1 ht with rfl|ht
       ·exact ⟨e,ho a (by simp),ho b (by simp)⟩
       ·exact ho t (by simp [ht]),by simp only [flats,Tr.flat,List.append_assoc]⟩
     | [_],_,h1=>rw [e] at h1;simp at h1
     | [],_,h1=>rw [e] at h1;cases h1
    ·match ts,ho,h1 with
     | c::b::a::ts,ho,_=>exact ⟨.n3 x a b c::ts,by rw [e];rfl,fun t ht=>by
       rcases List.mem_cons.1 ht with rfl|ht
       ·exact ⟨e,ho a (by simp),ho b (by simp),ho c (by simp)⟩
       ·exact ho t (by simp [ht]),by simp only [flats,Tr.flat,List.append_assoc]⟩
     | [_,_],_,h1=>rw [e] at h1;simp at h1
     | [_],_,h1=>rw [e] at h1;simp at h1
     | [],_,h1=>rw [e] at h1;cases h1
   obtain ⟨us,u1,u2,u3⟩:=key
   rw [← u1] at h
   obtain ⟨ts',t1,t2,t3⟩:=dep_trees h u2
   exact ⟨ts',t1,t2,by rw [t3,u3,List.append_assoc];rfl⟩
  ·cases h
theorem parse {okI:Ins→Bool} {l:List Ins} (h:dep okI 0 l=some 1):∃ t:Tr,t.ok∧t.flat=l:=by
 obtain ⟨ts,h1,h2,h3⟩:=dep_trees (ts:=[]) h (fun t ht=>by cases ht)
 match ts,h1 with
 | [t],_=>exact ⟨t,h2 t List.mem_cons_self,h3⟩
theorem flat_pos:∀ t:Tr,t.flat≠[]
 | .n0 x=>by simp [Tr.flat]
 | .n1 x a=>by simp [Tr.flat]
 | .n2 x a b=>by simp [Tr.flat]
 | .n3 x a b c=>by simp [Tr.flat]
def surplus:List Ins→Int
 | []=>0
 | x::t=>(takes x.op:Int)-1+surplus t
theorem surplus_app:∀ (l r:List Ins),surplus (l++r)=surplus l+surplus r
 | [],r=>by simp [surplus]
 | x::l,r=>by simp only [List.cons_append,surplus,surplus_app l r];omega
theorem flat_sum:∀ {t:Tr},t.ok→surplus t.flat = -1
 | .n0 x,h=>by
  have h:takes x.op=0:=h
  simp [Tr.flat,surplus,h]
 | .n1 x a,h=>by
  obtain ⟨h1,h2⟩:=h
  simp only [Tr.flat,surplus_app,surplus,h1,flat_sum h2];decide
 | .n2 x a b,h=>by
  obtain ⟨h1,h2,h3⟩:=h
  simp only [Tr.flat,surplus_app,surplus,h1,flat_sum h2,flat_sum h3];decide
 | .n3 x a b c,h=>by
  obtain ⟨h1,h2,h3,h4⟩:=h
  simp only [Tr.flat,surplus_app,surplus,h1,flat_sum h2,flat_sum h3,flat_sum h4];decide
def Back (l:List Ins):Prop := ∀ p s:List Ins,l=p++s→p≠[]→0≤surplus s
theorem flat_back:∀ {t:Tr},t.ok→Back t.flat
 | .n0 x,h=>fun p s e hp=>by
  simp only [Tr.flat] at e
  have:s=[]:=by
   cases p with
   | nil=>exact absurd rfl hp
   | cons y p'=>simp only [List.cons_append,List.cons.injEq] at e;exact (List.append_eq_nil_iff.1 e.2.symm).2
  subst this;exact Int.le_refl _
 | .n1 x a,h=>fun p s e hp=>by
  obtain ⟨h1,h2⟩:=h
  simp only [Tr.flat] at e
  rcases List.append_eq_append_iff.1 e with ⟨q,h5,h6⟩|⟨q,h5,h6⟩
  ·have:surplus s≤0∧0≤surplus s:=by
    cases q with
    | nil=>simp only [List.nil_append] at h6;rw [← h6];simp [surplus,h1]
    | cons y q' =>
     simp only [List.cons_append,List.cons.injEq] at h6
     have:=(List.append_eq_nil_iff.1 h6.2.symm).2
     subst this;simp [surplus]
   exact this.2
  ·rw [h6,surplus_app]
   have h7:surplus [x]=0:=by simp [surplus,h1]
   have h8:=flat_back h2 p q h5 hp
   omega
 | .n2 x a b,h=>fun p s e hp=>by
  obtain ⟨h1,h2,h3⟩:=h
  simp only [Tr.flat] at e
  have hx:surplus [x]=1:=by simp [surplus,h1]
  have tail:∀ p s:List Ins,[x]=p++s→0≤surplus s:=fun p s e=>by
   cases p with
   | nil=>simp only [List.nil_append] at e;rw [← e];omega
   | cons y p'=>simp only [List.cons_append,List.cons.injEq] at e;have:=(List.append_eq_nil_iff.1 e.2.symm).2;subst this;simp [surplus]
  have anyb:∀ p s:List Ins,b.flat=p++s → -1≤surplus s:=fun p s e=>by
   by_cases hp:p=[]
   ·subst hp;rw [List.nil_append] at e;rw [← e,flat_sum h3];decide
   ·have:=flat_back h3 p s e hp;omega
  rcases List.append_eq_append_iff.1 e with ⟨q,h5,h6⟩|⟨q,h5,h6⟩
  ·rcases List.append_eq_append_iff.1 h6 with ⟨q',h7,h8⟩|⟨q',h7,h8⟩
   ·exact tail q' s h8
   ·rw [h8,surplus_app];have:=anyb q q' h7;omega
  ·rw [h6,surplus_app,surplus_app,flat_sum h3]
   have h8:=flat_back h2 p q h5 hp
   omega
 | .n3 x a b c,h=>fun p s e hp=>by
  obtain ⟨h1,h2,h3,h4⟩:=h
  simp only [Tr.flat] at e
  have hx:surplus [x]=2:=by simp [surplus,h1]
  have tail:∀ p s:List Ins,[x]=p++s→0≤surplus s:=fun p s e=>by
   cases p with
   | nil=>simp only [List.nil_append] at e;rw [← e];omega
   | cons y p'=>simp only [List.cons_append,List.cons.injEq] at e;have:=(List.append_eq_nil_iff.1 e.2.symm).2;subst this;simp [surplus]
  have any:∀ {t:Tr},t.ok→(∀ p s:List Ins,t.flat=p++s→p≠[]→0≤surplus s)→∀ p s:List Ins,t.flat=p++s → -1≤surplus s:=fun {t} ht hb p s e=>by
   by_cases hp:p=[]
   ·subst hp;rw [List.nil_append] at e;rw [← e,flat_sum ht];decide
   ·have:=hb p s e hp;omega
  rcases List.append_eq_append_iff.1 e with ⟨q,h5,h6⟩|⟨q,h5,h6⟩
  ·rcases List.append_eq_append_iff.1 h6 with ⟨q',h7,h8⟩|⟨q',h7,h8⟩
   ·rcases List.append_eq_append_iff.1 h8 with ⟨q2,h9,h10⟩|⟨q2,h9,h10⟩
    ·exact tail q2 s h10
    ·rw [h10,surplus_app];have:=any h4 (flat_back h4) q' q2 h9;omega
   ·rw [h8,surplus_app,surplus_app,flat_sum h4];have:=any h3 (flat_back h3) q q' h7;omega
  ·rw [h6,surplus_app,surplus_app,surplus_app,flat_sum h3,flat_sum h4]
   have h8:=flat_back h2 p q h5 hp
   omega
def Tr.ends (p:Nat):Tr→List Nat
 | .n0 _=>[]
 | .n1 _ a=>[p+a.flat.length-1]
 | .n2 _ a b=>[p+a.flat.length-1,p+a.flat.length+b.flat.length-1]
 | .n3 _ a b c=>[p+a.flat.length-1,p+a.flat.length+b.flat.length-1,p+a.flat.length+b.flat.length+c.flat.length-1]
def Tr.top:Tr→Ins
 | .n0 x=>x
 | .n1 x _=>x
 | .n2 x _ _=>x
 | .n3 x _ _ _=>x
theorem flat_top:∀ t:Tr,∃ l,t.flat=l++[t.top]
 | .n0 x=>⟨[],rfl⟩
 | .n1 x a=>⟨_,rfl⟩
 | .n2 x a b=>⟨a.flat++b.flat,by simp [Tr.flat,Tr.top]⟩
 | .n3 x a b c=>⟨a.flat++(b.flat++c.flat),by simp [Tr.flat,Tr.top]⟩
end Go.Lg.Fml
end
section
set_option maxHeartbeats 12800000
set_option maxRecDepth 100000
namespace Go.Lg.Fld
open Go Go.Lg
section
variable {cs:List Cp} {i:Nat} {c:Cp}
theorem cmpE_at (h:cs[i]? = some c):cmpE cs i=if c.id<1∨24<c.id∨(0<i∧c.id≤prevId cs i) then 1
  else if nmB c.nm=true then (if (cs.take i).any (fun g=>g.nm==c.nm)=true then 4 else if firstE (fldE c.fs) 0 c.fs.length=0 then layErr c.fs else 4) else 4:=by unfold cmpE;rw [h]
theorem fldE_at {fs:List Fl} {k:Nat} {f:Fl} (h:fs[k]? = some f):fldE fs k=if nmB f.nm=true then (if (fs.take k).any (fun g=>g.nm==f.nm)=true then 4 else 0) else 4:=by unfold fldE;rw [h]
theorem prev_at {p:Cp} (h:cs[i-1]? = some p):prevId cs i=p.id:=by unfold prevId;rw [h];rfl
end
theorem FieldsIn.nm {X:Nat→Option Obj} {ad:Option Addr} {fs:List Fl} (h:FieldsIn X ad fs) {k:Nat} {f:Fl} (hf:fs[k]? = some f):
  ∃ (blk off:Nat) (arr:Array Value) (el:TypeId) (fr:Nat×Nat),ad=some ⟨blk,off,none⟩∧X blk=some (.cells arr el fr)∧arr[off+k*3]? = some (.string ⟨f.nm.toArray⟩):=by
 obtain ⟨blk,off,arr,el,fr,h1,h2,h3,h4⟩:=h.rows k f.vals (by rw [dM,hf];rfl)
 exact ⟨blk,off,arr,el,fr,h1,h2,(three_at h4).1⟩
end Go.Lg.Fld
namespace Go.Proofs.YtopiioklkkiedaaGreatDoor
open Go Go.Lg Go.Lg.Fld
set_option maxRecDepth 100000
variable (X:Nat→Option Obj)
abbrev cpB (k:Nat) (c:Cp) (fad:Option Addr) (fcap:Nat):Nat×Option Box:=(k,some ⟨24,[.val (.int .i64 c.id),.val (.string ⟨c.nm.toArray⟩),.val (.slice fad c.fs.length fcap)],false⟩)
set_option maxHeartbeats 6400000 in
theorem sCheck_spec (s:Sc) (ad:Option Addr) (cap:Nat) (hin:CompsIn X ad s.cs) (hbig:s.cs.length<4611686018427387904) (hfs:∀ c∈s.cs,c.fs.length<4611686018427387904):
  PSpec Tryz.prog X 93 [Sx s.ver ad s.cs.length cap] (Ln .i64 (chkE s)):=by
 obtain ⟨ver,cs⟩:=s
 simp only at hin hbig hfs ⊢
 refine cF Tryz.func93 rfl V5 rfl rfl ?_
 intro C
 unfold chkE
 by_cases hv1:ver<1
 ·rw [if_pos (.inl hv1)]
  (refine U10 ?_;refine klt rfl rfl (cP hv1) ?_;refine U12 ?_)
  exact V6
 by_cases hv2:1073741824<ver
 ·rw [if_pos (.inr hv2)]
  (refine U10 ?_;refine klt O O (cO hv1) ?_;refine U3 ?_;refine aS O O (cP hv2) (dT O O) ?_;refine U8 ?_)
  exact V6
 rw [if_neg (show ¬(ver<1∨1073741824<ver) by omega)]
 (refine U10 ?_;refine klt O O (cO hv1) ?_;refine U3 ?_;refine aS O O (cO hv2) (dT O O) ?_;refine U10 ?_)
 refine cL (fun m σ=>∃ i:Nat,i≤cs.length∧m=cs.length-i∧(∀ j,0≤j→j<i→cmpE cs j=0)∧σ=⟨[(1,Lp 1),(3,Ln .i64 (i:Nat))],[sxB 1 ver ad cs.length cap],X⟩) cs.length
  ⟨_,Le.of VE V13 V2 V2 V0,0,by omega,by omega,fun j _ hj=>absurd hj V3,rfl⟩ ?_
 rintro m σ ⟨i,hi,rfl,hpre,rfl⟩
 by_cases hlt:i<cs.length
 ·obtain ⟨c,hc⟩:=wg hlt
  obtain ⟨blk,off,arr,el,fr,fad,fcap,rfl,hX,hsz,hcs,g1,g2,g3,hF⟩:=hin.get hc
  have hio:=wo off i 3
  have hE:=cmpE_at hc
  have hfb:=hfs c (dE hc)
  have fin:∀ e,cmpE cs i=e→e≠0→firstE (cmpE cs) 0 cs.length=e:=fun e he h0=>firstE_some hpre (Nat.zero_le _) V3 he h0
  refine U25 ?_
  refine LWP.le (σ':=⟨[(1,Lp 1),(3,Ln .i64 (i:Nat)),(4,Lp 4)],[sxB 1 ver (some ⟨blk,off,none⟩) cs.length cap,cpB 4 c fad fcap],X⟩) (Le.of V9 VE V2 V2 V0) ?_
  by_cases h1:c.id<1
  ·rw [if_pos (.inl h1)] at hE
   rw [fin 1 hE (by decide)]
   (refine rgD mixed ?_;refine U2 ?_;refine klt rfl rfl (cP h1) ?_;refine U29 ?_)
   exact V6
  by_cases h2:24<c.id
  ·rw [if_pos (.inr (.inl h2))] at hE
   rw [fin 1 hE (by decide)]
   (refine rgD mixed ?_;refine U2 ?_;refine klt O O (cO h1) ?_;refine U3 ?_;refine aS O O (cP h2) (dT O O) ?_;refine U25 ?_)
   exact V6
  by_cases hbad:0<i∧c.id≤prevId cs i
  ·obtain ⟨q,hq⟩:∃ q,cs[i-1]? = some q:=wg V3
   rw [if_pos (.inr (.inr hbad))] at hE
   rw [prev_at hq] at hbad
   rw [fin 1 hE (by decide)]
   obtain ⟨blk',off',arr',el',fr',_,_,e1,hX',_,_,g1',_,_,_⟩:=hin.get hq
   simp only [Option.some.injEq,Addr.mk.injEq] at e1
   obtain ⟨rfl,rfl,_⟩:=e1
   rw [hX] at hX'
   simp only [Option.some.injEq,Obj.cells.injEq] at hX'
   obtain ⟨rfl,rfl,rfl⟩:=hX'
   have hsub:IntKind.i64.wrap (((i:Nat):Int)-1)=((i-1:Nat):Int):=by rw [cH V3];omega
   have hio2:off+Int.toNat ((i-1:Nat):Int)*3=off+(i-1)*3:=by rw [dH]
   (refine rgD mixed ?_;refine U2 ?_;refine klt O O (cO h1) ?_;refine U3 ?_;refine aS O O (cO h2) (dT O O) ?_;refine U8 ?_;refine bA O O hsub (dT O O) ?_;refine U5 ?_;refine bD O O (cP hbad.2) (dT O O) ?_;refine U10 ?_)
   exact V6
  rw [if_neg (show ¬(c.id<1∨24<c.id∨(0<i∧c.id≤prevId cs i)) from fun h=>h.elim h1 fun h=>h.elim h2 hbad)] at hE
  refine LWP.meet0 (fun σ=>σ=⟨[(1,Lp 1),(3,Ln .i64 (i:Nat)),(4,Lp 4),(55,Lb false)],[sxB 1 ver (some ⟨blk,off,none⟩) cs.length cap,cpB 4 c fad fcap],X⟩) ?_ ?_
  ·by_cases hi0:i=0
   ·subst hi0
    (refine rgD mixed ?_;refine U2 ?_;refine klt O O (cO h1) ?_;refine U3 ?_;refine aS O O (cO h2) (dT O O) ?_;refine U19 ?_)
    exact ⟨_,Le.of V8 VE V2 V2 V0,O⟩
   ·obtain ⟨q,hq⟩:∃ q,cs[i-1]? = some q:=wg V3
    rw [prev_at hq] at hbad
    obtain ⟨blk',off',arr',el',fr',_,_,e1,hX',_,_,g1',_,_,_⟩:=hin.get hq
    simp only [Option.some.injEq,Addr.mk.injEq] at e1
    obtain ⟨rfl,rfl,_⟩:=e1
    rw [hX] at hX'
    simp only [Option.some.injEq,Obj.cells.injEq] at hX'
    obtain ⟨rfl,rfl,rfl⟩:=hX'
    have hsub:IntKind.i64.wrap (((i:Nat):Int)-1)=((i-1:Nat):Int):=by rw [cH V3];omega
    have hio2:off+Int.toNat ((i-1:Nat):Int)*3=off+(i-1)*3:=by rw [dH]
    (refine rgD mixed ?_;refine U2 ?_;refine klt O O (cO h1) ?_;refine U3 ?_;refine aS O O (cO h2) (dT O O) ?_;refine U8 ?_;refine bA O O hsub (dT O O) ?_;refine U10 ?_)
    exact ⟨_,Le.of V8 VE V2 V2 V0,O⟩
  rintro σ rfl
  have hNm:=sName_spec X c.nm
  by_cases hnm:nmB c.nm=true
  ·rw [hnm] at hNm
   rw [if_pos hnm] at hE
   refine U18 ?_
   refine cL (fun m σ=>∃ k:Nat,k≤i∧m=i-k∧(∀ (j:Nat) (y:Cp),j<k→cs[j]? = some y→(y.nm==c.nm)=false)∧σ=⟨[(1,Lp 1),(3,Ln .i64 (i:Nat)),(4,Lp 4),(5,Ln .i64 (k:Nat))],[sxB 1 ver (some ⟨blk,off,none⟩) cs.length cap,cpB 4 c fad fcap],X⟩) i
    ⟨_,Le.of V8 VE V2 V2 V0,0,by omega,by omega,fun j y hj=>absurd hj V3,rfl⟩ ?_
   rintro m σ ⟨k,hk,rfl,hpre2,rfl⟩
   by_cases hkl:k<i
   ·obtain ⟨q,hq⟩:∃ q,cs[k]? = some q:=wg V3
    obtain ⟨blk',off',arr',el',fr',_,_,e1,hX',_,_,_,g2',_,_⟩:=hin.get hq
    simp only [Option.some.injEq,Addr.mk.injEq] at e1
    obtain ⟨rfl,rfl,_⟩:=e1
    rw [hX] at hX'
    simp only [Option.some.injEq,Obj.cells.injEq] at hX'
    obtain ⟨rfl,rfl,rfl⟩:=hX'
    have hio2:=wo off k 3
    by_cases hqe:q.nm=c.nm
    ·rw [any_true hkl hq (by rw [beq_iff_eq];exact hqe),if_pos rfl] at hE
     rw [fin 4 hE (by decide)]
     (refine U12 ?_;refine rgD mixed ?_;refine U8 ?_;refine kse rfl rfl (strs_eq (r:=true) (by rw [hqe];simp)) ?_;refine U8 ?_)
     exact V6
    ·have hne:(q.nm==c.nm)=false:=cS hqe
     (refine U12 ?_;refine rgD mixed ?_;refine U8 ?_;refine kse rfl rfl (strs_eq (r:=false) hne) ?_;refine U9 ?_)
     exact ⟨_,_,by omega,Le.of V8 VE V2 V2 V0,k+1,by omega,O,(fun j y hj hy=>by
      by_cases e:j=k
      ·subst e;rw [hq] at hy;cases hy;exact hne
      ·exact hpre2 j y V3 hy),rfl⟩
   ·rw [any_false fun j y hj hy=>hpre2 j y V3 hy,if_neg VA] at hE
    refine U15 ?_
    refine cL (fun m σ=>∃ k:Nat,k≤c.fs.length∧m=c.fs.length-k∧(∀ j,0≤j→j<k→fldE c.fs j=0)∧σ=⟨[(1,Lp 1),(3,Ln .i64 (i:Nat)),(4,Lp 4),(6,Ln .i64 (k:Nat))],[sxB 1 ver (some ⟨blk,off,none⟩) cs.length cap,cpB 4 c fad fcap],X⟩) c.fs.length
     ⟨_,Le.of V8 VE V2 V2 V0,0,by omega,by omega,fun j _ hj=>absurd hj V3,rfl⟩ ?_
    rintro m σ ⟨k2,hk2,rfl,hpre3,rfl⟩
    by_cases hk2l:k2<c.fs.length
    ·obtain ⟨f,hf⟩:=wg hk2l
     obtain ⟨fb,fo,farr,fel,ffr,rfl,hFX,hFc⟩:=hF.nm hf
     have hio3:=wo fo k2 3
     have hfE:=fldE_at hf
     have hNf:=sName_spec X f.nm
     have bad:fldE c.fs k2=4→cmpE cs i=4:=fun h=>by
      rw [hE,firstE_some hpre3 (Nat.zero_le _) (by omega) h (by decide)];rfl
     by_cases hfn:nmB f.nm=true
     ·rw [hfn] at hNf
      rw [if_pos hfn] at hfE
      refine U32 ?_
      refine cL (fun m σ=>∃ k:Nat,k≤k2∧m=k2-k∧(∀ (j:Nat) (y:Fl),j<k→c.fs[j]? = some y→(y.nm==f.nm)=false)∧σ=⟨[(1,Lp 1),(3,Ln .i64 (i:Nat)),(4,Lp 4),(6,Ln .i64 (k2:Nat)),(7,Ln .i64 (k:Nat))],[sxB 1 ver (some ⟨blk,off,none⟩) cs.length cap,cpB 4 c (some ⟨fb,fo,none⟩) fcap],X⟩) k2
       ⟨_,Le.of V10 VE V2 V2 V0,0,by omega,by omega,fun j y hj=>absurd hj V3,rfl⟩ ?_
      rintro m σ ⟨k3,hk3,rfl,hpre4,rfl⟩
      by_cases hk3l:k3<k2
      ·obtain ⟨g,hg⟩:∃ g,c.fs[k3]? = some g:=wg V3
       obtain ⟨fb',fo',farr',fel',ffr',e1,hFX',hFc'⟩:=hF.nm hg
       simp only [Option.some.injEq,Addr.mk.injEq] at e1
       obtain ⟨rfl,rfl,_⟩:=e1
       rw [hFX] at hFX'
       simp only [Option.some.injEq,Obj.cells.injEq] at hFX'
       obtain ⟨rfl,rfl,rfl⟩:=hFX'
       have hio4:=wo fo k3 3
       by_cases hge:g.nm=f.nm
       ·rw [any_true hk3l hg (by rw [beq_iff_eq];exact hge),if_pos rfl] at hfE
        rw [fin 4 (bad hfE) (by decide)]
        (refine U12 ?_;refine rgD mixed ?_;refine U12 ?_;refine kse rfl rfl (strs_eq (r:=true) (by rw [hge];simp)) ?_;refine U8 ?_)
        exact V6
       ·have hne:(g.nm==f.nm)=false:=cS hge
        (refine U12 ?_;refine rgD mixed ?_;refine U12 ?_;refine kse rfl rfl (strs_eq (r:=false) hne) ?_;refine U9 ?_)
        exact ⟨_,_,by omega,Le.of V10 VE V2 V2 V0,k3+1,by omega,O,(fun j y hj hy=>by
         by_cases e:j=k3
         ·subst e;rw [hg] at hy;cases hy;exact hne
         ·exact hpre4 j y V3 hy),rfl⟩
      ·rw [any_false fun j y hj hy=>hpre4 j y V3 hy,if_neg VA] at hfE
       refine U14 ?_
       exact ⟨_,_,by omega,Le.of V8 VE V2 V2 V0,k2+1,by omega,O,(fun j h0 hj=>by
        by_cases e:j=k2
        ·rw [e];exact hfE
        ·exact hpre3 j h0 V3),rfl⟩
     ·rw [if_neg hfn] at hfE
      rw [fin 4 (bad hfE) (by decide)]
      rw [show nmB f.nm=false by simpa using hfn] at hNf
      refine U31 ?_
      exact V6
    ·rw [show firstE (fldE c.fs) 0 c.fs.length=0 from firstE_none fun j h0 hj=>hpre3 j h0 V3,if_pos rfl] at hE
     by_cases hl:layErr c.fs=0
     ·have hL:=Lay_ok X fad fcap c.fs hF hfb hl
      rw [hl] at hE
      generalize elemsAt 0 c.fs=E at *
      generalize startsAt 0 c.fs=S at *
      generalize rowSize c.fs=T at *
      (refine U15 ?_;refine bE [(1000001,501),(1000002,502)] (.tup [.one (.slc 501 0 E.length 2),Sn .i64 (T:Nat),.one (.slc 502 0 c.fs.length 1),Sn .i64 0]) [(501,some ⟨114,(elVs E).map .val,Nat.blt 0 E.length⟩),(502,some ⟨3,(ntV S).map .val,Nat.blt 0 c.fs.length⟩)] (hL) O O VC O O O O O V1D dS ?_;refine U22 ?_)
      exact ⟨_,_,by omega,Le.of VE V13 V2 V2 V0,i+1,by omega,O,(fun j h0 hj=>by
       by_cases e:j=i
       ·rw [e];exact hE
       ·exact hpre j h0 V3),rfl⟩
     ·have hL:=Lay_no X fad fcap c.fs hF hfb hl
      rw [fin _ hE hl]
      generalize layErr c.fs=e at *
      (refine U15 ?_;refine aU [] [] (hL) O O VC O O O O O V2B dS ?_;refine U22 ?_)
      exact V6
  ·rw [if_neg hnm] at hE
   rw [fin 4 hE (by decide)]
   rw [show nmB c.nm=false by simpa using hnm] at hNm
   refine U16 ?_
   exact V6
 ·rw [show firstE (cmpE cs) 0 cs.length=0 from firstE_none fun j h0 hj=>hpre j h0 V3]
  refine U16 ?_
  exact V6
end Go.Proofs.YtopiioklkkiedaaGreatDoor
end
section
set_option maxHeartbeats 12800000
set_option maxRecDepth 100000
namespace Go.Lg.Fld
open Go Go.Lg
def flV (fs:List Fl):List Value:=(fs.map Fl.vals).flatten
theorem flV_len (fs:List Fl):(flV fs).length=fs.length*3:=by
 unfold flV
 induction fs with
 | nil=>rfl
 | cons f t ih=>rw [List.map_cons,List.flatten_cons,cW,ih,dJ];simp [Fl.vals];omega
theorem flV_at:∀ {fs:List Fl} {k:Nat} {f:Fl},fs[k]? = some f→k*3+3≤(flV fs).length∧((flV fs).drop (k*3)).take 3=f.vals
 | [],k,f,h=>by simp at h
 | a::t,0,f,h=>by
  simp only [List.getElem?_cons_zero,Option.some.injEq] at h
  subst h
  refine ⟨by rw [flV_len,dJ];omega,?_⟩
  unfold flV
  rw [Nat.zero_mul,List.drop_zero,List.map_cons,List.flatten_cons,List.take_append_of_le_length (by simp [Fl.vals])]
  rfl
 | a::t,k+1,f,h=>by
  obtain ⟨h1,h2⟩:=flV_at (fs:=t) (k:=k) (f:=f) V2E
  refine ⟨by rw [flV_len] at h1 ⊢;simp;omega,?_⟩
  rw [← h2]
  unfold flV
  rw [List.map_cons,List.flatten_cons,show (k+1)*3=a.vals.length+k*3 by simp [Fl.vals];omega,List.drop_length_add_append]
theorem fields_block {Y:Nat→Option Obj} {blk:Nat} {arr:Array Value} {el:TypeId} {fr:Nat×Nat} {fs:List Fl} {sp:List Value} (hY:Y blk=some (.cells arr el fr)) (ha:arr.toList=flV fs++sp)
  (hs:∀ f∈fs,(-9223372036854775808≤f.kind∧f.kind<9223372036854775808)∧(-9223372036854775808≤f.count∧f.count<9223372036854775808)):FieldsIn Y (some ⟨blk,0,none⟩) fs:=by
 refine ⟨fun k r hr => ?_,hs⟩
 rw [dM] at hr
 cases hf:fs[k]? with
 | none=>rw [hf] at hr;cases hr
 | some f =>
  rw [hf] at hr
  simp only [Option.map_some,Option.some.injEq] at hr
  subst hr
  obtain ⟨h1,h2⟩:=flV_at hf
  refine ⟨blk,0,arr,el,fr,O,hY,?_,?_⟩
  ·rw [← Array.length_toList,ha,cW];omega
  ·rw [ha,Nat.zero_add,List.drop_append_of_le_length V3,List.take_append_of_le_length (by rw [dC];omega)];exact h2
end Go.Lg.Fld
namespace Go.Proofs.YtopiioklkkiedaaGreatDoor
open Go Go.Lg Go.Lg.Fld
set_option maxRecDepth 100000
end Go.Proofs.YtopiioklkkiedaaGreatDoor
end
section
set_option maxHeartbeats 12800000
set_option maxRecDepth 100000
namespace Go.Lg.Fld
open Go Go.Lg
def nmM (ns:List (List UInt8)):List (Value×Value):=ns.map fun l=>(.string ⟨l.toArray⟩,.agg #[])
theorem nmM_at (ns:List (List UInt8)) (l:List UInt8):At (nmM ns) (.string ⟨l.toArray⟩) (.agg #[]) (.agg #[]):=by
 by_cases h:l∈ns
 ·exact .inl (List.mem_map.2 ⟨l,h,rfl⟩)
 ·refine .inr ⟨fun p hp e => ?_,rfl⟩
  obtain ⟨l',hl',rfl⟩:=List.mem_map.1 hp
  simp only [Value.string.injEq,ByteArray.mk.injEq] at e
  exact h (by rw [show l=l' from (List.toArray_inj e.symm)];exact hl')
theorem nmM_any (ns:List (List UInt8)) (l:List UInt8) (r:Bool) (hr:ns.any (fun m=>m==l)=r):r=true↔∃ p∈nmM ns,p.1 = .string ⟨l.toArray⟩:=by
 subst hr
 rw [List.any_eq_true]
 constructor
 ·rintro ⟨m,hm,he⟩
  rw [beq_iff_eq] at he
  subst he
  exact ⟨_,List.mem_map.2 ⟨m,hm,O⟩,O⟩
 ·rintro ⟨p,hp,e⟩
  obtain ⟨l',hl',rfl⟩:=List.mem_map.1 hp
  simp only [Value.string.injEq,ByteArray.mk.injEq] at e
  exact ⟨l',hl',by rw [beq_iff_eq];exact List.toArray_inj e⟩
theorem nmM_put {ns:List (List UInt8)} {l:List UInt8} (h:ns.any (fun m=>m==l)=false):Put (nmM ns) (.string ⟨l.toArray⟩) (.agg #[]) (nmM (ns++[l])):=by
 refine .inr ⟨fun p hp e => ?_,by unfold nmM;rw [dI];rfl⟩
 obtain ⟨l',hl',rfl⟩:=List.mem_map.1 hp
 simp only [Value.string.injEq,ByteArray.mk.injEq] at e
 rw [List.any_eq_false] at h
 exact h l' hl' (by rw [beq_iff_eq];exact List.toArray_inj e)
end Go.Lg.Fld
namespace Go.Proofs.YtopiioklkkiedaaGreatDoor
open Go Go.Lg Go.Lg.Fld
set_option maxRecDepth 100000
variable (X:Nat→Option Obj)
theorem isLetter_spec (c:UInt8):PSpec Tryz.prog X 132 [Ln .u8 (c.toNat:Nat)] (Lb (letB c)):=by
 refine cF Tryz.func132 rfl V5 rfl rfl ?_
 intro C
 unfold letB
 by_cases h:97≤c.toNat
 ·rw [cP h,Bool.true_and]
  (refine U7 ?_;refine K.leq O O (cP V3) dS ?_;refine U2 ?_;refine K.leq O O (r:=decide (c.toNat≤122)) (by rw [decide_eq_decide];omega) (dT O O) ?_;refine U4 ?_)
  exact V6
 ·rw [cO h,Bool.false_and]
  refine U15 ?_
  exact V6
theorem isDigit_spec (c:UInt8):PSpec Tryz.prog X 133 [Ln .u8 (c.toNat:Nat)] (Lb (digB c)):=by
 refine cF Tryz.func133 rfl V5 rfl rfl ?_
 intro C
 unfold digB
 by_cases h:48≤c.toNat
 ·rw [cP h,Bool.true_and]
  (refine U7 ?_;refine K.leq O O (cP V3) dS ?_;refine U2 ?_;refine K.leq O O (r:=decide (c.toNat≤57)) (by rw [decide_eq_decide];omega) (dT O O) ?_;refine U4 ?_)
  exact V6
 ·rw [cO h,Bool.false_and]
  refine U15 ?_
  exact V6
theorem nmC_zero (l:List UInt8):nmC l 0=letB (l.getD 0 0):=by unfold nmC;simp
theorem nmC_more {l:List UInt8} {i:Nat} (h:nmC l 0=true):nmC l i=(letB (l.getD i 0)||digB (l.getD i 0)):=by
 unfold nmC
 by_cases e:i=0
 ·subst e
  rw [nmC_zero] at h
  rw [h];simp
 ·simp [e]
theorem pIsName (l:List UInt8) (r:Bool) (hr:nmB l=r):PSpec Tryz.prog X 99 [Ls l] (Lb r):=by
 subst hr
 refine cF Tryz.func99 rfl V5 rfl rfl ?_
 intro C
 have hlen:(⟨l.toArray⟩:ByteArray).size=l.length:=rfl
 by_cases h1:l.length<1
 ·rw [show nmB l=false by unfold nmB;rw [cO V3];rfl]
  (refine U9 ?_;refine klt rfl rfl (cP V22) ?_;refine U18 ?_)
  exact V6
 by_cases h2:12<l.length
 ·rw [show nmB l=false by unfold nmB;rw [cO (show ¬l.length≤12 by omega)];simp]
  (refine U9 ?_;refine klt O O (cO V22) ?_;refine U2 ?_;refine K.lenStr O (dT O O) ?_;refine aS O O (cP V22) (dT O O) ?_;refine U14 ?_)
  exact V6
 obtain ⟨c0,hc0⟩:∃ c,l[0]? = some c:=wg V3
 have hget0:(⟨l.toArray⟩:ByteArray)[(0:Int).toNat]? = some c0:=str_at hc0
 have hz:nmC l 0=letB c0:=by rw [nmC_zero,getD_of hc0]
 have hL:=isLetter_spec X c0
 cases h0:letB c0 with
 | false =>
  rw [nmB_false (i:=0) (by omega) (hz.trans h0)]
  rw [h0] at hL
  (refine U9 ?_;refine klt O O (cO V22) ?_;refine U2 ?_;refine K.lenStr O (dT O O) ?_;refine aS O O (cO V22) (dT O O) ?_;refine U3 ?_;refine bB O O V3 hget0 (dT O O) ?_;refine U10 ?_)
  exact V6
 | true =>
  have hz1:=hz.trans h0
  rw [h0] at hL
  (refine U9 ?_;refine klt O O (cO V22) ?_;refine U2 ?_;refine K.lenStr O (dT O O) ?_;refine aS O O (cO V22) (dT O O) ?_;refine U3 ?_;refine bB O O V3 hget0 (dT O O) ?_;refine U14 ?_)
  refine cL (fun m σ=>∃ i:Nat,i≤l.length∧m=l.length-i∧(∀ j,j<i→nmC l j=true)∧σ=⟨[(0,Ls l),(19,Ln .i64 (l.length:Nat)),(20,Ln .i64 (i:Nat))],[],X⟩) l.length
   ⟨_,Le.of V9 VC V2 V2 V2,0,by omega,by omega,fun j hj=>absurd hj V3,rfl⟩ ?_
  rintro m σ ⟨i,hi,rfl,hpre,rfl⟩
  by_cases hlt:i<l.length
  ·obtain ⟨c,hc⟩:=wg hlt
   have hN:nmC l i=(letB c||digB c):=by rw [nmC_more hz1,getD_of hc]
   have hget:(⟨l.toArray⟩:ByteArray)[(i:Int).toNat]? = some c:=str_at (by rw [dH];exact hc)
   have hA:=isLetter_spec X c
   have hB:=isDigit_spec X c
   have key:nmC l i=true→∀ j,j<i+1→nmC l j=true:=fun hok j hj=>by
    by_cases e:j=i
    ·rw [e];exact hok
    ·exact hpre j V3
   cases ha:letB c with
   | true =>
    rw [ha] at hA
    refine U35 ?_
    exact ⟨_,_,by omega,Le.of V9 VC V2 V2 V2,i+1,by omega,rfl,key (by rw [hN,ha];rfl),rfl⟩
   | false =>
    rw [ha] at hA
    cases hb:digB c with
    | true =>
     rw [hb] at hB
     (refine U24 ?_;refine bB O O V3 hget (dT O O) ?_;refine U10 ?_)
     exact ⟨_,_,by omega,Le.of V9 VC V2 V2 V2,i+1,by omega,rfl,key (by rw [hN,ha,hb];rfl),rfl⟩
    | false =>
     rw [hb] at hB
     rw [nmB_false hlt (by rw [hN,ha,hb];rfl)]
     (refine U24 ?_;refine bB O O V3 hget (dT O O) ?_;refine U10 ?_)
     exact V6
  ·rw [nmB_true V3 V3 (fun j hj=>hpre j V3)]
   refine U12 ?_
   exact V6
abbrev nmBx (k:Nat) (ns:List (List UInt8)):Nat×Option Box:=(k,some ⟨0,[],.res (mapR Tryz.prog 9 (nmM ns))⟩)
abbrev Lmp (k:Nat):LV:=.sv (.one (.mp k))
theorem take_ok (ns:List (List UInt8)) (l:List UInt8) (hl:l.length≤9223372036854775807) (h1:ns.any (fun m=>m==l)=false) (h2:nmB l=true):
  MSpec Tryz.prog X 58 [Lmp 1000000,Ls l] [nmBx 1000000 ns] (Lb true) [nmBx 1000000 (ns++[l])]:=by
 refine cG Tryz.func58 rfl V5 rfl rfl V7 rfl rfl ?_
 intro C
 have hN:=pIsName X l true h2
 have hkey:Go.keyOf Tryz.prog 9 (.string ⟨l.toArray⟩)=some (.string l):=by
  rw [WideMaps.keyOf_string_mk (by kernel_rfl) (by show l.length≤maxLen;unfold maxLen;omega)]
 (refine U9 ?_;refine K.lookupOk (et:=132) (.agg []) (v:=.agg #[]) (z:=.agg #[]) O O O V5 (KL.str V5) hkey V5 (nmM_at ns l) agg0_rel (nmM_any ns l false h1) dS ?_;refine U22 ?_;refine aT O O V2 (by exact nl0 O) dS ?_;refine K.mapPut (et:=132) (nmM (ns++[l])) O O O O V5 (KL.str V5) hkey (nmM_put h1) dS ?_;refine U6 ?_)
 exact ⟨[],⟨[_],⟨O,trivial⟩,O⟩,V1,O,O⟩
theorem take_no (ns:List (List UInt8)) (l:List UInt8) (hl:l.length≤9223372036854775807) (h:ns.any (fun m=>m==l)=true∨nmB l=false):
  MSpec Tryz.prog X 58 [Lmp 1000000,Ls l] [nmBx 1000000 ns] (Lb false) [nmBx 1000000 ns]:=by
 refine cG Tryz.func58 rfl V5 rfl rfl V7 rfl rfl ?_
 intro C
 have hkey:Go.keyOf Tryz.prog 9 (.string ⟨l.toArray⟩)=some (.string l):=by
  rw [WideMaps.keyOf_string_mk (by kernel_rfl) (by show l.length≤maxLen;unfold maxLen;omega)]
 cases h1:ns.any (fun m=>m==l) with
 | true =>
  (refine U9 ?_;refine K.lookupOk (et:=132) (.agg []) (v:=.agg #[]) (z:=.agg #[]) O O O V5 (KL.str V5) hkey V5 (nmM_at ns l) agg0_rel (nmM_any ns l true h1) dS ?_;refine U22 ?_)
  exact ⟨[],⟨[_],⟨O,trivial⟩,O⟩,V1,O,O⟩
 | false =>
  have hN:=pIsName X l false (h.resolve_left (by rw [h1];decide))
  (refine U9 ?_;refine K.lookupOk (et:=132) (.agg []) (v:=.agg #[]) (z:=.agg #[]) O O O V5 (KL.str V5) hkey V5 (nmM_at ns l) agg0_rel (nmM_any ns l false h1) dS ?_;refine U22 ?_)
  exact ⟨[],⟨[_],⟨O,trivial⟩,O⟩,V1,O,O⟩
end Go.Proofs.YtopiioklkkiedaaGreatDoor
end
section
set_option maxHeartbeats 12800000
set_option maxRecDepth 100000
namespace Go.Lg.Fld
open Go Go.Lg
def NamesC (cs:List Cp):Prop := ∀ c∈cs,c.fs.length<4611686018427387904∧c.nm.length≤9223372036854775807∧∀ f∈c.fs,f.nm.length≤9223372036854775807
theorem any_names {α:Type} (g:α→List UInt8) (l:List α) (i:Nat) (nm:List UInt8):((l.take i).map g).any (fun m=>m==nm)=(l.take i).any (fun x=>g x==nm):=by rw [List.any_map];rfl
def fldsE (fs:List Fl):Int:=if firstE (fldE fs) 0 fs.length=0 then layErr fs else 4
end Go.Lg.Fld
namespace Go.Proofs.YtopiioklkkiedaaGreatDoor
open Go Go.Lg Go.Lg.Fld
set_option maxRecDepth 100000
variable (X:Nat→Option Obj)
theorem checkFields_spec (fad:Option Addr) (fcap:Nat) (fs:List Fl) (hF:FieldsIn X fad fs) (hbig:fs.length<4611686018427387904) (hnm:∀ f∈fs,f.nm.length≤9223372036854775807) (e:Int) (he:fldsE fs=e):
  PSpec Tryz.prog X 59 [Lx fad fs.length fcap] (Ln .i64 e):=by
 subst he
 refine cF Tryz.func59 rfl V5 rfl rfl ?_
 intro C
 (refine U6 ?_;refine K.makeMap 9 O dS ?_;refine U10 ?_)
 refine cL (fun m σ=>∃ i:Nat,i≤fs.length∧m=fs.length-i∧(∀ j,0≤j→j<i→fldE fs j=0)∧σ=⟨[(0,Lx fad fs.length fcap),(3,Lmp 6),(7,Lx fad fs.length fcap),(8,Ln .i64 (fs.length:Nat)),(9,Ln .i64 (i:Nat))],[nmBx 6 ((fs.take i).map Fl.nm)],X⟩) fs.length
  ⟨_,Le.of V10 V13 V2 V2 V0,0,by omega,by omega,fun j _ hj=>absurd hj V3,rfl⟩ ?_
 rintro m σ ⟨i,hi,rfl,hpre,rfl⟩
 by_cases hlt:i<fs.length
 ·obtain ⟨f,hf⟩:=wg hlt
  obtain ⟨blk,off,arr,el,fr,rfl,hX,hsz,hcells⟩:=hF.at hf
  have hio:=wo off i 3
  have hE:=fldE_at hf
  have hnl:=hnm f (dE hf)
  have hany:=any_names Fl.nm fs i f.nm
  have hts:(fs.take (i+1)).map Fl.nm=(fs.take i).map Fl.nm++[f.nm]:=by rw [take_snoc hf,dI];rfl
  by_cases hbad:fldE fs i=0
  ·rw [hbad] at hE
   have h2:nmB f.nm=true:=by
    cases h:nmB f.nm with
    | true=>rfl
    | false=>rw [h,if_neg VA] at hE;cases hE
   rw [if_pos h2] at hE
   have h1:((fs.take i).map Fl.nm).any (fun m=>m==f.nm)=false:=by
    rw [hany]
    cases h:(fs.take i).any (fun g=>g.nm==f.nm) with
    | false=>rfl
    | true=>rw [h,if_pos rfl] at hE;cases hE
   have hT:=take_ok X ((fs.take i).map Fl.nm) f.nm hnl h1 h2
   rw [← hts] at hT
   generalize (fs.take i).map Fl.nm=ns at *
   generalize hns:(fs.take (i+1)).map Fl.nm=ns' at *
   (refine U21 ?_;refine aU [(1000000,6)] [nmBx 6 ns'] (hT) O O V17 (by exact (bT O O)) O O O O V19 dS ?_;refine U8 ?_)
   subst hns
   exact ⟨_,_,by omega,Le.of V10 V13 V2 V2 V0,i+1,by omega,O,(fun j h0 hj=>by
    by_cases e:j=i
    ·rw [e];exact hbad
    ·exact hpre j h0 V3),rfl⟩
  ·have h4:fldE fs i=4:=by
    rw [hE] at hbad ⊢
    cases h0:nmB f.nm with
    | false=>rfl
    | true =>
     rw [h0] at hbad
     cases h':(fs.take i).any (fun g=>g.nm==f.nm) with
     | true=>rfl
     | false=>rw [h'] at hbad;exact absurd rfl hbad
   have hno:((fs.take i).map Fl.nm).any (fun m=>m==f.nm)=true∨nmB f.nm=false:=by
    rw [hany]
    rw [hE] at hbad
    cases h:nmB f.nm with
    | false=>exact .inr rfl
    | true =>
     left
     rw [h,if_pos rfl] at hbad
     cases h':(fs.take i).any (fun g=>g.nm==f.nm) with
     | true=>rfl
     | false=>rw [h',if_neg VA] at hbad;exact absurd rfl hbad
   have hfin:fldsE fs=4:=by unfold fldsE;rw [firstE_some hpre (Nat.zero_le _) V3 h4 VA,if_neg VA]
   rw [hfin]
   have hT:=take_no X ((fs.take i).map Fl.nm) f.nm hnl hno
   generalize (fs.take i).map Fl.nm=ns at *
   (refine U21 ?_;refine aU [(1000000,6)] [nmBx 6 ns] (hT) O O V17 (by exact (bT O O)) O O O O V19 dS ?_;refine U8 ?_)
   exact V6
 ·have hfin:fldsE fs=layErr fs:=by unfold fldsE;rw [if_pos (firstE_none fun j h0 hj=>hpre j h0 V3)]
  rw [hfin]
  have hL:=Check_spec X fad fcap fs hF hbig
  generalize layErr fs=e at *
  refine U14 ?_
  exact V6
theorem cmpE_flds {cs:List Cp} {i:Nat} {c:Cp} (h:cs[i]? = some c):cmpE cs i=if c.id<1∨24<c.id∨(0<i∧c.id≤prevId cs i) then 1
  else if nmB c.nm=true then (if (cs.take i).any (fun g=>g.nm==c.nm)=true then 4 else fldsE c.fs) else 4:=cmpE_at h
set_option maxHeartbeats 3200000 in
theorem pCheckBig (s:Sc) (ad:Option Addr) (cap:Nat) (hin:CompsIn X ad s.cs) (hbig:s.cs.length<4611686018427387904) (hN:NamesC s.cs) (e:Int) (he:chkE s=e):PSpec Tryz.prog X 25 [Sx s.ver ad s.cs.length cap] (Ln .i64 e):=by
 subst he
 obtain ⟨ver,cs⟩:=s
 simp only at hin hbig hN ⊢
 refine cF Tryz.func25 rfl V5 rfl rfl ?_
 intro C
 unfold chkE
 by_cases hv1:ver<1
 ·rw [if_pos (.inl hv1)]
  (refine U10 ?_;refine klt rfl rfl (cP hv1) ?_;refine U12 ?_)
  exact V6
 by_cases hv2:1073741824<ver
 ·rw [if_pos (.inr hv2)]
  (refine U10 ?_;refine klt O O (cO hv1) ?_;refine U3 ?_;refine aS O O (cP hv2) (dT O O) ?_;refine U8 ?_)
  exact V6
 rw [if_neg (show ¬(ver<1∨1073741824<ver) by omega)]
 (refine U10 ?_;refine klt O O (cO hv1) ?_;refine U3 ?_;refine aS O O (cO hv2) (dT O O) ?_;refine U6 ?_;refine K.makeMap 9 O dS ?_;refine U12 ?_)
 refine cL (fun m σ=>∃ (i:Nat) (last:Int),i≤cs.length∧m=cs.length-i∧(∀ j,0≤j→j<i→cmpE cs j=0)∧(∀ x:Int,x≤last↔(x<1∨(0<i∧x≤prevId cs i)))∧σ=⟨[(3,Ln .i64 last),(4,Lmp 16),(18,Lx ad cs.length cap),(19,Ln .i64 (cs.length:Nat)),(20,Ln .i64 (i:Nat))],[nmBx 16 ((cs.take i).map Cp.nm)],X⟩) cs.length
  ⟨_,Le.of V10 V13 V2 V2 V0,0,0,by omega,by omega,fun j _ hj=>absurd hj V3,fun x=>by omega,rfl⟩ ?_
 rintro m σ ⟨i,last,hi,rfl,hpre,hlast,rfl⟩
 by_cases hlt:i<cs.length
 ·obtain ⟨c,hc⟩:=wg hlt
  obtain ⟨blk,off,arr,el,fr,fad,fcap,rfl,hX,hsz,hcs,_,_,_,hF⟩:=hin.get hc
  have hio:=wo off i 3
  have hE:=cmpE_flds hc
  obtain ⟨hfb,hnl,hfn⟩:=hN c (dE hc)
  have fin:∀ e,cmpE cs i=e→e≠0→firstE (cmpE cs) 0 cs.length=e:=fun e he h0=>firstE_some hpre (Nat.zero_le _) V3 he h0
  have hany:=any_names Cp.nm cs i c.nm
  have hts:(cs.take (i+1)).map Cp.nm=(cs.take i).map Cp.nm++[c.nm]:=by rw [take_snoc hc,dI];rfl
  refine U18 ?_
  refine LWP.le (σ':=⟨[(3,Ln .i64 last),(4,Lmp 16),(6,Lp 6),(18,Lx (some ⟨blk,off,none⟩) cs.length cap),(19,Ln .i64 (cs.length:Nat)),(20,Ln .i64 (i:Nat))],[nmBx 16 ((cs.take i).map Cp.nm),cpB 6 c fad fcap],X⟩) (Le.of V11 VE V2 V2 V0) ?_
  by_cases hq1:c.id≤last
  ·rw [if_pos (by rcases (hlast c.id).1 hq1 with h|h;exact .inl h;exact .inr (.inr h))] at hE
   rw [fin 1 hE (by decide)]
   (refine U4 ?_;refine K.leq O O (cP hq1) dS ?_;refine U12 ?_)
   exact V6
  by_cases hq2:24<c.id
  ·rw [if_pos (.inr (.inl hq2))] at hE
   rw [fin 1 hE (by decide)]
   (refine U4 ?_;refine K.leq O O (cO hq1) dS ?_;refine U3 ?_;refine aS O O (cP hq2) (dT O O) ?_;refine U8 ?_)
   exact V6
  have hq3:¬(c.id<1∨(0<i∧c.id≤prevId cs i)):=fun h=>hq1 ((hlast c.id).2 h)
  rw [if_neg (show ¬(c.id<1∨24<c.id∨(0<i∧c.id≤prevId cs i)) from fun h=>by rcases h with h|h|h;exact hq3 (.inl h);exact hq2 h;exact hq3 (.inr h))] at hE
  by_cases hno:((cs.take i).map Cp.nm).any (fun m=>m==c.nm)=true∨nmB c.nm=false
  ·have h4:cmpE cs i=4:=by
    rw [hE]
    rw [hany] at hno
    rcases hno with h|h
    ·rw [h];simp
    ·rw [h];simp
   rw [fin 4 h4 (by decide)]
   have hT:=take_no X ((cs.take i).map Cp.nm) c.nm hnl hno
   generalize (cs.take i).map Cp.nm=ns at *
   (refine U4 ?_;refine K.leq O O (cO hq1) dS ?_;refine U3 ?_;refine aS O O (cO hq2) (dT O O) ?_;refine U16 ?_;refine aU [(1000000,16)] [nmBx 16 ns] (hT) O O V17 (by exact (bT O O)) O O O O V19 dS ?_;refine U8 ?_)
   exact V6
  have h1:((cs.take i).map Cp.nm).any (fun m=>m==c.nm)=false:=by
   cases h:((cs.take i).map Cp.nm).any (fun m=>m==c.nm) with
   | false=>rfl
   | true=>exact absurd (.inl h) hno
  have h2:nmB c.nm=true:=by
   cases h:nmB c.nm with
   | true=>rfl
   | false=>exact absurd (.inr h) hno
  rw [if_pos h2,← hany,h1,if_neg (by decide)] at hE
  have hT:=take_ok X ((cs.take i).map Cp.nm) c.nm hnl h1 h2
  rw [← hts] at hT
  have hCF:=checkFields_spec X fad fcap c.fs hF hfb hfn (fldsE c.fs) rfl
  generalize (cs.take i).map Cp.nm=ns at *
  generalize hns:(cs.take (i+1)).map Cp.nm=ns' at *
  by_cases hz:fldsE c.fs=0
  ·rw [hz] at hCF hE
   (refine U4 ?_;refine K.leq O O (cO hq1) dS ?_;refine U3 ?_;refine aS O O (cO hq2) (dT O O) ?_;refine U16 ?_;refine aU [(1000000,16)] [nmBx 16 ns'] (hT) O O V17 (by exact (bT O O)) O O O O V19 dS ?_;refine U22 ?_)
   subst hns
   exact ⟨_,_,by omega,Le.of V10 V13 V2 V2 V0,i+1,c.id,by omega,O,(fun j h0 hj=>by
    by_cases e:j=i
    ·rw [e];exact hE
    ·exact hpre j h0 V3),(fun x=>by
    have hp:prevId cs (i+1)=c.id:=by unfold prevId;rw [Nat.add_sub_cancel,hc];rfl
    rw [hp];omega),rfl⟩
  ·rw [fin _ hE hz]
   have hne:(fldsE c.fs != 0)=true:=by rw [bne_iff_ne];exact hz
   generalize fldsE c.fs=e at *
   (refine U4 ?_;refine K.leq O O (cO hq1) dS ?_;refine U3 ?_;refine aS O O (cO hq2) (dT O O) ?_;refine U16 ?_;refine aU [(1000000,16)] [nmBx 16 ns'] (hT) O O V17 (by exact (bT O O)) O O O O V19 dS ?_;refine U14 ?_;refine kne O O hne ?_;refine U8 ?_)
   exact V6
 ·rw [show firstE (cmpE cs) 0 cs.length=0 from firstE_none fun j h0 hj=>hpre j h0 V3]
  refine U12 ?_
  exact V6
end Go.Proofs.YtopiioklkkiedaaGreatDoor
end
section
set_option maxHeartbeats 12800000
set_option maxRecDepth 100000
namespace Go.Lg.Fld
open Go Go.Lg
theorem fields_reads {X:Nat→Option Obj} {ad:Option Addr} {fs:List Fl} (h:FieldsIn X ad fs):ReadsX X ad (flV fs):=⟨fun j u hj=>by
 have hjl:=(wl hj)
 rw [flV_len] at hjl
 obtain ⟨f,hf⟩:∃ f,fs[j/3]? = some f:=wg V3
 obtain ⟨blk,off,arr,el,fr,rfl,hX,hsz,hcs⟩:=h.rows (j/3) f.vals (by rw [dM,hf];rfl)
 refine ⟨blk,off,arr,el,fr,O,hX,?_⟩
 obtain ⟨h1,h2⟩:=flV_at hf
 have h3:((flV fs).drop (j/3*3)).take 3=(arr.toList.drop (off+j/3*3)).take 3:=by rw [h2,hcs]
 have h4:(((flV fs).drop (j/3*3)).take 3)[j%3]? = ((arr.toList.drop (off+j/3*3)).take 3)[j%3]? := by rw [h3]
 rw [List.getElem?_take,List.getElem?_take,if_pos (Nat.mod_lt _ (by omega)),if_pos (Nat.mod_lt _ (by omega)),List.getElem?_drop,List.getElem?_drop,show j/3*3+j%3=j by omega,show off+j/3*3+j%3=off+j by omega,hj,Array.getElem?_toList] at h4
 exact h4.symm⟩
theorem flV_one (fs:List Fl):∀ u∈flV fs,u.oneCell'=true:=fun u hu=>by
 unfold flV at hu
 rw [List.mem_flatten] at hu
 obtain ⟨l,hl,hu⟩:=hu
 obtain ⟨f,_,rfl⟩:=List.mem_map.1 hl
 simp only [Fl.vals,List.mem_cons,List.not_mem_nil,or_false] at hu
 rcases hu with rfl|rfl|rfl<;>rfl
theorem FieldsIn.none {X:Nat→Option Obj} {fs:List Fl} (h:FieldsIn X none fs):fs=[]:=by
 cases hfs:fs with
 | nil=>rfl
 | cons f t =>
  obtain ⟨_,_,_,_,_,e,_⟩:=h.nm (k:=0) (f:=f) (by rw [hfs];rfl)
  cases e
end Go.Lg.Fld
namespace Go.Proofs.YtopiioklkkiedaaGreatDoor
open Go Go.Lg Go.Lg.Fld
set_option maxRecDepth 100000
abbrev SCx (c:Cp) (fad:Option Addr) (fcap:Nat):SV:=.agg [.val (.int .i64 c.id),.val (.string ⟨c.nm.toArray⟩),.val (.slice fad c.fs.length fcap)]
abbrev SC0:SV:=.agg [.val (.int .i64 0),.val (.string ⟨#[]⟩),.val (.slice none 0 0)]
abbrev SCs (c:Cp) (k:Nat):SV:=.agg [.val (.int .i64 c.id),.val (.string ⟨c.nm.toArray⟩),.slc k 0 c.fs.length 3]
abbrev fdB (k:Nat) (fs:List Fl):Nat×Option Box:=(k,some ⟨83,(flV fs).map .val,true⟩)
abbrev Lf (f:FuncId) (caps:List Value):LV:=.sv (.one (.val (.func (.func f) #[] caps.toArray)))
abbrev Fx (f:Fl):LV:=.sv (.agg (f.vals.map CV.val))
variable (X:Nat→Option Obj)
theorem idxC_spec (ad:Option Addr) (cap:Nat) (cs:List Cp) (hin:CompsIn X ad cs) (hbig:cs.length<4611686018427387904) (f:FuncId) (caps:List Value) (p:Cp→Bool)
  (hp:∀ c∈cs,∀ fad fcap,PSpec Tryz.prog X f ([Cx c fad fcap]++caps.map fun v=>.sv (.one (.val v))) (Lb (p c))):
  PSpec Tryz.prog X 129 [Lx ad cs.length cap,Lf f caps] (Ln .i64 (findI p cs)):=by
 refine cF Tryz.func129 rfl V5 rfl rfl ?_
 intro C
 refine U12 ?_
 refine cL (fun m σ=>∃ i:Nat,i≤cs.length∧m=cs.length-i∧(∀ (j:Nat) (y:Cp),j<i→cs[j]? = some y→p y=false)∧σ=⟨[(0,Lx ad cs.length cap),(1,Lf f caps),(7,Ln .i64 (cs.length:Nat)),(8,Ln .i64 (i:Nat))],[],X⟩) cs.length
  ⟨_,Le.of V8 VC V2 V2 V2,0,by omega,by omega,fun j y hj=>absurd hj V3,rfl⟩ ?_
 rintro m σ ⟨i,hi,rfl,hpre,rfl⟩
 by_cases hlt:i<cs.length
 ·obtain ⟨c,hc⟩:=wg hlt
  obtain ⟨blk,off,arr,el,fr,fad,fcap,rfl,hX,hsz,hcs,_,_,_,hF⟩:=hin.get hc
  have hio:=wo off i 3
  have hP:=hp c (dE hc) fad fcap
  cases hpc:p c with
  | true =>
   rw [hpc] at hP
   rw [findI_some hpre hc hpc]
   (refine U21 ?_;refine K.callF O O O hP dS ?_;refine U8 ?_)
   exact V6
  | false =>
   rw [hpc] at hP
   (refine U21 ?_;refine K.callF O O O hP dS ?_;refine U7 ?_)
   exact ⟨_,_,by omega,Le.of V8 VC V2 V2 V2,i+1,by omega,O,(fun j y hj hy=>by
    by_cases e:j=i
    ·subst e;rw [hc] at hy;cases hy;exact hpc
    ·exact hpre j y V3 hy),rfl⟩
 ·rw [findI_none fun j y hy=>hpre j y V2D hy]
  refine U12 ?_
  exact V6
abbrev Vp (b:Nat):LV:=.sv (.one (.val (.pointer (some ⟨b,0,none⟩))))
theorem find1_spec (c:Cp) (fad:Option Addr) (fcap:Nat) (id:Int) {b:Nat} {arr:Array Value} {el:TypeId} {fr:Nat×Nat} (hX:X b=some (.cells arr el fr)) (h0:arr[0]? = some (.int .i64 id)):
  PSpec Tryz.prog X 92 [Cx c fad fcap,Vp b] (Lb (c.id==id)):=by
 refine cF Tryz.func92 rfl V5 rfl rfl ?_
 intro C
 (refine U10 ?_;refine keq rfl rfl rfl ?_;refine U3 ?_)
 exact V6
theorem fclone_nil (cap:Nat):PSpec Tryz.prog X 98 [Lx none 0 cap] (Lx none 0 0):=by
 refine cF Tryz.func98 rfl V5 rfl rfl ?_
 intro C
 (refine U8 ?_;refine K.slcNil (r:=true) O cC (.inl ⟨O,O⟩) dS ?_;refine U7 ?_)
 exact V6
theorem fclone_some (fa:Addr) (cap:Nat) (fs:List Fl) (hF:FieldsIn X (some fa) fs) (hb:fs.length≤4398046511104):
  MSpec Tryz.prog X 98 [Lx (some fa) fs.length cap] [] (.sv (.one (.slc 1000001 0 fs.length 3))) [fdB 1000001 fs]:=by
 refine cG Tryz.func98 rfl V5 rfl rfl V7 rfl rfl ?_
 intro C
 (refine U8 ?_;refine K.slcNil (r:=false) O cC (.inl ⟨O,O⟩) dS ?_;refine U5 ?_;refine aZ (zs:=[]) (sz:=3) (e:=83) V5 O O O O O O dS<|kmv O<|K.appendX (by_:=32) (e2:=83) (news:=flV fs) (nl:=fs.length) (nc:=(flV fs).map .val) O O O O (fields_reads hF) (flV_len fs) (flV_one fs) V5 V5 V3 V3 O V3 O dS ?_;refine U3 ?_)
 exact ⟨[(1000001,7)],⟨[_],⟨O,trivial⟩,O⟩,V1,O,O⟩
theorem cclone_nil (c:Cp) (cap:Nat) (h:c.fs=[]):PSpec Tryz.prog X 57 [Cx c none cap] (.sv (SCx c none 0)):=by
 refine cF Tryz.func57 rfl V5 rfl rfl ?_
 intro C
 have hq:=fclone_nil X cap
 obtain ⟨id,nm,fs⟩:=c
 simp only at h
 subst h
 refine U19 ?_
 exact VF
theorem cclone_some (c:Cp) (fa:Addr) (cap:Nat) (hF:FieldsIn X (some fa) c.fs) (hb:c.fs.length≤4398046511104):
  MSpec Tryz.prog X 57 [Cx c (some fa) cap] [] (.sv (SCs c 1000001)) [fdB 1000001 c.fs]:=by
 refine cG Tryz.func57 rfl V5 rfl rfl V7 rfl rfl ?_
 intro C
 have hq:=fclone_some X fa cap c.fs hF hb
 (refine U9 ?_;refine bE [(1000001,20)] (.sv (.one (.slc 20 0 c.fs.length 3))) [fdB 20 c.fs] (hq) O O VC O O O O O V18 dS ?_;refine U9 ?_)
 exact ⟨[(1000001,20)],⟨[_],⟨⟨_,_,O,O,O,.inl ⟨AggT.h,O⟩⟩,trivial⟩,O⟩,V1,O,O⟩
section
variable (ver:Int) (ad:Option Addr) (cap:Nat) (cs:List Cp) (f:FuncId) (caps:List Value) (p:Cp→Bool)
theorem first_no (hin:CompsIn X ad cs) (hbig:cs.length<4611686018427387904) (hp:∀ c∈cs,∀ fad fcap,PSpec Tryz.prog X f ([Cx c fad fcap]++caps.map fun v=>.sv (.one (.val v))) (Lb (p c))) (hno:findI p cs = -1):
  PSpec Tryz.prog X 91 [Sx ver ad cs.length cap,Lf f caps] (.tup [SC0,Sb false]):=by
 refine cF Tryz.func91 rfl V5 rfl rfl ?_
 intro C
 have hI:=idxC_spec X ad cap cs hin hbig f caps p hp
 rw [hno] at hI
 (refine U18 ?_;refine klt rfl rfl rfl ?_;refine U9 ?_)
 exact V4
theorem first_nil (hin:CompsIn X ad cs) (hbig:cs.length<4611686018427387904) (hp:∀ c∈cs,∀ fad fcap,PSpec Tryz.prog X f ([Cx c fad fcap]++caps.map fun v=>.sv (.one (.val v))) (Lb (p c)))
  {i:Nat} {c:Cp} (hpre:∀ (j:Nat) (y:Cp),j<i→cs[j]? = some y→p y=false) (hc:cs[i]? = some c) (he:p c=true)
  {blk off:Nat} {arr:Array Value} {el:TypeId} {fr:Nat×Nat} {fcap:Nat} (had:ad=some ⟨blk,off,none⟩) (hX:X blk=some (.cells arr el fr)) (hsz:off+i*3+3≤arr.size) (hcs:((arr.toList.drop (off+i*3)).take 3).map CV.val=[.val (.int .i64 c.id),.val (.string ⟨c.nm.toArray⟩),.val (.slice none c.fs.length fcap)]) (h0:c.fs=[]):
  PSpec Tryz.prog X 91 [Sx ver ad cs.length cap,Lf f caps] (.tup [SCx c none 0,Sb true]):=by
 subst had
 have hI:=idxC_spec X _ cap cs hin hbig f caps p hp
 rw [findI_some hpre hc he] at hI
 have hi:=(wl hc)
 have hio:=wo off i 3
 refine cF Tryz.func91 rfl V5 rfl rfl ?_
 intro C
 have hq:=cclone_nil X c fcap h0
 refine U34 ?_
 exact V4
theorem first_box (hin:CompsIn X ad cs) (hbig:cs.length<4611686018427387904) (hp:∀ c∈cs,∀ fad fcap,PSpec Tryz.prog X f ([Cx c fad fcap]++caps.map fun v=>.sv (.one (.val v))) (Lb (p c)))
  {i:Nat} {c:Cp} (hpre:∀ (j:Nat) (y:Cp),j<i→cs[j]? = some y→p y=false) (hc:cs[i]? = some c) (he:p c=true)
  {blk off:Nat} {arr:Array Value} {el:TypeId} {fr:Nat×Nat} {fcap:Nat} {fa:Addr} (had:ad=some ⟨blk,off,none⟩) (hX:X blk=some (.cells arr el fr)) (hsz:off+i*3+3≤arr.size) (hcs:((arr.toList.drop (off+i*3)).take 3).map CV.val=[.val (.int .i64 c.id),.val (.string ⟨c.nm.toArray⟩),.val (.slice (some fa) c.fs.length fcap)]) (hF:FieldsIn X (some fa) c.fs) (hfb:c.fs.length≤4398046511104):
  MSpec Tryz.prog X 91 [Sx ver ad cs.length cap,Lf f caps] [] (.tup [SCs c 1000001,Sb true]) [fdB 1000001 c.fs]:=by
 subst had
 have hI:=idxC_spec X _ cap cs hin hbig f caps p hp
 rw [findI_some hpre hc he] at hI
 have hi:=(wl hc)
 have hio:=wo off i 3
 refine cG Tryz.func91 rfl V5 rfl rfl V7 rfl rfl ?_
 intro C
 have hq:=cclone_some X c fa fcap hF hfb
 (refine U29 ?_;refine bE [(1000001,20)] (.sv (SCs c 20)) [fdB 20 c.fs] (hq) O O VC O O O O O V18 dS ?_;refine U4 ?_)
 exact ⟨[(1000001,20)],⟨[_,_],⟨⟨_,_,O,O,O,.inl ⟨AggT.h,O⟩⟩,O,trivial⟩,O⟩,V1,O,O⟩
end
theorem at_zero {arr:Array Value} {v:Value} (h:∃ sp,arr.toList=[v]++sp):arr[0]? = some v:=by
 obtain ⟨sp,h⟩:=h
 rw [← Array.getElem?_toList,h];rfl
theorem pFind_no (ver:Int) (ad:Option Addr) (cap:Nat) (cs:List Cp) (id:Int) (hin:CompsIn X ad cs) (hbig:cs.length<4611686018427387904) (hno:∀ (j:Nat) (y:Cp),cs[j]? = some y→(y.id==id)=false):
  PSpec Tryz.prog X 48 [Sx ver ad cs.length cap,Ln .i64 id] (.tup [SC0,Sb false]):=by
 refine cF Tryz.func48 rfl V5 rfl rfl ?_
 intro C
 refine U8 ?_
 refine LWP.le (σ':=⟨[(3,Lp 3),(2,Lp 2),(4,Lp 4)],[(3,some ⟨3,[Value.int .i64 id].map .val,false⟩),sxB 2 ver ad cs.length cap,(4,some ⟨24,[.val (.int .i64 0),.val (.string ⟨#[]⟩),.val (.slice none 0 0)],false⟩)],X⟩) (Le.of V9 V9 V2 V2 V0) ?_
 refine LWP.freezePtr V31 V31 V31 fun b arr0 fr0 hn _ h0 => ?_
 have hin':=hin.mono (cJ (o:=.cells arr0 3 fr0) hn)
 have hp:=fun (c:Cp) (_:c∈cs) (fad:Option Addr) (fcap:Nat)=>find1_spec _ c fad fcap id (cN X b (.cells arr0 3 fr0)) (at_zero h0)
 have hq:=first_no _ ver ad cap cs 92 [.pointer (some ⟨b,0,none⟩)] (fun c=>c.id==id) hin' hbig hp (findI_none hno)
 (refine U2 ?_;refine K.makeFunc O O dS ?_;refine U7 ?_)
 exact V4
theorem pFind (ver:Int) (ad:Option Addr) (cap:Nat) (cs:List Cp) (id:Int) (hin:CompsIn X ad cs) (hbig:cs.length<4611686018427387904) (hfs:∀ c∈cs,c.fs.length≤4398046511104) {i:Nat} {c:Cp} (hpre:∀ (j:Nat) (y:Cp),j<i→cs[j]? = some y→(y.id==id)=false) (hc:cs[i]? = some c) (he:c.id=id):
  (c.fs=[]∧PSpec Tryz.prog X 48 [Sx ver ad cs.length cap,Ln .i64 id] (.tup [SCx c none 0,Sb true])) ∨
   MSpec Tryz.prog X 48 [Sx ver ad cs.length cap,Ln .i64 id] [] (.tup [SCs c 1000001,Sb true]) [fdB 1000001 c.fs]:=by
 have he':(c.id==id)=true:=by rw [beq_iff_eq];exact he
 obtain ⟨blk,off,arr,el,fr,fad,fcap,rfl,hX,hsz,hcs,_,_,_,hF⟩:=hin.get hc
 cases fad with
 | none =>
  have hnil:=hF.none
  refine .inl ⟨hnil,?_⟩
  refine cF Tryz.func48 rfl V5 rfl rfl ?_
  intro C
  refine U8 ?_
  refine LWP.le (σ':=⟨[(3,Lp 3),(2,Lp 2),(4,Lp 4)],[(3,some ⟨3,[Value.int .i64 id].map .val,false⟩),sxB 2 ver (some ⟨blk,off,none⟩) cs.length cap,(4,some ⟨24,[.val (.int .i64 0),.val (.string ⟨#[]⟩),.val (.slice none 0 0)],false⟩)],X⟩) (Le.of V9 V9 V2 V2 V0) ?_
  refine LWP.freezePtr V31 V31 V31 fun b arr0 fr0 hn _ h0 => ?_
  have hin':=hin.mono (cJ (o:=.cells arr0 3 fr0) hn)
  have hp:=fun (c:Cp) (_:c∈cs) (fad:Option Addr) (fcap:Nat)=>find1_spec _ c fad fcap id (cN X b (.cells arr0 3 fr0)) (at_zero h0)
  have hq:=first_nil _ ver _ cap cs 92 [.pointer (some ⟨b,0,none⟩)] (fun c=>c.id==id) hin' hbig hp hpre hc he' rfl (cJ hn _ _ hX) hsz hcs hnil
  (refine U2 ?_;refine K.makeFunc O O dS ?_;refine U7 ?_)
  exact V4
 | some fa =>
  refine .inr ?_
  refine cG Tryz.func48 rfl V5 rfl rfl V7 rfl rfl ?_
  intro C
  refine U8 ?_
  refine LWP.le (σ':=⟨[(3,Lp 3),(2,Lp 2),(4,Lp 4)],[(3,some ⟨3,[Value.int .i64 id].map .val,false⟩),sxB 2 ver (some ⟨blk,off,none⟩) cs.length cap,(4,some ⟨24,[.val (.int .i64 0),.val (.string ⟨#[]⟩),.val (.slice none 0 0)],false⟩)],X⟩) (Le.of V9 V9 V2 V2 V0) ?_
  refine LWP.freezePtr V31 V31 V31 fun b arr0 fr0 hn _ h0 => ?_
  have hin':=hin.mono (cJ (o:=.cells arr0 3 fr0) hn)
  have hp:=fun (c:Cp) (_:c∈cs) (fad:Option Addr) (fcap:Nat)=>find1_spec _ c fad fcap id (cN X b (.cells arr0 3 fr0)) (at_zero h0)
  have hq:=first_box _ ver _ cap cs 92 [.pointer (some ⟨b,0,none⟩)] (fun c=>c.id==id) hin' hbig hp hpre hc he' rfl (cJ hn _ _ hX) hsz hcs (hF.mono (cJ hn)) (hfs c (dE hc))
  (refine U2 ?_;refine K.makeFunc O O dS ?_;refine bE [(1000001,20)] (.tup [SCs c 20,Sb true]) [fdB 20 c.fs] (hq) O O VC O O O O O V18 dS ?_;refine U6 ?_)
  exact ⟨[(1000001,20)],⟨[_,_],⟨⟨_,_,O,O,O,.inl ⟨AggT.h,O⟩⟩,O,trivial⟩,O⟩,V1,O,O⟩
end Go.Proofs.YtopiioklkkiedaaGreatDoor
end
section
set_option maxHeartbeats 12800000
set_option maxRecDepth 100000
namespace Go.Lg.Fld
open Go Go.Lg
def idsV (cs:List Cp):List Value:=cs.map fun c=>.int .i64 c.id
end Go.Lg.Fld
namespace Go.Proofs.YtopiioklkkiedaaGreatDoor
open Go Go.Lg Go.Lg.Fld
set_option maxRecDepth 100000
variable (X:Nat→Option Obj)
theorem pIds (ver:Int) (ad:Option Addr) (cap:Nat) (cs:List Cp) (hin:CompsIn X ad cs) (hS:cs.length≤65536):MSpec Tryz.prog X 87 [Sx ver ad cs.length cap] [] (.sv (.one (.slc 1000001 0 cs.length))) [(1000001,some ⟨3,(idsV cs).map .val,false⟩)]:=by
 refine cG Tryz.func87 rfl V5 rfl rfl V7 rfl rfl ?_
 intro C
 have hmk:slcBuild Tryz.prog 103 cs.length=some (List.replicate cs.length (.int .i64 0),1,3):=slcBuild_one V5 V5 V3
 (refine U10 ?_;refine K.makeSlc (m:=cs.length) (bytes:=8) O O hmk V5 V3 O O dS ?_;refine U11 ?_)
 refine cL (fun m σ=>∃ i:Nat,i≤cs.length∧m=cs.length-i∧σ=⟨[(3,.sv (.one (.slc 9 0 cs.length))),(11,Lx ad cs.length cap),(12,Ln .i64 (cs.length:Nat)),(13,Ln .i64 (i:Nat))],[(9,some ⟨3,(idsV (cs.take i)++List.replicate (cs.length-i) (Value.int .i64 0)).map .val,false⟩)],X⟩) cs.length
  ⟨_,Le.of V8 V13 V2 V2 V0,0,by omega,by omega,rfl⟩ ?_
 rintro m σ ⟨i,hi,rfl,rfl⟩
 by_cases hlt:i<cs.length
 ·obtain ⟨c,hc⟩:=wg hlt
  obtain ⟨blk,off,arr,el,fr,fad,fcap,rfl,hX,hsz,hcs,_,_,_,hF⟩:=hin.get hc
  have hio:=wo off i 3
  have hix:0+Int.toNat (i:Int)*1=i:=by rw [dH];omega
  have hil:(idsV (cs.take i)).length=i:=by unfold idsV;rw [cX,dA];omega
  have hroom:i+1≤((idsV (cs.take i)++List.replicate (cs.length-i) (Value.int .i64 0)).map CV.val).length:=by rw [cX,cW,hil,dF];omega
  have hspl:splice ((idsV (cs.take i)++List.replicate (cs.length-i) (Value.int .i64 0)).map CV.val) i [.val (.int .i64 c.id)]=(idsV (cs.take (i+1))++List.replicate (cs.length-(i+1)) (Value.int .i64 0)).map CV.val:=by
   unfold splice
   rw [show cs.length-i=(cs.length-(i+1))+1 by omega,List.replicate_succ,take_snoc hc]
   have e:idsV (cs.take i++[c])=idsV (cs.take i)++[.int .i64 c.id]:=by unfold idsV;rw [dI];rfl
   rw [e]
   simp only [dI,dN]
   have hml:((idsV (cs.take i)).map CV.val).length=i:=by rw [cX,hil]
   generalize (idsV (cs.take i)).map CV.val=R at *
   rw [← hml,List.take_left,List.drop_length_add_append]
   simp
  (refine U24 ?_;refine K.store O O O O V5 hroom hspl dS ?_;refine U5 ?_)
  exact ⟨_,_,by omega,Le.of V8 V13 V2 V2 V0,i+1,by omega,O,O⟩
 ·have e:i=cs.length:=by omega
  subst e
  rw [dG,Nat.sub_self,List.replicate_zero,dK]
  refine U13 ?_
  exact ⟨[(1000001,9)],⟨[_],⟨O,trivial⟩,O⟩,V1,O,O⟩
end Go.Proofs.YtopiioklkkiedaaGreatDoor
end
section
set_option maxHeartbeats 12800000
set_option maxRecDepth 100000
namespace Go.Lg.Fld
open Go Go.Lg
theorem joinM_has {C:Ctx} {Y H:Nat→Option Obj} (hO:OwnedM C Y H) {b:Nat} {o:Obj} (h:Y b=some o):joinM Y H b=some o:=by
 cases hb:H b with
 | none=>rw [joinM_out hb];exact h
 | some o'=>have:=(hO.own b o' hb).2.2;rw [this] at h;cases h
def idM (ns:List Int):List (Value×Value):=ns.map fun x=>(.int .i64 x,.agg #[])
theorem idM_at (ns:List Int) (x:Int):At (idM ns) (.int .i64 x) (.agg #[]) (.agg #[]):=by
 by_cases h:x∈ns
 ·exact .inl (List.mem_map.2 ⟨x,h,rfl⟩)
 ·refine .inr ⟨fun p hp e => ?_,rfl⟩
  obtain ⟨y,hy,rfl⟩:=List.mem_map.1 hp
  simp only [Value.int.injEq,true_and] at e
  exact h (e▸hy)
theorem idM_any (ns:List Int) (x:Int) (r:Bool) (hr:ns.any (fun m=>m==x)=r):r=true↔∃ p∈idM ns,p.1 = .int .i64 x:=by
 subst hr
 rw [List.any_eq_true]
 constructor
 ·rintro ⟨m,hm,he⟩
  rw [beq_iff_eq] at he
  subst he
  exact ⟨_,List.mem_map.2 ⟨m,hm,O⟩,O⟩
 ·rintro ⟨p,hp,e⟩
  obtain ⟨y,hy,rfl⟩:=List.mem_map.1 hp
  simp only [Value.int.injEq,true_and] at e
  exact ⟨y,hy,by rw [beq_iff_eq];exact e⟩
theorem idM_put {ns:List Int} {x:Int} (h:ns.any (fun m=>m==x)=false):Put (idM ns) (.int .i64 x) (.agg #[]) (idM (ns++[x])):=by
 refine .inr ⟨fun p hp e => ?_,by unfold idM;rw [dI];rfl⟩
 obtain ⟨y,hy,rfl⟩:=List.mem_map.1 hp
 simp only [Value.int.injEq,true_and] at e
 rw [List.any_eq_false] at h
 exact h y hy (by rw [beq_iff_eq];exact e)
theorem fields_none {X:Nat→Option Obj} {ad:Option Addr} {fs:List Fl} (h:fs=[]):FieldsIn X ad fs:=by
 subst h
 exact ⟨fun k r hr=>(by simp at hr),fun f hf=>(by cases hf)⟩
theorem lent_fields {S:Nat→Option (Option Box)} {Y:Nat→Option Obj} {k n:Nat} {el:TypeId} {row:Bool} {fs:List Fl} {u:Value} (hk:S k=some (some ⟨el,(flV fs).map .val,row⟩)) (hs:∀ f∈fs,(-9223372036854775808≤f.kind∧f.kind<9223372036854775808)∧(-9223372036854775808≤f.count∧f.count<9223372036854775808)) (h:LentC S Y (.slc k 0 n 3) u):
  ∃ (fa:Addr) (fcap:Nat),u = .slice (some fa) n fcap∧FieldsIn Y (some fa) fs:=by
 obtain ⟨b,blk,cap2,m,hk',rfl,hc,hfit,hB⟩:=h
 rw [hk] at hk'
 simp only [Option.some.injEq] at hk'
 subst hk'
 obtain ⟨arr,fr,us',sp,hYb,hsz,harr,hv⟩:=hB
 have:=hv _ rfl
 subst this
 exact ⟨⟨blk,0,none⟩,cap2,O,fields_block hYb harr hs⟩
end Go.Lg.Fld
namespace Go.Proofs.YtopiioklkkiedaaGreatDoor
open Go Go.Lg Go.Lg.Fld
set_option maxRecDepth 100000
section
variable {n:Nat} {C:Ctx} {X:Nat→Option Obj} {s:List (Nat×LV)} {bx:List (Nat×Option Box)} {k:Nat}
end
variable (X:Nat→Option Obj)
theorem fit_lent {S:Nat→Option (Option Box)} {k:Nat} {fs:List Fl} {vad:Option Addr} {vcap:Nat} {ns:List (Bool×Int)} {el:TypeId} {row:Bool} {e:Int} (hs:∀ f∈fs,(-9223372036854775808≤f.kind∧f.kind<9223372036854775808)∧(-9223372036854775808≤f.count∧f.count<9223372036854775808)) (hbig:fs.length<4611686018427387904) (hns:NumsIn X vad ns)
  (hk:S k=some (some ⟨el,(flV fs).map .val,row⟩)) (he:fitErr fs ns=e):
  ∀ (Y:Nat→Option Obj) (us:List Value),(∀ b o,X b=some o→Y b=some o)→LentLs S Y [.sv (.one (.slc k 0 fs.length 3)),Lx vad ns.length vcap] us→PSpec Tryz.prog Y 65 (us.map toLV) (Ln .i64 e):=by
 intro Y us hY hL
 obtain ⟨u1,us1,rfl,h1,u2,us2,rfl,h2,rfl⟩:=hL
 have h2:u2 = .slice vad ns.length vcap:=h2
 subst h2
 obtain ⟨fa,fcap,rfl,hF⟩:=lent_fields hk hs h1
 subst he
 exact lFit_any Y (some fa) vad fcap vcap fs ns hF hbig ⟨hns.rows.mono hY,hns.in2⟩
theorem pPartBig (ver:Int) (ad vad:Option Addr) (cap vcap:Nat) (cs:List Cp) (p:Pt) (hin:CompsIn X ad cs) (hbig:cs.length<4611686018427387904) (hfs:∀ c∈cs,c.fs.length≤4398046511104) (hns:NumsIn X vad p.val) (e:Int) (he:partE cs p=e):
  PSpec Tryz.prog X 56 [Sx ver ad cs.length cap,Px p vad vcap] (Ln .i64 e):=by
 subst he
 refine cF Tryz.func56 rfl V5 rfl rfl ?_
 intro C
 unfold partE
 rcases find_cases cs p.comp with ⟨i,c,hc,he,hpre⟩|hno
 ·rw [find_at hpre hc he]
  have hfb:=hfs c (dE hc)
  rcases pFind X ver ad cap cs p.comp hin hbig hfs hpre hc he with ⟨h0,hF⟩|hF
  ·have hR:=lFit_any X none vad 0 vcap c.fs p.val (fields_none h0) V3 hns
   simp only
   generalize fitErr c.fs p.val=e at *
   refine U37 ?_
   exact V6
  ·obtain ⟨_,_,_,_,_,_,_,_,_,_,_,_,_,_,hFs⟩:=hin.get hc
   have hR:=fun (S:Nat→Option (Option Box)) (hk:S 20=some (some ⟨83,(flV c.fs).map .val,true⟩))=>fit_lent X (S:=S) (k:=20) (vcap:=vcap) hFs.small V3 hns hk rfl
   simp only
   generalize fitErr c.fs p.val=e at *
   (refine U11 ?_;refine bE [(1000001,20)] (.tup [SCs c 20,Sb true]) [fdB 20 c.fs] (hF) O O VC O O O O O V18 dS ?_;refine U21 ?_;refine K.callL [20] O O O (hR _ O) dS ?_;refine U3 ?_)
   exact V6
 ·rw [find_no hno]
  have hF:=pFind_no X ver ad cap cs p.comp hin hbig hno
  refine U31 ?_
  exact V6
abbrev idBx (k:Nat) (ns:List Int):Nat×Option Box:=(k,some ⟨0,[],.res (mapR Tryz.prog 3 (idM ns))⟩)
set_option maxHeartbeats 3200000 in
theorem pPartsBig (ver:Int) (ad pad:Option Addr) (cap pcap:Nat) (cs:List Cp) (ps:List Pt) (hin:CompsIn X ad cs) (hbig:cs.length<4611686018427387904) (hfs:∀ c∈cs,c.fs.length≤4398046511104) (hps:PartsIn X pad ps) (hpb:ps.length<4611686018427387904) (e:Int) (he:partsE cs ps=e):
  PSpec Tryz.prog X 23 [Sx ver ad cs.length cap,Lx pad ps.length pcap] (Ln .i64 e):=by
 subst he
 refine cF Tryz.func23 rfl V5 rfl rfl ?_
 intro C
 (refine U7 ?_;refine K.makeMap 3 O dS ?_;refine U10 ?_)
 refine cL (fun m σ=>∃ i:Nat,i≤ps.length∧m=ps.length-i∧(∀ j,0≤j→j<i→ptE cs ps j=0)∧σ=⟨[(2,Lp 2),(5,Lmp 11),(12,Lx pad ps.length pcap),(13,Ln .i64 (ps.length:Nat)),(14,Ln .i64 (i:Nat))],[sxB 2 ver ad cs.length cap,idBx 11 ((ps.take i).map Pt.comp)],X⟩) ps.length
  ⟨_,Le.of V10 VE V2 V2 V0,0,by omega,by omega,fun j _ hj=>absurd hj V3,rfl⟩ ?_
 rintro m σ ⟨i,hi,rfl,hpre,rfl⟩
 by_cases hlt:i<ps.length
 ·obtain ⟨p,hp⟩:=wg hlt
  obtain ⟨blk,off,arr,el,fr,vad,vcap,rfl,hX,hsz,hcs,_,_,hN⟩:=hps.get hp
  have hio:=wo off i 2
  have hE:=ptE_at (cs:=cs) hp
  have hsm:=hps.small p (dE hp)
  have hkey:Go.keyOf Tryz.prog 3 (.int .i64 p.comp)=some (.int .i64 p.comp):=by
   rw [keyOf_int (q:=.i64) (by kernel_rfl)]
   unfold mapKey
   rw [show Tryz.prog.underlying 3=some (.int .i64) by kernel_rfl]
   have hw:(Lit.int .i64 p.comp).wf=true:=by
    show (decide (IntKind.i64.min≤p.comp)&&decide (p.comp≤IntKind.i64.max))=true
    rw [show IntKind.i64.min = -9223372036854775808 from rfl,show IntKind.i64.max=9223372036854775807 from rfl,cP hsm.1,cP (show p.comp≤9223372036854775807 by omega)];rfl
   simp [hw]
  have hat:=idM_at ((ps.take i).map Pt.comp) p.comp
  have hP:=pPartBig X ver ad vad cap vcap cs p hin hbig hfs hN (partE cs p) rfl
  have hany:((ps.take i).map Pt.comp).any (fun m=>m==p.comp)=(ps.take i).any (fun g=>g.comp==p.comp):=by rw [List.any_map];rfl
  have hts:(ps.take (i+1)).map Pt.comp=(ps.take i).map Pt.comp++[p.comp]:=by rw [take_snoc hp,dI];rfl
  cases hin2:(ps.take i).any (fun g=>g.comp==p.comp) with
  | true =>
   rw [hin2] at hE hany
   rw [if_pos rfl] at hE
   rw [show partsE cs ps=1 from firstE_some hpre (Nat.zero_le _) (by omega) hE (by decide)]
   have hr:=idM_any _ p.comp true hany
   generalize (ps.take i).map Pt.comp=ns at *
   (refine U22 ?_;refine K.lookupOk (et:=132) (.agg []) (v:=.agg #[]) (z:=.agg #[]) O O O V5 (KL.int (q:=.i64) V5) hkey V5 hat agg0_rel hr dS ?_;refine U17 ?_)
   exact V6
  | false =>
   rw [hin2] at hE hany
   rw [if_neg (by decide)] at hE
   have hr:=idM_any _ p.comp false hany
   have hput:=idM_put hany
   rw [← hts] at hput
   generalize (ps.take i).map Pt.comp=ns at *
   generalize hns:(ps.take (i+1)).map Pt.comp=ns' at *
   by_cases he0:partE cs p=0
   ·rw [he0] at hP hE
    (refine U22 ?_;refine K.lookupOk (et:=132) (.agg []) (v:=.agg #[]) (z:=.agg #[]) O O O V5 (KL.int (q:=.i64) V5) hkey V5 hat agg0_rel hr dS ?_;refine U18 ?_;refine aT O O V2 (by exact nl0 O) dS ?_;refine K.mapPut (et:=132) (idM ns') O O O O V5 (KL.int (q:=.i64) V5) hkey hput dS ?_;refine U19 ?_)
    subst hns
    exact ⟨_,_,by omega,Le.of V10 VE V2 V2 V0,i+1,by omega,O,(fun j h0 hj=>by
     by_cases e:j=i
     ·rw [e];exact hE
     ·exact hpre j h0 V3),rfl⟩
   ·rw [show partsE cs ps=partE cs p from firstE_some hpre (Nat.zero_le _) V3 hE he0]
    have hne:(partE cs p != 0)=true:=by rw [bne_iff_ne];exact he0
    generalize partE cs p=E at *
    (refine U22 ?_;refine K.lookupOk (et:=132) (.agg []) (v:=.agg #[]) (z:=.agg #[]) O O O V5 (KL.int (q:=.i64) V5) hkey V5 hat agg0_rel hr dS ?_;refine U18 ?_;refine aT O O V2 (by exact nl0 O) dS ?_;refine K.mapPut (et:=132) (idM ns') O O O O V5 (KL.int (q:=.i64) V5) hkey hput dS ?_;refine U11 ?_;refine kne O O hne ?_;refine U8 ?_)
    exact V6
 ·rw [show partsE cs ps=0 from firstE_none fun j h0 hj=>hpre j h0 V3]
  refine U12 ?_
  exact V6
end Go.Proofs.YtopiioklkkiedaaGreatDoor
end
section
set_option maxHeartbeats 12800000
set_option maxRecDepth 100000
namespace Go.Proofs.YtopiioklkkiedaaGreatDoor
open Go Go.Lg Go.Lg.Fld
set_option maxRecDepth 100000
theorem rows_in {Y:Nat→Option Obj} {blk:Nat} {arr:Array Value} {el:TypeId} {fr:Nat×Nat} {sz:Nat} {rows:List (List Value)} (hY:Y blk=some (.cells arr el fr)) (hl:∀ r∈rows,r.length=sz) (hsp:∃ sp,arr.toList=rows.flatten++sp):Go.Lg.RowsIn Y (some ⟨blk,0,none⟩) sz rows:=fun i r hi=>by
 obtain ⟨sp,e⟩:=hsp
 obtain ⟨h1,h2⟩:=flat_row hl (sp:=sp) hi
 refine ⟨blk,0,arr,el,fr,O,hY,?_,?_⟩
 ·rw [← Array.length_toList,e];omega
 ·rw [e,Nat.zero_add];exact h2
theorem nums_in {Y:Nat→Option Obj} {blk:Nat} {arr:Array Value} {el:TypeId} {fr:Nat×Nat} {zs:List Int} (hY:Y blk=some (.cells arr el fr)) (h:∀ z∈zs,R127 z) (hsp:∃ sp,arr.toList=nsV zs++sp):NumsIn Y (some ⟨blk,0,none⟩) (zs.map qn):=
 ⟨rows_in hY (fun r hr=>by obtain ⟨n,_,rfl⟩:=List.mem_map.1 hr;rfl) (by
  obtain ⟨sp,e⟩:=hsp
  exact ⟨sp,by rw [e,List.map_map];rfl⟩),nums_in2 h⟩
variable (X:Nat→Option Obj)
end Go.Proofs.YtopiioklkkiedaaGreatDoor
end
section
set_option maxHeartbeats 12800000
set_option maxRecDepth 100000
namespace Go.Lg.Fld
open Go Go.Lg
end Go.Lg.Fld
namespace Go.Proofs.YtopiioklkkiedaaGreatDoor
open Go Go.Lg Go.Lg.Fld
set_option maxRecDepth 100000
variable (X:Nat→Option Obj)
def cs0:List Cp:=[⟨1,[112,111,115],[⟨[120],3,1⟩,⟨[121],3,1⟩]⟩,⟨3,[116,97,103],[]⟩]
end Go.Proofs.YtopiioklkkiedaaGreatDoor
end
section
set_option maxHeartbeats 12800000
set_option maxRecDepth 100000
namespace Go.Lg.Fld
open Go Go.Lg
def Scan {α:Type} (p:α→Bool) (l:List α) (k:Nat) (v:Int):Prop:=(v = -1∧∀ (m:Nat) (y:α),k≤m→l[m]? = some y→p y=false)∨∃ (i:Nat) (c:α),v=(i:Nat)∧l[i]? = some c∧p c=true∧∀ (m:Nat) (y:α),k≤m→m<i→l[m]? = some y→p y=false
end Go.Lg.Fld
namespace Go.Proofs.YtopiioklkkiedaaGreatDoor
open Go Go.Lg Go.Lg.Fld
set_option maxRecDepth 100000
variable (X:Nat→Option Obj)
end Go.Proofs.YtopiioklkkiedaaGreatDoor
end
section
set_option maxHeartbeats 12800000
set_option maxRecDepth 100000
namespace Go.Lg.Fld
open Go Go.Lg
structure Good (cs:List Cp):Prop where
 one:∀ (i:Nat) (c:Cp),cs[i]? = some c→1≤c.id∧c.id≤24∧nmB c.nm=true∧firstE (fldE c.fs) 0 c.fs.length=0∧layErr c.fs=0
 two:∀ (i j:Nat) (c d:Cp),i<j→cs[i]? = some c→cs[j]? = some d→c.id<d.id∧c.nm≠d.nm
theorem good_of {cs:List Cp} (h:firstE (cmpE cs) 0 cs.length=0):Good cs:=by
 have h0:∀ (i:Nat) (c:Cp),cs[i]? = some c→¬(c.id<1∨24<c.id∨(0<i∧c.id≤prevId cs i))∧nmB c.nm=true∧(cs.take i).any (fun g=>g.nm==c.nm)=false∧firstE (fldE c.fs) 0 c.fs.length=0∧layErr c.fs=0:=fun i c hc=>by
  have hi:=(wl hc)
  have h1:=firstE_zero h i (Nat.zero_le _) V3
  rw [cmpE_at hc] at h1
  by_cases b1:c.id<1∨24<c.id∨(0<i∧c.id≤prevId cs i)
  ·rw [if_pos b1] at h1;cases h1
  ·rw [if_neg b1] at h1
   by_cases b2:nmB c.nm=true
   ·rw [if_pos b2] at h1
    by_cases b3:(cs.take i).any (fun g=>g.nm==c.nm)=true
    ·rw [if_pos b3] at h1;cases h1
    ·rw [if_neg b3] at h1
     by_cases b4:firstE (fldE c.fs) 0 c.fs.length=0
     ·rw [if_pos b4] at h1
      exact ⟨b1,b2,by simpa using b3,b4,h1⟩
     ·rw [if_neg b4] at h1;cases h1
   ·rw [if_neg b2] at h1;cases h1
 refine ⟨fun i c hc => ?_,fun i j c d hij hc hd=>⟨?_,fun e => ?_⟩⟩
 ·obtain ⟨h1,h2,_,h4,h5⟩:=h0 i c hc
  exact ⟨by omega,by omega,h2,h4,h5⟩
 ·obtain ⟨k,rfl⟩:∃ k,j=i+1+k:=⟨j-(i+1),by omega⟩
  induction k generalizing d with
  | zero =>
   obtain ⟨h1,_⟩:=h0 _ d hd
   have hp:cs[i+1+0-1]? = some c:=hc
   have:=prev_at hp
   omega
  | succ k ih =>
   obtain ⟨d',hd'⟩:∃ d',cs[i+1+k]? = some d':=⟨_,cY (by have:=(wl hd);omega)⟩
   have h2:=ih d' V3 hd'
   obtain ⟨h1,_⟩:=h0 _ d hd
   have hp:cs[i+1+(k+1)-1]? = some d':=hd'
   have:=prev_at hp
   omega
 ·obtain ⟨_,_,h3,_⟩:=h0 j d hd
  have:=any_true (p:=fun g:Cp=>g.nm==d.nm) hij hc (by rw [beq_iff_eq];exact e)
  rw [h3] at this;cases this
end Go.Lg.Fld
end
section
set_option maxHeartbeats 12800000
set_option maxRecDepth 100000
namespace Go.Lg.Fld
open Go Go.Lg
structure Ch where
 kind:Int
 comp:Int
 fld:List UInt8
instance:DecidableEq Ch:=fun a b=>decidable_of_iff (a.kind=b.kind∧a.comp=b.comp∧a.fld=b.fld) ⟨fun ⟨h1,h2,h3⟩=>by cases a;cases b;simp_all,fun h=>by rw [h];exact ⟨rfl,rfl,rfl⟩⟩
def fldAt (fs:List Fl) (nm:List UInt8):Option Fl:=fs.find? fun f=>f.nm==nm
def fldIx (fs:List Fl) (nm:List UInt8):Int:=findI (fun f=>f.nm==nm) fs
theorem fldIx_some {fs:List Fl} {nm:List UInt8} (h:0≤fldIx fs nm):∃ (k:Nat) (g:Fl),fs[k]? = some g∧g.nm=nm∧fldIx fs nm=(k:Nat)∧fldAt fs nm=some g∧∀ (j:Nat) (y:Fl),j<k→fs[j]? = some y→y.nm≠nm:=by
 unfold fldIx findI at h
 cases hf:fs.findIdx? (fun f=>f.nm==nm) with
 | none=>rw [hf] at h;simp only at h;omega
 | some k =>
  obtain ⟨hk,h1,h2⟩:=List.findIdx?_eq_some_iff_getElem.1 hf
  refine ⟨k,fs[k],cY hk,by simpa using h1,by unfold fldIx findI;rw [hf],?_,fun j y hj hy => ?_⟩
  ·unfold fldAt
   rw [List.find?_eq_some_iff_getElem]
   exact ⟨h1,k,hk,O,fun j hj=>by simpa using h2 j hj⟩
  ·obtain ⟨hj',e⟩:=List.getElem?_eq_some_iff.1 hy
   have:=h2 j hj
   rw [e] at this
   simpa using this
end Go.Lg.Fld
end
section
set_option maxHeartbeats 12800000
set_option maxRecDepth 100000
namespace Go.Lg.Fld
open Go Go.Lg
def Apart (fs:List Fl):Prop:=fs.Pairwise fun f g=>f.nm≠g.nm
end Go.Lg.Fld
end
section
set_option maxHeartbeats 12800000
set_option maxRecDepth 100000
namespace Go.Lg.Fld
open Go Go.Lg
def Ch.vals (x:Ch):List Value:=[.int .i64 x.kind,.int .i64 x.comp,.string ⟨x.fld.toArray⟩]
end Go.Lg.Fld
namespace Go.Proofs.YtopiioklkkiedaaGreatDoor
open Go Go.Lg Go.Lg.Fld
set_option maxRecDepth 100000
variable (X:Nat→Option Obj)
end Go.Proofs.YtopiioklkkiedaaGreatDoor
end
section
set_option maxHeartbeats 12800000
set_option maxRecDepth 100000
namespace Go.Proofs.YtopiioklkkiedaaGreatDoor
open Go Go.Lg Go.Lg.Fml
abbrev Nm:=Bool×Int
def gd (n:Nm):Bool:=formB n.1 n.2
def zz (n:Nm):Int:=zv n.1 n.2
def okI (x:Ins):Bool:=(decide (1≤x.op)&&decide (x.op≤17))&&(gd x.k&&((decide (0≤x.a)&&decide (x.a≤7))&&(decide (0≤x.b)&&decide (x.b≤7))))
theorem okI_facts {x:Ins} (h:okI x=true):(1≤x.op∧x.op≤17)∧gd x.k=true∧(0≤x.a∧x.a≤7)∧(0≤x.b∧x.b≤7):=by
 unfold okI at h
 simp only [Bool.and_eq_true,decide_eq_true_eq] at h
 exact ⟨h.1,h.2.1,h.2.2.1,h.2.2.2⟩
def chkX (l:List Ins):Int:=if 64<l.length then 5 else if dep okI 0 l=some 1 then 0 else 4
theorem chkX_zero {l:List Ins} (h:chkX l=0):l.length≤64∧dep okI 0 l=some 1:=by
 unfold chkX at h
 split at h
 ·cases h
 ·split at h
  ·rename_i h1 h2;exact ⟨by omega,h2⟩
  ·cases h
theorem dep_ok {okJ:Ins→Bool}:∀ {l:List Ins} {n m:Nat},dep okJ n l=some m→∀ x∈l,okJ x=true
 | [],_,_,_,x,hx=>by cases hx
 | y::l,n,m,h,x,hx=>by
  simp only [dep] at h
  split at h
  ·rename_i h1
   rcases List.mem_cons.1 hx with rfl|hx
   ·exact h1.1
   ·exact dep_ok h x hx
  ·cases h
theorem chkX_ok {l:List Ins} (h:chkX l=0):∀ x∈l,okI x=true:=dep_ok (chkX_zero h).2
theorem chkX_ne {l:List Ins} (h:chkX l=0):l≠[]:=fun e=>by
 have:=(chkX_zero h).2
 rw [e] at this
 cases this
def truth (b:Bool):Nm:=(false,if b then 1 else 0)
def elemX (fs:List (List Nm)) (a b:Int):Except Int Nm:=
 if a<0∨b<0 then .error 3 else match fs[a.toNat]? with
  | none=>.error 3
  | some r=>match r[b.toNat]? with
   | none=>.error 3
   | some v=>.ok v
def leafX (fs:List (List Nm)) (at_:Int) (x:Ins):Except Int Nm:=
 if x.op=1 then .ok x.k else if x.op=4 then (if at_<0 then .error 3 else .ok (false,at_)) else elemX fs x.a (if x.op=3 then at_ else x.b)
def arith (op x y:Int):Int:=if op=5 then x+y else if op=6 then x-y else if op=7 then x*y else if op=8 then x.tdiv y else x.tmod y
instance decR127 (z:Int):Decidable (R127 z):=by unfold R127;exact inferInstance
def doX (op:Int) (x y:Nm):Except Int Nm:=
 if (gd x&&gd y)=false then .error 1 else if 7<op∧zz y=0 then .error 1 else if R127 (arith op (zz x) (zz y)) then .ok (qn (arith op (zz x) (zz y))) else .error 3
def nodeX (op:Int):List Nm→Except Int Nm
 | [x]=>if gd x=false then .error 1 else if op=10 then .ok (qn (-(zz x))) else .ok (truth (decide (x=(false,0))))
 | [x,y]=>if 5≤op∧op≤9 then doX op x y
  else if op=17 then (if gd y=false then .error 1 else if y=(false,0) then .error 9 else .ok x)
  else if (gd x&&gd y)=false then .error 1
  else if op=11 then .ok (if zz y<zz x then y else x)
  else if op=12 then .ok (if zz x<zz y then y else x)
  else if op=13 then .ok (truth (decide (x=y)))
  else .ok (truth (decide (zz x<zz y)))
 | [x,y,z]=>if gd x=false then .error 1 else .ok (if x=(false,0) then z else y)
 | _=>.error 0
def oneX (fs:List (List Nm)) (at_:Int) (x:Ins) (a:List Nm):Except Int Nm:=if takes x.op=0 then leafX fs at_ x else nodeX x.op a
def lastX:Except Int (List Nm)→Except Int Nm
 | .error e=>.error e
 | .ok [v]=>if gd v=true then .ok v else .error 4
 | .ok _=>.error 4
def evX (l:List Ins) (fs:List (List Nm)) (at_:Int):Except Int Nm:=if chkX l=0 then lastX (run (oneX fs at_) l []) else .error (chkX l)
theorem evX_tree {l:List Ins} {t:Tr} {fs:List (List Nm)} {at_:Int} (h:chkX l=0) (ht:t.ok) (hl:t.flat=l):evX l fs at_=match t.ev (oneX fs at_) with | .error e=>.error e | .ok v=>if gd v=true then .ok v else .error 4:=by
 unfold evX
 rw [if_pos h,← hl,← dK t.flat,run_flat ht]
 cases t.ev (oneX fs at_) with
 | error e=>rfl
 | ok v=>rfl
def wordX (op:Int):List UInt8:=
 if op=5 then [97,100,100] else if op=6 then [115,117,98] else if op=7 then [109,117,108] else if op=8 then [113,117,111] else if op=9 then [114,101,109]
 else if op=10 then [110,101,103] else if op=11 then [108,101,97,115,116] else if op=12 then [103,114,101,97,116] else if op=13 then [115,97,109,101]
 else if op=14 then [108,101,115,115] else if op=15 then [110,111,116] else if op=16 then [112,105,99,107] else [110,101,101,100]
def usesX (l:List Ins):List Ins:=l.filter fun x=>x.op==2||x.op==3
theorem doX_bad {op:Int} {x y:Nm} (h:(gd x&&gd y)=false):doX op x y = .error 1:=if_pos h
theorem node_err {op:Int} {a:List Nm} {e:Int} (ha:a.length=1∨a.length=2∨a.length=3) (h:nodeX op a = .error e):e≠0:=by
 match a,ha with
 | [x],_ =>
  simp only [nodeX] at h
  repeat' (split at h<;>try (first|(simp only [Except.error.injEq] at h;omega)|cases h))
 | [x,y],_ =>
  simp only [nodeX,doX] at h
  repeat' (split at h<;>try (first|(simp only [Except.error.injEq] at h;omega)|cases h))
 | [x,y,z],_ =>
  simp only [nodeX] at h
  repeat' (split at h<;>try (first|(simp only [Except.error.injEq] at h;omega)|cases h))
 | [],ha=>simp at ha
 | _::_::_::_::_,ha=>simp at ha
theorem leaf_err {fs:List (List Nm)} {at_:Int} {x:Ins} {e:Int} (h:leafX fs at_ x = .error e):e≠0:=by
 simp only [leafX,elemX] at h
 repeat' (split at h<;>try (first|(simp only [Except.error.injEq] at h;omega)|cases h))
theorem one_err {fs:List (List Nm)} {at_:Int} {x:Ins} {a:List Nm} {e:Int} (ha:a.length=takes x.op) (h:oneX fs at_ x a = .error e):e≠0:=by
 unfold oneX at h
 have:=takes_le x.op
 split at h
 ·exact leaf_err h
 ·exact node_err V3 h
theorem tree_err {fs:List (List Nm)} {at_:Int}:∀ {t:Tr} {e:Int},t.ok→t.ev (oneX fs at_) = .error e→e≠0
 | .n0 x,e,ht,h=>one_err (a:=[]) (show _=takes x.op from (show takes x.op=0 from ht).symm) h
 | .n1 x a,e,ht,h=>by
  simp only [Tr.ev] at h
  cases ha:a.ev (oneX fs at_) with
  | error e'=>rw [ha] at h;simp only [Except.error.injEq] at h;subst h;exact tree_err ht.2 ha
  | ok u=>rw [ha] at h;exact one_err (a:=[u]) ht.1.symm h
 | .n2 x a b,e,ht,h=>by
  simp only [Tr.ev] at h
  cases ha:a.ev (oneX fs at_) with
  | error e'=>rw [ha] at h;simp only [Except.error.injEq] at h;subst h;exact tree_err ht.2.1 ha
  | ok u =>
   rw [ha] at h
   simp only at h
   cases hb:b.ev (oneX fs at_) with
   | error e'=>rw [hb] at h;simp only [Except.error.injEq] at h;subst h;exact tree_err ht.2.2 hb
   | ok v=>rw [hb] at h;exact one_err (a:=[u,v]) ht.1.symm h
 | .n3 x a b c,e,ht,h=>by
  simp only [Tr.ev] at h
  cases ha:a.ev (oneX fs at_) with
  | error e'=>rw [ha] at h;simp only [Except.error.injEq] at h;subst h;exact tree_err ht.2.1 ha
  | ok u =>
   rw [ha] at h
   simp only at h
   cases hb:b.ev (oneX fs at_) with
   | error e'=>rw [hb] at h;simp only [Except.error.injEq] at h;subst h;exact tree_err ht.2.2.1 hb
   | ok v =>
    rw [hb] at h
    simp only at h
    cases hc:c.ev (oneX fs at_) with
    | error e'=>rw [hc] at h;simp only [Except.error.injEq] at h;subst h;exact tree_err ht.2.2.2 hc
    | ok w=>rw [hc] at h;exact one_err (a:=[u,v,w]) ht.1.symm h
theorem evX_err {l:List Ins} {fs:List (List Nm)} {at_ e:Int} (h:evX l fs at_ = .error e):e≠0:=by
 by_cases hz:chkX l=0
 ·obtain ⟨t,ht,hl⟩:=parse (chkX_zero hz).2
  rw [evX_tree hz ht hl] at h
  cases hv:t.ev (oneX fs at_) with
  | error e'=>rw [hv] at h;simp only [Except.error.injEq] at h;subst h;exact tree_err ht hv
  | ok v =>
   rw [hv] at h
   simp only at h
   split at h
   ·cases h
   ·simp only [Except.error.injEq] at h;omega
 ·unfold evX at h
  rw [if_neg hz] at h
  simp only [Except.error.injEq] at h
  omega
end Go.Proofs.YtopiioklkkiedaaGreatDoor
end
section
set_option maxHeartbeats 12800000
set_option maxRecDepth 100000
namespace Go.Proofs.YtopiioklkkiedaaGreatDoor
open Go Go.Lg Go.Lg.Fml Go.Lg.Fld
def o8 (n:Int):UInt8:=UInt8.ofNat (n%256).toNat
def loW (n:Int):Nat:=(n%18446744073709551616).toNat
def hiW (n:Int):Nat:=(n/18446744073709551616).toNat
def sgB (b:Bool):UInt8:=if b then 1 else 0
def encI (x:Ins):List UInt8:=o8 x.op::(if x.op=1 then sgB x.k.1::(leB 8 (loW x.k.2)++leB 8 (hiW x.k.2)) else if x.op=2 then [o8 x.a,o8 x.b] else if x.op=3 then [o8 x.a] else [])
def encIs:List Ins→List UInt8
 | []=>[]
 | x::t=>encI x++encIs t
theorem encIs_app:∀ (a b:List Ins),encIs (a++b)=encIs a++encIs b
 | [],_=>rfl
 | x::t,b=>by simp only [List.cons_append,encIs,encIs_app t b,dN]
def plainI (x:Ins):Bool:=(decide (x.op=1)||decide (x.k=(false,0)))&&((decide (x.op=2)||decide (x.b=0))&&(decide (x.op=2)||(decide (x.op=3)||decide (x.a=0))))
def encX (l:List Ins):List UInt8:=o8 (l.length:Nat)::encIs l
def encErr (l:List Ins):Int:=if chkX l=0 then (if l.all plainI=true then 0 else 1) else chkX l
def encTX (l:List Ins):List UInt8:=if encErr l=0 then encX l else []
def getI:List UInt8→Option (Ins×List UInt8)
 | []=>none
 | o::r=>if o.toNat=1 then (match r with
   | []=>none
   | s::r=>if s.toNat≤1∧16≤r.length then some (⟨1,0,0,(decide (s.toNat=1),((le (r.take 8)+18446744073709551616*le ((r.drop 8).take 8):Nat):Int))⟩,r.drop 16) else none)
  else if o.toNat=2 then (match r with
   | a::b::r=>some (⟨2,(a.toNat:Nat),(b.toNat:Nat),(false,0)⟩,r)
   | _=>none)
  else if o.toNat=3 then (match r with
   | a::r=>some (⟨3,(a.toNat:Nat),0,(false,0)⟩,r)
   | _=>none)
  else some (⟨(o.toNat:Nat),0,0,(false,0)⟩,r)
def getIs:Nat→List UInt8→Option (List Ins×List UInt8)
 | 0,b=>some ([],b)
 | n+1,b=>match getI b with
  | some (x,r)=>match getIs n r with
   | some (l,r')=>some (x::l,r')
   | none=>none
  | none=>none
def decX:List UInt8→Option (List Ins)
 | []=>none
 | n::r=>match getIs n.toNat r with
  | some (l,[])=>if chkX l=0 then some l else none
  | _=>none
theorem words {n:Int} (h:In2 n):((loW n+18446744073709551616*hiW n:Nat):Int)=n∧loW n<256^8∧hiW n<256^8:=by
 have hp:(256:Nat)^8=18446744073709551616:=by decide
 unfold In2 at h
 unfold loW hiW
 omega
theorem encI_len (x:Ins):1≤(encI x).length∧(encI x).length≤18:=by
 unfold encI
 split
 ·simp only [dJ,cW,leB_length];omega
 ·split
  ·simp
  ·split<;>simp
theorem encIs_len:∀ l:List Ins,(encIs l).length≤l.length*18
 | []=>by simp [encIs]
 | x::t=>by have:=(encI_len x).2;have:=encIs_len t;simp only [encIs,cW,dJ];omega
end Go.Proofs.YtopiioklkkiedaaGreatDoor
end
section
namespace Go.Lg.Fml
def Tr.args:Tr→List Tr
 | .n0 _=>[]
 | .n1 _ a=>[a]
 | .n2 _ a b=>[a,b]
 | .n3 _ a b c=>[a,b,c]
def flatL:List Tr→List Ins
 | []=>[]
 | a::r=>a.flat++flatL r
def endsL (p:Nat):List Tr→List Nat
 | []=>[]
 | a::r=>(p+a.flat.length-1)::endsL (p+a.flat.length) r
theorem flat_args (t:Tr):t.flat=flatL t.args++[t.top]:=by
 cases t<;>simp [Tr.flat,Tr.args,flatL,Tr.top]
theorem ok_args {t:Tr} (h:t.ok):takes t.top.op=t.args.length∧∀ a∈t.args,a.ok:=by
 cases t with
 | n0 x=>exact ⟨h,fun a ha=>by cases ha⟩
 | n1 x a=>exact ⟨h.1,fun u hu=>by simp only [Tr.args,List.mem_cons,List.not_mem_nil,or_false] at hu;subst hu;exact h.2⟩
 | n2 x a b=>exact ⟨h.1,fun u hu=>by
   simp only [Tr.args,List.mem_cons,List.not_mem_nil,or_false] at hu
   rcases hu with rfl|rfl
   ·exact h.2.1
   ·exact h.2.2⟩
 | n3 x a b c=>exact ⟨h.1,fun u hu=>by
   simp only [Tr.args,List.mem_cons,List.not_mem_nil,or_false] at hu
   rcases hu with rfl|rfl|rfl
   ·exact h.2.1
   ·exact h.2.2.1
   ·exact h.2.2.2⟩
theorem args_le (t:Tr):t.args.length≤3:=by cases t<;>simp [Tr.args]
theorem flatL_app:∀ (a b:List Tr),flatL (a++b)=flatL a++flatL b
 | [],b=>rfl
 | x::a,b=>by simp only [List.cons_append,flatL,flatL_app a b,List.append_assoc]
theorem endsL_app:∀ (a b:List Tr) (p:Nat),endsL p (a++b)=endsL p a++endsL (p+(flatL a).length) b
 | [],b,p=>by simp [endsL,flatL]
 | x::a,b,p=>by simp only [List.cons_append,endsL,flatL,endsL_app a b,List.length_append];rw [Nat.add_assoc]
theorem endsL_len:∀ (us:List Tr) (p:Nat),(endsL p us).length=us.length
 | [],_=>rfl
 | a::r,p=>by simp only [endsL,List.length_cons,endsL_len r]
section
variable {V:Type} (one:Ins→List V→Except Int V)
def evL:List Tr→Except Int (List V)
 | []=>.ok []
 | a::r=>match a.ev one with
  | .error e=>.error e
  | .ok u=>match evL r with
   | .error e=>.error e
   | .ok vs=>.ok (u::vs)
variable {one}
theorem ev_args (t:Tr):t.ev one=match evL one t.args with | .error e=>.error e | .ok vs=>one t.top vs:=by
 cases t with
 | n0 x=>rfl
 | n1 x a =>
  simp only [Tr.ev,Tr.args,evL,Tr.top]
  cases a.ev one<;>rfl
 | n2 x a b =>
  simp only [Tr.ev,Tr.args,evL,Tr.top]
  cases a.ev one with
  | error e=>rfl
  | ok u=>cases b.ev one<;>rfl
 | n3 x a b c =>
  simp only [Tr.ev,Tr.args,evL,Tr.top]
  cases a.ev one with
  | error e=>rfl
  | ok u=>cases b.ev one with
   | error e=>rfl
   | ok v=>cases c.ev one<;>rfl
theorem evL_step:∀ {us:List Tr} {i:Nat} {vs:List V} {a:Tr},evL one (us.take i) = .ok vs→us[i]? = some a→evL one (us.take (i+1))=match a.ev one with | .error e=>.error e | .ok u=>.ok (vs++[u])
 | [],i,vs,a,h,ha=>by simp at ha
 | b::us,0,vs,a,h,ha=>by
  simp only [List.getElem?_cons_zero,Option.some.injEq] at ha
  subst ha
  simp only [List.take_zero,evL,Except.ok.injEq] at h
  subst h
  simp only [List.take_succ_cons,List.take_zero,evL]
  cases b.ev one<;>rfl
 | b::us,i+1,vs,a,h,ha=>by
  simp only [List.getElem?_cons_succ] at ha
  simp only [List.take_succ_cons,evL] at h ⊢
  cases hb:b.ev one with
  | error e=>rw [hb] at h;cases h
  | ok u =>
   rw [hb] at h
   simp only at h ⊢
   cases hv:evL one (us.take i) with
   | error e=>rw [hv] at h;cases h
   | ok ws =>
    rw [hv] at h
    simp only [Except.ok.injEq] at h
    subst h
    rw [evL_step hv ha]
    cases a.ev one<;>rfl
theorem evL_fail:∀ {us:List Tr} {i:Nat} {vs:List V} {a:Tr} {e:Int},evL one (us.take i) = .ok vs→us[i]? = some a→a.ev one = .error e→evL one us = .error e
 | [],i,vs,a,e,h,ha,_=>by simp at ha
 | b::us,0,vs,a,e,h,ha,he=>by
  simp only [List.getElem?_cons_zero,Option.some.injEq] at ha
  subst ha
  simp only [evL,he]
 | b::us,i+1,vs,a,e,h,ha,he=>by
  simp only [List.getElem?_cons_succ] at ha
  simp only [List.take_succ_cons,evL] at h ⊢
  cases hb:b.ev one with
  | error e=>rw [hb] at h;cases h
  | ok u =>
   rw [hb] at h
   simp only at h ⊢
   cases hv:evL one (us.take i) with
   | error e=>rw [hv] at h;cases h
   | ok ws =>
    rw [evL_fail hv ha he]
theorem evL_len:∀ {us:List Tr} {vs:List V},evL one us = .ok vs→vs.length=us.length
 | [],vs,h=>by simp only [evL,Except.ok.injEq] at h;subst h;rfl
 | b::us,vs,h=>by
  simp only [evL] at h
  cases hb:b.ev one with
  | error e=>rw [hb] at h;cases h
  | ok u =>
   rw [hb] at h
   simp only at h
   cases hv:evL one us with
   | error e=>rw [hv] at h;cases h
   | ok ws =>
    rw [hv] at h
    simp only [Except.ok.injEq] at h
    subst h
    rw [List.length_cons,List.length_cons,evL_len hv]
end
def At (l:List Ins) (p:Nat) (t:Tr):Prop := ∃ pre suf,l=pre++(t.flat++suf)∧pre.length=p
theorem At.len {l:List Ins} {p:Nat} {t:Tr} (h:At l p t):p+t.flat.length≤l.length:=by
 obtain ⟨pre,suf,rfl,rfl⟩:=h
 simp only [List.length_append];omega
theorem At.get {l:List Ins} {p:Nat} {t:Tr} (h:At l p t) {k:Nat} (hk:k<t.flat.length):l[p+k]? = t.flat[k]? := by
 obtain ⟨pre,suf,rfl,rfl⟩:=h
 rw [List.getElem?_append_right (by omega),Nat.add_sub_cancel_left,List.getElem?_append_left hk]
theorem At.top {l:List Ins} {p:Nat} {t:Tr} (h:At l p t):l[p+t.flat.length-1]? = some t.top:=by
 obtain ⟨r,hr⟩:=flat_top t
 have hl:t.flat.length=r.length+1:=by rw [hr];simp
 have:=h.get (k:=r.length) (by omega)
 rw [show p+t.flat.length-1=p+r.length by omega,this,hr,List.getElem?_append_right (Nat.le_refl _),Nat.sub_self]
 rfl
theorem At.arg {l:List Ins} {p:Nat} {t:Tr} (h:At l p t) {i:Nat} {a:Tr} (ha:t.args[i]? = some a):At l (p+(flatL (t.args.take i)).length) a∧(endsL p t.args)[i]? = some (p+(flatL (t.args.take i)).length+a.flat.length-1):=by
 have hsp:t.args=t.args.take i++a::t.args.drop (i+1):=by
  obtain ⟨hi,e⟩:=List.getElem?_eq_some_iff.1 ha
  rw [← e,List.getElem_cons_drop,List.take_append_drop]
 have hil:(t.args.take i).length=i:=by rw [List.length_take];have:=(List.getElem?_eq_some_iff.1 ha).1;omega
 refine ⟨?_,?_⟩
 ·obtain ⟨pre,suf,rfl,rfl⟩:=h
  refine ⟨pre++flatL (t.args.take i),flatL (t.args.drop (i+1))++([t.top]++suf),?_,by rw [List.length_append]⟩
  rw [flat_args t]
  conv=>lhs;rw [hsp]
  rw [flatL_app]
  simp only [flatL,List.append_assoc]
 ·conv=>lhs;rw [hsp]
  rw [endsL_app,List.getElem?_append_right (by rw [endsL_len,hil];exact Nat.le_refl _),endsL_len,hil,Nat.sub_self]
  rfl
theorem back_step {t:Tr} (ht:t.ok) {k:Nat} {x:Ins} (hx:t.flat[k]? = some x):1+surplus (t.flat.drop k)=(1+surplus (t.flat.drop (k+1)))-1+(takes x.op:Int)∧(k=0→1+surplus (t.flat.drop k)=0)∧(k≠0→1≤1+surplus (t.flat.drop k)):=by
 obtain ⟨hk,e⟩:=List.getElem?_eq_some_iff.1 hx
 have h1:t.flat.drop k=x::t.flat.drop (k+1):=by rw [List.drop_eq_getElem_cons hk,e]
 refine ⟨?_,fun h0 => ?_,fun h0 => ?_⟩
 ·rw [h1];simp only [surplus];omega
 ·subst h0;rw [List.drop_zero,flat_sum ht];decide
 ·have:=flat_back ht (t.flat.take k) (t.flat.drop k) (List.take_append_drop _ _).symm (fun h=>h0 (by have:=congrArg List.length h;rw [List.length_take,List.length_nil] at this;omega))
  omega
end Go.Lg.Fml
end
section
set_option maxHeartbeats 12800000
set_option maxRecDepth 100000
namespace Go.Proofs.YtopiioklkkiedaaGreatDoor
open Go Go.Lg Go.Lg.Fml Go.Lg.Fld
def insV (x:Ins):List Value:=[.int .i64 x.op,.int .i64 x.a,.int .i64 x.b,.bool x.k.1,.int .u64 (x.k.2/18446744073709551616),.int .u64 (x.k.2%18446744073709551616)]
def smallI (x:Ins):Prop:=(-9223372036854775808≤x.op∧x.op<9223372036854775808)∧(-9223372036854775808≤x.a∧x.a<9223372036854775808)∧(-9223372036854775808≤x.b∧x.b<9223372036854775808)∧In2 x.k.2
structure InsIn (X:Nat→Option Obj) (ad:Option Addr) (l:List Ins):Prop where
 rows:Go.Lg.RowsIn X ad 6 (l.map insV)
 small:∀ x∈l,smallI x
theorem InsIn.mono {X Y:Nat→Option Obj} (hXY:∀ b o,X b=some o→Y b=some o) {ad:Option Addr} {l:List Ins} (h:InsIn X ad l):InsIn Y ad l:=⟨h.rows.mono hXY,h.small⟩
theorem InsIn.at {X:Nat→Option Obj} {ad:Option Addr} {l:List Ins} (h:InsIn X ad l) {i:Nat} {x:Ins} (hx:l[i]? = some x):
  ∃ (blk off:Nat) (arr:Array Value) (el:TypeId) (fr:Nat×Nat),ad=some ⟨blk,off,none⟩∧X blk=some (.cells arr el fr)∧off+i*6+6≤arr.size∧((arr.toList.drop (off+i*6)).take 6).map CV.val=(insV x).map CV.val∧arr[off+i*6]? = some (.int .i64 x.op):=by
 obtain ⟨blk,off,arr,el,fr,h1,h2,h3,h4⟩:=h.rows i (insV x) (by rw [dM,hx];rfl)
 refine ⟨blk,off,arr,el,fr,h1,h2,h3,by rw [h4],?_⟩
 have h5:((arr.toList.drop (off+i*6)).take 6)[0]? = some (.int .i64 x.op):=by rw [h4];rfl
 rw [List.getElem?_take,if_pos (by decide),List.getElem?_drop,Nat.add_zero,Array.getElem?_toList] at h5
 exact h5
structure FssIn (X:Nat→Option Obj) (ad:Option Addr) (fss:List (List Nm)):Prop where
 at_:∀ (i:Nat) (r:List Nm),fss[i]? = some r→∃ (blk off:Nat) (arr:Array Value) (el:TypeId) (fr:Nat×Nat) (vad:Option Addr) (vcap:Nat),ad=some ⟨blk,off,none⟩∧X blk=some (.cells arr el fr)∧off+i*1+1≤arr.size∧arr[off+i]? = some (.slice vad r.length vcap)∧NumsIn X vad r
theorem FssIn.mono {X Y:Nat→Option Obj} (hXY:∀ b o,X b=some o→Y b=some o) {ad:Option Addr} {fss:List (List Nm)} (h:FssIn X ad fss):FssIn Y ad fss:=⟨fun i r hr=>by
 obtain ⟨blk,off,arr,el,fr,vad,vcap,h1,h2,h3,h4,h5⟩:=h.at_ i r hr
 exact ⟨blk,off,arr,el,fr,vad,vcap,h1,hXY _ _ h2,h3,h4,h5.rows.mono hXY,h5.in2⟩⟩
abbrev LIn (x:Ins):LV:=.sv (.agg ((insV x).map .val))
abbrev LEnv (fad:Option Addr) (n cap:Nat) (at_:Int):LV:=.sv (.agg [.val (.slice fad n cap),.val (.int .i64 at_)])
end Go.Proofs.YtopiioklkkiedaaGreatDoor
end
section
set_option maxHeartbeats 12800000
set_option maxRecDepth 100000
namespace Go.Proofs.YtopiioklkkiedaaGreatDoor
open Go Go.Lg Go.Lg.Fml Go.Lg.Fld
structure Rl where
 nw:Int
 old:Int
 ex:List (List Ins)
 deriving DecidableEq
structure Pg where
 va:Int
 vb:Int
 rs:List Rl
 deriving DecidableEq
def firstX:List (List Ins)→Int
 | []=>0
 | c::t=>if encErr c=0 then firstX t else encErr c
def chkR (r:Rl) (last:Int):Int:=if r.nw<1∨24<r.nw∨r.old<0∨24<r.old∨r.nw≤last then 1 else if r.old=0∧r.ex≠[] then 4 else if 8<r.ex.length then 5 else firstX r.ex
def chkRs:Int→List Rl→Int
 | _,[]=>0
 | last,r::t=>if chkR r last=0 then chkRs r.nw t else chkR r last
def verOk (n:Int):Bool:=decide (1≤n)&&decide (n≤1073741824)
def chkP (p:Pg):Int:=if (verOk p.va&&verOk p.vb)=true then chkRs 0 p.rs else 1
theorem chkR_zero {r:Rl} {last:Int} (h:chkR r last=0):(1≤r.nw∧r.nw≤24)∧(0≤r.old∧r.old≤24)∧last<r.nw∧(r.old=0→r.ex=[])∧r.ex.length≤8∧firstX r.ex=0:=by
 unfold chkR at h
 split at h
 ·cases h
 ·rename_i h1
  split at h
  ·cases h
  ·rename_i h2
   split at h
   ·cases h
   ·rename_i h3
    refine ⟨by omega,by omega,by omega,fun e => ?_,by omega,h⟩
    by_cases hx:r.ex=[]
    ·exact hx
    ·exact absurd ⟨e,hx⟩ h2
def get4 (b:List UInt8):Option (Nat×List UInt8):=if 4≤b.length then some (le (b.take 4),b.drop 4) else none
def getE (b:List UInt8):Option (List Ins×List UInt8):=match get4 b with
 | none=>none
 | some (m,r)=>if m≤r.length then (match decX (r.take m) with
  | some l=>some (l,r.drop m)
  | none=>none) else none
def getEs:Nat→List UInt8→Option (List (List Ins)×List UInt8)
 | 0,b=>some ([],b)
 | n+1,b=>match getE b with
  | some (x,r)=>match getEs n r with
   | some (l,r')=>some (x::l,r')
   | none=>none
  | none=>none
def getRl:List UInt8→Option (Rl×List UInt8)
 | n::o::m::r=>match getEs m.toNat r with
  | some (l,r')=>some (⟨(n.toNat:Nat),(o.toNat:Nat),l⟩,r')
  | none=>none
 | _=>none
def getRls:Nat→List UInt8→Option (List Rl×List UInt8)
 | 0,b=>some ([],b)
 | n+1,b=>match getRl b with
  | some (x,r)=>match getRls n r with
   | some (l,r')=>some (x::l,r')
   | none=>none
  | none=>none
end Go.Proofs.YtopiioklkkiedaaGreatDoor
end
section
set_option maxHeartbeats 12800000
set_option maxRecDepth 100000
namespace Go.Lg.Fml
theorem dep_snoc {okJ:Ins→Bool} {l:List Ins} {i n:Nat} {x:Ins} (hd:dep okJ 0 (l.take i)=some n) (hx:l[i]? = some x):dep okJ 0 (l.take (i+1))=if okJ x=true∧takes x.op≤n∧n-takes x.op+1≤16 then some (n-takes x.op+1) else none:=by
 rw [Go.Lg.Fld.take_snoc hx,dep_app,hd]
 show dep okJ n [x]=_
 simp only [dep]
theorem dep_none {okJ:Ins→Bool} {l:List Ins} {i:Nat} (hd:dep okJ 0 (l.take i)=none):dep okJ 0 l=none:=by
 rw [← List.take_append_drop i l,dep_app,hd]
 rfl
theorem dep_le {okJ:Ins→Bool}:∀ {l:List Ins} {n m:Nat},n≤16→dep okJ n l=some m→m≤16
 | [],n,m,hn,h=>by simp only [dep,Option.some.injEq] at h;omega
 | x::l,n,m,hn,h=>by
  simp only [dep] at h
  split at h
  ·rename_i h1;exact dep_le h1.2.2 h
  ·cases h
end Go.Lg.Fml
namespace Go.Proofs.YtopiioklkkiedaaGreatDoor
open Go Go.Lg Go.Lg.Fml Go.Lg.Fld
set_option maxRecDepth 100000
variable (X:Nat→Option Obj)
instance:ArrB Tryz.prog 240 (List.replicate 18 (.int .i64 0)) 1:=⟨by kernel_rfl⟩
def tkC:List CV:=[.val (.int .i64 0),.val (.int .i64 0),.val (.int .i64 0),.val (.int .i64 0),.val (.int .i64 0),.val (.int .i64 2),.val (.int .i64 2),.val (.int .i64 2),.val (.int .i64 2),.val (.int .i64 2),.val (.int .i64 1),.val (.int .i64 2),.val (.int .i64 2),.val (.int .i64 2),.val (.int .i64 2),.val (.int .i64 1),.val (.int .i64 3),.val (.int .i64 2)]
theorem takes_at {op:Int} (h:5≤op∧op≤17):tkC[op.toNat]? = some (CV.val (.int .i64 (takes op:Nat))):=by
 rcases (show op=5∨op=6∨op=7∨op=8∨op=9∨op=10∨op=11∨op=12∨op=13∨op=14∨op=15∨op=16∨op=17 by omega) with rfl|rfl|rfl|rfl|rfl|rfl|rfl|rfl|rfl|rfl|rfl|rfl|rfl<;>rfl
theorem takes_out {op:Int} (h:op<5∨17<op):takes op=0:=by
 unfold takes
 rw [if_neg (by omega),if_neg (by omega),if_neg (by omega)]
set_option maxHeartbeats 1600000 in
theorem rTakes_spec (op:Int):PSpec Tryz.prog X 109 [Ln .i64 op] (Ln .i64 (takes op:Nat)):=by
 refine cF Tryz.func109 rfl V5 rfl rfl ?_
 intro C
 by_cases h1:op<5
 ·rw [takes_out (.inl h1)]
  (refine U8 ?_;refine klt rfl rfl (cP h1) ?_;refine U11 ?_)
  exact V6
 by_cases h2:17<op
 ·rw [takes_out (.inr h2)]
  (refine U8 ?_;refine klt O O (cO h1) ?_;refine U2 ?_;refine aS O O (cP h2) (dT O O) ?_;refine U8 ?_)
  exact V6
 have hat:=takes_at (op:=op) ⟨by omega,by omega⟩
 have hix:0+Int.toNat op*1=op.toNat:=by omega
 (refine U8 ?_;refine klt O O (cO h1) ?_;refine U2 ?_;refine aS O O (cO h2) (dT O O) ?_;refine U6 ?_;refine K.buildArr O O V2 O dS ?_;refine U6 ?_;refine K.indexArr O O V3 hix dS ?_;refine kl1 O O hat ?_;refine U3 ?_)
 exact V6
theorem chkX_bad {l:List Ins} {i n:Nat} {x:Ins} (h64:¬ 64<l.length) (hd:dep okI 0 (l.take i)=some n) (hx:l[i]? = some x) (hb:¬ (okI x=true∧takes x.op≤n∧n-takes x.op+1≤16)):chkX l=4:=by
 unfold chkX
 rw [if_neg h64,if_neg]
 rw [dep_none (i:=i+1) ((dep_snoc hd hx).trans (if_neg hb))]
 exact fun h=>by cases h
set_option maxHeartbeats 6400000 in
theorem rCheck11 (l:List Ins) (ad:Option Addr) (cap:Nat) (hin:InsIn X ad l) (hbig:l.length<4611686018427387904):PSpec Tryz.prog X 73 [Lx ad l.length cap] (Ln .i64 (chkX l)):=by
 refine cF Tryz.func73 rfl V5 rfl rfl ?_
 intro C
 by_cases hlong:64<l.length
 ·have e:chkX l=5:=if_pos hlong
  rw [e]
  refine U17 ?_
  exact V6
 refine U23 ?_
 refine cL (fun m σ=>∃ i n:Nat,i≤l.length∧m=l.length-i∧dep okI 0 (l.take i)=some n∧σ=⟨[(0,Lx ad l.length cap),(3,Ln .i64 (n:Nat)),(4,Ln .i64 (i:Nat))],[],X⟩) l.length
  ⟨⟨[(0,Lx ad l.length cap),(3,Ln .i64 (0:Nat)),(4,Ln .i64 (0:Nat))],[],X⟩,Le.of V9 VC V2 V2 V2,0,0,by omega,rfl,rfl,rfl⟩ ?_
 rintro m σ ⟨i,n,hi,rfl,hd,rfl⟩
 have hn16:=dep_le V3 hd
 by_cases hlt:i<l.length
 ·obtain ⟨x,hx⟩:=wg hlt
  obtain ⟨blk,off,arr,el,fr,rfl,hX,hsz,hcs,_⟩:=hin.at hx
  have hio:=wo off i 6
  obtain ⟨_,_,_,hk2⟩:=hin.small x (dE hx)
  have hG:=Good_spec X x.k.1 x.k.2 hk2 (gd x.k) rfl
  have hT:=rTakes_spec X x.op
  have hbad:=fun h=>chkX_bad (x:=x) hlong hd hx h
  have htk:=takes_le x.op
  by_cases c0:x.op<1
  ·rw [hbad (fun h=>by have:=(okI_facts h.1).1;omega)]
   (refine U60 ?_;refine U12 ?_)
   exact V6
  by_cases c1:17<x.op
  ·rw [hbad (fun h=>by have:=(okI_facts h.1).1;omega)]
   (refine U60 ?_;refine U12 ?_)
   exact V6
  cases hg:gd x.k with
  | false =>
   rw [hbad (fun h=>by rw [(okI_facts h.1).2.1] at hg;cases hg)]
   rw [hg] at hG
   (refine U60 ?_;refine U12 ?_)
   exact V6
  | true =>
  rw [hg] at hG
  by_cases c3:x.a<0
  ·rw [hbad (fun h=>by have:=(okI_facts h.1).2.2.1;omega)]
   (refine U41 ?_;refine bK O O (cP V3) (dT O O) ?_;refine U30 ?_)
   exact V6
  by_cases c4:7<x.a
  ·rw [hbad (fun h=>by have:=(okI_facts h.1).2.2.1;omega)]
   ((refine U37 ?_);(refine U35 ?_))
   exact V6
  by_cases c5:x.b<0
  ·rw [hbad (fun h=>by have:=(okI_facts h.1).2.2.2;omega)]
   ((refine U37 ?_);(refine U14 ?_;refine bK O O (cP V3) (dT O O) ?_;refine U20 ?_))
   exact V6
  by_cases c6:7<x.b
  ·rw [hbad (fun h=>by have:=(okI_facts h.1).2.2.2;omega)]
   ((refine U37 ?_);(refine U20 ?_);(refine U15 ?_))
   exact V6
  by_cases c7:n<takes x.op
  ·rw [hbad (fun h=>by have:=h.2.1;omega)]
   ((refine U37 ?_);(refine U20 ?_);(refine U6 ?_;refine bK O O (cP V3) (dT O O) ?_;refine U8 ?_))
   exact V6
  have hok:okI x=true:=by
   unfold okI
   rw [hg,cP (show 1≤x.op by omega),cP (show x.op≤17 by omega),cP (show 0≤x.a by omega),cP (show x.a≤7 by omega),cP (show 0≤x.b by omega),cP (show x.b≤7 by omega)]
   rfl
  have hsub:IntKind.i64.wrap ((n:Int)-(takes x.op:Nat))=((n-takes x.op:Nat):Int):=by rw [cH V3];omega
  have hadd:IntKind.i64.wrap (((n-takes x.op:Nat):Int)+1)=((n-takes x.op+1:Nat):Int):=by rw [cH V3];omega
  by_cases c8:16<n-takes x.op+1
  ·rw [hbad (fun h=>by have:=h.2.2;omega)]
   ((refine U37 ?_);(refine U20 ?_);(refine U32 ?_))
   exact V6
  have hadi:IntKind.i64.wrap ((i:Int)+1)=((i+1:Nat):Int):=by rw [cH V3];omega
  have hnext:=(dep_snoc hd hx).trans (if_pos ⟨hok,by omega,by omega⟩)
  ((refine U37 ?_);(refine U20 ?_);(refine U33 ?_))
  exact ⟨_,⟨[(0,Lx (some ⟨blk,off,none⟩) l.length cap),(3,Ln .i64 (n-takes x.op+1:Nat)),(4,Ln .i64 (i+1:Nat))],[],X⟩,by omega,Le.of V9 VC V2 V2 V2,i+1,_,by omega,O,hnext,O⟩
 have e:i=l.length:=by omega
 subst e
 rw [dG] at hd
 by_cases h1:n=1
 ·have e:chkX l=0:=by unfold chkX;rw [if_neg hlong,if_pos (by rw [hd,h1])]
  rw [e]
  (refine U14 ?_;refine kne rfl rfl (cT V3) ?_;refine U8 ?_)
  exact V6
 ·have e:chkX l=4:=by unfold chkX;rw [if_neg hlong,if_neg (by rw [hd];exact fun h=>h1 V2E)]
  rw [e]
  refine U22 ?_
  exact V6
end Go.Proofs.YtopiioklkkiedaaGreatDoor
end
section
namespace Go.Lg.Sg
open Go Go.Lg
def nuV (l:List Int):List Value:=l.map (Value.int .i64 ·)
def NuIn (X:Nat→Option Obj) (ad:Option Addr) (l:List Int):Prop:=RowsIn X ad 1 (l.map fun n=>[.int .i64 n])
theorem nu_at {l:List Int} {i:Nat} {x:Int} (h:l[i]? = some x):((nuV l).map CV.val)[i*1]? = some (.val (.int .i64 x)):=by
 unfold nuV
 rw [Nat.mul_one,List.getElem?_map,List.getElem?_map,h]
 rfl
abbrev nuB (k:Nat) (l:List Int):Nat×Option Box:=(k,some ⟨3,(nuV l).map .val,true⟩)
abbrev nuB' (k:Nat) (l:List Int) (r:Bool):Nat×Option Box:=(k,some ⟨3,(nuV l).map .val,r⟩)
end Go.Lg.Sg
end
section
set_option maxHeartbeats 12800000
set_option maxRecDepth 100000
namespace Go.Lg.Fml
theorem takes_sum_le:∀ (l:List Ins),-(l.length:Int)≤surplus l∧surplus l≤2*(l.length:Int)
 | []=>by simp [surplus]
 | x::l=>by
  have:=takes_le x.op
  have:=takes_sum_le l
  simp only [surplus,dJ]
  omega
theorem flat_len (t:Tr):1≤t.flat.length:=List.length_pos_iff.2 (flat_pos t)
theorem endsL_at:∀ {us:List Tr} {p i:Nat} {a:Tr},us[i]? = some a→(endsL p us)[i]? = some (p+(flatL (us.take (i+1))).length-1)
 | [],_,_,_,h=>by simp at h
 | b::us,p,0,a,h=>by simp [endsL,flatL]
 | b::us,p,i+1,a,h=>by
  rw [List.getElem?_cons_succ] at h
  rw [endsL,List.getElem?_cons_succ,endsL_at h,List.take_succ_cons,flatL,cW,Nat.add_assoc]
end Go.Lg.Fml
namespace Go.Proofs.YtopiioklkkiedaaGreatDoor
open Go Go.Lg Go.Lg.Fml Go.Lg.Fld Go.Lg.Sg
set_option maxRecDepth 100000
variable (X:Nat→Option Obj)
set_option maxHeartbeats 3200000 in
theorem rStart_spec (l:List Ins) (ad:Option Addr) (cap:Nat) (hin:InsIn X ad l) (hbig:l.length<1152921504606846976) {p:Nat} {t:Tr} (hA:At l p t) (ht:t.ok) (e:Int) (he:e=((p+t.flat.length:Nat):Int)-1):
  PSpec Tryz.prog X 151 [Lx ad l.length cap,Ln .i64 e] (Ln .i64 (p:Nat)):=by
 refine cF Tryz.func151 rfl V5 rfl rfl ?_
 intro C
 have hlen:=hA.len
 have h1:=flat_len t
 have hs0:1+surplus (t.flat.drop t.flat.length)=1:=by rw [List.drop_length];rfl
 (refine aA<|rgN<|kas O<|RunK.nil<|aA<|rgN<|kas O<|RunK.nil<|aA<|aA<|rgN<|kmv O<|kas O<|RunK.nil ?_;refine LWP.block ?_)
 refine cL (fun m σ=>∃ k:Nat,1≤k∧k≤t.flat.length∧m=k∧σ=⟨[(0,Lx ad l.length cap),(5,Ln .i64 (1+surplus (t.flat.drop k))),(6,Ln .i64 (((p+k:Nat):Int)-1))],[],X⟩) t.flat.length
  ⟨⟨[(0,Lx ad l.length cap),(5,Ln .i64 1),(6,Ln .i64 e)],[],X⟩,Le.of V9 VC V2 V2 V2,t.flat.length,h1,dO _,rfl,by rw [hs0,he]⟩ ?_
 rintro m σ ⟨k',hk1,hk,rfl,rfl⟩
 obtain ⟨k,rfl⟩:∃ k,m=k+1:=⟨m-1,by omega⟩
 obtain ⟨x,hx⟩:∃ x,t.flat[k]? = some x:=wg V3
 obtain ⟨b1,b2,b3⟩:=back_step ht hx
 have hxl:l[p+k]? = some x:=(hA.get V3).trans hx
 obtain ⟨blk,off,arr,el,fr,rfl,hX,hsz,hcs,hop⟩:=hin.at hxl
 have hT:=rTakes_spec X x.op
 have htk:=takes_le x.op
 have hs1:=takes_sum_le (t.flat.drop (k+1))
 rw [dC] at hs1
 have hio:off+Int.toNat (((p+(k+1):Nat):Int)-1)*6=off+(p+k)*6:=by
  have:Int.toNat (((p+(k+1):Nat):Int)-1)=p+k:=by omega
  rw [this]
 have hin0:0≤((p+(k+1):Nat):Int)-1∧((p+(k+1):Nat):Int)-1<(l.length:Nat):=by omega
 have hsub:IntKind.i64.wrap (1+surplus (t.flat.drop (k+1))-1)=surplus (t.flat.drop (k+1)):=by rw [cH V3];omega
 have hadd:IntKind.i64.wrap (surplus (t.flat.drop (k+1))+(takes x.op:Nat))=1+surplus (t.flat.drop k):=by rw [cH V3];omega
 by_cases h0:k=0
 ·subst h0
  have b2:=b2 rfl
  rw [b2] at hadd
  have e2:(((p+(0+1):Nat):Int)-1)=(p:Nat):=by omega
  rw [e2] at hio hin0 ⊢
  (refine aA<|aA<|rgN<|kmv O<|bD O O (cP V3) dS<|RunK.nil<|LWP.condT O ?_;refine LWP.skip ?_;refine aA<|LWP.block<|aA<|rgN<|kmv O<|bA O O hsub dS<|kmv O<|kmv O<|K.indexX O O cC hin0 hio dS<|K.fieldAddrX O O dS ?_;refine K.loadX O hX O hop dS<|kca O O (hT)<|kad O O hadd<|kas O<|RunK.nil<|aA<|rgN<|kmv O<|keq O O (r:=true) O<|RunK.nil<|LWP.condT O ?_;refine aA<|rgN<|kmv O<|kas O<|RunK.nil<|LWP.ret ?_)
  exact V6
 have b3:=b3 h0
 have hdec:IntKind.i64.wrap ((((p+(k+1):Nat):Int)-1)-1)=((p+k:Nat):Int)-1:=by rw [cH V3];omega
 (refine aA<|aA<|rgN<|kmv O<|bD O O (cP V3) dS<|RunK.nil<|LWP.condT O ?_;refine LWP.skip ?_;refine aA<|LWP.block<|aA<|rgN<|kmv O<|bA O O hsub dS<|kmv O<|kmv O<|K.indexX O O cC hin0 hio dS<|K.fieldAddrX O O dS ?_;refine K.loadX O hX O hop dS<|kca O O (hT)<|kad O O hadd<|kas O<|RunK.nil<|aA<|rgN<|kmv O<|keq O O (r:=false) (cS V3)<|RunK.nil<|LWP.condF O ?_;refine LWP.skip ?_;refine rgN<|kmv O<|bA O O hdec dS<|kas O<|RunK.nil ?_)
 exact ⟨_,⟨[(0,Lx (some ⟨blk,off,none⟩) l.length cap),(5,Ln .i64 (1+surplus (t.flat.drop k))),(6,Ln .i64 (((p+k:Nat):Int)-1))],[],X⟩,by omega,Le.of V9 VC V2 V2 V2,k,by omega,by omega,O,O⟩
def endsI (p:Nat) (us:List Tr):List Int:=(endsL p us).map fun n=>((n:Nat):Int)
theorem endsI_len (p:Nat) (us:List Tr):(endsI p us).length=us.length:=by unfold endsI;rw [cX,endsL_len]
theorem endsI_step {p:Nat} {us:List Tr} {j:Nat} {a:Tr} (h:us[j]? = some a):(endsI p us).drop j=((p+(flatL (us.take (j+1))).length-1:Nat):Int)::(endsI p us).drop (j+1):=by
 have h1:(endsI p us)[j]? = some ((p+(flatL (us.take (j+1))).length-1:Nat):Int):=by unfold endsI;rw [dM,endsL_at h];rfl
 obtain ⟨hj,e⟩:=List.getElem?_eq_some_iff.1 h1
 rw [List.drop_eq_getElem_cons hj,e]
set_option maxHeartbeats 6400000 in
theorem rBranches_spec (l:List Ins) (ad:Option Addr) (cap:Nat) (hin:InsIn X ad l) (hbig:l.length<1152921504606846976) {p:Nat} {t:Tr} (hA:At l p t) (ht:t.ok) (hpos:0<t.args.length) (e:Int) (he:e=((p+t.flat.length:Nat):Int)-1):
  MSpec Tryz.prog X 111 [Lx ad l.length cap,Ln .i64 e] [] (.sv (.one (.slc 1000001 0 (endsI p t.args).length))) [nuB 1000001 (endsI p t.args)]:=by
 refine cG Tryz.func111 rfl V5 rfl rfl V7 rfl rfl ?_
 intro C
 have hrl:∀ l:List Int,((nuV l).map CV.val).length=l.length*1:=fun l=>by unfold nuV;rw [cX,cX,Nat.mul_one]
 have hlen:=hA.len
 have h1:=flat_len t
 have hfa:=flat_args t
 have hfl:t.flat.length=(flatL t.args).length+1:=by rw [hfa];simp
 have hal:=args_le t
 obtain ⟨htop,hoks⟩:=ok_args ht
 obtain ⟨blk,off,arr,el,fr,rfl,hX,hsz,hcs,hop⟩:=hin.at hA.top
 have hT:=rTakes_spec X t.top.op
 rw [htop] at hT
 have hio:off+Int.toNat e*6=off+(p+t.flat.length-1)*6:=by
  have:Int.toNat e=p+t.flat.length-1:=by omega
  rw [this]
 have hin0:0≤e∧e<(l.length:Nat):=by omega
 have hdrop0:(endsI p t.args).drop t.args.length=[]:=List.drop_eq_nil_of_le (by rw [endsI_len];exact dO _)
 have he1:IntKind.i64.wrap (e-1)=((p+(flatL (t.args.take (t.args.length-0))).length:Nat):Int)-1:=by
  rw [Nat.sub_zero,dG,cH (by omega)];omega
 refine LWP.ends ?_
 (refine aA<|rgN<|kas O<|RunK.nil<|aA<|rgN<|aZ (zs:=[]) (sz:=1) (e:=3) V5 O O O O O O dS<|kas O<|RunK.nil<|aA<|rgN<|kmv O<|bA O O he1 dS<|kas O ?_;refine RunK.nil<|aA<|aA<|rgN<|kas O<|RunK.nil<|LWP.block ?_)
 refine cL (fun m σ=>∃ (i:Nat) (r:Bool),i≤t.args.length∧(0<i→r=true)∧m=t.args.length-i∧σ=⟨[(0,Lx (some ⟨blk,off,none⟩) l.length cap),(1,Ln .i64 e),(5,.sv (.one (.slc 500 0 ((endsI p t.args).drop (t.args.length-i)).length))),(6,Ln .i64 (((p+(flatL (t.args.take (t.args.length-i))).length:Nat):Int)-1)),(7,Ln .i64 (i:Nat))],[nuB' 500 ((endsI p t.args).drop (t.args.length-i)) r],X⟩) t.args.length
  ⟨⟨[(0,Lx (some ⟨blk,off,none⟩) l.length cap),(1,Ln .i64 e),(5,.sv (.one (.slc 500 0 ([]:List Int).length))),(6,Ln .i64 (((p+(flatL (t.args.take (t.args.length-0))).length:Nat):Int)-1)),(7,Ln .i64 (0:Nat))],[nuB' 500 [] false],X⟩,Le.ofR [(500,8)] V10 V1 V2 V2 V0 V2 V2,0,false,by omega,(fun h=>absurd h VA),rfl,by rw [Nat.sub_zero,hdrop0]⟩ ?_
 rintro m σ ⟨i,r,hi,hr,rfl,rfl⟩
 by_cases hlt:i<t.args.length
 ·obtain ⟨j,hj⟩:∃ j,t.args.length-i=j+1:=⟨t.args.length-i-1,by omega⟩
  have hj2:t.args.length-(i+1)=j:=by omega
  rw [hj]
  obtain ⟨a,ha⟩:∃ a,t.args[j]? = some a:=wg V3
  obtain ⟨hAa,_⟩:=hA.arg ha
  have hstep:=endsI_step (p:=p) ha
  have htk:t.args.take (j+1)=t.args.take j++[a]:=take_snoc ha
  have hft:(flatL (t.args.take (j+1))).length=(flatL (t.args.take j)).length+a.flat.length:=by rw [htk,flatL_app,cW];simp [flatL]
  have ha1:=flat_len a
  have hal2:=hAa.len
  have hS:=rStart_spec X l (some ⟨blk,off,none⟩) cap hin hbig hAa (hoks a (dE ha)) (((p+(flatL (t.args.take (j+1))).length:Nat):Int)-1) V3
  have hcell:(((p+(flatL (t.args.take (j+1))).length:Nat):Int)-1)=((p+(flatL (t.args.take (j+1))).length-1:Nat):Int):=by omega
  have hsub:IntKind.i64.wrap (((p+(flatL (t.args.take j)).length:Nat):Int)-1)=((p+(flatL (t.args.take j)).length:Nat):Int)-1:=by rw [cH V3]
  have hadd:IntKind.i64.wrap ((i:Int)+1)=((i+1:Nat):Int):=by rw [cH V3];omega
  rw [← hcell] at hstep
  have hElen:((endsI p t.args).drop (j+1)).length≤3:=by rw [dC,endsI_len];omega
  generalize ((p+(flatL (t.args.take (j+1))).length:Nat):Int)-1=v at *
  generalize hE:(endsI p t.args).drop (j+1)=E at *
  have hnc:[CV.val (.int .i64 v)]++(nuV E).map CV.val=(nuV (v::E)).map CV.val:=rfl
  have hnl:1+E.length=(v::E).length:=by rw [dJ,Nat.add_comm]
  have htake:((nuV E).map CV.val).take (E.length*1)=(nuV E).map CV.val:=List.take_of_length_le (by rw [hrl];exact dO _)
  have hsol:((nuV E).map CV.val).all CV.solid=true:=vals_solid (by unfold nuV;rw [List.all_map];exact List.all_eq_true.2 fun _ _=>rfl)
  (refine aA<|aA<|rgN<|kmv O<|kmv O<|kmv O<|K.indexX O O cC hin0 hio dS<|K.fieldAddrX O O dS ?_;refine K.loadX O hX O hop dS<|kca O O (hT)<|klt O O (cP V3)<|RunK.nil<|LWP.condT O ?_;refine LWP.skip ?_;refine aA<|LWP.block<|aA<|rgN<|kmv O<|aZ (zs:=[.int .i64 0]) (sz:=1) (e:=3) (cs':=[.val (.int .i64 v)]) V5 O O O O O O dS<|kmv O<|bQ (by_:=8) (e2:=3) (l2:=(nuV E).map .val) (nl:=(v::E).length) (nc:=(nuV (v::E)).map .val) O O O O O (by rw [hrl];exact dO _) htake hsol V5 V5 V3 V3 O hnl hnc dS<|kas O<|RunK.nil<|rgN<|kmv O<|kmv O<|kca O O (hS) ?_;refine bA O O hsub dS<|kas O<|RunK.nil<|rgN<|kmv O<|kad O O hadd<|kas O<|RunK.nil ?_)
  exact ⟨_,⟨[(0,Lx (some ⟨blk,off,none⟩) l.length cap),(1,Ln .i64 e),(5,.sv (.one (.slc 500 0 (v::E).length))),(6,Ln .i64 (((p+(flatL (t.args.take j)).length:Nat):Int)-1)),(7,Ln .i64 (i+1:Nat))],[nuB' 500 (v::E) true],X⟩,by omega,Le.ofR [(500,24)] V10 V1 V2 V2 V0 V2 V2,i+1,true,by omega,(fun _=>rfl),rfl,by rw [hj2,hstep]⟩
 ·have e2:i=t.args.length:=by omega
  obtain rfl:r=true:=hr V3
  subst e2
  rw [Nat.sub_self,List.drop_zero]
  (refine aA<|aA<|rgN<|kmv O<|kmv O<|kmv O<|K.indexX O O cC hin0 hio dS<|K.fieldAddrX O O dS ?_;refine K.loadX O hX O hop dS<|kca O O (hT)<|klt O O (cO V3)<|RunK.nil<|LWP.condF O ?_;refine LWP.exit<|aA<|rgN<|kmv O<|kas O<|RunK.nil<|LWP.ret ?_)
  refine cE (σ':=⟨[(4,.sv (.one (.slc 500 0 (endsI p t.args).length)))],[nuB 500 (endsI p t.args)],X⟩) (Le.ofR [(500,500)] V13 V1 V2 V2 V0 V2 V2) ?_
  refine cE Le.loose (cD ?_)
  exact ⟨[(1000001,500)],⟨[_],⟨O,trivial⟩,O⟩,V1,O,O⟩
end Go.Proofs.YtopiioklkkiedaaGreatDoor
end
section
namespace Go.Proofs
open Go.Shelf
def Tryz.lays134_ren : Go.Shelf.Ren := ⟨fun | 134 => 240 | 129 => 242 | n => n, fun | 53 => 84 | 3 => 3 | 4 => 4 | 46 => 73 | 5 => 5 | 9 => 9 | n => n, fun | n => n⟩
theorem Tryz.lays134 : Go.Proofs.Lays.n134 Tryz.prog Tryz.lays134_ren := {
  mixed := by kernel_rfl
  f129 := Tryz.func242.trans (congrArg some (by kernel_rfl))
  f134 := Tryz.func240.trans (congrArg some (by kernel_rfl))
  t3 := Tryz.underlying3
  a3 := Tryz.isAgg3
  z3 := Tryz.sizeOf3
  v3 := Tryz.zeroValue3
  t4 := Tryz.underlying4
  a4 := Tryz.isAgg4
  z4 := Tryz.sizeOf4
  v4 := Tryz.zeroValue4
  t5 := Tryz.underlying5
  a5 := Tryz.isAgg5
  z5 := Tryz.sizeOf5
  v5 := Tryz.zeroValue5
  t9 := Tryz.underlying9
  a9 := Tryz.isAgg9
  z9 := Tryz.sizeOf9
  v9 := Tryz.zeroValue9
  t46 := Tryz.underlying73
  a46 := Tryz.isAgg73
  z46 := Tryz.sizeOf73
  v46 := Tryz.zeroValue73
  t53 := Tryz.underlying84
  a53 := Tryz.isAgg84
  z53 := Tryz.sizeOf84
  v53 := Tryz.zeroValue84 }
theorem Tryz.bits_LeadingZeros64 (x : Int) (w : World) (h0 : 0 ≤ x) (h1 : x ≤ 18446744073709551615) :
    Calls Tryz.prog 240 #[.int .u64 x] w fun e w' => e = .returned (.int .i64 (64 - (Lib.bitLen x.toNat : Int))) ∧ w' = w := Any.bits_LeadingZeros64 Tryz.lays134 x w h0 h1
def Tryz.lays264_ren : Go.Shelf.Ren := ⟨fun | 264 => 232 | n => n, fun | 53 => 84 | 46 => 73 | n => n, fun | n => n⟩
theorem Tryz.lays264 : Go.Proofs.Lays.n264 Tryz.prog Tryz.lays264_ren := {
  mixed := by kernel_rfl
  f264 := Tryz.func232.trans (congrArg some (by kernel_rfl))
  t46 := Tryz.underlying73
  a46 := Tryz.isAgg73
  z46 := Tryz.sizeOf73
  v46 := Tryz.zeroValue73
  t53 := Tryz.underlying84
  a53 := Tryz.isAgg84
  z53 := Tryz.sizeOf84
  v53 := Tryz.zeroValue84 }
open Go.RowKit Go.Lib in
theorem Tryz.bits_Mul64 (x y : Nat) (hx : x < 18446744073709551616) (hy : y < 18446744073709551616) (w : World) :
    Calls Tryz.prog 232 #[.int .u64 x, .int .u64 y] w fun e w' => e = .returned (.tuple #[.int .u64 ((x * y / 18446744073709551616 : Nat) : Int), .int .u64 ((x * y % 18446744073709551616 : Nat) : Int)]) ∧ w' = w := Any.bits_Mul64 Tryz.lays264 x y hx hy w
end Go.Proofs
end
section
set_option maxHeartbeats 12800000
set_option maxRecDepth 100000
namespace Go.Proofs.YtopiioklkkiedaaGreatDoor
open Go Go.Lg Go.Lg.Arith
variable (X:Nat→Option Obj)
theorem mul64_spec (x y p:Int) (hx:0≤x∧x<18446744073709551616) (hy:0≤y∧y<18446744073709551616) (hp:x*y=p):
  PSpec Tryz.prog X 232 [Ln .u64 x,Ln .u64 y] (.tup [Sn .u64 (p/18446744073709551616),Sn .u64 (p%18446744073709551616)]):=by
 subst hp
 obtain ⟨a,rfl⟩:=Int.eq_ofNat_of_zero_le hx.1
 obtain ⟨b,rfl⟩:=Int.eq_ofNat_of_zero_le hy.1
 refine PSpec.ofCalls (vals:=[.int .u64 a,.int .u64 b]) (v:=.tuple #[.int .u64 (a*b/18446744073709551616),.int .u64 (a*b%18446744073709551616)]) V5 O O (fun w _ => ?_)
 have h:=Tryz.bits_Mul64 a b V3 V3 w
 have e1:((a*b/18446744073709551616:Nat):Int)=(a:Int)*b/18446744073709551616:=by rw [Int.natCast_ediv,Int.natCast_mul];rfl
 have e2:((a*b%18446744073709551616:Nat):Int)=(a:Int)*b%18446744073709551616:=by rw [Int.natCast_emod,Int.natCast_mul];rfl
 rw [e1,e2] at h
 exact h
theorem times_spec (M N:Int) (hM:In2 M) (hN:In2 N) (hw:M<18446744073709551616∨N<18446744073709551616) (r:Bool) (hr:decide (M*N<340282366920938463463374607431768211456)=r):
  PSpec Tryz.prog X 215 [LZ M,LZ N] (.tup [SZ (M*N%340282366920938463463374607431768211456),Sb r]):=by
 have core:∀ H L m p q P:Int,0≤H∧H<18446744073709551616→0≤L∧L<18446744073709551616→0≤m∧m<18446744073709551616→H*m=p→L*m=q→(H*18446744073709551616+L)*m=P →
   0≤p∧0≤q∧P=p*18446744073709551616+q∧q/18446744073709551616<18446744073709551616∧p/18446744073709551616<18446744073709551616:=by
  intro H L m p q P hH hL hm hp hq hP
  have b1:=mul_bound (A:=18446744073709551615) (B:=18446744073709551615) ⟨hH.1,by omega⟩ (show 0≤m∧m≤18446744073709551615 by omega)
  have b2:=mul_bound (A:=18446744073709551615) (B:=18446744073709551615) ⟨hL.1,by omega⟩ (show 0≤m∧m≤18446744073709551615 by omega)
  have:=times_low hp hq hP
  rw [hp] at b1
  rw [hq] at b2
  omega
 unfold In2 at *
 refine cF Tryz.func215 rfl V5 rfl rfl ?_
 intro C
 by_cases h0:M/18446744073709551616=0
 ·obtain ⟨p,hp⟩:∃ p,N/18446744073709551616*(M%18446744073709551616)=p:=⟨_,rfl⟩
  obtain ⟨q,hq⟩:∃ q,N%18446744073709551616*(M%18446744073709551616)=q:=⟨_,rfl⟩
  obtain ⟨S,hS⟩:∃ S,M*N=S:=⟨_,rfl⟩
  obtain ⟨c1,c2,c3,c4,c5⟩:=core _ _ _ p q S V3 V3 V3 hp hq (by
   rw [← hS,show N/18446744073709551616*18446744073709551616+N%18446744073709551616=N by omega,show M%18446744073709551616=M by omega];exact Int.mul_comm _ _)
  rw [hS] at hr ⊢
  by_cases hP:S<340282366920938463463374607431768211456
  ·rw [cP hP] at hr
   subst hr
   (refine U36 ?_;refine kca O O (mul64_spec _ _ _ p V3 V3 hp) ?_;refine U12 ?_;refine kca O O (mul64_spec _ _ _ q V3 V3 hq) ?_;refine U10 ?_;refine K.callN O O (add64 (s:=S%340282366920938463463374607431768211456/18446744073709551616) (t:=0) V3 V3 V3) O dS ?_;refine U21 ?_)
   unfold SZ;rw [show S%340282366920938463463374607431768211456%18446744073709551616=q%18446744073709551616 by omega]
   exact V4
  ·rw [cO hP] at hr
   subst hr
   by_cases ho:p/18446744073709551616=0
   ·(refine U36 ?_;refine kca O O (mul64_spec _ _ _ p V3 V3 hp) ?_;refine U12 ?_;refine kca O O (mul64_spec _ _ _ q V3 V3 hq) ?_;refine U10 ?_;refine K.callN O O (add64 (s:=S%340282366920938463463374607431768211456/18446744073709551616) (t:=1) V3 V3 V3) O dS ?_;refine U21 ?_)
    unfold SZ;rw [show S%340282366920938463463374607431768211456%18446744073709551616=q%18446744073709551616 by omega]
    exact V4
   ·(refine U36 ?_;refine kca O O (mul64_spec _ _ _ p V3 V3 hp) ?_;refine U12 ?_;refine kca O O (mul64_spec _ _ _ q V3 V3 hq) ?_;refine U10 ?_;refine K.callN O O (add64 (s:=S%340282366920938463463374607431768211456/18446744073709551616) (t:=(q/18446744073709551616+p%18446744073709551616)/18446744073709551616) V3 V3 V3) O dS ?_;refine U21 ?_)
    unfold SZ;rw [show S%340282366920938463463374607431768211456%18446744073709551616=q%18446744073709551616 by omega]
    exact V4
 ·have hN0:N/18446744073709551616=0:=by omega
  obtain ⟨p,hp⟩:∃ p,M/18446744073709551616*(N%18446744073709551616)=p:=⟨_,rfl⟩
  obtain ⟨q,hq⟩:∃ q,M%18446744073709551616*(N%18446744073709551616)=q:=⟨_,rfl⟩
  obtain ⟨S,hS⟩:∃ S,M*N=S:=⟨_,rfl⟩
  obtain ⟨c1,c2,c3,c4,c5⟩:=core _ _ _ p q S V3 V3 V3 hp hq (by
   rw [← hS,show M/18446744073709551616*18446744073709551616+M%18446744073709551616=M by omega,show N%18446744073709551616=N by omega])
  rw [hS] at hr ⊢
  by_cases hP:S<340282366920938463463374607431768211456
  ·rw [cP hP] at hr
   subst hr
   (refine U31 ?_;refine kca O O (mul64_spec _ _ _ p V3 V3 hp) ?_;refine U12 ?_;refine kca O O (mul64_spec _ _ _ q V3 V3 hq) ?_;refine U10 ?_;refine K.callN O O (add64 (s:=S%340282366920938463463374607431768211456/18446744073709551616) (t:=0) V3 V3 V3) O dS ?_;refine U21 ?_)
   unfold SZ;rw [show S%340282366920938463463374607431768211456%18446744073709551616=q%18446744073709551616 by omega]
   exact V4
  ·rw [cO hP] at hr
   subst hr
   by_cases ho:p/18446744073709551616=0
   ·(refine U31 ?_;refine kca O O (mul64_spec _ _ _ p V3 V3 hp) ?_;refine U12 ?_;refine kca O O (mul64_spec _ _ _ q V3 V3 hq) ?_;refine U10 ?_;refine K.callN O O (add64 (s:=S%340282366920938463463374607431768211456/18446744073709551616) (t:=1) V3 V3 V3) O dS ?_;refine U21 ?_)
    unfold SZ;rw [show S%340282366920938463463374607431768211456%18446744073709551616=q%18446744073709551616 by omega]
    exact V4
   ·(refine U31 ?_;refine kca O O (mul64_spec _ _ _ p V3 V3 hp) ?_;refine U12 ?_;refine kca O O (mul64_spec _ _ _ q V3 V3 hq) ?_;refine U10 ?_;refine K.callN O O (add64 (s:=S%340282366920938463463374607431768211456/18446744073709551616) (t:=(q/18446744073709551616+p%18446744073709551616)/18446744073709551616) V3 V3 V3) O dS ?_;refine U21 ?_)
    unfold SZ;rw [show S%340282366920938463463374607431768211456%18446744073709551616=q%18446744073709551616 by omega]
    exact V4
theorem times_far (M N:Int) (hM:In2 M) (hN:In2 N) (h1:18446744073709551616≤M) (h2:18446744073709551616≤N):
  PSpec Tryz.prog X 215 [LZ M,LZ N] (.tup [.agg [.val (.int .u64 0),.val (.int .u64 0)],Sb false]):=by
 unfold In2 at *
 refine cF Tryz.func215 rfl V5 rfl rfl ?_
 intro C
 refine U31 ?_
 exact V4
end Go.Proofs.YtopiioklkkiedaaGreatDoor
end
section
set_option maxHeartbeats 12800000
set_option maxRecDepth 100000
namespace Go.Proofs.YtopiioklkkiedaaGreatDoor
open Go Go.Lg Go.Lg.Arith
variable (X:Nat→Option Obj)
theorem Mul_arg (b c:Bool) (M N:Int) (hM:In2 M) (hN:In2 N) (hf:(formB b M&&formB c N)=false):PSpec Tryz.prog X 185 [LI b M,LI c N] (.tup [S0,Sn .i64 1]):=by
 refine cF Tryz.func185 rfl V5 rfl rfl ?_
 intro C
 (refine U12 ?_;refine kca rfl rfl (bothForm_spec _ _ _ _ _ hM hN _ hf) ?_;refine U10 ?_)
 exact V4
theorem zv_mul (x y:Int):zv (decide (x<0) != decide (y<0)) (mg x*mg y)=x*y:=by
 unfold zv mg
 by_cases cx:x<0<;>by_cases cy:y<0<;>simp [cx,cy,Int.neg_mul,Int.mul_neg]
theorem range_zv {b:Bool} {N:Int} (hN:0≤N):R127 (zv b N)↔N<170141183460469231731687303715884105728:=by
 unfold R127 zv
 cases b<;>simp<;>omega
theorem Mul_q (x y:Int) (hx:R127 x) (hy:R127 y):PSpec Tryz.prog X 185 [LQ x,LQ y] (addR (x*y)):=by
 have hf:=both_q hx hy
 have hB:=bothForm_spec X _ _ _ _ (mg_in2 hx) (mg_in2 hy) true hf
 have hz:=zv_mul x y
 have hp0:0≤mg x*mg y:=Int.mul_nonneg (mg_nonneg x) (mg_nonneg y)
 have hrange:=range_zv (b:=decide (x<0) != decide (y<0)) hp0
 rw [hz] at hrange
 by_cases hfar:18446744073709551616≤mg x∧18446744073709551616≤mg y
 ·have hm:=Int.mul_le_mul hfar.1 hfar.2 VA (by omega:(0:Int)≤mg x)
  rw [addR_out (by rw [hrange];omega)]
  refine cF Tryz.func185 rfl V5 rfl rfl ?_
  intro C
  (refine U18 ?_;refine rgD mixed ?_;refine U1 ?_;refine kca rfl rfl (sizeOf_spec _ _ _ _) ?_;refine U1 ?_;refine kca rfl rfl (sizeOf_spec _ _ _ _)<|kca rfl rfl (times_far _ _ _ (mg_in2 hx) (mg_in2 hy) hfar.1 hfar.2) ?_;refine U22 ?_)
  exact V4
 ·have ht:=times_spec X (mg x) (mg y) (mg_in2 hx) (mg_in2 hy) V3
  by_cases hbig:mg x*mg y<340282366920938463463374607431768211456
  ·have ht':=ht true (cP hbig)
   have e:mg x*mg y%340282366920938463463374607431768211456=mg x*mg y:=by omega
   rw [e] at ht'
   by_cases hfit:mg x*mg y<170141183460469231731687303715884105728
   ·rw [addR_in (hrange.2 hfit),← tup_q hp0 hz]
    have hb:=bounded_ok X (decide (x<0) != decide (y<0)) (mg x*mg y) ⟨hp0,hfit⟩ _ rfl
    refine cF Tryz.func185 rfl V5 rfl rfl ?_
    intro C
    (refine U18 ?_;refine rgD mixed ?_;refine U1 ?_;refine kca O O (sizeOf_spec _ _ _ _) ?_;refine U1 ?_;refine kca O O (sizeOf_spec _ _ _ _) ?_;refine U23 ?_;refine K.neqB O O O dS ?_;refine U8 ?_)
    exact V4
   ·rw [addR_out (by rw [hrange];omega)]
    have hb:=bounded_no X (decide (x<0) != decide (y<0)) (mg x*mg y) V3 ⟨hp0,hbig⟩
    refine cF Tryz.func185 rfl V5 rfl rfl ?_
    intro C
    (refine U18 ?_;refine rgD mixed ?_;refine U1 ?_;refine kca O O (sizeOf_spec _ _ _ _) ?_;refine U1 ?_;refine kca O O (sizeOf_spec _ _ _ _) ?_;refine U23 ?_;refine K.neqB O O O dS ?_;refine U8 ?_)
    exact V4
  ·have ht':=ht false (cO hbig)
   rw [addR_out (by rw [hrange];omega)]
   refine cF Tryz.func185 rfl V5 rfl rfl ?_
   intro C
   (refine U18 ?_;refine rgD mixed ?_;refine U1 ?_;refine kca rfl rfl (sizeOf_spec _ _ _ _) ?_;refine U1 ?_;refine kca rfl rfl (sizeOf_spec _ _ _ _) ?_;refine U23 ?_)
   exact V4
end Go.Proofs.YtopiioklkkiedaaGreatDoor
end
section
set_option maxHeartbeats 12800000
set_option maxRecDepth 100000
namespace Go.Proofs.YtopiioklkkiedaaGreatDoor
open Go Go.Lg Go.Lg.Arith
variable (X:Nat→Option Obj)
def lzOf (y:Int):Nat:=64-Lib.bitLen y.toNat
theorem lzOf_spec {y:Int} (hy:0<y∧y<18446744073709551616):lzOf y≤63∧9223372036854775808≤y*2^lzOf y∧y*2^lzOf y<18446744073709551616:=by
 obtain ⟨n,rfl⟩:=Int.eq_ofNat_of_zero_le (Int.le_of_lt hy.1)
 have hb:=Lib.bitLenAux_bounds 64 n (by have:=hy.2;omega) (by have:=hy.1;omega)
 have hle:Lib.bitLen n≤64:=Lib.bitLen_le n 64 VA (by have:=hy.2;omega)
 change 1≤Lib.bitLen n∧2^(Lib.bitLen n-1)≤n∧n<2^Lib.bitLen n at hb
 have e:lzOf (n:Int)=64-Lib.bitLen n:=by simp [lzOf]
 rw [e]
 generalize Lib.bitLen n=k at *
 obtain ⟨h1,h2,h3⟩:=hb
 have m1:=Nat.mul_le_mul_right (2^(64-k)) h2
 have m2:=Nat.mul_lt_mul_of_pos_right h3 (Nat.two_pow_pos (64-k))
 rw [← Nat.pow_add,show k-1+(64-k)=63 by omega] at m1
 rw [← Nat.pow_add,show k+(64-k)=64 by omega] at m2
 have ec:((n:Int)*2^(64-k))=((n*2^(64-k):Nat):Int):=by rw [Int.natCast_mul,Int.natCast_pow];rfl
 rw [ec]
 exact ⟨by omega,by omega,by omega⟩
theorem lz_spec (y:Int) (hy:0≤y∧y<18446744073709551616):PSpec Tryz.prog X 240 [Ln .u64 y] (Ln .i64 (lzOf y:Nat)):=by
 refine PSpec.ofCalls (vals:=[.int .u64 y]) (v:=.int .i64 (lzOf y:Nat)) V5 O O (fun w _ => ?_)
 refine (Tryz.bits_LeadingZeros64 y w hy.1 V3).mono ?_
 rintro e w' ⟨rfl,rfl⟩
 refine ⟨?_,O⟩
 have hle:Lib.bitLen y.toNat≤64:=Lib.bitLen_le _ 64 VA (by have:=hy.2;omega)
 have:((lzOf y:Nat):Int)=64-(Lib.bitLen y.toNat:Int):=by unfold lzOf;omega
 rw [this]
set_option maxHeartbeats 1000000 in
theorem Div64_spec (hi lo y:Int) (hh:0≤hi∧hi<y) (hl:0≤lo∧lo<18446744073709551616) (hy:y<18446744073709551616):
  PSpec Tryz.prog X 234 [Ln .u64 hi,Ln .u64 lo,Ln .u64 y] (.tup [Sn .u64 ((hi*18446744073709551616+lo)/y),Sn .u64 ((hi*18446744073709551616+lo)%y)]):=by
 have hlz:=lz_spec X y V3
 obtain ⟨hs,hY1,hY2⟩:=lzOf_spec (y:=y) V3
 generalize lzOf y=s at hlz hs hY1 hY2
 have hE:(0:Int)<2^s:=Int.pow_pos VA
 have hF:(0:Int)<2^(64-s):=Int.pow_pos VA
 have hEF:=pow_split (s:=s) V3
 have hsh:=shift2 (hi:=hi) (lo:=lo) hE hF hEF hl.1
 have hsc:=scale (N:=hi*18446744073709551616+lo) (y:=y) hE V3
 have hlo2:0≤lo/2^(64-s)∧lo/2^(64-s)<2^s:=by
  refine ⟨Int.ediv_nonneg hl.1 (Int.le_of_lt hF),?_⟩
  rw [Int.ediv_lt_iff_lt_mul hF,hEF];exact hl.2
 have hhi2:0≤hi∧hi*2^s<18446744073709551616:=by
  refine ⟨hh.1,?_⟩
  have:=Int.mul_le_mul_of_nonneg_right (Int.le_of_lt hh.2) (Int.le_of_lt hE)
  omega
 have hhi3:0≤hi*2^s:=Int.mul_nonneg hh.1 (Int.le_of_lt hE)
 obtain ⟨Y,hY⟩:∃ Y,y*2^s=Y:=⟨_,rfl⟩
 obtain ⟨U,hU⟩:∃ U,hi*2^s+lo/2^(64-s)=U:=⟨_,rfl⟩
 obtain ⟨V,hV⟩:∃ V,lo*2^s%18446744073709551616=V:=⟨_,rfl⟩
 have hV0:0≤V∧V<18446744073709551616:=by omega
 have hUY:U<Y:=by
  have h1:(hi*18446744073709551616+lo)*2^s<(y*18446744073709551616)*2^s:=Int.mul_lt_mul_of_pos_right V3 hE
  rw [Int.mul_right_comm] at h1
  rw [hY] at h1
  rw [hsh,hU,hV] at h1
  omega
 have hU0:0≤U:=by omega
 rw [hsh,hU,hV,hY] at hsc
 rw [hY] at hY1 hY2
 have ka1:KArg (Y/4294967296) (Y%4294967296) U (V/4294967296):=⟨by omega,by omega,by omega,by omega⟩
 have eY:Y/4294967296*4294967296+Y%4294967296=Y:=by omega
 have ks1:=k_start ka1
 have kq1:∀ q r,KInv (Y/4294967296) (Y%4294967296) U (V/4294967296) q r→q*Y≤U*4294967296+V/4294967296→q=(U*4294967296+V/4294967296)/Y∧U*4294967296+V/4294967296-q*Y=(U*4294967296+V/4294967296)%Y:=by
  intro q r k he
  have:=k_quo ka1 k (by rw [eY];exact he)
  rw [eY] at this
  exact this
 refine cF Tryz.func234 rfl V5 rfl rfl ?_
 intro C
 by_cases hz:hi=0
 ·subst hz
  (refine aA<|rgN<|kas O<|kas O<|RunK.nil<|aA<|aA<|rgN<|kmv O<|keq O O (cS V3)<|RunK.nil<|LWP.condF O ?_;refine LWP.skip ?_;refine aA<|aA<|rgN<|kmv O<|kmv O<|K.leq O O (cO V3) dS<|RunK.nil<|LWP.condF O ?_;refine LWP.skip ?_;refine aA<|aA<|rgN<|kmv O<|keq O O (cV V3)<|RunK.nil<|LWP.condT O ?_;refine aA<|rgD mixed<|kmv O<|kmv O<|K.quo O O V3 (quo_u64 V3 V3) dS<|kmv O<|kmv O<|K.rem O O V3 (rem_pos V3) dS<|kas O<|kas O<|RunK.nil<|rgA ?_;refine LWP.ret ?_)
  exact ⟨[_,_],⟨rfl,rfl,trivial⟩,by simp [resOf]⟩
 ·have hm1:0≤U/(Y/4294967296)*(Y/4294967296)∧U/(Y/4294967296)*(Y/4294967296)≤U:=by have:=ks1.r0;have:=ks1.eq;exact ⟨Int.mul_nonneg ks1.q0 V3,by omega⟩
  (refine aA<|rgN<|kas O<|kas O<|RunK.nil<|aA<|aA<|rgN<|kmv O<|keq O O (cS V3)<|RunK.nil<|LWP.condF O ?_;refine LWP.skip ?_;refine aA<|aA<|rgN<|kmv O<|kmv O<|K.leq O O (cO V3) dS<|RunK.nil<|LWP.condF O ?_;refine LWP.skip ?_;refine aA<|aA<|rgN<|kmv O<|keq O O (cS V3)<|RunK.nil<|LWP.condF O ?_;refine LWP.skip ?_;refine aA<|rgN<|kmv O<|kca O O (hlz)<|kcv O V2C ?_;refine kas O<|RunK.nil<|aA<|rgN<|kmv O<|kmv O<|K.shl O O V3 (shl_s V3 hY V3) dS<|kas O<|RunK.nil<|aA<|rgN<|kmv O<|bO O O V3 (shr_32 _) dS<|kas O ?_;refine RunK.nil<|aA<|rgN<|kmv O<|K.bitop V21 O O (and_32 V3) dS<|kas O<|RunK.nil<|aA<|rgN<|kmv O<|kmv O<|K.shl O O V3 (shl_s V3 O ⟨hhi3,hhi2.2⟩) dS<|kmv O<|kmv O ?_;refine bA O O (wrap_u64 V3) dS<|bO O O V3 (shr_64s V3) dS<|K.bitop V21 O O (or_apart' V3 hhi2 hlo2 hU) dS<|kas O<|RunK.nil<|aA<|rgN<|kmv O<|kmv O<|K.shl O O V3 ((shl_mod V3).trans hV) dS<|kas O<|RunK.nil<|aA<|rgN ?_;refine kmv O<|bO O O V3 (shr_32 _) dS<|kas O<|RunK.nil<|aA<|rgN<|kmv O<|K.bitop V21 O O (and_32 V3) dS<|kas O<|RunK.nil<|aA<|rgN<|kmv O<|kmv O ?_;refine K.quo O O V3 (quo_u64 V3 V3) dS<|kas O<|RunK.nil<|aA<|rgN<|kmv O<|kmv O<|kmv O<|bL O O (wrap_u64 V3) dS<|bA O O (wrap_u64 V3) dS<|kas O<|RunK.nil<|aA<|LWP.block ?_)
  have hy1:U-U/(Y/4294967296)*(Y/4294967296)<Y/4294967296:=by
   have h2:=Int.emod_add_mul_ediv U (Y/4294967296)
   have h3:=Int.emod_lt_of_pos U (show 0<Y/4294967296 by omega)
   rw [Int.mul_comm] at h2
   omega
  refine LWP.meet (fun σ=>∃ q r:Int,q=(U*4294967296+V/4294967296)/Y∧σ=⟨[(2,Ln .u64 Y),(8,Ln .u64 s),(9,Ln .u64 (Y/4294967296)),(10,Ln .u64 (Y%4294967296)),(11,Ln .u64 U),(13,Ln .u64 (V/4294967296)),(14,Ln .u64 (V%4294967296)),(15,Ln .u64 q),(16,Ln .u64 r)],[],X⟩) ?_ ?_
  ·refine cL (fun m σ=>∃ q r:Int,KInv (Y/4294967296) (Y%4294967296) U (V/4294967296) q r∧r<4294967296∧m=q.toNat∧σ=⟨[(2,Ln .u64 Y),(8,Ln .u64 s),(9,Ln .u64 (Y/4294967296)),(10,Ln .u64 (Y%4294967296)),(11,Ln .u64 U),(13,Ln .u64 (V/4294967296)),(14,Ln .u64 (V%4294967296)),(15,Ln .u64 q),(16,Ln .u64 r)],[],X⟩) (U/(Y/4294967296)).toNat
    ⟨_,Le.of V1B VC V2 V2 V2,_,_,ks1,by omega,rfl,rfl⟩ ?_
   rintro m σ ⟨q,r,k,hr,rfl,rfl⟩
   have hq0:=k.q0
   have hr0:=k.r0
   have hqU:q≤U:=by
    have:=k.eq
    have:=Int.mul_le_mul_of_nonneg_left (show (1:Int)≤Y/4294967296 by omega) hq0
    omega
   have next:∀ q' r',KInv (Y/4294967296) (Y%4294967296) U (V/4294967296) q' r'→4294967296≤r'→q'=(U*4294967296+V/4294967296)/Y:=fun q' r' k' h'=>(kq1 q' r' k' (by have:=k_break ka1 k' h';rwa [eY] at this)).1
   by_cases hq:4294967296≤q
   ·have k':=k_big ka1 k hq
    have hrn:=next _ _ k'
    by_cases hr2:4294967296≤r+Y/4294967296
    ·(refine aA<|aA<|rgN<|kmv O<|bD O O (cP V3) dS<|kmv O<|RunK.passed O O O<|RunK.passed O O O<|RunK.passed O O O<|RunK.passed O O O<|RunK.passed O O O<|RunK.passed O O O<|RunK.passed O O O<|RunK.passed O O O ?_;refine kpt O O<|RunK.nil<|LWP.condT O ?_;refine LWP.skip ?_;refine LWP.block<|aA<|rgN<|kmv O<|bA O O (wrap_u64 V3) dS<|kas O<|RunK.nil<|aA<|rgN<|kmv O<|kmv O<|kad O O (wrap_u64 V3)<|kas O<|RunK.nil ?_;refine aA<|rgN<|kmv O<|bD O O (cP V3) dS<|RunK.nil<|LWP.condT O ?_;refine LWP.exit ?_)
     exact ⟨_,Le.of V1B VC V2 V2 V2,_,_,hrn hr2,O⟩
    ·(refine aA<|aA<|rgN<|kmv O<|bD O O (cP V3) dS<|kmv O<|RunK.passed O O O<|RunK.passed O O O<|RunK.passed O O O<|RunK.passed O O O<|RunK.passed O O O<|RunK.passed O O O<|RunK.passed O O O<|RunK.passed O O O ?_;refine kpt O O<|RunK.nil<|LWP.condT O ?_;refine LWP.skip ?_;refine LWP.block<|aA<|rgN<|kmv O<|bA O O (wrap_u64 V3) dS<|kas O<|RunK.nil<|aA<|rgN<|kmv O<|kmv O<|kad O O (wrap_u64 V3)<|kas O<|RunK.nil ?_;refine aA<|rgN<|kmv O<|bD O O (cO V3) dS<|RunK.nil<|LWP.condF O ?_;refine LWP.skip ?_)
     exact ⟨_,_,by omega,Le.of V1B VC V2 V2 V2,_,_,k',by omega,O,O⟩
   ·have hqy:=mul_bound (a:=q) (b:=Y%4294967296) (A:=4294967295) (B:=4294967295) ⟨hq0,by omega⟩ ⟨by omega,by omega⟩
    by_cases hb:4294967296*r+V/4294967296<q*(Y%4294967296)
    ·have k':=k_high ka1 k hb
     have hrn:=next _ _ k'
     have hq1:1≤q:=by have:=k'.q0;omega
     by_cases hr2:4294967296≤r+Y/4294967296
     ·(refine aA<|aA<|rgN<|kmv O<|bD O O (cO V3) dS<|kmv O<|gmv O O O<|gmv O O O<|bL O O (wrap_u64 V3) (dT O O) ?_;refine gmv O O O<|bL O O (wrap_u64 V3) (dT O O) ?_;refine gmv O O O<|K.add O O (wrap_u64 V3) (dT O O) ?_;refine aS O O (cP V3) (dT O O) ?_;refine kpf O O<|RunK.nil<|LWP.condT O ?_;refine LWP.skip ?_;refine LWP.block<|aA<|rgN<|kmv O<|bA O O (wrap_u64 V3) dS<|kas O<|RunK.nil<|aA<|rgN<|kmv O<|kmv O<|kad O O (wrap_u64 V3)<|kas O<|RunK.nil ?_;refine aA<|rgN<|kmv O<|bD O O (cP V3) dS<|RunK.nil<|LWP.condT O ?_;refine LWP.exit ?_)
      exact ⟨_,Le.of V1B VC V2 V2 V2,_,_,hrn hr2,O⟩
     ·(refine aA<|aA<|rgN<|kmv O<|bD O O (cO V3) dS<|kmv O<|gmv O O O<|gmv O O O<|bL O O (wrap_u64 V3) (dT O O) ?_;refine gmv O O O<|bL O O (wrap_u64 V3) (dT O O) ?_;refine gmv O O O<|K.add O O (wrap_u64 V3) (dT O O) ?_;refine aS O O (cP V3) (dT O O) ?_;refine kpf O O<|RunK.nil<|LWP.condT O ?_;refine LWP.skip ?_;refine LWP.block<|aA<|rgN<|kmv O<|bA O O (wrap_u64 V3) dS<|kas O<|RunK.nil<|aA<|rgN<|kmv O<|kmv O<|kad O O (wrap_u64 V3)<|kas O<|RunK.nil ?_;refine aA<|rgN<|kmv O<|bD O O (cO V3) dS<|RunK.nil<|LWP.condF O ?_;refine LWP.skip ?_)
      exact ⟨_,_,by omega,Le.of V1B VC V2 V2 V2,_,_,k',by omega,O,O⟩
    ·(refine aA<|aA<|rgN<|kmv O<|bD O O (cO V3) dS<|kmv O<|gmv O O O<|gmv O O O<|bL O O (wrap_u64 V3) (dT O O) ?_;refine gmv O O O<|bL O O (wrap_u64 V3) (dT O O) ?_;refine gmv O O O<|K.add O O (wrap_u64 V3) (dT O O) ?_;refine aS O O (cO V3) (dT O O) ?_;refine kpf O O<|RunK.nil<|LWP.condF O ?_;refine LWP.exit ?_)
     exact ⟨_,Le.of V1B VC V2 V2 V2,_,_,(kq1 q r k (by have:=k_end k V3;rwa [eY] at this)).1,O⟩
  ·rintro σ ⟨q1,r1,hq1,rfl⟩
   have hYp:0<Y:=by omega
   have hq1B:=digit_lt hYp hUY (show V/4294967296<4294967296 by omega) hq1
   obtain ⟨R,hR⟩:∃ R,(U*4294967296+V/4294967296)%Y=R:=⟨_,rfl⟩
   have hR0:=Int.emod_nonneg (U*4294967296+V/4294967296) (show Y≠0 by omega)
   have hR1:=Int.emod_lt_of_pos (U*4294967296+V/4294967296) hYp
   have hRe:=Int.emod_add_mul_ediv (U*4294967296+V/4294967296) Y
   rw [← hq1,Int.mul_comm Y q1] at hRe
   rw [hR] at hR0 hR1 hRe
   have hq10:0≤q1:=by rw [hq1];exact Int.ediv_nonneg V3 V3
   have hsub1:IntKind.u64.wrap (IntKind.u64.wrap (IntKind.u64.wrap (U*4294967296)+V/4294967296)-IntKind.u64.wrap (q1*Y))=R:=by rw [wrap3 V3];omega
   have ka2:KArg (Y/4294967296) (Y%4294967296) R (V%4294967296):=⟨by omega,by omega,by omega,by omega⟩
   have ks2:=k_start ka2
   have kq2:∀ q r,KInv (Y/4294967296) (Y%4294967296) R (V%4294967296) q r→q*Y≤R*4294967296+V%4294967296→q=(R*4294967296+V%4294967296)/Y∧R*4294967296+V%4294967296-q*Y=(R*4294967296+V%4294967296)%Y:=by
    intro q r k he
    have:=k_quo ka2 k (by rw [eY];exact he)
    rw [eY] at this
    exact this
   have hm2:0≤R/(Y/4294967296)*(Y/4294967296)∧R/(Y/4294967296)*(Y/4294967296)≤R:=by have:=ks2.r0;have:=ks2.eq;exact ⟨Int.mul_nonneg ks2.q0 V3,by omega⟩
   have hy2:R-R/(Y/4294967296)*(Y/4294967296)<Y/4294967296:=by
    have h2:=Int.emod_add_mul_ediv R (Y/4294967296)
    have h3:=Int.emod_lt_of_pos R (show 0<Y/4294967296 by omega)
    rw [Int.mul_comm] at h2
    omega
   (refine aA<|rgN<|kmv O<|bL O O O dS<|kmv O<|kad O O O<|kmv O<|kmv O<|bL O O O dS<|bA O O hsub1 dS<|kas O<|RunK.nil<|aA<|rgN ?_;refine kmv O<|kmv O<|K.quo O O V3 (quo_u64 V3 V3) dS<|kas O<|RunK.nil<|aA<|rgN<|kmv O<|kmv O<|kmv O<|bL O O (wrap_u64 V3) dS<|bA O O (wrap_u64 V3) dS<|kas O<|RunK.nil ?_;refine aA<|LWP.block ?_)
   refine LWP.meet (fun σ=>∃ q r:Int,q=(R*4294967296+V%4294967296)/Y∧σ=⟨[(2,Ln .u64 Y),(8,Ln .u64 s),(14,Ln .u64 (V%4294967296)),(15,Ln .u64 q1),(17,Ln .u64 R),(18,Ln .u64 q),(16,Ln .u64 r)],[],X⟩) ?_ ?_
   ·refine cL (fun m σ=>∃ q r:Int,KInv (Y/4294967296) (Y%4294967296) R (V%4294967296) q r∧r<4294967296∧m=q.toNat∧σ=⟨[(2,Ln .u64 Y),(8,Ln .u64 s),(9,Ln .u64 (Y/4294967296)),(10,Ln .u64 (Y%4294967296)),(14,Ln .u64 (V%4294967296)),(15,Ln .u64 q1),(17,Ln .u64 R),(18,Ln .u64 q),(16,Ln .u64 r)],[],X⟩) (R/(Y/4294967296)).toNat
     ⟨_,Le.of V1B VC V2 V2 V2,_,_,ks2,by omega,rfl,rfl⟩ ?_
    rintro m σ ⟨q,r,k,hr,rfl,rfl⟩
    have hq0:=k.q0
    have hr0:=k.r0
    have hqU:q≤R:=by
     have:=k.eq
     have:=Int.mul_le_mul_of_nonneg_left (show (1:Int)≤Y/4294967296 by omega) hq0
     omega
    have next:∀ q' r',KInv (Y/4294967296) (Y%4294967296) R (V%4294967296) q' r'→4294967296≤r'→q'=(R*4294967296+V%4294967296)/Y:=fun q' r' k' h'=>(kq2 q' r' k' (by have:=k_break ka2 k' h';rwa [eY] at this)).1
    by_cases hq:4294967296≤q
    ·have k':=k_big ka2 k hq
     have hrn:=next _ _ k'
     by_cases hr2:4294967296≤r+Y/4294967296
     ·(refine aA<|aA<|rgN<|kmv O<|bD O O (cP V3) dS<|kmv O<|RunK.passed O O O<|RunK.passed O O O<|RunK.passed O O O<|RunK.passed O O O<|RunK.passed O O O<|RunK.passed O O O<|RunK.passed O O O<|RunK.passed O O O ?_;refine kpt O O<|RunK.nil<|LWP.condT O ?_;refine LWP.skip ?_;refine LWP.block<|aA<|rgN<|kmv O<|bA O O (wrap_u64 V3) dS<|kas O<|RunK.nil<|aA<|rgN<|kmv O<|kmv O<|kad O O (wrap_u64 V3)<|kas O<|RunK.nil ?_;refine aA<|rgN<|kmv O<|bD O O (cP V3) dS<|RunK.nil<|LWP.condT O ?_;refine LWP.exit ?_)
      exact ⟨_,Le.of V14 VC V2 V2 V2,_,_,hrn hr2,O⟩
     ·(refine aA<|aA<|rgN<|kmv O<|bD O O (cP V3) dS<|kmv O<|RunK.passed O O O<|RunK.passed O O O<|RunK.passed O O O<|RunK.passed O O O<|RunK.passed O O O<|RunK.passed O O O<|RunK.passed O O O<|RunK.passed O O O ?_;refine kpt O O<|RunK.nil<|LWP.condT O ?_;refine LWP.skip ?_;refine LWP.block<|aA<|rgN<|kmv O<|bA O O (wrap_u64 V3) dS<|kas O<|RunK.nil<|aA<|rgN<|kmv O<|kmv O<|kad O O (wrap_u64 V3)<|kas O<|RunK.nil ?_;refine aA<|rgN<|kmv O<|bD O O (cO V3) dS<|RunK.nil<|LWP.condF O ?_;refine LWP.skip ?_)
      exact ⟨_,_,by omega,Le.of V1B VC V2 V2 V2,_,_,k',by omega,O,O⟩
    ·have hqy:=mul_bound (a:=q) (b:=Y%4294967296) (A:=4294967295) (B:=4294967295) ⟨hq0,by omega⟩ ⟨by omega,by omega⟩
     by_cases hb:4294967296*r+V%4294967296<q*(Y%4294967296)
     ·have k':=k_high ka2 k hb
      have hrn:=next _ _ k'
      have hq1:1≤q:=by have:=k'.q0;omega
      by_cases hr2:4294967296≤r+Y/4294967296
      ·(refine aA<|aA<|rgN<|kmv O<|bD O O (cO V3) dS<|kmv O<|gmv O O O<|gmv O O O<|bL O O (wrap_u64 V3) (dT O O) ?_;refine gmv O O O<|bL O O (wrap_u64 V3) (dT O O) ?_;refine gmv O O O<|K.add O O (wrap_u64 V3) (dT O O) ?_;refine aS O O (cP V3) (dT O O) ?_;refine kpf O O<|RunK.nil<|LWP.condT O ?_;refine LWP.skip ?_;refine LWP.block<|aA<|rgN<|kmv O<|bA O O (wrap_u64 V3) dS<|kas O<|RunK.nil<|aA<|rgN<|kmv O<|kmv O<|kad O O (wrap_u64 V3)<|kas O<|RunK.nil ?_;refine aA<|rgN<|kmv O<|bD O O (cP V3) dS<|RunK.nil<|LWP.condT O ?_;refine LWP.exit ?_)
       exact ⟨_,Le.of V14 VC V2 V2 V2,_,_,hrn hr2,O⟩
      ·(refine aA<|aA<|rgN<|kmv O<|bD O O (cO V3) dS<|kmv O<|gmv O O O<|gmv O O O<|bL O O (wrap_u64 V3) (dT O O) ?_;refine gmv O O O<|bL O O (wrap_u64 V3) (dT O O) ?_;refine gmv O O O<|K.add O O (wrap_u64 V3) (dT O O) ?_;refine aS O O (cP V3) (dT O O) ?_;refine kpf O O<|RunK.nil<|LWP.condT O ?_;refine LWP.skip ?_;refine LWP.block<|aA<|rgN<|kmv O<|bA O O (wrap_u64 V3) dS<|kas O<|RunK.nil<|aA<|rgN<|kmv O<|kmv O<|kad O O (wrap_u64 V3)<|kas O<|RunK.nil ?_;refine aA<|rgN<|kmv O<|bD O O (cO V3) dS<|RunK.nil<|LWP.condF O ?_;refine LWP.skip ?_)
       exact ⟨_,_,by omega,Le.of V1B VC V2 V2 V2,_,_,k',by omega,O,O⟩
     ·(refine aA<|aA<|rgN<|kmv O<|bD O O (cO V3) dS<|kmv O<|gmv O O O<|gmv O O O<|bL O O (wrap_u64 V3) (dT O O) ?_;refine gmv O O O<|bL O O (wrap_u64 V3) (dT O O) ?_;refine gmv O O O<|K.add O O (wrap_u64 V3) (dT O O) ?_;refine aS O O (cO V3) (dT O O) ?_;refine kpf O O<|RunK.nil<|LWP.condF O ?_;refine LWP.exit ?_)
      exact ⟨_,Le.of V14 VC V2 V2 V2,_,_,(kq2 q r k (by have:=k_end k V3;rwa [eY] at this)).1,O⟩
   ·rintro σ ⟨q2,r2,hq2,rfl⟩
    have hend:=quo_end hYp hq1 hR.symm hq2
    have hq2B:=digit_lt hYp hR1 (show V%4294967296<4294967296 by omega) hq2
    have hq20:0≤q2:=by rw [hq2];exact Int.ediv_nonneg V3 V3
    obtain ⟨T,hT⟩:∃ T,(R*4294967296+V%4294967296)%Y=T:=⟨_,rfl⟩
    have hT0:=Int.emod_nonneg (R*4294967296+V%4294967296) (show Y≠0 by omega)
    have hT1:=Int.emod_lt_of_pos (R*4294967296+V%4294967296) hYp
    have hTe:=Int.emod_add_mul_ediv (R*4294967296+V%4294967296) Y
    rw [← hq2,Int.mul_comm Y q2] at hTe
    rw [hT] at hT0 hT1 hTe hend
    have hsub2:IntKind.u64.wrap (IntKind.u64.wrap (IntKind.u64.wrap (R*4294967296)+V%4294967296)-IntKind.u64.wrap (q2*Y))=T:=by rw [wrap3 V3];omega
    (refine aA<|rgN<|kmv O<|bL O O (wrap_u64 V3) dS<|kmv O<|kad O O (wrap_u64 V3)<|kmv O<|bL O O O dS<|kmv O<|kad O O O<|kmv O<|kmv O<|bL O O O dS<|bA O O hsub2 dS ?_;refine kmv O<|bO O O V3 (shr_s V3) dS<|kas O<|kas O<|RunK.nil<|LWP.ret ?_)
    rw [← hsc.1,← hsc.2,← hend.1,← hend.2]
    exact V1E
end Go.Proofs.YtopiioklkkiedaaGreatDoor
end
section
set_option maxHeartbeats 12800000
set_option maxRecDepth 100000
namespace Go.Proofs.YtopiioklkkiedaaGreatDoor
open Go Go.Lg Go.Lg.Arith
variable (X:Nat→Option Obj)
theorem LZ_word {g:Int} (h:0≤g∧g<18446744073709551616):LZ g=Lz 0 g:=by
 unfold LZ
 rw [show g/18446744073709551616=0 by omega,show g%18446744073709551616=g by omega]
set_option maxHeartbeats 1000000 in
theorem divideLong_spec (M N:Int) (hM:Lim M) (hN:18446744073709551616≤N∧N<170141183460469231731687303715884105728):
  PSpec Tryz.prog X 233 [LZ M,LZ N] (.tup [SZ (M/N),SZ (M%N)]):=by
 obtain ⟨hM0,hM1⟩:=hM
 obtain ⟨H,hH⟩:∃ H,N/18446744073709551616=H:=⟨_,rfl⟩
 obtain ⟨l,hl⟩:∃ l,N%18446744073709551616=l:=⟨_,rfl⟩
 have hH1:0<H∧H<9223372036854775808:=by omega
 have hl1:0≤l∧l<18446744073709551616:=by omega
 have hlz:=lz_spec X H V3
 obtain ⟨hs,hY1,hY2⟩:=lzOf_spec (y:=H) V3
 generalize lzOf H=s at hlz hs hY1 hY2
 have hs1:1≤s:=by
  rcases Nat.eq_zero_or_pos s with h|h
  ·subst h;simp at hY1;omega
  ·exact h
 have hE:(0:Int)<2^s:=Int.pow_pos VA
 have hF:(0:Int)<2^(64-s):=Int.pow_pos VA
 have hEF:=pow_split (s:=s) V3
 have hF2:(2:Int)≤2^(64-s):=by
  rw [show 64-s=(63-s)+1 by omega,Int.pow_succ]
  have:(0:Int)<2^(63-s):=Int.pow_pos VA
  omega
 have hlo2:0≤l/2^(64-s)∧l/2^(64-s)<2^s:=by
  refine ⟨Int.ediv_nonneg hl1.1 (Int.le_of_lt hF),?_⟩
  rw [Int.ediv_lt_iff_lt_mul hF,hEF];exact hl1.2
 have hH2:0≤H*2^s:=Int.mul_nonneg V3 (Int.le_of_lt hE)
 obtain ⟨L,hL⟩:∃ L,H*2^s+l/2^(64-s)=L:=⟨_,rfl⟩
 have hLW:L<18446744073709551616:=by
  have h1:H<2^(64-s):=by
   rcases Int.lt_or_le H (2^(64-s)) with h|h
   ·exact h
   ·have:=Int.mul_le_mul_of_nonneg_right h (Int.le_of_lt hE)
    rw [Int.mul_comm ((2:Int)^(64-s)),hEF] at this
    omega
  have h2:=Int.mul_le_mul_of_nonneg_right (show H≤2^(64-s)-1 by omega) (Int.le_of_lt hE)
  rw [Int.sub_mul,Int.one_mul,Int.mul_comm ((2:Int)^(64-s)),hEF] at h2
  omega
 have hNL:∃ r0,N=L*2^(64-s)+r0∧0≤r0∧r0<2^(64-s):=by
  have h1:=Int.emod_add_mul_ediv l (2^(64-s))
  have h2:=Int.emod_nonneg l (show (2:Int)^(64-s)≠0 by omega)
  have h3:=Int.emod_lt_of_pos l hF
  refine ⟨l%2^(64-s),?_,h2,h3⟩
  have h4:H*2^s*2^(64-s)=H*18446744073709551616:=by rw [Int.mul_assoc,hEF]
  rw [← hL,Int.add_mul,h4,Int.mul_comm (l/2^(64-s))]
  omega
 obtain ⟨r0,hNL,hr0⟩:=hNL
 obtain ⟨g,hg⟩:∃ g,M/(L*2^(64-s))=g:=⟨_,rfl⟩
 obtain ⟨hg0,hgz,hgp⟩:=long_guess (M:=M) (N:=N) ⟨hM0,hM1⟩ (show 9223372036854775808≤L by omega) hF2 hNL hr0 hg.symm
 have hd3:=div3 (M:=M) (L:=L) (P:=2^(64-s)) (s:=s) hs rfl V3
 rw [hg] at hd3
 have hNne:0<N:=by omega
 have hq0:=Int.emod_nonneg M (show N≠0 by omega)
 have hq1:=Int.emod_lt_of_pos M hNne
 have hq2:=Int.emod_add_mul_ediv M N
 have hqq:0≤M/N:=Int.ediv_nonneg hM0 V3
 have hqW:M/N<18446744073709551616:=by
  rw [Int.ediv_lt_iff_lt_mul hNne];omega
 have hgW:g<18446744073709551617:=by
  rcases Int.lt_or_le g 18446744073709551617 with h|h
  ·exact h
  ·have h1:=(hgp V3).1
   have:=Int.mul_le_mul (show (18446744073709551616:Int)≤g-1 by omega) hN.1 VA V3
   omega
 have hLZl:LZ N=Lz H l:=by unfold LZ;rw [hH,hl]
 have hor2:M/18446744073709551616%2*2^63+M%18446744073709551616/2=M/2%18446744073709551616:=by
  show M/18446744073709551616%2*9223372036854775808+M%18446744073709551616/2=_
  omega
 have hdiv:=Div64_spec X (M/18446744073709551616/2) (M/2%18446744073709551616) L V3 V3 hLW
 rw [show M/18446744073709551616/2*18446744073709551616+M/2%18446744073709551616=M/2 by omega] at hdiv
 have hMz:0≤M/2/L:=Int.ediv_nonneg V3 V3
 have hcall:=compare_spec X
 rw [hLZl]
 refine cF Tryz.func233 rfl V5 rfl rfl ?_
 intro C
 by_cases hg00:g=0
 ·have hMN:=hgz hg00
  subst hg00
  have e1:M/N=0:=Int.ediv_eq_zero_of_lt hM0 hMN
  have e2:M%N=M:=Int.emod_eq_of_lt hM0 hMN
  rw [e1,e2]
  have ht:=times_spec X N 0 ⟨by omega,by omega⟩ ⟨by omega,by omega⟩ V3 true V21
  rw [LZ_word (g:=0) (by omega),Int.mul_zero,hLZl] at ht
  have hmi:=minus_spec X M 0 ⟨by omega,by omega⟩ ⟨by omega,by omega⟩ hM0
  rw [Int.sub_zero] at hmi
  have hcm:=compare_spec X M N (-1) (by simp [cmpI,hMN])
  rw [hLZl] at hcm
  ((refine U12 ?_;refine kcv O V2C ?_;refine U7 ?_;refine K.shl O O V3 (shl_s V3 O ⟨hH2,hY2⟩) dS ?_;refine U4 ?_;refine bO O O V3 (shr_64s V3) dS<|K.bitop V21 O O (or_apart' V3 ⟨by omega,hY2⟩ hlo2 hL) dS ?_;refine U6 ?_;refine bO O O V3 (shr_1 _) dS ?_;refine U2 ?_;refine K.shl O O V3 (shl_63 _) dS ?_;refine U2 ?_;refine bO O O V3 (shr_1 _) dS<|K.bitop V21 O O (or_apart' VA V3 V3 hor2) dS ?_;refine U13 ?_;refine bO O O V3 ((shr_63s hs).trans hd3) dS ?_;refine U10 ?_);(refine U31 ?_);(refine aA<|rgD mixed ?_;refine U8 ?_))
  exact V1A
 ·obtain ⟨h1,h2⟩:=hgp hg00
  obtain ⟨G,hG⟩:∃ G,g-1=G:=⟨_,rfl⟩
  rw [hG] at h1 h2
  have hGN:0≤G*N:=Int.mul_nonneg V3 V3
  have ht:=times_spec X N G ⟨by omega,by omega⟩ ⟨by omega,by omega⟩ V3 true (cP (by rw [Int.mul_comm];omega))
  rw [LZ_word (g:=G) (by omega),Int.mul_comm N G,show G*N%340282366920938463463374607431768211456=G*N by omega,hLZl] at ht
  have hmi:=minus_spec X M (G*N) ⟨by omega,by omega⟩ ⟨by omega,by omega⟩ h1
  have huse:∀ q:Int,q*N≤M→M<q*N+N→M/N=q∧M%N=M-q*N:=by
   intro q a b
   have e:M/N=q:=by rw [Int.ediv_eq_iff_of_pos hNne];exact ⟨a,b⟩
   rw [e,Int.mul_comm] at hq2
   exact ⟨e,by omega⟩
  by_cases hlt:M-G*N<N
  ·obtain ⟨e1,e2⟩:=huse G h1 V3
   rw [e1,e2]
   have hcm:=compare_spec X (M-G*N) N (-1) (by simp [cmpI,hlt])
   rw [hLZl] at hcm
   ((refine U12 ?_;refine kcv O V2C ?_;refine U7 ?_;refine K.shl O O V3 (shl_s V3 O ⟨hH2,hY2⟩) dS ?_;refine U4 ?_;refine bO O O V3 (shr_64s V3) dS<|K.bitop V21 O O (or_apart' V3 ⟨by omega,hY2⟩ hlo2 hL) dS ?_;refine U6 ?_;refine bO O O V3 (shr_1 _) dS ?_;refine U2 ?_;refine K.shl O O V3 (shl_63 _) dS ?_;refine U2 ?_;refine bO O O V3 (shr_1 _) dS<|K.bitop V21 O O (or_apart' VA V3 V3 hor2) dS ?_;refine U13 ?_;refine bO O O V3 ((shr_63s hs).trans hd3) dS ?_;refine U11 ?_;refine bA O O ((wrap_u64 V3).trans hG) dS ?_;refine U5 ?_);(refine U29 ?_;refine rgD mixed ?_;refine U2 ?_);(refine U6 ?_))
   rw [show SZ G = .agg [.val (.int .u64 0),.val (.int .u64 G)] by unfold SZ;rw [show G/18446744073709551616=0 by omega,show G%18446744073709551616=G by omega]]
   exact V1A
  ·have hG1:(G+1)*N=G*N+N:=by rw [Int.add_mul,Int.one_mul]
   obtain ⟨e1,e2⟩:=huse (G+1) V3 V3
   rw [e1] at hqW
   rw [e1,e2,hG1,show M-(G*N+N)=M-G*N-N by omega]
   have hcm:∃ r,(r=0∨r=1)∧cmpI (M-G*N) N=r:=⟨_,by unfold cmpI;(repeat' split)<;>omega,rfl⟩
   obtain ⟨r,hr,hcm⟩:=hcm
   have hcm:=compare_spec X (M-G*N) N r hcm
   have hmi2:=minus_spec X (M-G*N) N ⟨by omega,by omega⟩ ⟨by omega,by omega⟩ V3
   rw [hLZl] at hcm hmi2
   ((refine U12 ?_;refine kcv O V2C ?_;refine U7 ?_;refine K.shl O O V3 (shl_s V3 O ⟨hH2,hY2⟩) dS ?_;refine U4 ?_;refine bO O O V3 (shr_64s V3) dS<|K.bitop V21 O O (or_apart' V3 ⟨by omega,hY2⟩ hlo2 hL) dS ?_;refine U6 ?_;refine bO O O V3 (shr_1 _) dS ?_;refine U2 ?_;refine K.shl O O V3 (shl_63 _) dS ?_;refine U2 ?_;refine bO O O V3 (shr_1 _) dS<|K.bitop V21 O O (or_apart' VA V3 V3 hor2) dS ?_;refine U13 ?_;refine bO O O V3 ((shr_63s hs).trans hd3) dS ?_;refine U11 ?_;refine bA O O ((wrap_u64 V3).trans hG) dS ?_;refine U5 ?_);(refine U30 ?_;refine kad O O (wrap_u64 V3) ?_;refine U5 ?_);(refine U4 ?_;refine rgD mixed ?_;refine U8 ?_))
   rw [show SZ (G+1) = .agg [.val (.int .u64 0),.val (.int .u64 (G+1))] by unfold SZ;rw [show (G+1)/18446744073709551616=0 by omega,show (G+1)%18446744073709551616=G+1 by omega]]
   exact V1A
end Go.Proofs.YtopiioklkkiedaaGreatDoor
end
section
set_option maxHeartbeats 12800000
set_option maxRecDepth 100000
namespace Go.Proofs.YtopiioklkkiedaaGreatDoor
open Go Go.Lg Go.Lg.Arith
variable (X:Nat→Option Obj)
theorem two_word {T d Y:Int} (hY:0<Y) (hd:0≤d∧d<18446744073709551616) (hT:0≤T):
  (T*18446744073709551616+d)/Y=T/Y*18446744073709551616+(T%Y*18446744073709551616+d)/Y∧(T*18446744073709551616+d)%Y=(T%Y*18446744073709551616+d)%Y ∧
  0≤(T%Y*18446744073709551616+d)/Y∧(T%Y*18446744073709551616+d)/Y<18446744073709551616∧0≤T%Y∧T%Y<Y∧0≤T/Y:=by
 have h:=Int.emod_add_mul_ediv T Y
 have h0:=Int.emod_nonneg T (show Y≠0 by omega)
 have h1:=Int.emod_lt_of_pos T hY
 have e:T*18446744073709551616+d=(T%Y*18446744073709551616+d)+Y*(T/Y*18446744073709551616):=by
  rw [← Int.mul_assoc]
  generalize Y*(T/Y)=a at *
  omega
 have hq0:0≤(T%Y*18446744073709551616+d)/Y:=Int.ediv_nonneg V3 V3
 have hq1:(T%Y*18446744073709551616+d)/Y<18446744073709551616:=by rw [Int.ediv_lt_iff_lt_mul hY];omega
 refine ⟨?_,?_,hq0,hq1,h0,h1,Int.ediv_nonneg hT V3⟩
 ·rw [e,Int.add_mul_ediv_left _ _ V3];omega
 ·rw [e,Int.add_mul_emod_self_left]
theorem divide_spec (M N:Int) (hM:Lim M) (hN:0<N∧N<170141183460469231731687303715884105728):
  PSpec Tryz.prog X 217 [LZ M,LZ N] (.tup [SZ (M/N),SZ (M%N)]):=by
 obtain ⟨hM0,hM1⟩:=hM
 refine cF Tryz.func217 rfl V5 rfl rfl ?_
 intro C
 by_cases hl:18446744073709551616≤N
 ·(refine U19 ?_;refine kca rfl rfl (divideLong_spec _ _ _ ⟨hM0,hM1⟩ ⟨hl,hN.2⟩) ?_;refine U6 ?_)
  exact V1A
 ·obtain ⟨t1,t2,t3,t4,t5,t6,t7⟩:=two_word (T:=M/18446744073709551616) (d:=M%18446744073709551616) (Y:=N) hN.1 V3 V3
  rw [show M/18446744073709551616*18446744073709551616+M%18446744073709551616=M by omega] at t1 t2
  have eN:N%18446744073709551616=N:=by omega
  have hd:=Div64_spec X (M/18446744073709551616%N) (M%18446744073709551616) N ⟨t5,t6⟩ V3 V3
  have hr0:=Int.emod_nonneg M (show N≠0 by omega)
  have hr1:=Int.emod_lt_of_pos M hN.1
  rw [← t2] at hd
  rw [← eN] at hd
  rw [LZ_word (g:=N) (by omega)]
  rw [eN] at hd
  have hq:M/18446744073709551616/N<18446744073709551616:=by
   have:=Int.ediv_le_self N (show 0≤M/18446744073709551616 by omega);omega
  (refine U17 ?_;refine rgD mixed ?_;refine U4 ?_;refine K.quo O O V3 (quo_u64 V3 V3) dS ?_;refine U4 ?_;refine K.rem O O V3 (rem_pos V3) dS ?_;refine U29 ?_)
  rw [show SZ (M/N) = .agg [.val (.int .u64 (M/18446744073709551616/N)),.val (.int .u64 ((M/18446744073709551616%N*18446744073709551616+M%18446744073709551616)/N))] by
    unfold SZ;rw [show M/N/18446744073709551616=M/18446744073709551616/N by omega,show M/N%18446744073709551616=(M/18446744073709551616%N*18446744073709551616+M%18446744073709551616)/N by omega],
   show SZ (M%N) = .agg [.val (.int .u64 0),.val (.int .u64 (M%N))] by unfold SZ;rw [show M%N/18446744073709551616=0 by omega,show M%N%18446744073709551616=M%N by omega]]
  exact V1A
theorem divisible_spec (b c:Bool) (M N:Int) (hM:In2 M) (hN:In2 N) (r:Bool) (hr:((formB b M&&formB c N) && !(N==0))=r):PSpec Tryz.prog X 216 [LI b M,LI c N] (Lb r):=by
 subst hr
 refine cF Tryz.func216 rfl V5 rfl rfl ?_
 intro C
 cases hf:(formB b M&&formB c N)
 ·(refine U10 ?_;refine kca rfl rfl (bothForm_spec _ _ _ _ _ hM hN _ hf) ?_;refine U9 ?_)
  exact ⟨[_],⟨rfl,trivial⟩,by simp [resOf]⟩
 ·(refine U10 ?_;refine kca rfl rfl (bothForm_spec _ _ _ _ _ hM hN _ hf) ?_;refine U2 ?_;refine gca rfl rfl (sizeOf_spec _ _ _ _) rfl rfl<|gca rfl rfl (zero_spec _ _ hN _ rfl) rfl rfl ?_;refine U5 ?_)
  exact ⟨[_],⟨rfl,trivial⟩,by simp [resOf]⟩
theorem Quo_arg (b c:Bool) (M N:Int) (hM:In2 M) (hN:In2 N) (hf:((formB b M&&formB c N) && !(N==0))=false):PSpec Tryz.prog X 186 [LI b M,LI c N] (.tup [S0,Sn .i64 1]):=by
 refine cF Tryz.func186 rfl V5 rfl rfl ?_
 intro C
 (refine U12 ?_;refine kca rfl rfl (divisible_spec _ _ _ _ _ hM hN _ hf) ?_;refine U10 ?_)
 exact V4
theorem Rem_arg (b c:Bool) (M N:Int) (hM:In2 M) (hN:In2 N) (hf:((formB b M&&formB c N) && !(N==0))=false):PSpec Tryz.prog X 187 [LI b M,LI c N] (.tup [S0,Sn .i64 1]):=by
 refine cF Tryz.func187 rfl V5 rfl rfl ?_
 intro C
 (refine U12 ?_;refine kca rfl rfl (divisible_spec _ _ _ _ _ hM hN _ hf) ?_;refine U10 ?_)
 exact V4
theorem mg_zero {y:Int} (hy:y≠0):0<mg y:=by unfold mg;split<;>omega
theorem zv_quo (x y:Int) (hy:y≠0):zv (decide (x<0) != decide (y<0)) (mg x/mg y)=x.tdiv y∧zv (decide (x<0)) (mg x%mg y)=x.tmod y:=by
 unfold zv mg
 by_cases cx:x<0<;>by_cases cy:y<0
 all_goals simp only [cx,cy,decide_true,decide_false,if_true,if_false,bne_self_eq_false,Bool.false_eq_true,Bool.true_bne,Bool.false_bne,Bool.not_false]
 ·obtain ⟨a,rfl⟩:∃ a,x = -a:=⟨-x,by omega⟩
  obtain ⟨b,rfl⟩:∃ b,y = -b:=⟨-y,by omega⟩
  simp only [Int.neg_neg,Int.neg_tdiv,Int.tdiv_neg,Int.neg_tmod,Int.tmod_neg]
  rw [Int.tdiv_eq_ediv_of_nonneg (by omega),Int.tmod_eq_emod_of_nonneg (by omega)]
  exact V30
 ·obtain ⟨a,rfl⟩:∃ a,x = -a:=⟨-x,by omega⟩
  simp only [Int.neg_neg,Int.neg_tdiv,Int.neg_tmod]
  rw [Int.tdiv_eq_ediv_of_nonneg (by omega),Int.tmod_eq_emod_of_nonneg (by omega)]
  exact V30
 ·obtain ⟨b,rfl⟩:∃ b,y = -b:=⟨-y,by omega⟩
  simp only [Int.neg_neg,Int.tdiv_neg,Int.tmod_neg]
  rw [Int.tdiv_eq_ediv_of_nonneg (by omega),Int.tmod_eq_emod_of_nonneg (by omega)]
  exact V30
 ·rw [Int.tdiv_eq_ediv_of_nonneg V3,Int.tmod_eq_emod_of_nonneg V3]
  exact V30
theorem mg_zero' {y:Int} (hy:y≠0):(mg y==0)=false:=by
 have:=mg_zero hy
 exact cS V3
theorem Quo_q (x y:Int) (hx:R127 x) (hy:R127 y) (h0:y≠0):PSpec Tryz.prog X 186 [LQ x,LQ y] (.tup [SQ (x.tdiv y),Sn .i64 0]):=by
 have hB:=divisible_spec X _ _ _ _ (mg_in2 hx) (mg_in2 hy) true (by rw [both_q hx hy,mg_zero' h0];rfl)
 have hd:=divide_spec X (mg x) (mg y) ⟨mg_nonneg x,mg_lim hx⟩ ⟨mg_zero h0,mg_lim hy⟩
 have hq0:0≤mg x/mg y:=Int.ediv_nonneg (mg_nonneg x) (mg_nonneg y)
 have hq1:=Int.ediv_le_self (mg y) (mg_nonneg x)
 have hl:=mg_lim hx
 have hn:=number_spec X (decide (x<0) != decide (y<0)) (mg x/mg y) ⟨hq0,by omega⟩ _ rfl
 rw [← tup_q hq0 (zv_quo x y h0).1]
 refine cF Tryz.func186 rfl V5 rfl rfl ?_
 intro C
 (refine U18 ?_;refine rgD mixed ?_;refine U1 ?_;refine kca O O (sizeOf_spec _ _ _ _) ?_;refine U1 ?_;refine kca O O (sizeOf_spec _ _ _ _) ?_;refine U16 ?_;refine K.neqB O O O dS ?_;refine U6 ?_)
 exact V4
theorem Rem_q (x y:Int) (hx:R127 x) (hy:R127 y) (h0:y≠0):PSpec Tryz.prog X 187 [LQ x,LQ y] (.tup [SQ (x.tmod y),Sn .i64 0]):=by
 have hB:=divisible_spec X _ _ _ _ (mg_in2 hx) (mg_in2 hy) true (by rw [both_q hx hy,mg_zero' h0];rfl)
 have hd:=divide_spec X (mg x) (mg y) ⟨mg_nonneg x,mg_lim hx⟩ ⟨mg_zero h0,mg_lim hy⟩
 have hq0:0≤mg x%mg y:=Int.emod_nonneg _ (by have:=mg_zero h0;omega)
 have hq1:=Int.emod_lt_of_pos (mg x) (mg_zero h0)
 have hl:=mg_lim hy
 have hn:=number_spec X (decide (x<0)) (mg x%mg y) ⟨hq0,by omega⟩ _ rfl
 rw [← tup_q hq0 (zv_quo x y h0).2]
 refine cF Tryz.func187 rfl V5 rfl rfl ?_
 intro C
 (refine U18 ?_;refine rgD mixed ?_;refine U1 ?_;refine kca rfl rfl (sizeOf_spec _ _ _ _) ?_;refine U1 ?_;refine kca rfl rfl (sizeOf_spec _ _ _ _) ?_;refine U20 ?_)
 exact V4
end Go.Proofs.YtopiioklkkiedaaGreatDoor
end
section
set_option maxHeartbeats 12800000
set_option maxRecDepth 100000
namespace Go.Lg.Dec
open Go Go.Lib
def pad:Nat→Nat→List UInt8
 | 0,_=>[]
 | k+1,u=>pad k (u/10)++[UInt8.ofNat (48+u%10)]
end Go.Lg.Dec
namespace Go.Proofs.YtopiioklkkiedaaGreatDoor
open Go Go.Lg Go.Lg.Arith Go.Lg.Dec Go.RowKit
variable (X:Nat→Option Obj)
end Go.Proofs.YtopiioklkkiedaaGreatDoor
end
section
set_option maxHeartbeats 12800000
set_option maxRecDepth 100000
namespace Go.Proofs.YtopiioklkkiedaaGreatDoor
open Go Go.Lg Go.Lg.Arith Go.Lg.Dec Go.Lg.Dig Go.RowKit
variable (X:Nat→Option Obj)
theorem dg_words (n i:Nat) (hi:i<8):dg n i=dg (n%18446744073709551616) i∧dg n (8+i)=dg (n/18446744073709551616%18446744073709551616) i:=by
 have e64:18446744073709551616=256^8:=by decide
 rw [e64]
 exact ⟨(dg_mod hi).symm,by rw [dg_shift,dg_mod hi]⟩
def toR (a:Bool) (n:Nat):LV:=if n<170141183460469231731687303715884105728 then .tup [SI (sg a (n:Nat)) (n:Nat),Sb true] else .tup [S0,Sb false]
theorem To_spec (a:Bool) (n:Nat) (hn:n<T40):PSpec Tryz.prog X 203 [LN a (dg n)] (toR a n):=by
 refine cF Tryz.func203 rfl V5 rfl (by unfold toR;split<;>rfl) ?_
 intro C
 refine U18 ?_
 obtain ⟨l,hl⟩:∃ l,n%18446744073709551616=l:=⟨_,rfl⟩
 obtain ⟨h,hh⟩:∃ h,n/18446744073709551616%18446744073709551616=h:=⟨_,rfl⟩
 have hl64:l<18446744073709551616:=by omega
 have hh64:h<18446744073709551616:=by omega
 refine LWP.meet (fun σ=>σ=⟨[(1,.sv (.one (.ptr 1 0))),(2,.sv (.one (.ptr 2 0))),(4,.sv (.one (.ptr 4 0)))],[(1,some { elem:=202,cells:=num a (dg n) }),(2,some { elem:=86,cells:=[.val (.bool false),.val (.int .u64 0),.val (.int .u64 0)] }),(4,some { elem:=86,cells:=[.val (.bool false),.val (.int .u64 (h:Nat)),.val (.int .u64 (l:Nat))] })],X⟩) ?_ ?_
 ·refine cL (fun m σ=>m≤8∧∃ z:Int,z=(m:Int)-1∧σ=⟨[(1,.sv (.one (.ptr 1 0))),(2,.sv (.one (.ptr 2 0))),(4,.sv (.one (.ptr 4 0))),(5,Ln .i64 z)],[(1,some { elem:=202,cells:=num a (dg n) }),(2,some { elem:=86,cells:=[.val (.bool false),.val (.int .u64 0),.val (.int .u64 0)] }),(4,some { elem:=86,cells:=[.val (.bool false),.val (.int .u64 ((h/256^m:Nat):Int)),.val (.int .u64 ((l/256^m:Nat):Int))] })],X⟩) 8
   ⟨_,Le.of V8 (by exact ⟨rfl,rfl,by rw [Nat.div_eq_of_lt (show h<256^8 from hh64),Nat.div_eq_of_lt (show l<256^8 from hl64)];rfl,trivial⟩) V2 V2 V2,by omega,7,by omega,rfl⟩ ?_
  rintro m σ ⟨hm,z,rfl,rfl⟩
  cases m with
  | zero =>
   rw [Nat.pow_zero,Nat.div_one,Nat.div_one]
   refine U8 ?_
   exact ⟨_,Le.of V9 V9 V2 V2 V2,O⟩
  | succ i =>
   rw [show (((i+1:Nat):Int)-1)=(i:Int) by omega]
   have hi:i<8:=by omega
   obtain ⟨q1,q2⟩:=dg_words n i hi
   rw [hl] at q1
   rw [hh] at q2
   have dl:=div_next l i
   have dh:=div_next h i
   have bl:l/256^i≤l:=Nat.div_le_self _ _
   have bh:h/256^i≤h:=Nat.div_le_self _ _
   generalize l/256^(i+1)=u at *
   generalize h/256^(i+1)=v at *
   have w1:IntKind.u64.wrap ((dg n i:Nat):Int)=((dg n i:Nat):Int):=by have:=dg_lt n i;exact wrap_u64 V3
   have w2:IntKind.u64.wrap ((dg n (8+i):Nat):Int)=((dg n (8+i):Nat):Int):=by have:=dg_lt n (8+i);exact wrap_u64 V3
   have a1:IntKind.u64.wrap ((u:Int)*256+(dg n i:Nat))=((l/256^i:Nat):Int):=by rw [dl,q1,wrap_u64 V3];omega
   have a2:IntKind.u64.wrap ((v:Int)*256+(dg n (8+i):Nat))=((h/256^i:Nat):Int):=by rw [dh,q2,wrap_u64 V3];omega
   have m1:IntKind.u64.wrap ((u:Int)*256)=(u:Int)*256:=wrap_u64 V3
   have m2:IntKind.u64.wrap ((v:Int)*256)=(v:Int)*256:=wrap_u64 V3
   (refine U11 ?_;refine rgD mixed ?_;refine U2 ?_;refine bL O O m1 dS ?_;refine U3 ?_;refine kl1 O O (num_at (i:=i) V3) ?_;refine U6 ?_;refine rgD mixed ?_;refine U2 ?_;refine bL O O m2 dS ?_;refine U4 ?_;refine kl1 O O (num_at (i:=8+i) V3) ?_;refine U8 ?_;refine bA O O (cH V3) dS ?_;refine U2 ?_)
   exact ⟨i,_,by omega,Le.of V8 V9 V2 V2 V2,by omega,_,O,O⟩
 ·rintro σ rfl
  have no:¬ n<170141183460469231731687303715884105728→toR a n = .tup [S0,Sb false]:=fun h=>if_neg h
  have e15:(256:Nat)^15=1329227995784915872903807060280344576:=by decide
  have e16:(256:Nat)^16=340282366920938463463374607431768211456:=by decide
  refine U6 ?_
  refine cL (fun m σ=>∃ i:Nat,16≤i∧i≤40∧(∀ j,16≤j→j<i→dg n j=0)∧m=40-i∧σ=⟨[(1,.sv (.one (.ptr 1 0))),(2,.sv (.one (.ptr 2 0))),(4,.sv (.one (.ptr 4 0))),(6,Ln .i64 (i:Nat))],[(1,some { elem:=202,cells:=num a (dg n) }),(2,some { elem:=86,cells:=[.val (.bool false),.val (.int .u64 0),.val (.int .u64 0)] }),(4,some { elem:=86,cells:=[.val (.bool false),.val (.int .u64 (h:Nat)),.val (.int .u64 (l:Nat))] })],X⟩) 24
   ⟨_,Le.of V8 V9 V2 V2 V2,16,by omega,by omega,fun j h1 h2=>absurd h2 V3,rfl,rfl⟩ ?_
  rintro m σ ⟨i,h16,h40,hz,rfl,rfl⟩
  by_cases c:i<40
  ·by_cases d:dg n i=0
   ·(refine U15 ?_;refine kl1 rfl rfl (num_at (i:=i) c) ?_;refine U9 ?_)
    refine ⟨_,_,by omega,Le.of V8 V9 V2 V2 V2,i+1,by omega,by omega,?_,O,O⟩
    intro j h1 h2
    by_cases e:j=i
    ·rw [e];exact d
    ·exact hz j h1 V3
   ·have e:=no (fun hlt=>d (dg_high (Nat.lt_of_lt_of_le (Nat.lt_trans hlt (by decide:170141183460469231731687303715884105728<256^16)) (Nat.pow_le_pow_right VA h16))))
    (refine U15 ?_;refine kl1 rfl rfl (num_at (i:=i) c) ?_;refine U10 ?_)
    exact ⟨[_,_],⟨⟨_,_,rfl,rfl,rfl,.inl ⟨AggT.h,rfl⟩⟩,rfl,trivial⟩,by rw [e];rfl⟩
  ·have e40:i=40:=by omega
   subst e40
   have n16:n<256^16:=all_zero 24 hn hz
   rw [e16] at n16
   have d15:dg n 15=n/1329227995784915872903807060280344576%256:=by unfold dg;rw [e15]
   by_cases hlt:n<170141183460469231731687303715884105728
   ·have yes:toR a n = .tup [SI (sg a (n:Nat)) (n:Nat),Sb true]:=if_pos hlt
    rw [show ((h:Nat):Int)=(n:Int)/18446744073709551616 by omega,show ((l:Nat):Int)=(n:Int)%18446744073709551616 by omega]
    cases a with
    | false =>
     have hs:sg false (n:Nat)=false:=rfl
     (refine U13 ?_;refine kl1 rfl rfl (num_at (i:=15) VA) ?_;refine U28 ?_)
     exact ⟨[_,_],⟨⟨_,_,rfl,rfl,rfl,.inl ⟨AggT.h,rfl⟩⟩,rfl,trivial⟩,by rw [yes,hs];rfl⟩
    | true =>
     by_cases zh:(n:Int)/18446744073709551616=0
     ·by_cases zl:(n:Int)%18446744073709551616=0
      ·have hs:sg true (n:Nat)=false:=by unfold sg;rw [show (((n:Nat):Int)==0)=true from cV V3];rfl
       (refine U13 ?_;refine kl1 O O (num_at (i:=15) VA) ?_;refine U11 ?_;refine aX O O ((cT V3)) (dT O O) ?_;refine U3 ?_;refine aX O O ((cT V3)) (dT O O) ?_;refine U12 ?_)
       exact ⟨[_,_],⟨⟨_,_,rfl,rfl,rfl,.inl ⟨AggT.h,rfl⟩⟩,rfl,trivial⟩,by rw [yes,hs];rfl⟩
      ·have hs:sg true (n:Nat)=true:=by unfold sg;rw [show (((n:Nat):Int)==0)=false from cS V3];rfl
       (refine U13 ?_;refine kl1 O O (num_at (i:=15) VA) ?_;refine U11 ?_;refine aX O O ((cT V3)) (dT O O) ?_;refine U3 ?_;refine aX O O (cU V3) (dT O O) ?_;refine U12 ?_)
       exact ⟨[_,_],⟨⟨_,_,rfl,rfl,rfl,.inl ⟨AggT.h,rfl⟩⟩,rfl,trivial⟩,by rw [yes,hs];rfl⟩
     ·have hs:sg true (n:Nat)=true:=by unfold sg;rw [show (((n:Nat):Int)==0)=false from cS V3];rfl
      (refine U13 ?_;refine kl1 O O (num_at (i:=15) VA) ?_;refine U11 ?_;refine aX O O (cU V3) (dT O O) ?_;refine U16 ?_)
      exact ⟨[_,_],⟨⟨_,_,rfl,rfl,rfl,.inl ⟨AggT.h,rfl⟩⟩,rfl,trivial⟩,by rw [yes,hs];rfl⟩
   ·have e:=no hlt
    (refine U13 ?_;refine kl1 rfl rfl (num_at (i:=15) VA) ?_;refine U10 ?_)
    exact ⟨[_,_],⟨⟨_,_,rfl,rfl,rfl,.inl ⟨AggT.h,rfl⟩⟩,rfl,trivial⟩,by rw [e];rfl⟩
end Go.Proofs.YtopiioklkkiedaaGreatDoor
end
section
set_option maxHeartbeats 12800000
set_option maxRecDepth 100000
namespace Go.Proofs.YtopiioklkkiedaaGreatDoor
open Go Go.Lg Go.Lg.Arith Go.Lg.Dec Go.Lg.Dig Go.RowKit
variable (X:Nat→Option Obj)
def part (M N i j:Nat):Nat:=M%256^i*N+dg M i*(N%256^j)*256^i
theorem part_next (M N i j:Nat):part M N i (j+1)=part M N i j+dg M i*dg N j*256^(i+j):=by
 unfold part
 rw [mod_next,Nat.mul_add,Nat.add_mul,Nat.pow_add,← Nat.add_assoc]
 congr 1
 rw [Nat.mul_comm (256^i),← Nat.mul_assoc,← Nat.mul_assoc]
theorem part_zero (M N i:Nat):part M N i 0=M%256^i*N:=by
 unfold part
 rw [Nat.pow_zero,Nat.mod_one,Nat.mul_zero,Nat.zero_mul,Nat.add_zero]
theorem part_le (M N i j:Nat):part M N i j≤M%256^(i+1)*N:=by
 unfold part
 rw [mod_next,Nat.add_mul]
 refine Nat.add_le_add_left ?_ _
 rw [Nat.mul_assoc,Nat.mul_assoc,Nat.mul_comm (N%256^j)]
 exact Nat.mul_le_mul_left _ (Nat.mul_le_mul_left _ (Nat.mod_le _ _))
theorem part_all {M N i j:Nat} (h:N<256^j):part M N i j=M%256^(i+1)*N:=by
 unfold part
 rw [mod_next,Nat.add_mul,Nat.mod_eq_of_lt h,Nat.mul_assoc,Nat.mul_assoc,Nat.mul_comm N]
set_option maxHeartbeats 6400000 in
theorem Times_spec (a b s:Bool) (hs:(a != b)=s) (M N:Nat) (hM:M<256^16) (hN:N<256^16):PSpec Tryz.prog X 201 [LN a (dg M),LN b (dg N)] (LN s (dg (M*N))):=by
 have hMN:M*N<256^32:=by
  rw [show (256:Nat)^32=256^16*256^16 by decide]
  exact Nat.mul_lt_mul'' hM hN
 refine cF Tryz.func201 rfl V5 rfl rfl ?_
 intro C
 (refine U12 ?_;refine K.neqB O O hs dS ?_;refine U10 ?_)
 refine cL (fun m σ=>∃ i:Nat,i≤16∧m=16-i∧σ=⟨[(2,.sv (.one (.ptr 2 0))),(3,.sv (.one (.ptr 3 0))),(4,.sv (.one (.ptr 4 0))),(5,.sv (.one (.ptr 5 0))),(6,Ln .i64 (i:Nat))],[(2,some { elem:=202,cells:=num a (dg M) }),(3,some { elem:=202,cells:=num b (dg N) }),(4,some { elem:=202,cells:=num false (fun _=>0) }),(5,some { elem:=202,cells:=num s (dg (M%256^i*N)) })],X⟩) 16
  ⟨_,Le.of V10 (by exact ⟨rfl,rfl,rfl,by rw [show num s (dg (M%256^0*N))=num s (fun _=>0) from num_congr fun x _=>by rw [Nat.pow_zero,Nat.mod_one,Nat.zero_mul,dg_zero]];rfl,trivial⟩) V2 V2 V2,0,by omega,rfl,rfl⟩ ?_
 rintro m σ ⟨i,hi,rfl,rfl⟩
 by_cases h16:i<16
 ·refine U19 ?_
  ·refine cL (fun m σ=>∃ j c:Nat,j≤32∧m=40-j∧c=part M N i j/256^(i+j)-M%256^i*N/256^(i+j)∧c≤511∧σ=⟨[(2,.sv (.one (.ptr 2 0))),(3,.sv (.one (.ptr 3 0))),(4,.sv (.one (.ptr 4 0))),(5,.sv (.one (.ptr 5 0))),(6,Ln .i64 (i:Nat)),(7,Ln .i64 (c:Nat)),(8,Ln .i64 (j:Nat))],[(2,some { elem:=202,cells:=num a (dg M) }),(3,some { elem:=202,cells:=num b (dg N) }),(4,some { elem:=202,cells:=num false (fun _=>0) }),(5,some { elem:=202,cells:=num s (mix (part M N i j) (M%256^i*N) (i+j)) })],X⟩) 40
    ⟨_,Le.of V14 (by exact ⟨rfl,rfl,rfl,by rw [part_zero,mix_all s rfl];rfl,trivial⟩) V2 V2 V2,0,0,by omega,rfl,by rw [part_zero,Nat.sub_self],by omega,rfl⟩ ?_
   rintro m σ ⟨j,c,hj,rfl,hc,hc5,rfl⟩
   have hST:M%256^i*N≤part M N i j:=by rw [← part_zero M N i];exact Nat.add_le_add_left (Nat.mul_le_mul_right _ (Nat.mul_le_mul_left _ (by rw [Nat.pow_zero,Nat.mod_one];exact Nat.zero_le _))) _
   have hT:part M N i j<256^32:=Nat.lt_of_le_of_lt (part_le M N i j) (Nat.lt_of_le_of_lt (Nat.mul_le_mul_right _ (Nat.mod_le _ _)) hMN)
   have hcj:0<c→i+j<32:=by
    intro h
    have h1:part M N i j/256^(i+j)≠0:=by intro e;rw [e,Nat.zero_sub] at hc;omega
    have h2:256^(i+j)≤part M N i j:=by
     rcases Nat.lt_or_ge (part M N i j) (256^(i+j)) with h3|h3
     ·exact absurd (Nat.div_eq_of_lt h3) h1
     ·exact h3
    rcases Nat.lt_or_ge (i+j) 32 with h3|h3
    ·exact h3
    ·have:=Nat.pow_le_pow_right (show 0<256 by decide) h3
     omega
   have hnext:=part_next M N i j
   obtain ⟨k1,k2⟩:=mul_step (y:=dg M i*dg N j) hST hc
   rw [← hnext] at k1 k2
   have hset:=mix_step s (T:=part M N i j) (S:=M%256^i*N) (k:=i+j) (y:=dg M i*dg N j) (d:=(dg (M%256^i*N) (i+j)+c+dg M i*dg N j)%256) (by rw [← hnext];exact k1)
   rw [← hnext] at hset
   have hy:dg M i*dg N j≤255*255:=Nat.mul_le_mul (Nat.le_of_lt_succ (dg_lt M i)) (Nat.le_of_lt_succ (dg_lt N j))
   have hD:=dg_lt (M%256^i*N) (i+j)
   have hmx:mix (part M N i j) (M%256^i*N) (i+j) (i+j)=dg (M%256^i*N) (i+j):=if_neg V3
   have wy:IntKind.i64.wrap (((dg M i:Nat):Int)*(dg N j:Nat))=((dg M i*dg N j:Nat):Int):=by rw [← Int.natCast_mul,cH V3]
   have hat:∀ h:i+j<40,(num s (mix (part M N i j) (M%256^i*N) (i+j)))[1+(i+j)*1]? = some (dv (dg (M%256^i*N) (i+j))):=fun h=>by rw [num_at h,hmx]
   have hz:16≤j→dg M i*dg N j=0:=by
    intro h
    rw [dg_high (Nat.lt_of_lt_of_le hN (Nat.pow_le_pow_right (by decide) h)),Nat.mul_zero]
   have hend:16≤j→c=0→num s (mix (part M N i j) (M%256^i*N) (i+j))=num s (dg (M%256^(i+1)*N)):=by
    intro h h0
    have hle:M%256^i*N/256^(i+j)≤part M N i j/256^(i+j):=Nat.div_le_div_right hST
    have hall:=part_all (M:=M) (i:=i) (Nat.lt_of_lt_of_le hN (Nat.pow_le_pow_right (show 0<256 by decide) h))
    rw [← hall,mix_all s (by omega)]
   clear hnext hmx hST hT hMN hM hN
   generalize hp:part M N i (j+1)/256^(i+j+1)-M%256^i*N/256^(i+j+1)=c' at *
   generalize dg (M%256^i*N) (i+j)=D at *
   generalize hy':dg M i*dg N j=y at *
   generalize hk:dg (part M N i (j+1)) (i+j)=E5 at *
   by_cases j16:j<16
   ·have w1:((D:Int)+(c:Nat)+(y:Nat)).tmod 256=(((D+c+y)%256:Nat):Int):=by rw [rem_pos V3];omega
    have w2:IntKind.i64.wrap (((D:Int)+(c:Nat)+(y:Nat)).tdiv 256)=(c':Int):=by rw [quo_i64 V3 V3];omega
    (refine U21 ?_;refine kl1 O O (hat V3) ?_;refine U11 ?_;refine rgD mixed ?_;refine U4 ?_;refine kl1 O O (num_at (i:=i) V3) ?_;refine U3 ?_;refine kl1 O O (num_at (i:=j) V3)<|bL O O wy dS ?_;refine U10 ?_;refine K.rem O O V3 w1 dS ?_;refine U2 ?_;refine bG O O O O (num_blt (i:=i+j) V3) ((num_set (i:=i+j) V3).trans hset) dS ?_;refine U3 ?_;refine K.quo O O V3 w2 dS ?_;refine U7 ?_)
    exact ⟨_,_,by omega,Le.of V14 V8 V2 V2 V2,j+1,c',by omega,O,hp.symm,by omega,O⟩
   ·have y0:y=0:=hz V3
    by_cases c0:c=0
    ·have he:=hend V3 c0
     rw [he]
     refine U17 ?_
     exact ⟨_,_,by omega,Le.of V10 V8 V2 V2 V2,i+1,by omega,O,O⟩
    ·have hij:=hcj V3
     have w1:((D:Int)+(c:Nat)).tmod 256=(((D+c+y)%256:Nat):Int):=by rw [rem_pos V3];omega
     have w2:IntKind.i64.wrap (((D:Int)+(c:Nat)).tdiv 256)=(c':Int):=by rw [quo_i64 V3 V3];omega
     (refine U21 ?_;refine kl1 O O (hat V3) ?_;refine U18 ?_;refine K.rem O O V3 w1 dS ?_;refine U2 ?_;refine bG O O O O (num_blt (i:=i+j) V3) ((num_set (i:=i+j) V3).trans hset) dS ?_;refine U3 ?_;refine K.quo O O V3 w2 dS ?_;refine U7 ?_)
     exact ⟨_,_,by omega,Le.of V14 V8 V2 V2 V2,j+1,c',by omega,O,hp.symm,by omega,O⟩
 ·have e:i=16:=by omega
  subst e
  rw [Nat.mod_eq_of_lt hM]
  refine U14 ?_
  exact VF
end Go.Proofs.YtopiioklkkiedaaGreatDoor
end
section
set_option maxHeartbeats 12800000
set_option maxRecDepth 100000
namespace Go.Proofs.YtopiioklkkiedaaGreatDoor
open Go Go.Lg Go.Lg.Arith Go.Lg.Dec Go.Lg.Dig Go.RowKit
variable (X:Nat→Option Obj)
abbrev bxN (f:List CV):Option Box:=some { elem:=202,cells:=f }
set_option maxHeartbeats 6400000 in
theorem Parted_spec (a b:Bool) (A B:Nat) (hA:A<T40) (hB:0<B) (hB2:B<340282366920938463463374607431768211456):PSpec Tryz.prog X 202 [LN a (dg A),LN b (dg B)] (.tup [SN false (dg (A/B)),SN false (dg (A%B))]):=by
 have big:=pow40
 refine cF Tryz.func202 rfl V5 rfl rfl ?_
 intro C
 (refine U10 ?_;refine bG O O O O num_blt0 num_sign dS ?_;refine U19 ?_)
 refine cL (fun m σ=>m≤40∧∃ z:Int,z=(m:Int)-1∧σ=⟨[(2,.sv (.one (.ptr 2 0))),(3,.sv (.one (.ptr 3 0))),(4,.sv (.one (.ptr 4 0))),(5,.sv (.one (.ptr 5 0))),(6,.sv (.one (.ptr 6 0))),(7,.sv (.one (.ptr 7 0))),(8,Ln .i64 z)],[(2,bxN (num a (dg A))),(3,bxN (num false (dg B))),(4,bxN (num false (fun _=>0))),(5,bxN (num false (fun _=>0))),(6,bxN (num false (dg (A/256^m/B*256^m)))),(7,bxN (num false (dg (A/256^m%B))))],X⟩) 40
  ⟨_,Le.of V14 (by exact ⟨rfl,rfl,rfl,rfl,by rw [Nat.div_eq_of_lt hA,Nat.zero_div,Nat.zero_mul,show num false (dg 0)=num false (fun _=>0) from num_congr fun x _=>dg_zero x];rfl,by rw [Nat.div_eq_of_lt hA,Nat.zero_mod,show num false (dg 0)=num false (fun _=>0) from num_congr fun x _=>dg_zero x];rfl,trivial⟩) V2 V2 V2,by omega,39,by omega,rfl⟩ ?_
 rintro m σ ⟨hm,z,rfl,rfl⟩
 cases m with
 | zero =>
  rw [Nat.pow_zero,Nat.div_one,Nat.mul_one]
  (refine U9 ?_;refine rgD mixed ?_;refine U7 ?_)
  exact V1A
 | succ i =>
  rw [show (((i+1:Nat):Int)-1)=(i:Int) by omega]
  have hi:i<40:=by omega
  have hR:=Nat.mod_lt (A/256^(i+1)) hB
  have hd:=dg_lt A i
  have hq:=fun t V=>quo_step (A:=A) (i:=i) (t:=t) (V:=V) hB
  generalize A/256^(i+1)/B=Q at *
  generalize A/256^(i+1)%B=R at *
  refine U16 ?_
  refine cL (fun m σ=>m≤39∧σ=⟨[(2,.sv (.one (.ptr 2 0))),(3,.sv (.one (.ptr 3 0))),(4,.sv (.one (.ptr 4 0))),(5,.sv (.one (.ptr 5 0))),(6,.sv (.one (.ptr 6 0))),(7,.sv (.one (.ptr 7 0))),(8,Ln .i64 (i:Nat)),(9,Ln .i64 (m:Nat))],[(2,bxN (num a (dg A))),(3,bxN (num false (dg B))),(4,bxN (num false (fun _=>0))),(5,bxN (num false (fun _=>0))),(6,bxN (num false (dg (Q*256^(i+1))))),(7,bxN (num false (shf R m)))],X⟩) 39
   ⟨_,Le.of V15 (by exact ⟨rfl,rfl,rfl,rfl,rfl,by rw [shf_start];rfl,trivial⟩) V2 V2 V2,by omega,rfl⟩ ?_
  rintro m σ ⟨hm2,rfl⟩
  cases m with
  | succ t =>
   have ht:t<40:=by omega
   have ht1:t+1<40:=by omega
   have w:IntKind.i64.wrap (((t+1:Nat):Int)-1)=(t:Int):=by rw [cH V3];omega
   have hat:(num false (shf R (t+1)))[1+t*1]? = some (dv (dg R t)):=by rw [num_at ht];unfold shf;rw [if_neg V3]
   (refine U13 ?_;refine bA O O w dS ?_;refine U2 ?_;refine kl1 O O hat ?_;refine U2 ?_;refine bG O O O O (num_blt (i:=t+1) ht1) ((num_set (i:=t+1) ht1).trans (shf_step false R t)) dS ?_;refine U3 ?_;refine bA O O w dS ?_;refine U2 ?_)
   exact ⟨t,_,by omega,Le.of V15 V11 V2 V2 V2,by omega,O⟩
  | zero =>
   (refine U13 ?_;refine kl1 O O (num_at (i:=i) hi) ?_;refine U2 ?_;refine bG O O O O (num_blt (i:=0) VA) ((num_set (i:=0) VA).trans (shf_end false R (dg A i) hd)) dS ?_;refine U2 ?_)
   refine cL (fun m σ=>∃ t V:Nat,V+t*B=R*256+dg A i∧t≤255∧m=V∧σ=⟨[(2,.sv (.one (.ptr 2 0))),(3,.sv (.one (.ptr 3 0))),(4,.sv (.one (.ptr 4 0))),(5,.sv (.one (.ptr 5 0))),(6,.sv (.one (.ptr 6 0))),(7,.sv (.one (.ptr 7 0))),(8,Ln .i64 (i:Nat))],[(2,bxN (num a (dg A))),(3,bxN (num false (dg B))),(4,bxN (num false (fun _=>0))),(5,bxN (num false (fun _=>0))),(6,bxN (num false (dg (Q*256^(i+1)+t*256^i)))),(7,bxN (num false (dg V)))],X⟩) (R*256+dg A i)
    ⟨_,Le.of V14 (by exact ⟨rfl,rfl,rfl,rfl,by rw [Nat.zero_mul,Nat.add_zero];rfl,rfl,trivial⟩) V2 V2 V2,0,_,by rw [Nat.zero_mul,Nat.add_zero],by omega,rfl,rfl⟩ ?_
   rintro m σ ⟨t,V,hV,ht,hmV,rfl⟩
   have hVle:V≤R*256+dg A i:=by rw [← hV];exact Nat.le_add_right _ _
   have hV40:V<T40:=by unfold T40;rw [big];omega
   have hB40:B<T40:=by unfold T40;rw [big];omega
   obtain ⟨r,hr,c1,c2,c3⟩:=cmp_facts_0 V B
   have hS:=Size_spec X false false V B hV40 hB40 r hr
   by_cases hlt:V<B
   ·obtain ⟨q1,q2⟩:=hq t V hV hlt
    (refine U12 ?_;refine bA O O (cH V3) dS ?_;refine U2 ?_)
    exact ⟨i,_,by omega,Le.of V14 (by exact ⟨rfl,rfl,rfl,rfl,by rw [q1];rfl,by rw [q2];rfl,trivial⟩) V2 V2 V2,by omega,_,rfl,rfl⟩
   ·have hm:=less_spec X false false V B V3
    have ht1:t+1<256:=by
     have h1:(t+1)*B<256*B:=by rw [Nat.add_mul];omega
     exact Nat.lt_of_mul_lt_mul_right h1
    have hat:(num false (dg (Q*256^(i+1)+t*256^i)))[1+i*1]? = some (dv t):=by rw [num_at hi,mid_at V3]
    have w:IntKind.i64.wrap ((t:Int)+1)=((t+1:Nat):Int):=by rw [cH V3];rfl
    (refine U22 ?_;refine kl1 O O hat<|kad O O w ?_;refine U2 ?_;refine bG O O O O (num_blt (i:=i) hi) ((num_set (i:=i) hi).trans (mid_step false ht1)) dS ?_;refine U1 ?_)
    exact ⟨_,_,by omega,Le.of V14 V11 V2 V2 V2,t+1,V-B,by rw [Nat.add_mul];omega,by omega,rfl,rfl⟩
end Go.Proofs.YtopiioklkkiedaaGreatDoor
end
section
set_option maxHeartbeats 12800000
set_option maxRecDepth 100000
namespace Go.Proofs.YtopiioklkkiedaaGreatDoor
open Go Go.Lg Go.Lg.Arith Go.Lg.Dec Go.Lg.Dig Go.RowKit
variable (X:Nat→Option Obj)
theorem Sum_any (a b:Bool) (M N:Nat) (hM:M<340282366920938463463374607431768211456) (hN:N<340282366920938463463374607431768211456):
  ∃ (s:Bool) (n:Nat),PSpec Tryz.prog X 200 [LN a (dg M),LN b (dg N)] (LN s (dg n))∧zv s (n:Nat)=zv a (M:Nat)+zv b (N:Nat)∧n<T40:=by
 have big:=pow40
 have l40:∀ n:Nat,n<680564733841876926926749214863536422912→n<T40:=fun n h=>by unfold T40;rw [big];omega
 cases h:(a != b) with
 | false =>
  have e:a=b:=by simpa using h
  subst e
  refine ⟨a,M+N,Sum_same X a a h M N,?_,l40 _ V3⟩
  cases a
  ·show (((M+N:Nat):Int))=(M:Int)+N;omega
  ·show -(((M+N:Nat):Int)) = -(M:Int) + -(N:Int);omega
 | true =>
  by_cases c:N≤M
  ·refine ⟨a,M-N,Sum_more X a b h M N (l40 _ V3) (l40 _ V3) c,?_,l40 _ V3⟩
   cases a<;>cases b<;>first|cases h|skip
   ·show (((M-N:Nat):Int))=(M:Int) + -(N:Int);omega
   ·show -(((M-N:Nat):Int)) = -(M:Int)+(N:Int);omega
  ·refine ⟨b,N-M,Sum_less X a b h M N (l40 _ V3) (l40 _ V3) V3,?_,l40 _ V3⟩
   cases a<;>cases b<;>first|cases h|skip
   ·show -(((N-M:Nat):Int))=(M:Int) + -(N:Int);omega
   ·show (((N-M:Nat):Int)) = -(M:Int)+(N:Int);omega
theorem toR_iff {s:Bool} {n:Nat} {z:Int} (h:zv s (n:Nat)=z):R127 z↔n<170141183460469231731687303715884105728:=by
 obtain ⟨_,h2⟩:=sg_q (b:=s) (N:=(n:Nat)) V3 h
 unfold R127
 unfold mg at h2
 split at h2<;>omega
theorem toR_in {s:Bool} {n:Nat} {z:Int} (h:zv s (n:Nat)=z) (hR:R127 z):toR s n = .tup [SQ z,Sb true]:=by
 obtain ⟨h1,h2⟩:=sg_q (b:=s) (N:=(n:Nat)) V3 h
 unfold toR
 rw [if_pos ((toR_iff h).1 hR),h1]
 unfold SQ
 rw [← h2]
theorem toR_out {s:Bool} {n:Nat} {z:Int} (h:zv s (n:Nat)=z) (hR:¬ R127 z):toR s n = .tup [S0,Sb false]:=by
 unfold toR
 rw [if_neg (fun c=>hR ((toR_iff h).2 c))]
theorem zv_q (x:Int):zv (decide (x<0)) (((mg x).toNat:Nat):Int)=x:=by
 rw [mg_nat]
 by_cases c:x<0
 ·rw [cP c,mg_neg c];show - -x=x;omega
 ·rw [cO c,mg_pos (Int.not_lt.1 c)];rfl
theorem zv_not (b:Bool) (N:Int):zv (!b) N = -zv b N:=by
 cases b
 ·rfl
 ·show N = - -N;omega
theorem zv_prod (a b:Bool) (M N:Nat):zv (a != b) ((M*N:Nat):Int)=zv a (M:Nat)*zv b (N:Nat):=by
 rw [Int.natCast_mul]
 cases a<;>cases b
 ·rfl
 ·show -((M:Int)*N)=(M:Int) * -(N:Int);rw [Int.mul_neg]
 ·show -((M:Int)*N) = -(M:Int)*(N:Int);rw [Int.neg_mul]
 ·show (M:Int)*N = -(M:Int) * -(N:Int);rw [Int.neg_mul_neg]
theorem mg_128 {x:Int} (hx:R127 x):(mg x).toNat<340282366920938463463374607431768211456:=by have:=mg_lim hx;have:=mg_nonneg x;omega
theorem Do_1 (x y:Int) (hx:R127 x) (hy:R127 y) (z:Int) (hz:(if 1=1 then x+y else x-y)=z):PSpec Tryz.prog X 152 [Ln .i64 1,LQ x,LQ y] (addR z):=by
 have hF1:=Good_spec X _ _ (mg_in2 hx) true (formB_q hx)
 have hF2:=Good_spec X _ _ (mg_in2 hy) true (formB_q hy)
 have f1:=From_q X x hx
 have f2:=From_q X y hy
 obtain ⟨s,n,hA,hv,hn⟩:=Sum_any X (decide (x<0)) (if 1=1 then decide (y<0) else !decide (y<0)) (mg x).toNat (mg y).toNat (mg_128 hx) (mg_128 hy)
 have hv':zv s (n:Nat)=z:=by
  rw [hv,← hz]
  first
   | (show zv (decide (x<0)) _+zv (decide (y<0)) _=x+y;rw [zv_q,zv_q])
   | (show zv (decide (x<0)) _+zv (!decide (y<0)) _=x-y;rw [zv_not,zv_q,zv_q];omega)
 have hT:=To_spec X s n hn
 by_cases hr:R127 z
 ·rw [toR_in hv' hr] at hT
  rw [addR_in hr]
  refine cF Tryz.func152 rfl V5 rfl rfl ?_
  intro C
  ((refine U41 ?_);(refine U40 ?_);(refine U18 ?_))
  exact V4
 ·rw [toR_out hv' hr] at hT
  rw [addR_out hr]
  refine cF Tryz.func152 rfl V5 rfl rfl ?_
  intro C
  ((refine U41 ?_);(refine U40 ?_);(refine U17 ?_))
  exact V4
theorem Do_3 (x y:Int) (hx:R127 x) (hy:R127 y):PSpec Tryz.prog X 152 [Ln .i64 3,LQ x,LQ y] (addR (x*y)):=by
 have hF1:=Good_spec X _ _ (mg_in2 hx) true (formB_q hx)
 have hF2:=Good_spec X _ _ (mg_in2 hy) true (formB_q hy)
 have f1:=From_q X x hx
 have f2:=From_q X y hy
 have e16:(256:Nat)^16=340282366920938463463374607431768211456:=by decide
 have hA:=Times_spec X (decide (x<0)) (decide (y<0)) _ rfl (mg x).toNat (mg y).toNat (by rw [e16];exact mg_128 hx) (by rw [e16];exact mg_128 hy)
 have hv:zv (decide (x<0) != decide (y<0)) (((mg x).toNat*(mg y).toNat:Nat):Int)=x*y:=by rw [zv_prod,zv_q,zv_q]
 have hn:(mg x).toNat*(mg y).toNat<T40:=by
  refine Nat.lt_of_lt_of_le (Nat.mul_lt_mul'' (mg_128 hx) (mg_128 hy)) ?_
  unfold T40
  decide
 have hT:=To_spec X (decide (x<0) != decide (y<0)) _ hn
 by_cases hr:R127 (x*y)
 ·rw [toR_in hv hr] at hT
  rw [addR_in hr]
  refine cF Tryz.func152 rfl V5 rfl rfl ?_
  intro C
  ((refine U41 ?_);(refine U43 ?_);(refine U27 ?_))
  exact V4
 ·rw [toR_out hv hr] at hT
  rw [addR_out hr]
  refine cF Tryz.func152 rfl V5 rfl rfl ?_
  intro C
  ((refine U41 ?_);(refine U43 ?_);(refine U26 ?_))
  exact V4
end Go.Proofs.YtopiioklkkiedaaGreatDoor
end
section
set_option maxHeartbeats 12800000
set_option maxRecDepth 100000
namespace Go.Lg
open Go Go.RowKit Go.Lg.Dig
end Go.Lg
namespace Go.Proofs.YtopiioklkkiedaaGreatDoor
open Go Go.Lg Go.Lg.Arith Go.Lg.Dec Go.Lg.Dig Go.RowKit
variable (X:Nat→Option Obj)
instance:ArrB Tryz.prog 200 (List.replicate 40 (.int .i64 0)) 1:=⟨by kernel_rfl⟩
end Go.Proofs.YtopiioklkkiedaaGreatDoor
end
section
set_option maxHeartbeats 12800000
set_option maxRecDepth 100000
namespace Go.Proofs.YtopiioklkkiedaaGreatDoor
open Go Go.Lg Go.Lg.Arith Go.Lg.Dec Go.Lg.Dig Go.RowKit
variable (X:Nat→Option Obj)
structure Half (M n:Nat) (s:List UInt8):Prop where
 more:s=[]∨n≠0→Lib.decDigits M=Lib.decDigits n++s
 done:s≠[]→n=0→Lib.decDigits M=s
end Go.Proofs.YtopiioklkkiedaaGreatDoor
end
section
set_option maxHeartbeats 12800000
set_option maxRecDepth 100000
namespace Go.Proofs.YtopiioklkkiedaaGreatDoor
open Go Go.Lg Go.Lg.Fml Go.Lg.Fld
structure CodesIn (X:Nat→Option Obj) (ad:Option Addr) (cs:List (List Ins)):Prop where
 at_:∀ (i:Nat) (c:List Ins),cs[i]? = some c→∃ (blk off:Nat) (arr:Array Value) (el:TypeId) (fr:Nat×Nat) (vad:Option Addr) (vcap:Nat),ad=some ⟨blk,off,none⟩∧X blk=some (.cells arr el fr)∧off+i*1+1≤arr.size∧arr[off+i]? = some (.slice vad c.length vcap)∧InsIn X vad c
theorem CodesIn.mono {X Y:Nat→Option Obj} (hXY:∀ b o,X b=some o→Y b=some o) {ad:Option Addr} {cs:List (List Ins)} (h:CodesIn X ad cs):CodesIn Y ad cs:=⟨fun i c hc=>by
 obtain ⟨blk,off,arr,el,fr,vad,vcap,h1,h2,h3,h4,h5⟩:=h.at_ i c hc
 exact ⟨blk,off,arr,el,fr,vad,vcap,h1,hXY _ _ h2,h3,h4,h5.mono hXY⟩⟩
theorem CodesIn.nil {X:Nat→Option Obj} {ad:Option Addr}:CodesIn X ad []:=⟨fun i c h=>by simp at h⟩
def smallR (r:Rl):Prop:=(-9223372036854775808≤r.nw∧r.nw<9223372036854775808)∧(-9223372036854775808≤r.old∧r.old<9223372036854775808)
structure RulesIn (X:Nat→Option Obj) (ad:Option Addr) (rs:List Rl):Prop where
 at_:∀ (i:Nat) (r:Rl),rs[i]? = some r→∃ (blk off:Nat) (arr:Array Value) (el:TypeId) (fr:Nat×Nat) (ead:Option Addr) (ecap:Nat),ad=some ⟨blk,off,none⟩∧X blk=some (.cells arr el fr)∧off+i*3+3≤arr.size∧(arr.toList.drop (off+i*3)).take 3=[.int .i64 r.nw,.int .i64 r.old,.slice ead r.ex.length ecap]∧CodesIn X ead r.ex
 small:∀ r∈rs,smallR r
theorem RulesIn.mono {X Y:Nat→Option Obj} (hXY:∀ b o,X b=some o→Y b=some o) {ad:Option Addr} {rs:List Rl} (h:RulesIn X ad rs):RulesIn Y ad rs:=⟨fun i c hc=>by
 obtain ⟨blk,off,arr,el,fr,vad,vcap,h1,h2,h3,h4,h5⟩:=h.at_ i c hc
 exact ⟨blk,off,arr,el,fr,vad,vcap,h1,hXY _ _ h2,h3,h4,h5.mono hXY⟩,h.small⟩
theorem RulesIn.nil {X:Nat→Option Obj} {ad:Option Addr}:RulesIn X ad []:=⟨fun i c h=>by simp at h,fun r hr=>by cases hr⟩
theorem RulesIn.get {X:Nat→Option Obj} {ad:Option Addr} {rs:List Rl} (h:RulesIn X ad rs) {i:Nat} {r:Rl} (hr:rs[i]? = some r):∃ (blk off:Nat) (arr:Array Value) (el:TypeId) (fr:Nat×Nat) (ead:Option Addr) (ecap:Nat),ad=some ⟨blk,off,none⟩∧X blk=some (.cells arr el fr)∧off+i*3+3≤arr.size ∧
  ((arr.toList.drop (off+i*3)).take 3).map CV.val=[.val (.int .i64 r.nw),.val (.int .i64 r.old),.val (.slice ead r.ex.length ecap)]∧arr[off+i*3]? = some (.int .i64 r.nw)∧arr[off+i*3+1]? = some (.int .i64 r.old)∧arr[off+i*3+2]? = some (.slice ead r.ex.length ecap)∧CodesIn X ead r.ex:=by
 obtain ⟨blk,off,arr,el,fr,ead,ecap,h1,h2,h3,h4,h5⟩:=h.at_ i r hr
 have key:∀ j,j<3→arr[off+i*3+j]? = ([.int .i64 r.nw,.int .i64 r.old,.slice ead r.ex.length ecap]:List Value)[j]? := fun j hj=>by
  rw [← h4,List.getElem?_take,if_pos hj,List.getElem?_drop,Array.getElem?_toList]
 exact ⟨blk,off,arr,el,fr,ead,ecap,h1,h2,h3,by rw [h4];rfl,key 0 V3,key 1 V3,key 2 V3,h5⟩
def sizeR (rs:List Rl):Prop := ∀ r∈rs,r.ex.length<1152921504606846976∧∀ c∈r.ex,c.length<1152921504606846976
end Go.Proofs.YtopiioklkkiedaaGreatDoor
end
section
set_option maxHeartbeats 12800000
set_option maxRecDepth 100000
namespace Go.Proofs.YtopiioklkkiedaaGreatDoor
open Go Go.Lg Go.Lg.Fml Go.Lg.Fld Go.Lg.Arith
set_option maxRecDepth 100000
variable (X:Nat→Option Obj)
theorem wrap_o8 (n:Int):IntKind.u8.wrap n=((o8 n).toNat:Nat):=by
 unfold o8
 rw [UInt8.toNat_ofNat',IntKind.wrap_u8]
 omega
set_option maxHeartbeats 1600000 in
theorem rWord_spec (n:Nat) (hn:n<18446744073709551616):PSpec Tryz.prog X 173 [Ln .u64 (n:Nat)] (Ls (leB 8 n)):=by
 refine cF Tryz.func173 rfl V5 rfl rfl ?_
 intro C
 (refine U6 ?_;refine aZ (zs:=[]) (sz:=1) (e:=5) V5 O O O O O O dS ?_;refine U8 ?_)
 refine cL (fun m σ=>∃ (i:Nat) (row:Bool),i≤8∧m=8-i∧σ=⟨[(0,Ln .u64 (n/256^i:Nat)),(3,.sv (.one (.slc 500 0 i))),(4,Ln .i64 (i:Nat))],[(500,some ⟨5,((leB 8 n).take i).map bc,row⟩)],X⟩) 8
  ⟨_,Le.ofR [(500,5)] (by exact ⟨by rw [Nat.pow_zero,Nat.div_one];rfl,rfl,rfl,trivial⟩) V1 V2 V2 V0 V2 V2,0,false,Nat.zero_le _,rfl,rfl⟩ ?_
 rintro m σ ⟨i,row,hi,rfl,rfl⟩
 by_cases hlt:i<8
 ·have hle:n/256^i≤n:=Nat.div_le_self _ _
  have hd:n/256^i/256=n/256^(i+1):=by rw [Nat.pow_succ,Nat.div_div_eq_div_mul]
  have hnc:=take_next (n:=n) hlt
  have hcl:(((leB 8 n).take i).map bc).length=i*1:=by rw [cX,dA,leB_length];omega
  have hv:IntKind.u8.wrap (((n/256^i:Nat):Int)%256)=((UInt8.ofNat (n/256^i%256)).toNat:Nat):=by
   rw [UInt8.toNat_ofNat',Nat.mod_eq_of_lt (Nat.mod_lt _ (by decide)),IntKind.wrap_u8]
   omega
  have hq:IntKind.u64.wrap (((n/256^i:Nat):Int).tdiv 256)=((n/256^(i+1):Nat):Int):=by
   rw [← hd]
   clear hv hnc hd
   generalize n/256^i=q at *
   rw [quo_u64 (by omega) (by omega)];omega
  have hadd:IntKind.i64.wrap ((i:Int)+1)=((i+1:Nat):Int):=by rw [cH V3];omega
  (refine U14 ?_;refine K.rem O O V3 O dS ?_;refine U1 ?_;refine aZ (zs:=[.int .u8 0]) (sz:=1) (e:=5) V5 O O O O O O dS<|bQ (by_:=1) (e2:=5) (l2:=[bc (UInt8.ofNat (n/256^i%256))]) O O hcl O O (dO _) O O V5 V5 V3 V3 O O hnc dS ?_;refine U4 ?_;refine K.quo O O V3 hq dS ?_;refine U7 ?_)
  exact ⟨_,⟨[(0,Ln .u64 (n/256^(i+1):Nat)),(3,.sv (.one (.slc 500 0 (i+1)))),(4,Ln .i64 (i+1:Nat))],[(500,some ⟨5,((leB 8 n).take (i+1)).map bc,true⟩)],X⟩,by omega,Le.ofR [(500,15)] V9 V1 V2 V2 V0 V2 V2,i+1,true,by omega,O,O⟩
 ·have e:i=8:=by omega
  subst e
  have hta:(leB 8 n).take 8=leB 8 n:=List.take_of_length_le (by rw [leB_length];exact dO _)
  rw [hta]
  have hlen:0+8≤((leB 8 n).map bc).length:=by rw [cX,leB_length];omega
  have hend:(((leB 8 n).map bc).drop 0).take 8=(leB 8 n).map bc:=by rw [List.drop_zero,List.take_of_length_le (by rw [cX,leB_length];exact dO _)]
  generalize leB 8 n=s at *
  (refine U4 ?_;refine klt O O (r:=false) O ?_;refine U6 ?_;refine bS O O V5 StrT.u hlen hend dS ?_;refine U3 ?_)
  exact V6
end Go.Proofs.YtopiioklkkiedaaGreatDoor
end
