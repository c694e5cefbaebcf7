/- A piece of a proof over this program: contracts of its functions, and a logic to prove them by. -/
import Derived.Test.YtopiioklkkiedaaGreatDoorW2
import Derived.Test.YtopiioklkkiedaaGreatDoorW3
import Derived.Test.YtopiioklkkiedaaGreatDoorW4
import Derived.Test.YtopiioklkkiedaaGreatDoorRows
import Derived.Lib.ItoaNum
import Derived.Lib.ItoaLen
import Derived.Shelf.Small.Bits
import Derived.Shelf.Strconv.Itoa0
import Derived.Shelf.Strings.Search1
import Derived.Shelf.Bits.Mul64
import Derived.Test.YtopiioklkkiedaaGreatDoorProg
import Derived.Lib.Walk
import Derived.Lib.ItoaMem
import Derived.Lib.AppendIntMem
import Derived.WalkKit
import Derived.BigCall
import Derived.BigGuard
import Derived.Lib.Repeat
import Derived.ChangeKeysEq
section
namespace Go.Lg.Fml
structure Ins where
 op:Int
 a:Int
 b:Int
 k:Bool×Int
 deriving DecidableEq
def takes (op:Int):Nat:=if op=16 then 3 else if op=10∨op=15 then 1 else if 5≤op∧op≤17 then 2 else 0
theorem takes_le (op:Int):takes op≤3:=by unfold takes;split<;>(try split)<;>(try split)<;>omega
inductive Tr where
 | n0 (x:Ins)
 | n1 (x:Ins) (a:Tr)
 | n2 (x:Ins) (a b:Tr)
 | n3 (x:Ins) (a b c:Tr)
def Tr.flat:Tr→List Ins
 | .n0 x=>[x]
 | .n1 x a=>a.flat++[x]
 | .n2 x a b=>a.flat++(b.flat++[x])
 | .n3 x a b c=>a.flat++(b.flat++(c.flat++[x]))
def Tr.ok:Tr→Prop
 | .n0 x=>takes x.op=0
 | .n1 x a=>takes x.op=1∧a.ok
 | .n2 x a b=>takes x.op=2∧a.ok∧b.ok
 | .n3 x a b c=>takes x.op=3∧a.ok∧b.ok∧c.ok
section
variable {V:Type} (one:Ins→List V→Except Int V)
def Tr.ev:Tr→Except Int V
 | .n0 x=>one x []
 | .n1 x a=>match a.ev with
  | .error e=>.error e
  | .ok u=>one x [u]
 | .n2 x a b=>match a.ev with
  | .error e=>.error e
  | .ok u=>match b.ev with
   | .error e=>.error e
   | .ok v=>one x [u,v]
 | .n3 x a b c=>match a.ev with
  | .error e=>.error e
  | .ok u=>match b.ev with
   | .error e=>.error e
   | .ok v=>match c.ev with
    | .error e=>.error e
    | .ok w=>one x [u,v,w]
def run:List Ins→List V→Except Int (List V)
 | [],st=>.ok st
 | x::t,st=>match one x (st.take (takes x.op)).reverse with
  | .error e=>.error e
  | .ok v=>run t (v::st.drop (takes x.op))
variable {one}
theorem run_flat:∀ {t:Tr} {rest:List Ins} {st:List V},t.ok→run one (t.flat++rest) st=match t.ev one with | .error e=>.error e | .ok v=>run one rest (v::st)
 | .n0 x,rest,st,h=>by
  have h:takes x.op=0:=h
  simp only [Tr.flat,List.cons_append,List.nil_append,run,Tr.ev,h,List.take_zero,List.drop_zero,List.reverse_nil]
 | .n1 x a,rest,st,h=>by
  obtain ⟨h1,h2⟩:=h
  simp only [Tr.flat,List.append_assoc,Tr.ev]
  rw [run_flat h2]
  cases a.ev one with
  | error e=>rfl
  | ok u =>
   simp only [List.cons_append,List.nil_append,run,h1]
   simp only [List.take_succ_cons,List.take_zero,List.drop_succ_cons,List.drop_zero,List.reverse_cons,List.reverse_nil,List.nil_append]
 | .n2 x a b,rest,st,h=>by
  obtain ⟨h1,h2,h3⟩:=h
  simp only [Tr.flat,List.append_assoc,Tr.ev]
  rw [run_flat h2]
  cases a.ev one with
  | error e=>rfl
  | ok u =>
   simp only
   rw [run_flat h3]
   cases b.ev one with
   | error e=>rfl
   | ok v =>
    simp only [List.cons_append,List.nil_append,run,h1]
    simp only [List.take_succ_cons,List.take_zero,List.drop_succ_cons,List.drop_zero,List.reverse_cons,List.reverse_nil,List.nil_append,List.cons_append]
 | .n3 x a b c,rest,st,h=>by
  obtain ⟨h1,h2,h3,h4⟩:=h
  simp only [Tr.flat,List.append_assoc,Tr.ev]
  rw [run_flat h2]
  cases a.ev one with
  | error e=>rfl
  | ok u =>
   simp only
   rw [run_flat h3]
   cases b.ev one with
   | error e=>rfl
   | ok v =>
    simp only
    rw [run_flat h4]
    cases c.ev one with
    | error e=>rfl
    | ok w =>
     simp only [List.cons_append,List.nil_append,run,h1]
     simp only [List.take_succ_cons,List.take_zero,List.drop_succ_cons,List.drop_zero,List.reverse_cons,List.reverse_nil,List.nil_append,List.cons_append]
theorem run_app:∀ {l r:List Ins} {st:List V},run one (l++r) st=match run one l st with | .error e=>.error e | .ok st'=>run one r st'
 | [],r,st=>rfl
 | x::l,r,st=>by
  simp only [List.cons_append,run]
  cases one x (st.take (takes x.op)).reverse with
  | error e=>rfl
  | ok v=>exact run_app
end
def dep (okI:Ins→Bool):Nat→List Ins→Option Nat
 | n,[]=>some n
 | n,x::t=>if okI x=true∧takes x.op≤n∧n-takes x.op+1≤16 then dep okI (n-takes x.op+1) t else none
theorem dep_app {okI:Ins→Bool}:∀ {l r:List Ins} {n:Nat},dep okI n (l++r)=(dep okI n l).bind fun m=>dep okI m r
 | [],r,n=>rfl
 | x::l,r,n=>by
  simp only [List.cons_append,dep]
  split
  ·exact dep_app
  ·rfl
def flats:List Tr→List Ins
 | []=>[]
 | t::ts=>flats ts++t.flat
theorem dep_trees {okI:Ins→Bool}:∀ {l:List Ins} {ts:List Tr} {m:Nat},dep okI ts.length l=some m→(∀ t∈ts,t.ok)→∃ ts',ts'.length=m∧(∀ t∈ts',t.ok)∧flats ts'=flats ts++l
 | [],ts,m,h,ho=>by
  simp only [dep,Option.some.injEq] at h
  exact ⟨ts,h,ho,by rw [List.append_nil]⟩
 | x::l,ts,m,h,ho=>by
  simp only [dep] at h
  split at h
  ·rename_i hx
   obtain ⟨_,h1,_⟩:=hx
   have h3:=takes_le x.op
   have key:∃ us:List Tr,us.length=ts.length-takes x.op+1∧(∀ t∈us,t.ok)∧flats us=flats ts++[x]:=by
    rcases (show takes x.op=0∨takes x.op=1∨takes x.op=2∨takes x.op=3 by omega) with e|e|e|e
    ·exact ⟨.n0 x::ts,by rw [e];rfl,fun t ht=>by
      rcases List.mem_cons.1 ht with rfl|ht
      ·exact e
      ·exact ho t ht,rfl⟩
    ·match ts,ho,h1 with
     | a::ts,ho,_=>exact ⟨.n1 x a::ts,by rw [e];rfl,fun t ht=>by
       rcases List.mem_cons.1 ht with rfl|ht
       ·exact ⟨e,ho a List.mem_cons_self⟩
       ·exact ho t (List.mem_cons_of_mem _ ht),by simp only [flats,Tr.flat,List.append_assoc]⟩
     | [],_,h1=>rw [e] at h1;cases h1
    ·match ts,ho,h1 with
     | b::a::ts,ho,_=>exact ⟨.n2 x a b::ts,by rw [e];rfl,fun t ht=>by
       rcases List.mem_cons.1 ht with rfl|ht
       ·exact ⟨e,ho a (by simp),ho b (by simp)⟩
       ·exact ho t (by simp [ht]),by simp only [flats,Tr.flat,List.append_assoc]⟩
     | [_],_,h1=>rw [e] at h1;simp at h1
     | [],_,h1=>rw [e] at h1;cases h1
    ·match ts,ho,h1 with
     | c::b::a::ts,ho,_=>exact ⟨.n3 x a b c::ts,by rw [e];rfl,fun t ht=>by
       rcases List.mem_cons.1 ht with rfl|ht
       ·exact ⟨e,ho a (by simp),ho b (by simp),ho c (by simp)⟩
       ·exact ho t (by simp [ht]),by simp only [flats,Tr.flat,List.append_assoc]⟩
     | [_,_],_,h1=>rw [e] at h1;simp at h1
     | [_],_,h1=>rw [e] at h1;simp at h1
     | [],_,h1=>rw [e] at h1;cases h1
   obtain ⟨us,u1,u2,u3⟩:=key
   rw [← u1] at h
   obtain ⟨ts',t1,t2,t3⟩:=dep_trees h u2
   exact ⟨ts',t1,t2,by rw [t3,u3,List.append_assoc];rfl⟩
  ·cases h
theorem parse {okI:Ins→Bool} {l:List Ins} (h:dep okI 0 l=some 1):∃ t:Tr,t.ok∧t.flat=l:=by
 obtain ⟨ts,h1,h2,h3⟩:=dep_trees (ts:=[]) h (fun t ht=>by cases ht)
 match ts,h1 with
 | [t],_=>exact ⟨t,h2 t List.mem_cons_self,h3⟩
theorem flat_pos:∀ t:Tr,t.flat≠[]
 | .n0 x=>by simp [Tr.flat]
 | .n1 x a=>by simp [Tr.flat]
 | .n2 x a b=>by simp [Tr.flat]
 | .n3 x a b c=>by simp [Tr.flat]
def surplus:List Ins→Int
 | []=>0
 | x::t=>(takes x.op:Int)-1+surplus t
theorem surplus_app:∀ (l r:List Ins),surplus (l++r)=surplus l+surplus r
 | [],r=>by simp [surplus]
 | x::l,r=>by simp only [List.cons_append,surplus,surplus_app l r];omega
theorem flat_sum:∀ {t:Tr},t.ok→surplus t.flat = -1
 | .n0 x,h=>by
  have h:takes x.op=0:=h
  simp [Tr.flat,surplus,h]
 | .n1 x a,h=>by
  obtain ⟨h1,h2⟩:=h
  simp only [Tr.flat,surplus_app,surplus,h1,flat_sum h2];decide
 | .n2 x a b,h=>by
  obtain ⟨h1,h2,h3⟩:=h
  simp only [Tr.flat,surplus_app,surplus,h1,flat_sum h2,flat_sum h3];decide
 | .n3 x a b c,h=>by
  obtain ⟨h1,h2,h3,h4⟩:=h
  simp only [Tr.flat,surplus_app,surplus,h1,flat_sum h2,flat_sum h3,flat_sum h4];decide
def Back (l:List Ins):Prop := ∀ p s:List Ins,l=p++s→p≠[]→0≤surplus s
theorem flat_back:∀ {t:Tr},t.ok→Back t.flat
 | .n0 x,h=>fun p s e hp=>by
  simp only [Tr.flat] at e
  have:s=[]:=by
   cases p with
   | nil=>exact absurd rfl hp
   | cons y p'=>simp only [List.cons_append,List.cons.injEq] at e;exact (List.append_eq_nil_iff.1 e.2.symm).2
  subst this;exact Int.le_refl _
 | .n1 x a,h=>fun p s e hp=>by
  obtain ⟨h1,h2⟩:=h
  simp only [Tr.flat] at e
  rcases List.append_eq_append_iff.1 e with ⟨q,h5,h6⟩|⟨q,h5,h6⟩
  ·have:surplus s≤0∧0≤surplus s:=by
    cases q with
    | nil=>simp only [List.nil_append] at h6;rw [← h6];simp [surplus,h1]
    | cons y q' =>
     simp only [List.cons_append,List.cons.injEq] at h6
     have:=(List.append_eq_nil_iff.1 h6.2.symm).2
     subst this;simp [surplus]
   exact this.2
  ·rw [h6,surplus_app]
   have h7:surplus [x]=0:=by simp [surplus,h1]
   have h8:=flat_back h2 p q h5 hp
   omega
 | .n2 x a b,h=>fun p s e hp=>by
  obtain ⟨h1,h2,h3⟩:=h
  simp only [Tr.flat] at e
  have hx:surplus [x]=1:=by simp [surplus,h1]
  have tail:∀ p s:List Ins,[x]=p++s→0≤surplus s:=fun p s e=>by
   cases p with
   | nil=>simp only [List.nil_append] at e;rw [← e];omega
   | cons y p'=>simp only [List.cons_append,List.cons.injEq] at e;have:=(List.append_eq_nil_iff.1 e.2.symm).2;subst this;simp [surplus]
  have anyb:∀ p s:List Ins,b.flat=p++s → -1≤surplus s:=fun p s e=>by
   by_cases hp:p=[]
   ·subst hp;rw [List.nil_append] at e;rw [← e,flat_sum h3];decide
   ·have:=flat_back h3 p s e hp;omega
  rcases List.append_eq_append_iff.1 e with ⟨q,h5,h6⟩|⟨q,h5,h6⟩
  ·rcases List.append_eq_append_iff.1 h6 with ⟨q',h7,h8⟩|⟨q',h7,h8⟩
   ·exact tail q' s h8
   ·rw [h8,surplus_app];have:=anyb q q' h7;omega
  ·rw [h6,surplus_app,surplus_app,flat_sum h3]
   have h8:=flat_back h2 p q h5 hp
   omega
 | .n3 x a b c,h=>fun p s e hp=>by
  obtain ⟨h1,h2,h3,h4⟩:=h
  simp only [Tr.flat] at e
  have hx:surplus [x]=2:=by simp [surplus,h1]
  have tail:∀ p s:List Ins,[x]=p++s→0≤surplus s:=fun p s e=>by
   cases p with
   | nil=>simp only [List.nil_append] at e;rw [← e];omega
   | cons y p'=>simp only [List.cons_append,List.cons.injEq] at e;have:=(List.append_eq_nil_iff.1 e.2.symm).2;subst this;simp [surplus]
  have any:∀ {t:Tr},t.ok→(∀ p s:List Ins,t.flat=p++s→p≠[]→0≤surplus s)→∀ p s:List Ins,t.flat=p++s → -1≤surplus s:=fun {t} ht hb p s e=>by
   by_cases hp:p=[]
   ·subst hp;rw [List.nil_append] at e;rw [← e,flat_sum ht];decide
   ·have:=hb p s e hp;omega
  rcases List.append_eq_append_iff.1 e with ⟨q,h5,h6⟩|⟨q,h5,h6⟩
  ·rcases List.append_eq_append_iff.1 h6 with ⟨q',h7,h8⟩|⟨q',h7,h8⟩
   ·rcases List.append_eq_append_iff.1 h8 with ⟨q2,h9,h10⟩|⟨q2,h9,h10⟩
    ·exact tail q2 s h10
    ·rw [h10,surplus_app];have:=any h4 (flat_back h4) q' q2 h9;omega
   ·rw [h8,surplus_app,surplus_app,flat_sum h4];have:=any h3 (flat_back h3) q q' h7;omega
  ·rw [h6,surplus_app,surplus_app,surplus_app,flat_sum h3,flat_sum h4]
   have h8:=flat_back h2 p q h5 hp
   omega
def Tr.ends (p:Nat):Tr→List Nat
 | .n0 _=>[]
 | .n1 _ a=>[p+a.flat.length-1]
 | .n2 _ a b=>[p+a.flat.length-1,p+a.flat.length+b.flat.length-1]
 | .n3 _ a b c=>[p+a.flat.length-1,p+a.flat.length+b.flat.length-1,p+a.flat.length+b.flat.length+c.flat.length-1]
def Tr.top:Tr→Ins
 | .n0 x=>x
 | .n1 x _=>x
 | .n2 x _ _=>x
 | .n3 x _ _ _=>x
theorem flat_top:∀ t:Tr,∃ l,t.flat=l++[t.top]
 | .n0 x=>⟨[],rfl⟩
 | .n1 x a=>⟨_,rfl⟩
 | .n2 x a b=>⟨a.flat++b.flat,by simp [Tr.flat,Tr.top]⟩
 | .n3 x a b c=>⟨a.flat++(b.flat++c.flat),by simp [Tr.flat,Tr.top]⟩
end Go.Lg.Fml
end
section
set_option maxHeartbeats 12800000
set_option maxRecDepth 100000
namespace Go.Lg.Fld
open Go Go.Lg
section
variable {cs:List Cp} {i:Nat} {c:Cp}
theorem cmpE_at (h:cs[i]? = some c):cmpE cs i=if c.id<1∨24<c.id∨(0<i∧c.id≤prevId cs i) then 1
  else if nmB c.nm=true then (if (cs.take i).any (fun g=>g.nm==c.nm)=true then 4 else if firstE (fldE c.fs) 0 c.fs.length=0 then layErr c.fs else 4) else 4:=by unfold cmpE;rw [h]
theorem fldE_at {fs:List Fl} {k:Nat} {f:Fl} (h:fs[k]? = some f):fldE fs k=if nmB f.nm=true then (if (fs.take k).any (fun g=>g.nm==f.nm)=true then 4 else 0) else 4:=by unfold fldE;rw [h]
theorem prev_at {p:Cp} (h:cs[i-1]? = some p):prevId cs i=p.id:=by unfold prevId;rw [h];rfl
end
theorem FieldsIn.nm {X:Nat→Option Obj} {ad:Option Addr} {fs:List Fl} (h:FieldsIn X ad fs) {k:Nat} {f:Fl} (hf:fs[k]? = some f):
  ∃ (blk off:Nat) (arr:Array Value) (el:TypeId) (fr:Nat×Nat),ad=some ⟨blk,off,none⟩∧X blk=some (.cells arr el fr)∧arr[off+k*3]? = some (.string ⟨f.nm.toArray⟩):=by
 obtain ⟨blk,off,arr,el,fr,h1,h2,h3,h4⟩:=h.rows k f.vals (by rw [dM,hf];rfl)
 exact ⟨blk,off,arr,el,fr,h1,h2,(three_at h4).1⟩
end Go.Lg.Fld
namespace Go.Proofs.YtopiioklkkiedaaGreatDoor
open Go Go.Lg Go.Lg.Fld
set_option maxRecDepth 100000
variable (X:Nat→Option Obj)
abbrev cpB (k:Nat) (c:Cp) (fad:Option Addr) (fcap:Nat):Nat×Option Box:=(k,some ⟨24,[.val (.int .i64 c.id),.val (.string ⟨c.nm.toArray⟩),.val (.slice fad c.fs.length fcap)],false⟩)
set_option maxHeartbeats 6400000 in
theorem sCheck_spec (s:Sc) (ad:Option Addr) (cap:Nat) (hin:CompsIn X ad s.cs) (hbig:s.cs.length<4611686018427387904) (hfs:∀ c∈s.cs,c.fs.length<4611686018427387904):
  PSpec Tryz.prog X 93 [Sx s.ver ad s.cs.length cap] (Ln .i64 (chkE s)):=by
 obtain ⟨ver,cs⟩:=s
 simp only at hin hbig hfs ⊢
 refine cF Tryz.func93 rfl V5 rfl rfl ?_
 intro C
 unfold chkE
 by_cases hv1:ver<1
 ·rw [if_pos (.inl hv1)]
  (refine U10 ?_;refine klt rfl rfl (cP hv1) ?_;refine U12 ?_)
  exact V6
 by_cases hv2:1073741824<ver
 ·rw [if_pos (.inr hv2)]
  (refine U10 ?_;refine klt O O (cO hv1) ?_;refine U3 ?_;refine aS O O (cP hv2) (dT O O) ?_;refine U8 ?_)
  exact V6
 rw [if_neg (show ¬(ver<1∨1073741824<ver) by omega)]
 (refine U10 ?_;refine klt O O (cO hv1) ?_;refine U3 ?_;refine aS O O (cO hv2) (dT O O) ?_;refine U10 ?_)
 refine cL (fun m σ=>∃ i:Nat,i≤cs.length∧m=cs.length-i∧(∀ j,0≤j→j<i→cmpE cs j=0)∧σ=⟨[(1,Lp 1),(3,Ln .i64 (i:Nat))],[sxB 1 ver ad cs.length cap],X⟩) cs.length
  ⟨_,Le.of VE V13 V2 V2 V0,0,by omega,by omega,fun j _ hj=>absurd hj V3,rfl⟩ ?_
 rintro m σ ⟨i,hi,rfl,hpre,rfl⟩
 by_cases hlt:i<cs.length
 ·obtain ⟨c,hc⟩:=wg hlt
  obtain ⟨blk,off,arr,el,fr,fad,fcap,rfl,hX,hsz,hcs,g1,g2,g3,hF⟩:=hin.get hc
  have hio:=wo off i 3
  have hE:=cmpE_at hc
  have hfb:=hfs c (dE hc)
  have fin:∀ e,cmpE cs i=e→e≠0→firstE (cmpE cs) 0 cs.length=e:=fun e he h0=>firstE_some hpre (Nat.zero_le _) V3 he h0
  refine U25 ?_
  refine LWP.le (σ':=⟨[(1,Lp 1),(3,Ln .i64 (i:Nat)),(4,Lp 4)],[sxB 1 ver (some ⟨blk,off,none⟩) cs.length cap,cpB 4 c fad fcap],X⟩) (Le.of V9 VE V2 V2 V0) ?_
  by_cases h1:c.id<1
  ·rw [if_pos (.inl h1)] at hE
   rw [fin 1 hE (by decide)]
   (refine rgD mixed ?_;refine U2 ?_;refine klt rfl rfl (cP h1) ?_;refine U29 ?_)
   exact V6
  by_cases h2:24<c.id
  ·rw [if_pos (.inr (.inl h2))] at hE
   rw [fin 1 hE (by decide)]
   (refine rgD mixed ?_;refine U2 ?_;refine klt O O (cO h1) ?_;refine U3 ?_;refine aS O O (cP h2) (dT O O) ?_;refine U25 ?_)
   exact V6
  by_cases hbad:0<i∧c.id≤prevId cs i
  ·obtain ⟨q,hq⟩:∃ q,cs[i-1]? = some q:=wg V3
   rw [if_pos (.inr (.inr hbad))] at hE
   rw [prev_at hq] at hbad
   rw [fin 1 hE (by decide)]
   obtain ⟨blk',off',arr',el',fr',_,_,e1,hX',_,_,g1',_,_,_⟩:=hin.get hq
   simp only [Option.some.injEq,Addr.mk.injEq] at e1
   obtain ⟨rfl,rfl,_⟩:=e1
   rw [hX] at hX'
   simp only [Option.some.injEq,Obj.cells.injEq] at hX'
   obtain ⟨rfl,rfl,rfl⟩:=hX'
   have hsub:IntKind.i64.wrap (((i:Nat):Int)-1)=((i-1:Nat):Int):=by rw [cH V3];omega
   have hio2:off+Int.toNat ((i-1:Nat):Int)*3=off+(i-1)*3:=by rw [dH]
   (refine rgD mixed ?_;refine U2 ?_;refine klt O O (cO h1) ?_;refine U3 ?_;refine aS O O (cO h2) (dT O O) ?_;refine U8 ?_;refine bA O O hsub (dT O O) ?_;refine U5 ?_;refine bD O O (cP hbad.2) (dT O O) ?_;refine U10 ?_)
   exact V6
  rw [if_neg (show ¬(c.id<1∨24<c.id∨(0<i∧c.id≤prevId cs i)) from fun h=>h.elim h1 fun h=>h.elim h2 hbad)] at hE
  refine LWP.meet0 (fun σ=>σ=⟨[(1,Lp 1),(3,Ln .i64 (i:Nat)),(4,Lp 4),(55,Lb false)],[sxB 1 ver (some ⟨blk,off,none⟩) cs.length cap,cpB 4 c fad fcap],X⟩) ?_ ?_
  ·by_cases hi0:i=0
   ·subst hi0
    (refine rgD mixed ?_;refine U2 ?_;refine klt O O (cO h1) ?_;refine U3 ?_;refine aS O O (cO h2) (dT O O) ?_;refine U19 ?_)
    exact ⟨_,Le.of V8 VE V2 V2 V0,O⟩
   ·obtain ⟨q,hq⟩:∃ q,cs[i-1]? = some q:=wg V3
    rw [prev_at hq] at hbad
    obtain ⟨blk',off',arr',el',fr',_,_,e1,hX',_,_,g1',_,_,_⟩:=hin.get hq
    simp only [Option.some.injEq,Addr.mk.injEq] at e1
    obtain ⟨rfl,rfl,_⟩:=e1
    rw [hX] at hX'
    simp only [Option.some.injEq,Obj.cells.injEq] at hX'
    obtain ⟨rfl,rfl,rfl⟩:=hX'
    have hsub:IntKind.i64.wrap (((i:Nat):Int)-1)=((i-1:Nat):Int):=by rw [cH V3];omega
    have hio2:off+Int.toNat ((i-1:Nat):Int)*3=off+(i-1)*3:=by rw [dH]
    (refine rgD mixed ?_;refine U2 ?_;refine klt O O (cO h1) ?_;refine U3 ?_;refine aS O O (cO h2) (dT O O) ?_;refine U8 ?_;refine bA O O hsub (dT O O) ?_;refine U10 ?_)
    exact ⟨_,Le.of V8 VE V2 V2 V0,O⟩
  rintro σ rfl
  have hNm:=sName_spec X c.nm
  by_cases hnm:nmB c.nm=true
  ·rw [hnm] at hNm
   rw [if_pos hnm] at hE
   refine U18 ?_
   refine cL (fun m σ=>∃ k:Nat,k≤i∧m=i-k∧(∀ (j:Nat) (y:Cp),j<k→cs[j]? = some y→(y.nm==c.nm)=false)∧σ=⟨[(1,Lp 1),(3,Ln .i64 (i:Nat)),(4,Lp 4),(5,Ln .i64 (k:Nat))],[sxB 1 ver (some ⟨blk,off,none⟩) cs.length cap,cpB 4 c fad fcap],X⟩) i
    ⟨_,Le.of V8 VE V2 V2 V0,0,by omega,by omega,fun j y hj=>absurd hj V3,rfl⟩ ?_
   rintro m σ ⟨k,hk,rfl,hpre2,rfl⟩
   by_cases hkl:k<i
   ·obtain ⟨q,hq⟩:∃ q,cs[k]? = some q:=wg V3
    obtain ⟨blk',off',arr',el',fr',_,_,e1,hX',_,_,_,g2',_,_⟩:=hin.get hq
    simp only [Option.some.injEq,Addr.mk.injEq] at e1
    obtain ⟨rfl,rfl,_⟩:=e1
    rw [hX] at hX'
    simp only [Option.some.injEq,Obj.cells.injEq] at hX'
    obtain ⟨rfl,rfl,rfl⟩:=hX'
    have hio2:=wo off k 3
    by_cases hqe:q.nm=c.nm
    ·rw [any_true hkl hq (by rw [beq_iff_eq];exact hqe),if_pos rfl] at hE
     rw [fin 4 hE (by decide)]
     (refine U12 ?_;refine rgD mixed ?_;refine U8 ?_;refine kse rfl rfl (strs_eq (r:=true) (by rw [hqe];simp)) ?_;refine U8 ?_)
     exact V6
    ·have hne:(q.nm==c.nm)=false:=cS hqe
     (refine U12 ?_;refine rgD mixed ?_;refine U8 ?_;refine kse rfl rfl (strs_eq (r:=false) hne) ?_;refine U9 ?_)
     exact ⟨_,_,by omega,Le.of V8 VE V2 V2 V0,k+1,by omega,O,(fun j y hj hy=>by
      by_cases e:j=k
      ·subst e;rw [hq] at hy;cases hy;exact hne
      ·exact hpre2 j y V3 hy),rfl⟩
   ·rw [any_false fun j y hj hy=>hpre2 j y V3 hy,if_neg VA] at hE
    refine U15 ?_
    refine cL (fun m σ=>∃ k:Nat,k≤c.fs.length∧m=c.fs.length-k∧(∀ j,0≤j→j<k→fldE c.fs j=0)∧σ=⟨[(1,Lp 1),(3,Ln .i64 (i:Nat)),(4,Lp 4),(6,Ln .i64 (k:Nat))],[sxB 1 ver (some ⟨blk,off,none⟩) cs.length cap,cpB 4 c fad fcap],X⟩) c.fs.length
     ⟨_,Le.of V8 VE V2 V2 V0,0,by omega,by omega,fun j _ hj=>absurd hj V3,rfl⟩ ?_
    rintro m σ ⟨k2,hk2,rfl,hpre3,rfl⟩
    by_cases hk2l:k2<c.fs.length
    ·obtain ⟨f,hf⟩:=wg hk2l
     obtain ⟨fb,fo,farr,fel,ffr,rfl,hFX,hFc⟩:=hF.nm hf
     have hio3:=wo fo k2 3
     have hfE:=fldE_at hf
     have hNf:=sName_spec X f.nm
     have bad:fldE c.fs k2=4→cmpE cs i=4:=fun h=>by
      rw [hE,firstE_some hpre3 (Nat.zero_le _) (by omega) h (by decide)];rfl
     by_cases hfn:nmB f.nm=true
     ·rw [hfn] at hNf
      rw [if_pos hfn] at hfE
      refine U32 ?_
      refine cL (fun m σ=>∃ k:Nat,k≤k2∧m=k2-k∧(∀ (j:Nat) (y:Fl),j<k→c.fs[j]? = some y→(y.nm==f.nm)=false)∧σ=⟨[(1,Lp 1),(3,Ln .i64 (i:Nat)),(4,Lp 4),(6,Ln .i64 (k2:Nat)),(7,Ln .i64 (k:Nat))],[sxB 1 ver (some ⟨blk,off,none⟩) cs.length cap,cpB 4 c (some ⟨fb,fo,none⟩) fcap],X⟩) k2
       ⟨_,Le.of V10 VE V2 V2 V0,0,by omega,by omega,fun j y hj=>absurd hj V3,rfl⟩ ?_
      rintro m σ ⟨k3,hk3,rfl,hpre4,rfl⟩
      by_cases hk3l:k3<k2
      ·obtain ⟨g,hg⟩:∃ g,c.fs[k3]? = some g:=wg V3
       obtain ⟨fb',fo',farr',fel',ffr',e1,hFX',hFc'⟩:=hF.nm hg
       simp only [Option.some.injEq,Addr.mk.injEq] at e1
       obtain ⟨rfl,rfl,_⟩:=e1
       rw [hFX] at hFX'
       simp only [Option.some.injEq,Obj.cells.injEq] at hFX'
       obtain ⟨rfl,rfl,rfl⟩:=hFX'
       have hio4:=wo fo k3 3
       by_cases hge:g.nm=f.nm
       ·rw [any_true hk3l hg (by rw [beq_iff_eq];exact hge),if_pos rfl] at hfE
        rw [fin 4 (bad hfE) (by decide)]
        (refine U12 ?_;refine rgD mixed ?_;refine U12 ?_;refine kse rfl rfl (strs_eq (r:=true) (by rw [hge];simp)) ?_;refine U8 ?_)
        exact V6
       ·have hne:(g.nm==f.nm)=false:=cS hge
        (refine U12 ?_;refine rgD mixed ?_;refine U12 ?_;refine kse rfl rfl (strs_eq (r:=false) hne) ?_;refine U9 ?_)
        exact ⟨_,_,by omega,Le.of V10 VE V2 V2 V0,k3+1,by omega,O,(fun j y hj hy=>by
         by_cases e:j=k3
         ·subst e;rw [hg] at hy;cases hy;exact hne
         ·exact hpre4 j y V3 hy),rfl⟩
      ·rw [any_false fun j y hj hy=>hpre4 j y V3 hy,if_neg VA] at hfE
       refine U14 ?_
       exact ⟨_,_,by omega,Le.of V8 VE V2 V2 V0,k2+1,by omega,O,(fun j h0 hj=>by
        by_cases e:j=k2
        ·rw [e];exact hfE
        ·exact hpre3 j h0 V3),rfl⟩
     ·rw [if_neg hfn] at hfE
      rw [fin 4 (bad hfE) (by decide)]
      rw [show nmB f.nm=false by simpa using hfn] at hNf
      refine U31 ?_
      exact V6
    ·rw [show firstE (fldE c.fs) 0 c.fs.length=0 from firstE_none fun j h0 hj=>hpre3 j h0 V3,if_pos rfl] at hE
     by_cases hl:layErr c.fs=0
     ·have hL:=Lay_ok X fad fcap c.fs hF hfb hl
      rw [hl] at hE
      generalize elemsAt 0 c.fs=E at *
      generalize startsAt 0 c.fs=S at *
      generalize rowSize c.fs=T at *
      (refine U15 ?_;refine bE [(1000001,501),(1000002,502)] (.tup [.one (.slc 501 0 E.length 2),Sn .i64 (T:Nat),.one (.slc 502 0 c.fs.length 1),Sn .i64 0]) [(501,some ⟨114,(elVs E).map .val,Nat.blt 0 E.length⟩),(502,some ⟨3,(ntV S).map .val,Nat.blt 0 c.fs.length⟩)] (hL) O O VC O O O O O V1D dS ?_;refine U22 ?_)
      exact ⟨_,_,by omega,Le.of VE V13 V2 V2 V0,i+1,by omega,O,(fun j h0 hj=>by
       by_cases e:j=i
       ·rw [e];exact hE
       ·exact hpre j h0 V3),rfl⟩
     ·have hL:=Lay_no X fad fcap c.fs hF hfb hl
      rw [fin _ hE hl]
      generalize layErr c.fs=e at *
      (refine U15 ?_;refine aU [] [] (hL) O O VC O O O O O V2B dS ?_;refine U22 ?_)
      exact V6
  ·rw [if_neg hnm] at hE
   rw [fin 4 hE (by decide)]
   rw [show nmB c.nm=false by simpa using hnm] at hNm
   refine U16 ?_
   exact V6
 ·rw [show firstE (cmpE cs) 0 cs.length=0 from firstE_none fun j h0 hj=>hpre j h0 V3]
  refine U16 ?_
  exact V6
end Go.Proofs.YtopiioklkkiedaaGreatDoor
end
section
set_option maxHeartbeats 12800000
set_option maxRecDepth 100000
namespace Go.Lg.Fld
open Go Go.Lg
def flV (fs:List Fl):List Value:=(fs.map Fl.vals).flatten
theorem flV_len (fs:List Fl):(flV fs).length=fs.length*3:=by
 unfold flV
 induction fs with
 | nil=>rfl
 | cons f t ih=>rw [List.map_cons,List.flatten_cons,cW,ih,dJ];simp [Fl.vals];omega
theorem flV_at:∀ {fs:List Fl} {k:Nat} {f:Fl},fs[k]? = some f→k*3+3≤(flV fs).length∧((flV fs).drop (k*3)).take 3=f.vals
 | [],k,f,h=>by simp at h
 | a::t,0,f,h=>by
  simp only [List.getElem?_cons_zero,Option.some.injEq] at h
  subst h
  refine ⟨by rw [flV_len,dJ];omega,?_⟩
  unfold flV
  rw [Nat.zero_mul,List.drop_zero,List.map_cons,List.flatten_cons,List.take_append_of_le_length (by simp [Fl.vals])]
  rfl
 | a::t,k+1,f,h=>by
  obtain ⟨h1,h2⟩:=flV_at (fs:=t) (k:=k) (f:=f) V2E
  refine ⟨by rw [flV_len] at h1 ⊢;simp;omega,?_⟩
  rw [← h2]
  unfold flV
  rw [List.map_cons,List.flatten_cons,show (k+1)*3=a.vals.length+k*3 by simp [Fl.vals];omega,List.drop_length_add_append]
theorem fields_block {Y:Nat→Option Obj} {blk:Nat} {arr:Array Value} {el:TypeId} {fr:Nat×Nat} {fs:List Fl} {sp:List Value} (hY:Y blk=some (.cells arr el fr)) (ha:arr.toList=flV fs++sp)
  (hs:∀ f∈fs,(-9223372036854775808≤f.kind∧f.kind<9223372036854775808)∧(-9223372036854775808≤f.count∧f.count<9223372036854775808)):FieldsIn Y (some ⟨blk,0,none⟩) fs:=by
 refine ⟨fun k r hr => ?_,hs⟩
 rw [dM] at hr
 cases hf:fs[k]? with
 | none=>rw [hf] at hr;cases hr
 | some f =>
  rw [hf] at hr
  simp only [Option.map_some,Option.some.injEq] at hr
  subst hr
  obtain ⟨h1,h2⟩:=flV_at hf
  refine ⟨blk,0,arr,el,fr,O,hY,?_,?_⟩
  ·rw [← Array.length_toList,ha,cW];omega
  ·rw [ha,Nat.zero_add,List.drop_append_of_le_length V3,List.take_append_of_le_length (by rw [dC];omega)];exact h2
end Go.Lg.Fld
namespace Go.Proofs.YtopiioklkkiedaaGreatDoor
open Go Go.Lg Go.Lg.Fld
set_option maxRecDepth 100000
end Go.Proofs.YtopiioklkkiedaaGreatDoor
end
section
set_option maxHeartbeats 12800000
set_option maxRecDepth 100000
namespace Go.Lg.Fld
open Go Go.Lg
def nmM (ns:List (List UInt8)):List (Value×Value):=ns.map fun l=>(.string ⟨l.toArray⟩,.agg #[])
theorem nmM_at (ns:List (List UInt8)) (l:List UInt8):At (nmM ns) (.string ⟨l.toArray⟩) (.agg #[]) (.agg #[]):=by
 by_cases h:l∈ns
 ·exact .inl (List.mem_map.2 ⟨l,h,rfl⟩)
 ·refine .inr ⟨fun p hp e => ?_,rfl⟩
  obtain ⟨l',hl',rfl⟩:=List.mem_map.1 hp
  simp only [Value.string.injEq,ByteArray.mk.injEq] at e
  exact h (by rw [show l=l' from (List.toArray_inj e.symm)];exact hl')
theorem nmM_any (ns:List (List UInt8)) (l:List UInt8) (r:Bool) (hr:ns.any (fun m=>m==l)=r):r=true↔∃ p∈nmM ns,p.1 = .string ⟨l.toArray⟩:=by
 subst hr
 rw [List.any_eq_true]
 constructor
 ·rintro ⟨m,hm,he⟩
  rw [beq_iff_eq] at he
  subst he
  exact ⟨_,List.mem_map.2 ⟨m,hm,O⟩,O⟩
 ·rintro ⟨p,hp,e⟩
  obtain ⟨l',hl',rfl⟩:=List.mem_map.1 hp
  simp only [Value.string.injEq,ByteArray.mk.injEq] at e
  exact ⟨l',hl',by rw [beq_iff_eq];exact List.toArray_inj e⟩
theorem nmM_put {ns:List (List UInt8)} {l:List UInt8} (h:ns.any (fun m=>m==l)=false):Put (nmM ns) (.string ⟨l.toArray⟩) (.agg #[]) (nmM (ns++[l])):=by
 refine .inr ⟨fun p hp e => ?_,by unfold nmM;rw [dI];rfl⟩
 obtain ⟨l',hl',rfl⟩:=List.mem_map.1 hp
 simp only [Value.string.injEq,ByteArray.mk.injEq] at e
 rw [List.any_eq_false] at h
 exact h l' hl' (by rw [beq_iff_eq];exact List.toArray_inj e)
end Go.Lg.Fld
namespace Go.Proofs.YtopiioklkkiedaaGreatDoor
open Go Go.Lg Go.Lg.Fld
set_option maxRecDepth 100000
variable (X:Nat→Option Obj)
theorem isLetter_spec (c:UInt8):PSpec Tryz.prog X 132 [Ln .u8 (c.toNat:Nat)] (Lb (letB c)):=by
 refine cF Tryz.func132 rfl V5 rfl rfl ?_
 intro C
 unfold letB
 by_cases h:97≤c.toNat
 ·rw [cP h,Bool.true_and]
  (refine U7 ?_;refine K.leq O O (cP V3) dS ?_;refine U2 ?_;refine K.leq O O (r:=decide (c.toNat≤122)) (by rw [decide_eq_decide];omega) (dT O O) ?_;refine U4 ?_)
  exact V6
 ·rw [cO h,Bool.false_and]
  refine U15 ?_
  exact V6
theorem isDigit_spec (c:UInt8):PSpec Tryz.prog X 133 [Ln .u8 (c.toNat:Nat)] (Lb (digB c)):=by
 refine cF Tryz.func133 rfl V5 rfl rfl ?_
 intro C
 unfold digB
 by_cases h:48≤c.toNat
 ·rw [cP h,Bool.true_and]
  (refine U7 ?_;refine K.leq O O (cP V3) dS ?_;refine U2 ?_;refine K.leq O O (r:=decide (c.toNat≤57)) (by rw [decide_eq_decide];omega) (dT O O) ?_;refine U4 ?_)
  exact V6
 ·rw [cO h,Bool.false_and]
  refine U15 ?_
  exact V6
theorem nmC_zero (l:List UInt8):nmC l 0=letB (l.getD 0 0):=by unfold nmC;simp
theorem nmC_more {l:List UInt8} {i:Nat} (h:nmC l 0=true):nmC l i=(letB (l.getD i 0)||digB (l.getD i 0)):=by
 unfold nmC
 by_cases e:i=0
 ·subst e
  rw [nmC_zero] at h
  rw [h];simp
 ·simp [e]
theorem pIsName (l:List UInt8) (r:Bool) (hr:nmB l=r):PSpec Tryz.prog X 99 [Ls l] (Lb r):=by
 subst hr
 refine cF Tryz.func99 rfl V5 rfl rfl ?_
 intro C
 have hlen:(⟨l.toArray⟩:ByteArray).size=l.length:=rfl
 by_cases h1:l.length<1
 ·rw [show nmB l=false by unfold nmB;rw [cO V3];rfl]
  (refine U9 ?_;refine klt rfl rfl (cP V22) ?_;refine U18 ?_)
  exact V6
 by_cases h2:12<l.length
 ·rw [show nmB l=false by unfold nmB;rw [cO (show ¬l.length≤12 by omega)];simp]
  (refine U9 ?_;refine klt O O (cO V22) ?_;refine U2 ?_;refine K.lenStr O (dT O O) ?_;refine aS O O (cP V22) (dT O O) ?_;refine U14 ?_)
  exact V6
 obtain ⟨c0,hc0⟩:∃ c,l[0]? = some c:=wg V3
 have hget0:(⟨l.toArray⟩:ByteArray)[(0:Int).toNat]? = some c0:=str_at hc0
 have hz:nmC l 0=letB c0:=by rw [nmC_zero,getD_of hc0]
 have hL:=isLetter_spec X c0
 cases h0:letB c0 with
 | false =>
  rw [nmB_false (i:=0) (by omega) (hz.trans h0)]
  rw [h0] at hL
  (refine U9 ?_;refine klt O O (cO V22) ?_;refine U2 ?_;refine K.lenStr O (dT O O) ?_;refine aS O O (cO V22) (dT O O) ?_;refine U3 ?_;refine bB O O V3 hget0 (dT O O) ?_;refine U10 ?_)
  exact V6
 | true =>
  have hz1:=hz.trans h0
  rw [h0] at hL
  (refine U9 ?_;refine klt O O (cO V22) ?_;refine U2 ?_;refine K.lenStr O (dT O O) ?_;refine aS O O (cO V22) (dT O O) ?_;refine U3 ?_;refine bB O O V3 hget0 (dT O O) ?_;refine U14 ?_)
  refine cL (fun m σ=>∃ i:Nat,i≤l.length∧m=l.length-i∧(∀ j,j<i→nmC l j=true)∧σ=⟨[(0,Ls l),(19,Ln .i64 (l.length:Nat)),(20,Ln .i64 (i:Nat))],[],X⟩) l.length
   ⟨_,Le.of V9 VC V2 V2 V2,0,by omega,by omega,fun j hj=>absurd hj V3,rfl⟩ ?_
  rintro m σ ⟨i,hi,rfl,hpre,rfl⟩
  by_cases hlt:i<l.length
  ·obtain ⟨c,hc⟩:=wg hlt
   have hN:nmC l i=(letB c||digB c):=by rw [nmC_more hz1,getD_of hc]
   have hget:(⟨l.toArray⟩:ByteArray)[(i:Int).toNat]? = some c:=str_at (by rw [dH];exact hc)
   have hA:=isLetter_spec X c
   have hB:=isDigit_spec X c
   have key:nmC l i=true→∀ j,j<i+1→nmC l j=true:=fun hok j hj=>by
    by_cases e:j=i
    ·rw [e];exact hok
    ·exact hpre j V3
   cases ha:letB c with
   | true =>
    rw [ha] at hA
    refine U35 ?_
    exact ⟨_,_,by omega,Le.of V9 VC V2 V2 V2,i+1,by omega,rfl,key (by rw [hN,ha];rfl),rfl⟩
   | false =>
    rw [ha] at hA
    cases hb:digB c with
    | true =>
     rw [hb] at hB
     (refine U24 ?_;refine bB O O V3 hget (dT O O) ?_;refine U10 ?_)
     exact ⟨_,_,by omega,Le.of V9 VC V2 V2 V2,i+1,by omega,rfl,key (by rw [hN,ha,hb];rfl),rfl⟩
    | false =>
     rw [hb] at hB
     rw [nmB_false hlt (by rw [hN,ha,hb];rfl)]
     (refine U24 ?_;refine bB O O V3 hget (dT O O) ?_;refine U10 ?_)
     exact V6
  ·rw [nmB_true V3 V3 (fun j hj=>hpre j V3)]
   refine U12 ?_
   exact V6
abbrev nmBx (k:Nat) (ns:List (List UInt8)):Nat×Option Box:=(k,some ⟨0,[],.res (mapR Tryz.prog 9 (nmM ns))⟩)
abbrev Lmp (k:Nat):LV:=.sv (.one (.mp k))
theorem take_ok (ns:List (List UInt8)) (l:List UInt8) (hl:l.length≤9223372036854775807) (h1:ns.any (fun m=>m==l)=false) (h2:nmB l=true):
  MSpec Tryz.prog X 58 [Lmp 1000000,Ls l] [nmBx 1000000 ns] (Lb true) [nmBx 1000000 (ns++[l])]:=by
 refine cG Tryz.func58 rfl V5 rfl rfl V7 rfl rfl ?_
 intro C
 have hN:=pIsName X l true h2
 have hkey:Go.keyOf Tryz.prog 9 (.string ⟨l.toArray⟩)=some (.string l):=by
  rw [WideMaps.keyOf_string_mk (by kernel_rfl) (by show l.length≤maxLen;unfold maxLen;omega)]
 (refine U9 ?_;refine K.lookupOk (et:=132) (.agg []) (v:=.agg #[]) (z:=.agg #[]) O O O V5 (KL.str V5) hkey V5 (nmM_at ns l) agg0_rel (nmM_any ns l false h1) dS ?_;refine U22 ?_;refine aT O O V2 (by exact nl0 O) dS ?_;refine K.mapPut (et:=132) (nmM (ns++[l])) O O O O V5 (KL.str V5) hkey (nmM_put h1) dS ?_;refine U6 ?_)
 exact ⟨[],⟨[_],⟨O,trivial⟩,O⟩,V1,O,O⟩
theorem take_no (ns:List (List UInt8)) (l:List UInt8) (hl:l.length≤9223372036854775807) (h:ns.any (fun m=>m==l)=true∨nmB l=false):
  MSpec Tryz.prog X 58 [Lmp 1000000,Ls l] [nmBx 1000000 ns] (Lb false) [nmBx 1000000 ns]:=by
 refine cG Tryz.func58 rfl V5 rfl rfl V7 rfl rfl ?_
 intro C
 have hkey:Go.keyOf Tryz.prog 9 (.string ⟨l.toArray⟩)=some (.string l):=by
  rw [WideMaps.keyOf_string_mk (by kernel_rfl) (by show l.length≤maxLen;unfold maxLen;omega)]
 cases h1:ns.any (fun m=>m==l) with
 | true =>
  (refine U9 ?_;refine K.lookupOk (et:=132) (.agg []) (v:=.agg #[]) (z:=.agg #[]) O O O V5 (KL.str V5) hkey V5 (nmM_at ns l) agg0_rel (nmM_any ns l true h1) dS ?_;refine U22 ?_)
  exact ⟨[],⟨[_],⟨O,trivial⟩,O⟩,V1,O,O⟩
 | false =>
  have hN:=pIsName X l false (h.resolve_left (by rw [h1];decide))
  (refine U9 ?_;refine K.lookupOk (et:=132) (.agg []) (v:=.agg #[]) (z:=.agg #[]) O O O V5 (KL.str V5) hkey V5 (nmM_at ns l) agg0_rel (nmM_any ns l false h1) dS ?_;refine U22 ?_)
  exact ⟨[],⟨[_],⟨O,trivial⟩,O⟩,V1,O,O⟩
end Go.Proofs.YtopiioklkkiedaaGreatDoor
end
section
set_option maxHeartbeats 12800000
set_option maxRecDepth 100000
namespace Go.Lg.Fld
open Go Go.Lg
def NamesC (cs:List Cp):Prop := ∀ c∈cs,c.fs.length<4611686018427387904∧c.nm.length≤9223372036854775807∧∀ f∈c.fs,f.nm.length≤9223372036854775807
theorem any_names {α:Type} (g:α→List UInt8) (l:List α) (i:Nat) (nm:List UInt8):((l.take i).map g).any (fun m=>m==nm)=(l.take i).any (fun x=>g x==nm):=by rw [List.any_map];rfl
def fldsE (fs:List Fl):Int:=if firstE (fldE fs) 0 fs.length=0 then layErr fs else 4
end Go.Lg.Fld
namespace Go.Proofs.YtopiioklkkiedaaGreatDoor
open Go Go.Lg Go.Lg.Fld
set_option maxRecDepth 100000
variable (X:Nat→Option Obj)
theorem checkFields_spec (fad:Option Addr) (fcap:Nat) (fs:List Fl) (hF:FieldsIn X fad fs) (hbig:fs.length<4611686018427387904) (hnm:∀ f∈fs,f.nm.length≤9223372036854775807) (e:Int) (he:fldsE fs=e):
  PSpec Tryz.prog X 59 [Lx fad fs.length fcap] (Ln .i64 e):=by
 subst he
 refine cF Tryz.func59 rfl V5 rfl rfl ?_
 intro C
 (refine U6 ?_;refine K.makeMap 9 O dS ?_;refine U10 ?_)
 refine cL (fun m σ=>∃ i:Nat,i≤fs.length∧m=fs.length-i∧(∀ j,0≤j→j<i→fldE fs j=0)∧σ=⟨[(0,Lx fad fs.length fcap),(3,Lmp 6),(7,Lx fad fs.length fcap),(8,Ln .i64 (fs.length:Nat)),(9,Ln .i64 (i:Nat))],[nmBx 6 ((fs.take i).map Fl.nm)],X⟩) fs.length
  ⟨_,Le.of V10 V13 V2 V2 V0,0,by omega,by omega,fun j _ hj=>absurd hj V3,rfl⟩ ?_
 rintro m σ ⟨i,hi,rfl,hpre,rfl⟩
 by_cases hlt:i<fs.length
 ·obtain ⟨f,hf⟩:=wg hlt
  obtain ⟨blk,off,arr,el,fr,rfl,hX,hsz,hcells⟩:=hF.at hf
  have hio:=wo off i 3
  have hE:=fldE_at hf
  have hnl:=hnm f (dE hf)
  have hany:=any_names Fl.nm fs i f.nm
  have hts:(fs.take (i+1)).map Fl.nm=(fs.take i).map Fl.nm++[f.nm]:=by rw [take_snoc hf,dI];rfl
  by_cases hbad:fldE fs i=0
  ·rw [hbad] at hE
   have h2:nmB f.nm=true:=by
    cases h:nmB f.nm with
    | true=>rfl
    | false=>rw [h,if_neg VA] at hE;cases hE
   rw [if_pos h2] at hE
   have h1:((fs.take i).map Fl.nm).any (fun m=>m==f.nm)=false:=by
    rw [hany]
    cases h:(fs.take i).any (fun g=>g.nm==f.nm) with
    | false=>rfl
    | true=>rw [h,if_pos rfl] at hE;cases hE
   have hT:=take_ok X ((fs.take i).map Fl.nm) f.nm hnl h1 h2
   rw [← hts] at hT
   generalize (fs.take i).map Fl.nm=ns at *
   generalize hns:(fs.take (i+1)).map Fl.nm=ns' at *
   (refine U21 ?_;refine aU [(1000000,6)] [nmBx 6 ns'] (hT) O O V17 (by exact (bT O O)) O O O O V19 dS ?_;refine U8 ?_)
   subst hns
   exact ⟨_,_,by omega,Le.of V10 V13 V2 V2 V0,i+1,by omega,O,(fun j h0 hj=>by
    by_cases e:j=i
    ·rw [e];exact hbad
    ·exact hpre j h0 V3),rfl⟩
  ·have h4:fldE fs i=4:=by
    rw [hE] at hbad ⊢
    cases h0:nmB f.nm with
    | false=>rfl
    | true =>
     rw [h0] at hbad
     cases h':(fs.take i).any (fun g=>g.nm==f.nm) with
     | true=>rfl
     | false=>rw [h'] at hbad;exact absurd rfl hbad
   have hno:((fs.take i).map Fl.nm).any (fun m=>m==f.nm)=true∨nmB f.nm=false:=by
    rw [hany]
    rw [hE] at hbad
    cases h:nmB f.nm with
    | false=>exact .inr rfl
    | true =>
     left
     rw [h,if_pos rfl] at hbad
     cases h':(fs.take i).any (fun g=>g.nm==f.nm) with
     | true=>rfl
     | false=>rw [h',if_neg VA] at hbad;exact absurd rfl hbad
   have hfin:fldsE fs=4:=by unfold fldsE;rw [firstE_some hpre (Nat.zero_le _) V3 h4 VA,if_neg VA]
   rw [hfin]
   have hT:=take_no X ((fs.take i).map Fl.nm) f.nm hnl hno
   generalize (fs.take i).map Fl.nm=ns at *
   (refine U21 ?_;refine aU [(1000000,6)] [nmBx 6 ns] (hT) O O V17 (by exact (bT O O)) O O O O V19 dS ?_;refine U8 ?_)
   exact V6
 ·have hfin:fldsE fs=layErr fs:=by unfold fldsE;rw [if_pos (firstE_none fun j h0 hj=>hpre j h0 V3)]
  rw [hfin]
  have hL:=Check_spec X fad fcap fs hF hbig
  generalize layErr fs=e at *
  refine U14 ?_
  exact V6
theorem cmpE_flds {cs:List Cp} {i:Nat} {c:Cp} (h:cs[i]? = some c):cmpE cs i=if c.id<1∨24<c.id∨(0<i∧c.id≤prevId cs i) then 1
  else if nmB c.nm=true then (if (cs.take i).any (fun g=>g.nm==c.nm)=true then 4 else fldsE c.fs) else 4:=cmpE_at h
set_option maxHeartbeats 3200000 in
theorem pCheckBig (s:Sc) (ad:Option Addr) (cap:Nat) (hin:CompsIn X ad s.cs) (hbig:s.cs.length<4611686018427387904) (hN:NamesC s.cs) (e:Int) (he:chkE s=e):PSpec Tryz.prog X 25 [Sx s.ver ad s.cs.length cap] (Ln .i64 e):=by
 subst he
 obtain ⟨ver,cs⟩:=s
 simp only at hin hbig hN ⊢
 refine cF Tryz.func25 rfl V5 rfl rfl ?_
 intro C
 unfold chkE
 by_cases hv1:ver<1
 ·rw [if_pos (.inl hv1)]
  (refine U10 ?_;refine klt rfl rfl (cP hv1) ?_;refine U12 ?_)
  exact V6
 by_cases hv2:1073741824<ver
 ·rw [if_pos (.inr hv2)]
  (refine U10 ?_;refine klt O O (cO hv1) ?_;refine U3 ?_;refine aS O O (cP hv2) (dT O O) ?_;refine U8 ?_)
  exact V6
 rw [if_neg (show ¬(ver<1∨1073741824<ver) by omega)]
 (refine U10 ?_;refine klt O O (cO hv1) ?_;refine U3 ?_;refine aS O O (cO hv2) (dT O O) ?_;refine U6 ?_;refine K.makeMap 9 O dS ?_;refine U12 ?_)
 refine cL (fun m σ=>∃ (i:Nat) (last:Int),i≤cs.length∧m=cs.length-i∧(∀ j,0≤j→j<i→cmpE cs j=0)∧(∀ x:Int,x≤last↔(x<1∨(0<i∧x≤prevId cs i)))∧σ=⟨[(3,Ln .i64 last),(4,Lmp 16),(18,Lx ad cs.length cap),(19,Ln .i64 (cs.length:Nat)),(20,Ln .i64 (i:Nat))],[nmBx 16 ((cs.take i).map Cp.nm)],X⟩) cs.length
  ⟨_,Le.of V10 V13 V2 V2 V0,0,0,by omega,by omega,fun j _ hj=>absurd hj V3,fun x=>by omega,rfl⟩ ?_
 rintro m σ ⟨i,last,hi,rfl,hpre,hlast,rfl⟩
 by_cases hlt:i<cs.length
 ·obtain ⟨c,hc⟩:=wg hlt
  obtain ⟨blk,off,arr,el,fr,fad,fcap,rfl,hX,hsz,hcs,_,_,_,hF⟩:=hin.get hc
  have hio:=wo off i 3
  have hE:=cmpE_flds hc
  obtain ⟨hfb,hnl,hfn⟩:=hN c (dE hc)
  have fin:∀ e,cmpE cs i=e→e≠0→firstE (cmpE cs) 0 cs.length=e:=fun e he h0=>firstE_some hpre (Nat.zero_le _) V3 he h0
  have hany:=any_names Cp.nm cs i c.nm
  have hts:(cs.take (i+1)).map Cp.nm=(cs.take i).map Cp.nm++[c.nm]:=by rw [take_snoc hc,dI];rfl
  refine U18 ?_
  refine LWP.le (σ':=⟨[(3,Ln .i64 last),(4,Lmp 16),(6,Lp 6),(18,Lx (some ⟨blk,off,none⟩) cs.length cap),(19,Ln .i64 (cs.length:Nat)),(20,Ln .i64 (i:Nat))],[nmBx 16 ((cs.take i).map Cp.nm),cpB 6 c fad fcap],X⟩) (Le.of V11 VE V2 V2 V0) ?_
  by_cases hq1:c.id≤last
  ·rw [if_pos (by rcases (hlast c.id).1 hq1 with h|h;exact .inl h;exact .inr (.inr h))] at hE
   rw [fin 1 hE (by decide)]
   (refine U4 ?_;refine K.leq O O (cP hq1) dS ?_;refine U12 ?_)
   exact V6
  by_cases hq2:24<c.id
  ·rw [if_pos (.inr (.inl hq2))] at hE
   rw [fin 1 hE (by decide)]
   (refine U4 ?_;refine K.leq O O (cO hq1) dS ?_;refine U3 ?_;refine aS O O (cP hq2) (dT O O) ?_;refine U8 ?_)
   exact V6
  have hq3:¬(c.id<1∨(0<i∧c.id≤prevId cs i)):=fun h=>hq1 ((hlast c.id).2 h)
  rw [if_neg (show ¬(c.id<1∨24<c.id∨(0<i∧c.id≤prevId cs i)) from fun h=>by rcases h with h|h|h;exact hq3 (.inl h);exact hq2 h;exact hq3 (.inr h))] at hE
  by_cases hno:((cs.take i).map Cp.nm).any (fun m=>m==c.nm)=true∨nmB c.nm=false
  ·have h4:cmpE cs i=4:=by
    rw [hE]
    rw [hany] at hno
    rcases hno with h|h
    ·rw [h];simp
    ·rw [h];simp
   rw [fin 4 h4 (by decide)]
   have hT:=take_no X ((cs.take i).map Cp.nm) c.nm hnl hno
   generalize (cs.take i).map Cp.nm=ns at *
   (refine U4 ?_;refine K.leq O O (cO hq1) dS ?_;refine U3 ?_;refine aS O O (cO hq2) (dT O O) ?_;refine U16 ?_;refine aU [(1000000,16)] [nmBx 16 ns] (hT) O O V17 (by exact (bT O O)) O O O O V19 dS ?_;refine U8 ?_)
   exact V6
  have h1:((cs.take i).map Cp.nm).any (fun m=>m==c.nm)=false:=by
   cases h:((cs.take i).map Cp.nm).any (fun m=>m==c.nm) with
   | false=>rfl
   | true=>exact absurd (.inl h) hno
  have h2:nmB c.nm=true:=by
   cases h:nmB c.nm with
   | true=>rfl
   | false=>exact absurd (.inr h) hno
  rw [if_pos h2,← hany,h1,if_neg (by decide)] at hE
  have hT:=take_ok X ((cs.take i).map Cp.nm) c.nm hnl h1 h2
  rw [← hts] at hT
  have hCF:=checkFields_spec X fad fcap c.fs hF hfb hfn (fldsE c.fs) rfl
  generalize (cs.take i).map Cp.nm=ns at *
  generalize hns:(cs.take (i+1)).map Cp.nm=ns' at *
  by_cases hz:fldsE c.fs=0
  ·rw [hz] at hCF hE
   (refine U4 ?_;refine K.leq O O (cO hq1) dS ?_;refine U3 ?_;refine aS O O (cO hq2) (dT O O) ?_;refine U16 ?_;refine aU [(1000000,16)] [nmBx 16 ns'] (hT) O O V17 (by exact (bT O O)) O O O O V19 dS ?_;refine U22 ?_)
   subst hns
   exact ⟨_,_,by omega,Le.of V10 V13 V2 V2 V0,i+1,c.id,by omega,O,(fun j h0 hj=>by
    by_cases e:j=i
    ·rw [e];exact hE
    ·exact hpre j h0 V3),(fun x=>by
    have hp:prevId cs (i+1)=c.id:=by unfold prevId;rw [Nat.add_sub_cancel,hc];rfl
    rw [hp];omega),rfl⟩
  ·rw [fin _ hE hz]
   have hne:(fldsE c.fs != 0)=true:=by rw [bne_iff_ne];exact hz
   generalize fldsE c.fs=e at *
   (refine U4 ?_;refine K.leq O O (cO hq1) dS ?_;refine U3 ?_;refine aS O O (cO hq2) (dT O O) ?_;refine U16 ?_;refine aU [(1000000,16)] [nmBx 16 ns'] (hT) O O V17 (by exact (bT O O)) O O O O V19 dS ?_;refine U14 ?_;refine kne O O hne ?_;refine U8 ?_)
   exact V6
 ·rw [show firstE (cmpE cs) 0 cs.length=0 from firstE_none fun j h0 hj=>hpre j h0 V3]
  refine U12 ?_
  exact V6
end Go.Proofs.YtopiioklkkiedaaGreatDoor
end
section
set_option maxHeartbeats 12800000
set_option maxRecDepth 100000
namespace Go.Lg.Fld
open Go Go.Lg
theorem fields_reads {X:Nat→Option Obj} {ad:Option Addr} {fs:List Fl} (h:FieldsIn X ad fs):ReadsX X ad (flV fs):=⟨fun j u hj=>by
 have hjl:=(wl hj)
 rw [flV_len] at hjl
 obtain ⟨f,hf⟩:∃ f,fs[j/3]? = some f:=wg V3
 obtain ⟨blk,off,arr,el,fr,rfl,hX,hsz,hcs⟩:=h.rows (j/3) f.vals (by rw [dM,hf];rfl)
 refine ⟨blk,off,arr,el,fr,O,hX,?_⟩
 obtain ⟨h1,h2⟩:=flV_at hf
 have h3:((flV fs).drop (j/3*3)).take 3=(arr.toList.drop (off+j/3*3)).take 3:=by rw [h2,hcs]
 have h4:(((flV fs).drop (j/3*3)).take 3)[j%3]? = ((arr.toList.drop (off+j/3*3)).take 3)[j%3]? := by rw [h3]
 rw [List.getElem?_take,List.getElem?_take,if_pos (Nat.mod_lt _ (by omega)),if_pos (Nat.mod_lt _ (by omega)),List.getElem?_drop,List.getElem?_drop,show j/3*3+j%3=j by omega,show off+j/3*3+j%3=off+j by omega,hj,Array.getElem?_toList] at h4
 exact h4.symm⟩
theorem flV_one (fs:List Fl):∀ u∈flV fs,u.oneCell'=true:=fun u hu=>by
 unfold flV at hu
 rw [List.mem_flatten] at hu
 obtain ⟨l,hl,hu⟩:=hu
 obtain ⟨f,_,rfl⟩:=List.mem_map.1 hl
 simp only [Fl.vals,List.mem_cons,List.not_mem_nil,or_false] at hu
 rcases hu with rfl|rfl|rfl<;>rfl
theorem FieldsIn.none {X:Nat→Option Obj} {fs:List Fl} (h:FieldsIn X none fs):fs=[]:=by
 cases hfs:fs with
 | nil=>rfl
 | cons f t =>
  obtain ⟨_,_,_,_,_,e,_⟩:=h.nm (k:=0) (f:=f) (by rw [hfs];rfl)
  cases e
end Go.Lg.Fld
namespace Go.Proofs.YtopiioklkkiedaaGreatDoor
open Go Go.Lg Go.Lg.Fld
set_option maxRecDepth 100000
abbrev SCx (c:Cp) (fad:Option Addr) (fcap:Nat):SV:=.agg [.val (.int .i64 c.id),.val (.string ⟨c.nm.toArray⟩),.val (.slice fad c.fs.length fcap)]
abbrev SC0:SV:=.agg [.val (.int .i64 0),.val (.string ⟨#[]⟩),.val (.slice none 0 0)]
abbrev SCs (c:Cp) (k:Nat):SV:=.agg [.val (.int .i64 c.id),.val (.string ⟨c.nm.toArray⟩),.slc k 0 c.fs.length 3]
abbrev fdB (k:Nat) (fs:List Fl):Nat×Option Box:=(k,some ⟨83,(flV fs).map .val,true⟩)
abbrev Lf (f:FuncId) (caps:List Value):LV:=.sv (.one (.val (.func (.func f) #[] caps.toArray)))
abbrev Fx (f:Fl):LV:=.sv (.agg (f.vals.map CV.val))
variable (X:Nat→Option Obj)
theorem idxC_spec (ad:Option Addr) (cap:Nat) (cs:List Cp) (hin:CompsIn X ad cs) (hbig:cs.length<4611686018427387904) (f:FuncId) (caps:List Value) (p:Cp→Bool)
  (hp:∀ c∈cs,∀ fad fcap,PSpec Tryz.prog X f ([Cx c fad fcap]++caps.map fun v=>.sv (.one (.val v))) (Lb (p c))):
  PSpec Tryz.prog X 129 [Lx ad cs.length cap,Lf f caps] (Ln .i64 (findI p cs)):=by
 refine cF Tryz.func129 rfl V5 rfl rfl ?_
 intro C
 refine U12 ?_
 refine cL (fun m σ=>∃ i:Nat,i≤cs.length∧m=cs.length-i∧(∀ (j:Nat) (y:Cp),j<i→cs[j]? = some y→p y=false)∧σ=⟨[(0,Lx ad cs.length cap),(1,Lf f caps),(7,Ln .i64 (cs.length:Nat)),(8,Ln .i64 (i:Nat))],[],X⟩) cs.length
  ⟨_,Le.of V8 VC V2 V2 V2,0,by omega,by omega,fun j y hj=>absurd hj V3,rfl⟩ ?_
 rintro m σ ⟨i,hi,rfl,hpre,rfl⟩
 by_cases hlt:i<cs.length
 ·obtain ⟨c,hc⟩:=wg hlt
  obtain ⟨blk,off,arr,el,fr,fad,fcap,rfl,hX,hsz,hcs,_,_,_,hF⟩:=hin.get hc
  have hio:=wo off i 3
  have hP:=hp c (dE hc) fad fcap
  cases hpc:p c with
  | true =>
   rw [hpc] at hP
   rw [findI_some hpre hc hpc]
   (refine U21 ?_;refine K.callF O O O hP dS ?_;refine U8 ?_)
   exact V6
  | false =>
   rw [hpc] at hP
   (refine U21 ?_;refine K.callF O O O hP dS ?_;refine U7 ?_)
   exact ⟨_,_,by omega,Le.of V8 VC V2 V2 V2,i+1,by omega,O,(fun j y hj hy=>by
    by_cases e:j=i
    ·subst e;rw [hc] at hy;cases hy;exact hpc
    ·exact hpre j y V3 hy),rfl⟩
 ·rw [findI_none fun j y hy=>hpre j y V2D hy]
  refine U12 ?_
  exact V6
abbrev Vp (b:Nat):LV:=.sv (.one (.val (.pointer (some ⟨b,0,none⟩))))
theorem find1_spec (c:Cp) (fad:Option Addr) (fcap:Nat) (id:Int) {b:Nat} {arr:Array Value} {el:TypeId} {fr:Nat×Nat} (hX:X b=some (.cells arr el fr)) (h0:arr[0]? = some (.int .i64 id)):
  PSpec Tryz.prog X 92 [Cx c fad fcap,Vp b] (Lb (c.id==id)):=by
 refine cF Tryz.func92 rfl V5 rfl rfl ?_
 intro C
 (refine U10 ?_;refine keq rfl rfl rfl ?_;refine U3 ?_)
 exact V6
theorem fclone_nil (cap:Nat):PSpec Tryz.prog X 98 [Lx none 0 cap] (Lx none 0 0):=by
 refine cF Tryz.func98 rfl V5 rfl rfl ?_
 intro C
 (refine U8 ?_;refine K.slcNil (r:=true) O cC (.inl ⟨O,O⟩) dS ?_;refine U7 ?_)
 exact V6
theorem fclone_some (fa:Addr) (cap:Nat) (fs:List Fl) (hF:FieldsIn X (some fa) fs) (hb:fs.length≤4398046511104):
  MSpec Tryz.prog X 98 [Lx (some fa) fs.length cap] [] (.sv (.one (.slc 1000001 0 fs.length 3))) [fdB 1000001 fs]:=by
 refine cG Tryz.func98 rfl V5 rfl rfl V7 rfl rfl ?_
 intro C
 (refine U8 ?_;refine K.slcNil (r:=false) O cC (.inl ⟨O,O⟩) dS ?_;refine U5 ?_;refine aZ (zs:=[]) (sz:=3) (e:=83) V5 O O O O O O dS<|kmv O<|K.appendX (by_:=32) (e2:=83) (news:=flV fs) (nl:=fs.length) (nc:=(flV fs).map .val) O O O O (fields_reads hF) (flV_len fs) (flV_one fs) V5 V5 V3 V3 O V3 O dS ?_;refine U3 ?_)
 exact ⟨[(1000001,7)],⟨[_],⟨O,trivial⟩,O⟩,V1,O,O⟩
theorem cclone_nil (c:Cp) (cap:Nat) (h:c.fs=[]):PSpec Tryz.prog X 57 [Cx c none cap] (.sv (SCx c none 0)):=by
 refine cF Tryz.func57 rfl V5 rfl rfl ?_
 intro C
 have hq:=fclone_nil X cap
 obtain ⟨id,nm,fs⟩:=c
 simp only at h
 subst h
 refine U19 ?_
 exact VF
theorem cclone_some (c:Cp) (fa:Addr) (cap:Nat) (hF:FieldsIn X (some fa) c.fs) (hb:c.fs.length≤4398046511104):
  MSpec Tryz.prog X 57 [Cx c (some fa) cap] [] (.sv (SCs c 1000001)) [fdB 1000001 c.fs]:=by
 refine cG Tryz.func57 rfl V5 rfl rfl V7 rfl rfl ?_
 intro C
 have hq:=fclone_some X fa cap c.fs hF hb
 (refine U9 ?_;refine bE [(1000001,20)] (.sv (.one (.slc 20 0 c.fs.length 3))) [fdB 20 c.fs] (hq) O O VC O O O O O V18 dS ?_;refine U9 ?_)
 exact ⟨[(1000001,20)],⟨[_],⟨⟨_,_,O,O,O,.inl ⟨AggT.h,O⟩⟩,trivial⟩,O⟩,V1,O,O⟩
section
variable (ver:Int) (ad:Option Addr) (cap:Nat) (cs:List Cp) (f:FuncId) (caps:List Value) (p:Cp→Bool)
theorem first_no (hin:CompsIn X ad cs) (hbig:cs.length<4611686018427387904) (hp:∀ c∈cs,∀ fad fcap,PSpec Tryz.prog X f ([Cx c fad fcap]++caps.map fun v=>.sv (.one (.val v))) (Lb (p c))) (hno:findI p cs = -1):
  PSpec Tryz.prog X 91 [Sx ver ad cs.length cap,Lf f caps] (.tup [SC0,Sb false]):=by
 refine cF Tryz.func91 rfl V5 rfl rfl ?_
 intro C
 have hI:=idxC_spec X ad cap cs hin hbig f caps p hp
 rw [hno] at hI
 (refine U18 ?_;refine klt rfl rfl rfl ?_;refine U9 ?_)
 exact V4
theorem first_nil (hin:CompsIn X ad cs) (hbig:cs.length<4611686018427387904) (hp:∀ c∈cs,∀ fad fcap,PSpec Tryz.prog X f ([Cx c fad fcap]++caps.map fun v=>.sv (.one (.val v))) (Lb (p c)))
  {i:Nat} {c:Cp} (hpre:∀ (j:Nat) (y:Cp),j<i→cs[j]? = some y→p y=false) (hc:cs[i]? = some c) (he:p c=true)
  {blk off:Nat} {arr:Array Value} {el:TypeId} {fr:Nat×Nat} {fcap:Nat} (had:ad=some ⟨blk,off,none⟩) (hX:X blk=some (.cells arr el fr)) (hsz:off+i*3+3≤arr.size) (hcs:((arr.toList.drop (off+i*3)).take 3).map CV.val=[.val (.int .i64 c.id),.val (.string ⟨c.nm.toArray⟩),.val (.slice none c.fs.length fcap)]) (h0:c.fs=[]):
  PSpec Tryz.prog X 91 [Sx ver ad cs.length cap,Lf f caps] (.tup [SCx c none 0,Sb true]):=by
 subst had
 have hI:=idxC_spec X _ cap cs hin hbig f caps p hp
 rw [findI_some hpre hc he] at hI
 have hi:=(wl hc)
 have hio:=wo off i 3
 refine cF Tryz.func91 rfl V5 rfl rfl ?_
 intro C
 have hq:=cclone_nil X c fcap h0
 refine U34 ?_
 exact V4
theorem first_box (hin:CompsIn X ad cs) (hbig:cs.length<4611686018427387904) (hp:∀ c∈cs,∀ fad fcap,PSpec Tryz.prog X f ([Cx c fad fcap]++caps.map fun v=>.sv (.one (.val v))) (Lb (p c)))
  {i:Nat} {c:Cp} (hpre:∀ (j:Nat) (y:Cp),j<i→cs[j]? = some y→p y=false) (hc:cs[i]? = some c) (he:p c=true)
  {blk off:Nat} {arr:Array Value} {el:TypeId} {fr:Nat×Nat} {fcap:Nat} {fa:Addr} (had:ad=some ⟨blk,off,none⟩) (hX:X blk=some (.cells arr el fr)) (hsz:off+i*3+3≤arr.size) (hcs:((arr.toList.drop (off+i*3)).take 3).map CV.val=[.val (.int .i64 c.id),.val (.string ⟨c.nm.toArray⟩),.val (.slice (some fa) c.fs.length fcap)]) (hF:FieldsIn X (some fa) c.fs) (hfb:c.fs.length≤4398046511104):
  MSpec Tryz.prog X 91 [Sx ver ad cs.length cap,Lf f caps] [] (.tup [SCs c 1000001,Sb true]) [fdB 1000001 c.fs]:=by
 subst had
 have hI:=idxC_spec X _ cap cs hin hbig f caps p hp
 rw [findI_some hpre hc he] at hI
 have hi:=(wl hc)
 have hio:=wo off i 3
 refine cG Tryz.func91 rfl V5 rfl rfl V7 rfl rfl ?_
 intro C
 have hq:=cclone_some X c fa fcap hF hfb
 (refine U29 ?_;refine bE [(1000001,20)] (.sv (SCs c 20)) [fdB 20 c.fs] (hq) O O VC O O O O O V18 dS ?_;refine U4 ?_)
 exact ⟨[(1000001,20)],⟨[_,_],⟨⟨_,_,O,O,O,.inl ⟨AggT.h,O⟩⟩,O,trivial⟩,O⟩,V1,O,O⟩
end
theorem at_zero {arr:Array Value} {v:Value} (h:∃ sp,arr.toList=[v]++sp):arr[0]? = some v:=by
 obtain ⟨sp,h⟩:=h
 rw [← Array.getElem?_toList,h];rfl
theorem pFind_no (ver:Int) (ad:Option Addr) (cap:Nat) (cs:List Cp) (id:Int) (hin:CompsIn X ad cs) (hbig:cs.length<4611686018427387904) (hno:∀ (j:Nat) (y:Cp),cs[j]? = some y→(y.id==id)=false):
  PSpec Tryz.prog X 48 [Sx ver ad cs.length cap,Ln .i64 id] (.tup [SC0,Sb false]):=by
 refine cF Tryz.func48 rfl V5 rfl rfl ?_
 intro C
 refine U8 ?_
 refine LWP.le (σ':=⟨[(3,Lp 3),(2,Lp 2),(4,Lp 4)],[(3,some ⟨3,[Value.int .i64 id].map .val,false⟩),sxB 2 ver ad cs.length cap,(4,some ⟨24,[.val (.int .i64 0),.val (.string ⟨#[]⟩),.val (.slice none 0 0)],false⟩)],X⟩) (Le.of V9 V9 V2 V2 V0) ?_
 refine LWP.freezePtr V31 V31 V31 fun b arr0 fr0 hn _ h0 => ?_
 have hin':=hin.mono (cJ (o:=.cells arr0 3 fr0) hn)
 have hp:=fun (c:Cp) (_:c∈cs) (fad:Option Addr) (fcap:Nat)=>find1_spec _ c fad fcap id (cN X b (.cells arr0 3 fr0)) (at_zero h0)
 have hq:=first_no _ ver ad cap cs 92 [.pointer (some ⟨b,0,none⟩)] (fun c=>c.id==id) hin' hbig hp (findI_none hno)
 (refine U2 ?_;refine K.makeFunc O O dS ?_;refine U7 ?_)
 exact V4
theorem pFind (ver:Int) (ad:Option Addr) (cap:Nat) (cs:List Cp) (id:Int) (hin:CompsIn X ad cs) (hbig:cs.length<4611686018427387904) (hfs:∀ c∈cs,c.fs.length≤4398046511104) {i:Nat} {c:Cp} (hpre:∀ (j:Nat) (y:Cp),j<i→cs[j]? = some y→(y.id==id)=false) (hc:cs[i]? = some c) (he:c.id=id):
  (c.fs=[]∧PSpec Tryz.prog X 48 [Sx ver ad cs.length cap,Ln .i64 id] (.tup [SCx c none 0,Sb true])) ∨
   MSpec Tryz.prog X 48 [Sx ver ad cs.length cap,Ln .i64 id] [] (.tup [SCs c 1000001,Sb true]) [fdB 1000001 c.fs]:=by
 have he':(c.id==id)=true:=by rw [beq_iff_eq];exact he
 obtain ⟨blk,off,arr,el,fr,fad,fcap,rfl,hX,hsz,hcs,_,_,_,hF⟩:=hin.get hc
 cases fad with
 | none =>
  have hnil:=hF.none
  refine .inl ⟨hnil,?_⟩
  refine cF Tryz.func48 rfl V5 rfl rfl ?_
  intro C
  refine U8 ?_
  refine LWP.le (σ':=⟨[(3,Lp 3),(2,Lp 2),(4,Lp 4)],[(3,some ⟨3,[Value.int .i64 id].map .val,false⟩),sxB 2 ver (some ⟨blk,off,none⟩) cs.length cap,(4,some ⟨24,[.val (.int .i64 0),.val (.string ⟨#[]⟩),.val (.slice none 0 0)],false⟩)],X⟩) (Le.of V9 V9 V2 V2 V0) ?_
  refine LWP.freezePtr V31 V31 V31 fun b arr0 fr0 hn _ h0 => ?_
  have hin':=hin.mono (cJ (o:=.cells arr0 3 fr0) hn)
  have hp:=fun (c:Cp) (_:c∈cs) (fad:Option Addr) (fcap:Nat)=>find1_spec _ c fad fcap id (cN X b (.cells arr0 3 fr0)) (at_zero h0)
  have hq:=first_nil _ ver _ cap cs 92 [.pointer (some ⟨b,0,none⟩)] (fun c=>c.id==id) hin' hbig hp hpre hc he' rfl (cJ hn _ _ hX) hsz hcs hnil
  (refine U2 ?_;refine K.makeFunc O O dS ?_;refine U7 ?_)
  exact V4
 | some fa =>
  refine .inr ?_
  refine cG Tryz.func48 rfl V5 rfl rfl V7 rfl rfl ?_
  intro C
  refine U8 ?_
  refine LWP.le (σ':=⟨[(3,Lp 3),(2,Lp 2),(4,Lp 4)],[(3,some ⟨3,[Value.int .i64 id].map .val,false⟩),sxB 2 ver (some ⟨blk,off,none⟩) cs.length cap,(4,some ⟨24,[.val (.int .i64 0),.val (.string ⟨#[]⟩),.val (.slice none 0 0)],false⟩)],X⟩) (Le.of V9 V9 V2 V2 V0) ?_
  refine LWP.freezePtr V31 V31 V31 fun b arr0 fr0 hn _ h0 => ?_
  have hin':=hin.mono (cJ (o:=.cells arr0 3 fr0) hn)
  have hp:=fun (c:Cp) (_:c∈cs) (fad:Option Addr) (fcap:Nat)=>find1_spec _ c fad fcap id (cN X b (.cells arr0 3 fr0)) (at_zero h0)
  have hq:=first_box _ ver _ cap cs 92 [.pointer (some ⟨b,0,none⟩)] (fun c=>c.id==id) hin' hbig hp hpre hc he' rfl (cJ hn _ _ hX) hsz hcs (hF.mono (cJ hn)) (hfs c (dE hc))
  (refine U2 ?_;refine K.makeFunc O O dS ?_;refine bE [(1000001,20)] (.tup [SCs c 20,Sb true]) [fdB 20 c.fs] (hq) O O VC O O O O O V18 dS ?_;refine U6 ?_)
  exact ⟨[(1000001,20)],⟨[_,_],⟨⟨_,_,O,O,O,.inl ⟨AggT.h,O⟩⟩,O,trivial⟩,O⟩,V1,O,O⟩
end Go.Proofs.YtopiioklkkiedaaGreatDoor
end
section
set_option maxHeartbeats 12800000
set_option maxRecDepth 100000
namespace Go.Lg.Fld
open Go Go.Lg
def idsV (cs:List Cp):List Value:=cs.map fun c=>.int .i64 c.id
end Go.Lg.Fld
namespace Go.Proofs.YtopiioklkkiedaaGreatDoor
open Go Go.Lg Go.Lg.Fld
set_option maxRecDepth 100000
variable (X:Nat→Option Obj)
theorem pIds (ver:Int) (ad:Option Addr) (cap:Nat) (cs:List Cp) (hin:CompsIn X ad cs) (hS:cs.length≤65536):MSpec Tryz.prog X 87 [Sx ver ad cs.length cap] [] (.sv (.one (.slc 1000001 0 cs.length))) [(1000001,some ⟨3,(idsV cs).map .val,false⟩)]:=by
 refine cG Tryz.func87 rfl V5 rfl rfl V7 rfl rfl ?_
 intro C
 have hmk:slcBuild Tryz.prog 103 cs.length=some (List.replicate cs.length (.int .i64 0),1,3):=slcBuild_one V5 V5 V3
 (refine U10 ?_;refine K.makeSlc (m:=cs.length) (bytes:=8) O O hmk V5 V3 O O dS ?_;refine U11 ?_)
 refine cL (fun m σ=>∃ i:Nat,i≤cs.length∧m=cs.length-i∧σ=⟨[(3,.sv (.one (.slc 9 0 cs.length))),(11,Lx ad cs.length cap),(12,Ln .i64 (cs.length:Nat)),(13,Ln .i64 (i:Nat))],[(9,some ⟨3,(idsV (cs.take i)++List.replicate (cs.length-i) (Value.int .i64 0)).map .val,false⟩)],X⟩) cs.length
  ⟨_,Le.of V8 V13 V2 V2 V0,0,by omega,by omega,rfl⟩ ?_
 rintro m σ ⟨i,hi,rfl,rfl⟩
 by_cases hlt:i<cs.length
 ·obtain ⟨c,hc⟩:=wg hlt
  obtain ⟨blk,off,arr,el,fr,fad,fcap,rfl,hX,hsz,hcs,_,_,_,hF⟩:=hin.get hc
  have hio:=wo off i 3
  have hix:0+Int.toNat (i:Int)*1=i:=by rw [dH];omega
  have hil:(idsV (cs.take i)).length=i:=by unfold idsV;rw [cX,dA];omega
  have hroom:i+1≤((idsV (cs.take i)++List.replicate (cs.length-i) (Value.int .i64 0)).map CV.val).length:=by rw [cX,cW,hil,dF];omega
  have hspl:splice ((idsV (cs.take i)++List.replicate (cs.length-i) (Value.int .i64 0)).map CV.val) i [.val (.int .i64 c.id)]=(idsV (cs.take (i+1))++List.replicate (cs.length-(i+1)) (Value.int .i64 0)).map CV.val:=by
   unfold splice
   rw [show cs.length-i=(cs.length-(i+1))+1 by omega,List.replicate_succ,take_snoc hc]
   have e:idsV (cs.take i++[c])=idsV (cs.take i)++[.int .i64 c.id]:=by unfold idsV;rw [dI];rfl
   rw [e]
   simp only [dI,dN]
   have hml:((idsV (cs.take i)).map CV.val).length=i:=by rw [cX,hil]
   generalize (idsV (cs.take i)).map CV.val=R at *
   rw [← hml,List.take_left,List.drop_length_add_append]
   simp
  (refine U24 ?_;refine K.store O O O O V5 hroom hspl dS ?_;refine U5 ?_)
  exact ⟨_,_,by omega,Le.of V8 V13 V2 V2 V0,i+1,by omega,O,O⟩
 ·have e:i=cs.length:=by omega
  subst e
  rw [dG,Nat.sub_self,List.replicate_zero,dK]
  refine U13 ?_
  exact ⟨[(1000001,9)],⟨[_],⟨O,trivial⟩,O⟩,V1,O,O⟩
end Go.Proofs.YtopiioklkkiedaaGreatDoor
end
section
set_option maxHeartbeats 12800000
set_option maxRecDepth 100000
namespace Go.Lg.Fld
open Go Go.Lg
theorem joinM_has {C:Ctx} {Y H:Nat→Option Obj} (hO:OwnedM C Y H) {b:Nat} {o:Obj} (h:Y b=some o):joinM Y H b=some o:=by
 cases hb:H b with
 | none=>rw [joinM_out hb];exact h
 | some o'=>have:=(hO.own b o' hb).2.2;rw [this] at h;cases h
def idM (ns:List Int):List (Value×Value):=ns.map fun x=>(.int .i64 x,.agg #[])
theorem idM_at (ns:List Int) (x:Int):At (idM ns) (.int .i64 x) (.agg #[]) (.agg #[]):=by
 by_cases h:x∈ns
 ·exact .inl (List.mem_map.2 ⟨x,h,rfl⟩)
 ·refine .inr ⟨fun p hp e => ?_,rfl⟩
  obtain ⟨y,hy,rfl⟩:=List.mem_map.1 hp
  simp only [Value.int.injEq,true_and] at e
  exact h (e▸hy)
theorem idM_any (ns:List Int) (x:Int) (r:Bool) (hr:ns.any (fun m=>m==x)=r):r=true↔∃ p∈idM ns,p.1 = .int .i64 x:=by
 subst hr
 rw [List.any_eq_true]
 constructor
 ·rintro ⟨m,hm,he⟩
  rw [beq_iff_eq] at he
  subst he
  exact ⟨_,List.mem_map.2 ⟨m,hm,O⟩,O⟩
 ·rintro ⟨p,hp,e⟩
  obtain ⟨y,hy,rfl⟩:=List.mem_map.1 hp
  simp only [Value.int.injEq,true_and] at e
  exact ⟨y,hy,by rw [beq_iff_eq];exact e⟩
theorem idM_put {ns:List Int} {x:Int} (h:ns.any (fun m=>m==x)=false):Put (idM ns) (.int .i64 x) (.agg #[]) (idM (ns++[x])):=by
 refine .inr ⟨fun p hp e => ?_,by unfold idM;rw [dI];rfl⟩
 obtain ⟨y,hy,rfl⟩:=List.mem_map.1 hp
 simp only [Value.int.injEq,true_and] at e
 rw [List.any_eq_false] at h
 exact h y hy (by rw [beq_iff_eq];exact e)
theorem fields_none {X:Nat→Option Obj} {ad:Option Addr} {fs:List Fl} (h:fs=[]):FieldsIn X ad fs:=by
 subst h
 exact ⟨fun k r hr=>(by simp at hr),fun f hf=>(by cases hf)⟩
theorem lent_fields {S:Nat→Option (Option Box)} {Y:Nat→Option Obj} {k n:Nat} {el:TypeId} {row:Bool} {fs:List Fl} {u:Value} (hk:S k=some (some ⟨el,(flV fs).map .val,row⟩)) (hs:∀ f∈fs,(-9223372036854775808≤f.kind∧f.kind<9223372036854775808)∧(-9223372036854775808≤f.count∧f.count<9223372036854775808)) (h:LentC S Y (.slc k 0 n 3) u):
  ∃ (fa:Addr) (fcap:Nat),u = .slice (some fa) n fcap∧FieldsIn Y (some fa) fs:=by
 obtain ⟨b,blk,cap2,m,hk',rfl,hc,hfit,hB⟩:=h
 rw [hk] at hk'
 simp only [Option.some.injEq] at hk'
 subst hk'
 obtain ⟨arr,fr,us',sp,hYb,hsz,harr,hv⟩:=hB
 have:=hv _ rfl
 subst this
 exact ⟨⟨blk,0,none⟩,cap2,O,fields_block hYb harr hs⟩
end Go.Lg.Fld
namespace Go.Proofs.YtopiioklkkiedaaGreatDoor
open Go Go.Lg Go.Lg.Fld
set_option maxRecDepth 100000
section
variable {n:Nat} {C:Ctx} {X:Nat→Option Obj} {s:List (Nat×LV)} {bx:List (Nat×Option Box)} {k:Nat}
end
variable (X:Nat→Option Obj)
theorem fit_lent {S:Nat→Option (Option Box)} {k:Nat} {fs:List Fl} {vad:Option Addr} {vcap:Nat} {ns:List (Bool×Int)} {el:TypeId} {row:Bool} {e:Int} (hs:∀ f∈fs,(-9223372036854775808≤f.kind∧f.kind<9223372036854775808)∧(-9223372036854775808≤f.count∧f.count<9223372036854775808)) (hbig:fs.length<4611686018427387904) (hns:NumsIn X vad ns)
  (hk:S k=some (some ⟨el,(flV fs).map .val,row⟩)) (he:fitErr fs ns=e):
  ∀ (Y:Nat→Option Obj) (us:List Value),(∀ b o,X b=some o→Y b=some o)→LentLs S Y [.sv (.one (.slc k 0 fs.length 3)),Lx vad ns.length vcap] us→PSpec Tryz.prog Y 65 (us.map toLV) (Ln .i64 e):=by
 intro Y us hY hL
 obtain ⟨u1,us1,rfl,h1,u2,us2,rfl,h2,rfl⟩:=hL
 have h2:u2 = .slice vad ns.length vcap:=h2
 subst h2
 obtain ⟨fa,fcap,rfl,hF⟩:=lent_fields hk hs h1
 subst he
 exact lFit_any Y (some fa) vad fcap vcap fs ns hF hbig ⟨hns.rows.mono hY,hns.in2⟩
theorem pPartBig (ver:Int) (ad vad:Option Addr) (cap vcap:Nat) (cs:List Cp) (p:Pt) (hin:CompsIn X ad cs) (hbig:cs.length<4611686018427387904) (hfs:∀ c∈cs,c.fs.length≤4398046511104) (hns:NumsIn X vad p.val) (e:Int) (he:partE cs p=e):
  PSpec Tryz.prog X 56 [Sx ver ad cs.length cap,Px p vad vcap] (Ln .i64 e):=by
 subst he
 refine cF Tryz.func56 rfl V5 rfl rfl ?_
 intro C
 unfold partE
 rcases find_cases cs p.comp with ⟨i,c,hc,he,hpre⟩|hno
 ·rw [find_at hpre hc he]
  have hfb:=hfs c (dE hc)
  rcases pFind X ver ad cap cs p.comp hin hbig hfs hpre hc he with ⟨h0,hF⟩|hF
  ·have hR:=lFit_any X none vad 0 vcap c.fs p.val (fields_none h0) V3 hns
   simp only
   generalize fitErr c.fs p.val=e at *
   refine U37 ?_
   exact V6
  ·obtain ⟨_,_,_,_,_,_,_,_,_,_,_,_,_,_,hFs⟩:=hin.get hc
   have hR:=fun (S:Nat→Option (Option Box)) (hk:S 20=some (some ⟨83,(flV c.fs).map .val,true⟩))=>fit_lent X (S:=S) (k:=20) (vcap:=vcap) hFs.small V3 hns hk rfl
   simp only
   generalize fitErr c.fs p.val=e at *
   (refine U11 ?_;refine bE [(1000001,20)] (.tup [SCs c 20,Sb true]) [fdB 20 c.fs] (hF) O O VC O O O O O V18 dS ?_;refine U21 ?_;refine K.callL [20] O O O (hR _ O) dS ?_;refine U3 ?_)
   exact V6
 ·rw [find_no hno]
  have hF:=pFind_no X ver ad cap cs p.comp hin hbig hno
  refine U31 ?_
  exact V6
abbrev idBx (k:Nat) (ns:List Int):Nat×Option Box:=(k,some ⟨0,[],.res (mapR Tryz.prog 3 (idM ns))⟩)
set_option maxHeartbeats 3200000 in
theorem pPartsBig (ver:Int) (ad pad:Option Addr) (cap pcap:Nat) (cs:List Cp) (ps:List Pt) (hin:CompsIn X ad cs) (hbig:cs.length<4611686018427387904) (hfs:∀ c∈cs,c.fs.length≤4398046511104) (hps:PartsIn X pad ps) (hpb:ps.length<4611686018427387904) (e:Int) (he:partsE cs ps=e):
  PSpec Tryz.prog X 23 [Sx ver ad cs.length cap,Lx pad ps.length pcap] (Ln .i64 e):=by
 subst he
 refine cF Tryz.func23 rfl V5 rfl rfl ?_
 intro C
 (refine U7 ?_;refine K.makeMap 3 O dS ?_;refine U10 ?_)
 refine cL (fun m σ=>∃ i:Nat,i≤ps.length∧m=ps.length-i∧(∀ j,0≤j→j<i→ptE cs ps j=0)∧σ=⟨[(2,Lp 2),(5,Lmp 11),(12,Lx pad ps.length pcap),(13,Ln .i64 (ps.length:Nat)),(14,Ln .i64 (i:Nat))],[sxB 2 ver ad cs.length cap,idBx 11 ((ps.take i).map Pt.comp)],X⟩) ps.length
  ⟨_,Le.of V10 VE V2 V2 V0,0,by omega,by omega,fun j _ hj=>absurd hj V3,rfl⟩ ?_
 rintro m σ ⟨i,hi,rfl,hpre,rfl⟩
 by_cases hlt:i<ps.length
 ·obtain ⟨p,hp⟩:=wg hlt
  obtain ⟨blk,off,arr,el,fr,vad,vcap,rfl,hX,hsz,hcs,_,_,hN⟩:=hps.get hp
  have hio:=wo off i 2
  have hE:=ptE_at (cs:=cs) hp
  have hsm:=hps.small p (dE hp)
  have hkey:Go.keyOf Tryz.prog 3 (.int .i64 p.comp)=some (.int .i64 p.comp):=by
   rw [keyOf_int (q:=.i64) (by kernel_rfl)]
   unfold mapKey
   rw [show Tryz.prog.underlying 3=some (.int .i64) by kernel_rfl]
   have hw:(Lit.int .i64 p.comp).wf=true:=by
    show (decide (IntKind.i64.min≤p.comp)&&decide (p.comp≤IntKind.i64.max))=true
    rw [show IntKind.i64.min = -9223372036854775808 from rfl,show IntKind.i64.max=9223372036854775807 from rfl,cP hsm.1,cP (show p.comp≤9223372036854775807 by omega)];rfl
   simp [hw]
  have hat:=idM_at ((ps.take i).map Pt.comp) p.comp
  have hP:=pPartBig X ver ad vad cap vcap cs p hin hbig hfs hN (partE cs p) rfl
  have hany:((ps.take i).map Pt.comp).any (fun m=>m==p.comp)=(ps.take i).any (fun g=>g.comp==p.comp):=by rw [List.any_map];rfl
  have hts:(ps.take (i+1)).map Pt.comp=(ps.take i).map Pt.comp++[p.comp]:=by rw [take_snoc hp,dI];rfl
  cases hin2:(ps.take i).any (fun g=>g.comp==p.comp) with
  | true =>
   rw [hin2] at hE hany
   rw [if_pos rfl] at hE
   rw [show partsE cs ps=1 from firstE_some hpre (Nat.zero_le _) (by omega) hE (by decide)]
   have hr:=idM_any _ p.comp true hany
   generalize (ps.take i).map Pt.comp=ns at *
   (refine U22 ?_;refine K.lookupOk (et:=132) (.agg []) (v:=.agg #[]) (z:=.agg #[]) O O O V5 (KL.int (q:=.i64) V5) hkey V5 hat agg0_rel hr dS ?_;refine U17 ?_)
   exact V6
  | false =>
   rw [hin2] at hE hany
   rw [if_neg (by decide)] at hE
   have hr:=idM_any _ p.comp false hany
   have hput:=idM_put hany
   rw [← hts] at hput
   generalize (ps.take i).map Pt.comp=ns at *
   generalize hns:(ps.take (i+1)).map Pt.comp=ns' at *
   by_cases he0:partE cs p=0
   ·rw [he0] at hP hE
    (refine U22 ?_;refine K.lookupOk (et:=132) (.agg []) (v:=.agg #[]) (z:=.agg #[]) O O O V5 (KL.int (q:=.i64) V5) hkey V5 hat agg0_rel hr dS ?_;refine U18 ?_;refine aT O O V2 (by exact nl0 O) dS ?_;refine K.mapPut (et:=132) (idM ns') O O O O V5 (KL.int (q:=.i64) V5) hkey hput dS ?_;refine U19 ?_)
    subst hns
    exact ⟨_,_,by omega,Le.of V10 VE V2 V2 V0,i+1,by omega,O,(fun j h0 hj=>by
     by_cases e:j=i
     ·rw [e];exact hE
     ·exact hpre j h0 V3),rfl⟩
   ·rw [show partsE cs ps=partE cs p from firstE_some hpre (Nat.zero_le _) V3 hE he0]
    have hne:(partE cs p != 0)=true:=by rw [bne_iff_ne];exact he0
    generalize partE cs p=E at *
    (refine U22 ?_;refine K.lookupOk (et:=132) (.agg []) (v:=.agg #[]) (z:=.agg #[]) O O O V5 (KL.int (q:=.i64) V5) hkey V5 hat agg0_rel hr dS ?_;refine U18 ?_;refine aT O O V2 (by exact nl0 O) dS ?_;refine K.mapPut (et:=132) (idM ns') O O O O V5 (KL.int (q:=.i64) V5) hkey hput dS ?_;refine U11 ?_;refine kne O O hne ?_;refine U8 ?_)
    exact V6
 ·rw [show partsE cs ps=0 from firstE_none fun j h0 hj=>hpre j h0 V3]
  refine U12 ?_
  exact V6
end Go.Proofs.YtopiioklkkiedaaGreatDoor
end
