/- A piece of a proof over this program: contracts of its functions, and a logic to prove them by. -/
import Derived.Test.YtopiioklkkiedaaGreatDoorW5a
section
set_option maxHeartbeats 12800000
set_option maxRecDepth 100000
namespace Go.Proofs.YtopiioklkkiedaaGreatDoor
open Go Go.Lg Go.Lg.Fld
set_option maxRecDepth 100000
theorem rows_in {Y:Nat→Option Obj} {blk:Nat} {arr:Array Value} {el:TypeId} {fr:Nat×Nat} {sz:Nat} {rows:List (List Value)} (hY:Y blk=some (.cells arr el fr)) (hl:∀ r∈rows,r.length=sz) (hsp:∃ sp,arr.toList=rows.flatten++sp):Go.Lg.RowsIn Y (some ⟨blk,0,none⟩) sz rows:=fun i r hi=>by
 obtain ⟨sp,e⟩:=hsp
 obtain ⟨h1,h2⟩:=flat_row hl (sp:=sp) hi
 refine ⟨blk,0,arr,el,fr,O,hY,?_,?_⟩
 ·rw [← Array.length_toList,e];omega
 ·rw [e,Nat.zero_add];exact h2
theorem nums_in {Y:Nat→Option Obj} {blk:Nat} {arr:Array Value} {el:TypeId} {fr:Nat×Nat} {zs:List Int} (hY:Y blk=some (.cells arr el fr)) (h:∀ z∈zs,R127 z) (hsp:∃ sp,arr.toList=nsV zs++sp):NumsIn Y (some ⟨blk,0,none⟩) (zs.map qn):=
 ⟨rows_in hY (fun r hr=>by obtain ⟨n,_,rfl⟩:=List.mem_map.1 hr;rfl) (by
  obtain ⟨sp,e⟩:=hsp
  exact ⟨sp,by rw [e,List.map_map];rfl⟩),nums_in2 h⟩
variable (X:Nat→Option Obj)
end Go.Proofs.YtopiioklkkiedaaGreatDoor
end
section
set_option maxHeartbeats 12800000
set_option maxRecDepth 100000
namespace Go.Lg.Fld
open Go Go.Lg
end Go.Lg.Fld
namespace Go.Proofs.YtopiioklkkiedaaGreatDoor
open Go Go.Lg Go.Lg.Fld
set_option maxRecDepth 100000
variable (X:Nat→Option Obj)
def cs0:List Cp:=[⟨1,[112,111,115],[⟨[120],3,1⟩,⟨[121],3,1⟩]⟩,⟨3,[116,97,103],[]⟩]
end Go.Proofs.YtopiioklkkiedaaGreatDoor
end
section
set_option maxHeartbeats 12800000
set_option maxRecDepth 100000
namespace Go.Lg.Fld
open Go Go.Lg
def Scan {α:Type} (p:α→Bool) (l:List α) (k:Nat) (v:Int):Prop:=(v = -1∧∀ (m:Nat) (y:α),k≤m→l[m]? = some y→p y=false)∨∃ (i:Nat) (c:α),v=(i:Nat)∧l[i]? = some c∧p c=true∧∀ (m:Nat) (y:α),k≤m→m<i→l[m]? = some y→p y=false
end Go.Lg.Fld
namespace Go.Proofs.YtopiioklkkiedaaGreatDoor
open Go Go.Lg Go.Lg.Fld
set_option maxRecDepth 100000
variable (X:Nat→Option Obj)
end Go.Proofs.YtopiioklkkiedaaGreatDoor
end
section
set_option maxHeartbeats 12800000
set_option maxRecDepth 100000
namespace Go.Lg.Fld
open Go Go.Lg
structure Good (cs:List Cp):Prop where
 one:∀ (i:Nat) (c:Cp),cs[i]? = some c→1≤c.id∧c.id≤24∧nmB c.nm=true∧firstE (fldE c.fs) 0 c.fs.length=0∧layErr c.fs=0
 two:∀ (i j:Nat) (c d:Cp),i<j→cs[i]? = some c→cs[j]? = some d→c.id<d.id∧c.nm≠d.nm
theorem good_of {cs:List Cp} (h:firstE (cmpE cs) 0 cs.length=0):Good cs:=by
 have h0:∀ (i:Nat) (c:Cp),cs[i]? = some c→¬(c.id<1∨24<c.id∨(0<i∧c.id≤prevId cs i))∧nmB c.nm=true∧(cs.take i).any (fun g=>g.nm==c.nm)=false∧firstE (fldE c.fs) 0 c.fs.length=0∧layErr c.fs=0:=fun i c hc=>by
  have hi:=(wl hc)
  have h1:=firstE_zero h i (Nat.zero_le _) V3
  rw [cmpE_at hc] at h1
  by_cases b1:c.id<1∨24<c.id∨(0<i∧c.id≤prevId cs i)
  ·rw [if_pos b1] at h1;cases h1
  ·rw [if_neg b1] at h1
   by_cases b2:nmB c.nm=true
   ·rw [if_pos b2] at h1
    by_cases b3:(cs.take i).any (fun g=>g.nm==c.nm)=true
    ·rw [if_pos b3] at h1;cases h1
    ·rw [if_neg b3] at h1
     by_cases b4:firstE (fldE c.fs) 0 c.fs.length=0
     ·rw [if_pos b4] at h1
      exact ⟨b1,b2,by simpa using b3,b4,h1⟩
     ·rw [if_neg b4] at h1;cases h1
   ·rw [if_neg b2] at h1;cases h1
 refine ⟨fun i c hc => ?_,fun i j c d hij hc hd=>⟨?_,fun e => ?_⟩⟩
 ·obtain ⟨h1,h2,_,h4,h5⟩:=h0 i c hc
  exact ⟨by omega,by omega,h2,h4,h5⟩
 ·obtain ⟨k,rfl⟩:∃ k,j=i+1+k:=⟨j-(i+1),by omega⟩
  induction k generalizing d with
  | zero =>
   obtain ⟨h1,_⟩:=h0 _ d hd
   have hp:cs[i+1+0-1]? = some c:=hc
   have:=prev_at hp
   omega
  | succ k ih =>
   obtain ⟨d',hd'⟩:∃ d',cs[i+1+k]? = some d':=⟨_,cY (by have:=(wl hd);omega)⟩
   have h2:=ih d' V3 hd'
   obtain ⟨h1,_⟩:=h0 _ d hd
   have hp:cs[i+1+(k+1)-1]? = some d':=hd'
   have:=prev_at hp
   omega
 ·obtain ⟨_,_,h3,_⟩:=h0 j d hd
  have:=any_true (p:=fun g:Cp=>g.nm==d.nm) hij hc (by rw [beq_iff_eq];exact e)
  rw [h3] at this;cases this
end Go.Lg.Fld
end
section
set_option maxHeartbeats 12800000
set_option maxRecDepth 100000
namespace Go.Lg.Fld
open Go Go.Lg
structure Ch where
 kind:Int
 comp:Int
 fld:List UInt8
instance:DecidableEq Ch:=fun a b=>decidable_of_iff (a.kind=b.kind∧a.comp=b.comp∧a.fld=b.fld) ⟨fun ⟨h1,h2,h3⟩=>by cases a;cases b;simp_all,fun h=>by rw [h];exact ⟨rfl,rfl,rfl⟩⟩
def fldAt (fs:List Fl) (nm:List UInt8):Option Fl:=fs.find? fun f=>f.nm==nm
def fldIx (fs:List Fl) (nm:List UInt8):Int:=findI (fun f=>f.nm==nm) fs
theorem fldIx_some {fs:List Fl} {nm:List UInt8} (h:0≤fldIx fs nm):∃ (k:Nat) (g:Fl),fs[k]? = some g∧g.nm=nm∧fldIx fs nm=(k:Nat)∧fldAt fs nm=some g∧∀ (j:Nat) (y:Fl),j<k→fs[j]? = some y→y.nm≠nm:=by
 unfold fldIx findI at h
 cases hf:fs.findIdx? (fun f=>f.nm==nm) with
 | none=>rw [hf] at h;simp only at h;omega
 | some k =>
  obtain ⟨hk,h1,h2⟩:=List.findIdx?_eq_some_iff_getElem.1 hf
  refine ⟨k,fs[k],cY hk,by simpa using h1,by unfold fldIx findI;rw [hf],?_,fun j y hj hy => ?_⟩
  ·unfold fldAt
   rw [List.find?_eq_some_iff_getElem]
   exact ⟨h1,k,hk,O,fun j hj=>by simpa using h2 j hj⟩
  ·obtain ⟨hj',e⟩:=List.getElem?_eq_some_iff.1 hy
   have:=h2 j hj
   rw [e] at this
   simpa using this
end Go.Lg.Fld
end
section
set_option maxHeartbeats 12800000
set_option maxRecDepth 100000
namespace Go.Lg.Fld
open Go Go.Lg
def Apart (fs:List Fl):Prop:=fs.Pairwise fun f g=>f.nm≠g.nm
end Go.Lg.Fld
end
section
set_option maxHeartbeats 12800000
set_option maxRecDepth 100000
namespace Go.Lg.Fld
open Go Go.Lg
def Ch.vals (x:Ch):List Value:=[.int .i64 x.kind,.int .i64 x.comp,.string ⟨x.fld.toArray⟩]
end Go.Lg.Fld
namespace Go.Proofs.YtopiioklkkiedaaGreatDoor
open Go Go.Lg Go.Lg.Fld
set_option maxRecDepth 100000
variable (X:Nat→Option Obj)
end Go.Proofs.YtopiioklkkiedaaGreatDoor
end
section
set_option maxHeartbeats 12800000
set_option maxRecDepth 100000
namespace Go.Proofs.YtopiioklkkiedaaGreatDoor
open Go Go.Lg Go.Lg.Fml
abbrev Nm:=Bool×Int
def gd (n:Nm):Bool:=formB n.1 n.2
def zz (n:Nm):Int:=zv n.1 n.2
def okI (x:Ins):Bool:=(decide (1≤x.op)&&decide (x.op≤17))&&(gd x.k&&((decide (0≤x.a)&&decide (x.a≤7))&&(decide (0≤x.b)&&decide (x.b≤7))))
theorem okI_facts {x:Ins} (h:okI x=true):(1≤x.op∧x.op≤17)∧gd x.k=true∧(0≤x.a∧x.a≤7)∧(0≤x.b∧x.b≤7):=by
 unfold okI at h
 simp only [Bool.and_eq_true,decide_eq_true_eq] at h
 exact ⟨h.1,h.2.1,h.2.2.1,h.2.2.2⟩
def chkX (l:List Ins):Int:=if 64<l.length then 5 else if dep okI 0 l=some 1 then 0 else 4
theorem chkX_zero {l:List Ins} (h:chkX l=0):l.length≤64∧dep okI 0 l=some 1:=by
 unfold chkX at h
 split at h
 ·cases h
 ·split at h
  ·rename_i h1 h2;exact ⟨by omega,h2⟩
  ·cases h
theorem dep_ok {okJ:Ins→Bool}:∀ {l:List Ins} {n m:Nat},dep okJ n l=some m→∀ x∈l,okJ x=true
 | [],_,_,_,x,hx=>by cases hx
 | y::l,n,m,h,x,hx=>by
  simp only [dep] at h
  split at h
  ·rename_i h1
   rcases List.mem_cons.1 hx with rfl|hx
   ·exact h1.1
   ·exact dep_ok h x hx
  ·cases h
theorem chkX_ok {l:List Ins} (h:chkX l=0):∀ x∈l,okI x=true:=dep_ok (chkX_zero h).2
theorem chkX_ne {l:List Ins} (h:chkX l=0):l≠[]:=fun e=>by
 have:=(chkX_zero h).2
 rw [e] at this
 cases this
def truth (b:Bool):Nm:=(false,if b then 1 else 0)
def elemX (fs:List (List Nm)) (a b:Int):Except Int Nm:=
 if a<0∨b<0 then .error 3 else match fs[a.toNat]? with
  | none=>.error 3
  | some r=>match r[b.toNat]? with
   | none=>.error 3
   | some v=>.ok v
def leafX (fs:List (List Nm)) (at_:Int) (x:Ins):Except Int Nm:=
 if x.op=1 then .ok x.k else if x.op=4 then (if at_<0 then .error 3 else .ok (false,at_)) else elemX fs x.a (if x.op=3 then at_ else x.b)
def arith (op x y:Int):Int:=if op=5 then x+y else if op=6 then x-y else if op=7 then x*y else if op=8 then x.tdiv y else x.tmod y
instance decR127 (z:Int):Decidable (R127 z):=by unfold R127;exact inferInstance
def doX (op:Int) (x y:Nm):Except Int Nm:=
 if (gd x&&gd y)=false then .error 1 else if 7<op∧zz y=0 then .error 1 else if R127 (arith op (zz x) (zz y)) then .ok (qn (arith op (zz x) (zz y))) else .error 3
def nodeX (op:Int):List Nm→Except Int Nm
 | [x]=>if gd x=false then .error 1 else if op=10 then .ok (qn (-(zz x))) else .ok (truth (decide (x=(false,0))))
 | [x,y]=>if 5≤op∧op≤9 then doX op x y
  else if op=17 then (if gd y=false then .error 1 else if y=(false,0) then .error 9 else .ok x)
  else if (gd x&&gd y)=false then .error 1
  else if op=11 then .ok (if zz y<zz x then y else x)
  else if op=12 then .ok (if zz x<zz y then y else x)
  else if op=13 then .ok (truth (decide (x=y)))
  else .ok (truth (decide (zz x<zz y)))
 | [x,y,z]=>if gd x=false then .error 1 else .ok (if x=(false,0) then z else y)
 | _=>.error 0
def oneX (fs:List (List Nm)) (at_:Int) (x:Ins) (a:List Nm):Except Int Nm:=if takes x.op=0 then leafX fs at_ x else nodeX x.op a
def lastX:Except Int (List Nm)→Except Int Nm
 | .error e=>.error e
 | .ok [v]=>if gd v=true then .ok v else .error 4
 | .ok _=>.error 4
def evX (l:List Ins) (fs:List (List Nm)) (at_:Int):Except Int Nm:=if chkX l=0 then lastX (run (oneX fs at_) l []) else .error (chkX l)
theorem evX_tree {l:List Ins} {t:Tr} {fs:List (List Nm)} {at_:Int} (h:chkX l=0) (ht:t.ok) (hl:t.flat=l):evX l fs at_=match t.ev (oneX fs at_) with | .error e=>.error e | .ok v=>if gd v=true then .ok v else .error 4:=by
 unfold evX
 rw [if_pos h,← hl,← dK t.flat,run_flat ht]
 cases t.ev (oneX fs at_) with
 | error e=>rfl
 | ok v=>rfl
def wordX (op:Int):List UInt8:=
 if op=5 then [97,100,100] else if op=6 then [115,117,98] else if op=7 then [109,117,108] else if op=8 then [113,117,111] else if op=9 then [114,101,109]
 else if op=10 then [110,101,103] else if op=11 then [108,101,97,115,116] else if op=12 then [103,114,101,97,116] else if op=13 then [115,97,109,101]
 else if op=14 then [108,101,115,115] else if op=15 then [110,111,116] else if op=16 then [112,105,99,107] else [110,101,101,100]
def usesX (l:List Ins):List Ins:=l.filter fun x=>x.op==2||x.op==3
theorem doX_bad {op:Int} {x y:Nm} (h:(gd x&&gd y)=false):doX op x y = .error 1:=if_pos h
theorem node_err {op:Int} {a:List Nm} {e:Int} (ha:a.length=1∨a.length=2∨a.length=3) (h:nodeX op a = .error e):e≠0:=by
 match a,ha with
 | [x],_ =>
  simp only [nodeX] at h
  repeat' (split at h<;>try (first|(simp only [Except.error.injEq] at h;omega)|cases h))
 | [x,y],_ =>
  simp only [nodeX,doX] at h
  repeat' (split at h<;>try (first|(simp only [Except.error.injEq] at h;omega)|cases h))
 | [x,y,z],_ =>
  simp only [nodeX] at h
  repeat' (split at h<;>try (first|(simp only [Except.error.injEq] at h;omega)|cases h))
 | [],ha=>simp at ha
 | _::_::_::_::_,ha=>simp at ha
theorem leaf_err {fs:List (List Nm)} {at_:Int} {x:Ins} {e:Int} (h:leafX fs at_ x = .error e):e≠0:=by
 simp only [leafX,elemX] at h
 repeat' (split at h<;>try (first|(simp only [Except.error.injEq] at h;omega)|cases h))
theorem one_err {fs:List (List Nm)} {at_:Int} {x:Ins} {a:List Nm} {e:Int} (ha:a.length=takes x.op) (h:oneX fs at_ x a = .error e):e≠0:=by
 unfold oneX at h
 have:=takes_le x.op
 split at h
 ·exact leaf_err h
 ·exact node_err V3 h
theorem tree_err {fs:List (List Nm)} {at_:Int}:∀ {t:Tr} {e:Int},t.ok→t.ev (oneX fs at_) = .error e→e≠0
 | .n0 x,e,ht,h=>one_err (a:=[]) (show _=takes x.op from (show takes x.op=0 from ht).symm) h
 | .n1 x a,e,ht,h=>by
  simp only [Tr.ev] at h
  cases ha:a.ev (oneX fs at_) with
  | error e'=>rw [ha] at h;simp only [Except.error.injEq] at h;subst h;exact tree_err ht.2 ha
  | ok u=>rw [ha] at h;exact one_err (a:=[u]) ht.1.symm h
 | .n2 x a b,e,ht,h=>by
  simp only [Tr.ev] at h
  cases ha:a.ev (oneX fs at_) with
  | error e'=>rw [ha] at h;simp only [Except.error.injEq] at h;subst h;exact tree_err ht.2.1 ha
  | ok u =>
   rw [ha] at h
   simp only at h
   cases hb:b.ev (oneX fs at_) with
   | error e'=>rw [hb] at h;simp only [Except.error.injEq] at h;subst h;exact tree_err ht.2.2 hb
   | ok v=>rw [hb] at h;exact one_err (a:=[u,v]) ht.1.symm h
 | .n3 x a b c,e,ht,h=>by
  simp only [Tr.ev] at h
  cases ha:a.ev (oneX fs at_) with
  | error e'=>rw [ha] at h;simp only [Except.error.injEq] at h;subst h;exact tree_err ht.2.1 ha
  | ok u =>
   rw [ha] at h
   simp only at h
   cases hb:b.ev (oneX fs at_) with
   | error e'=>rw [hb] at h;simp only [Except.error.injEq] at h;subst h;exact tree_err ht.2.2.1 hb
   | ok v =>
    rw [hb] at h
    simp only at h
    cases hc:c.ev (oneX fs at_) with
    | error e'=>rw [hc] at h;simp only [Except.error.injEq] at h;subst h;exact tree_err ht.2.2.2 hc
    | ok w=>rw [hc] at h;exact one_err (a:=[u,v,w]) ht.1.symm h
theorem evX_err {l:List Ins} {fs:List (List Nm)} {at_ e:Int} (h:evX l fs at_ = .error e):e≠0:=by
 by_cases hz:chkX l=0
 ·obtain ⟨t,ht,hl⟩:=parse (chkX_zero hz).2
  rw [evX_tree hz ht hl] at h
  cases hv:t.ev (oneX fs at_) with
  | error e'=>rw [hv] at h;simp only [Except.error.injEq] at h;subst h;exact tree_err ht hv
  | ok v =>
   rw [hv] at h
   simp only at h
   split at h
   ·cases h
   ·simp only [Except.error.injEq] at h;omega
 ·unfold evX at h
  rw [if_neg hz] at h
  simp only [Except.error.injEq] at h
  omega
end Go.Proofs.YtopiioklkkiedaaGreatDoor
end
section
set_option maxHeartbeats 12800000
set_option maxRecDepth 100000
namespace Go.Proofs.YtopiioklkkiedaaGreatDoor
open Go Go.Lg Go.Lg.Fml Go.Lg.Fld
def o8 (n:Int):UInt8:=UInt8.ofNat (n%256).toNat
def loW (n:Int):Nat:=(n%18446744073709551616).toNat
def hiW (n:Int):Nat:=(n/18446744073709551616).toNat
def sgB (b:Bool):UInt8:=if b then 1 else 0
def encI (x:Ins):List UInt8:=o8 x.op::(if x.op=1 then sgB x.k.1::(leB 8 (loW x.k.2)++leB 8 (hiW x.k.2)) else if x.op=2 then [o8 x.a,o8 x.b] else if x.op=3 then [o8 x.a] else [])
def encIs:List Ins→List UInt8
 | []=>[]
 | x::t=>encI x++encIs t
theorem encIs_app:∀ (a b:List Ins),encIs (a++b)=encIs a++encIs b
 | [],_=>rfl
 | x::t,b=>by simp only [List.cons_append,encIs,encIs_app t b,dN]
def plainI (x:Ins):Bool:=(decide (x.op=1)||decide (x.k=(false,0)))&&((decide (x.op=2)||decide (x.b=0))&&(decide (x.op=2)||(decide (x.op=3)||decide (x.a=0))))
def encX (l:List Ins):List UInt8:=o8 (l.length:Nat)::encIs l
def encErr (l:List Ins):Int:=if chkX l=0 then (if l.all plainI=true then 0 else 1) else chkX l
def encTX (l:List Ins):List UInt8:=if encErr l=0 then encX l else []
def getI:List UInt8→Option (Ins×List UInt8)
 | []=>none
 | o::r=>if o.toNat=1 then (match r with
   | []=>none
   | s::r=>if s.toNat≤1∧16≤r.length then some (⟨1,0,0,(decide (s.toNat=1),((le (r.take 8)+18446744073709551616*le ((r.drop 8).take 8):Nat):Int))⟩,r.drop 16) else none)
  else if o.toNat=2 then (match r with
   | a::b::r=>some (⟨2,(a.toNat:Nat),(b.toNat:Nat),(false,0)⟩,r)
   | _=>none)
  else if o.toNat=3 then (match r with
   | a::r=>some (⟨3,(a.toNat:Nat),0,(false,0)⟩,r)
   | _=>none)
  else some (⟨(o.toNat:Nat),0,0,(false,0)⟩,r)
def getIs:Nat→List UInt8→Option (List Ins×List UInt8)
 | 0,b=>some ([],b)
 | n+1,b=>match getI b with
  | some (x,r)=>match getIs n r with
   | some (l,r')=>some (x::l,r')
   | none=>none
  | none=>none
def decX:List UInt8→Option (List Ins)
 | []=>none
 | n::r=>match getIs n.toNat r with
  | some (l,[])=>if chkX l=0 then some l else none
  | _=>none
theorem words {n:Int} (h:In2 n):((loW n+18446744073709551616*hiW n:Nat):Int)=n∧loW n<256^8∧hiW n<256^8:=by
 have hp:(256:Nat)^8=18446744073709551616:=by decide
 unfold In2 at h
 unfold loW hiW
 omega
theorem encI_len (x:Ins):1≤(encI x).length∧(encI x).length≤18:=by
 unfold encI
 split
 ·simp only [dJ,cW,leB_length];omega
 ·split
  ·simp
  ·split<;>simp
theorem encIs_len:∀ l:List Ins,(encIs l).length≤l.length*18
 | []=>by simp [encIs]
 | x::t=>by have:=(encI_len x).2;have:=encIs_len t;simp only [encIs,cW,dJ];omega
end Go.Proofs.YtopiioklkkiedaaGreatDoor
end
section
namespace Go.Lg.Fml
def Tr.args:Tr→List Tr
 | .n0 _=>[]
 | .n1 _ a=>[a]
 | .n2 _ a b=>[a,b]
 | .n3 _ a b c=>[a,b,c]
def flatL:List Tr→List Ins
 | []=>[]
 | a::r=>a.flat++flatL r
def endsL (p:Nat):List Tr→List Nat
 | []=>[]
 | a::r=>(p+a.flat.length-1)::endsL (p+a.flat.length) r
theorem flat_args (t:Tr):t.flat=flatL t.args++[t.top]:=by
 cases t<;>simp [Tr.flat,Tr.args,flatL,Tr.top]
theorem ok_args {t:Tr} (h:t.ok):takes t.top.op=t.args.length∧∀ a∈t.args,a.ok:=by
 cases t with
 | n0 x=>exact ⟨h,fun a ha=>by cases ha⟩
 | n1 x a=>exact ⟨h.1,fun u hu=>by simp only [Tr.args,List.mem_cons,List.not_mem_nil,or_false] at hu;subst hu;exact h.2⟩
 | n2 x a b=>exact ⟨h.1,fun u hu=>by
   simp only [Tr.args,List.mem_cons,List.not_mem_nil,or_false] at hu
   rcases hu with rfl|rfl
   ·exact h.2.1
   ·exact h.2.2⟩
 | n3 x a b c=>exact ⟨h.1,fun u hu=>by
   simp only [Tr.args,List.mem_cons,List.not_mem_nil,or_false] at hu
   rcases hu with rfl|rfl|rfl
   ·exact h.2.1
   ·exact h.2.2.1
   ·exact h.2.2.2⟩
theorem args_le (t:Tr):t.args.length≤3:=by cases t<;>simp [Tr.args]
theorem flatL_app:∀ (a b:List Tr),flatL (a++b)=flatL a++flatL b
 | [],b=>rfl
 | x::a,b=>by simp only [List.cons_append,flatL,flatL_app a b,List.append_assoc]
theorem endsL_app:∀ (a b:List Tr) (p:Nat),endsL p (a++b)=endsL p a++endsL (p+(flatL a).length) b
 | [],b,p=>by simp [endsL,flatL]
 | x::a,b,p=>by simp only [List.cons_append,endsL,flatL,endsL_app a b,List.length_append];rw [Nat.add_assoc]
theorem endsL_len:∀ (us:List Tr) (p:Nat),(endsL p us).length=us.length
 | [],_=>rfl
 | a::r,p=>by simp only [endsL,List.length_cons,endsL_len r]
section
variable {V:Type} (one:Ins→List V→Except Int V)
def evL:List Tr→Except Int (List V)
 | []=>.ok []
 | a::r=>match a.ev one with
  | .error e=>.error e
  | .ok u=>match evL r with
   | .error e=>.error e
   | .ok vs=>.ok (u::vs)
variable {one}
theorem ev_args (t:Tr):t.ev one=match evL one t.args with | .error e=>.error e | .ok vs=>one t.top vs:=by
 cases t with
 | n0 x=>rfl
 | n1 x a =>
  simp only [Tr.ev,Tr.args,evL,Tr.top]
  cases a.ev one<;>rfl
 | n2 x a b =>
  simp only [Tr.ev,Tr.args,evL,Tr.top]
  cases a.ev one with
  | error e=>rfl
  | ok u=>cases b.ev one<;>rfl
 | n3 x a b c =>
  simp only [Tr.ev,Tr.args,evL,Tr.top]
  cases a.ev one with
  | error e=>rfl
  | ok u=>cases b.ev one with
   | error e=>rfl
   | ok v=>cases c.ev one<;>rfl
theorem evL_step:∀ {us:List Tr} {i:Nat} {vs:List V} {a:Tr},evL one (us.take i) = .ok vs→us[i]? = some a→evL one (us.take (i+1))=match a.ev one with | .error e=>.error e | .ok u=>.ok (vs++[u])
 | [],i,vs,a,h,ha=>by simp at ha
 | b::us,0,vs,a,h,ha=>by
  simp only [List.getElem?_cons_zero,Option.some.injEq] at ha
  subst ha
  simp only [List.take_zero,evL,Except.ok.injEq] at h
  subst h
  simp only [List.take_succ_cons,List.take_zero,evL]
  cases b.ev one<;>rfl
 | b::us,i+1,vs,a,h,ha=>by
  simp only [List.getElem?_cons_succ] at ha
  simp only [List.take_succ_cons,evL] at h ⊢
  cases hb:b.ev one with
  | error e=>rw [hb] at h;cases h
  | ok u =>
   rw [hb] at h
   simp only at h ⊢
   cases hv:evL one (us.take i) with
   | error e=>rw [hv] at h;cases h
   | ok ws =>
    rw [hv] at h
    simp only [Except.ok.injEq] at h
    subst h
    rw [evL_step hv ha]
    cases a.ev one<;>rfl
theorem evL_fail:∀ {us:List Tr} {i:Nat} {vs:List V} {a:Tr} {e:Int},evL one (us.take i) = .ok vs→us[i]? = some a→a.ev one = .error e→evL one us = .error e
 | [],i,vs,a,e,h,ha,_=>by simp at ha
 | b::us,0,vs,a,e,h,ha,he=>by
  simp only [List.getElem?_cons_zero,Option.some.injEq] at ha
  subst ha
  simp only [evL,he]
 | b::us,i+1,vs,a,e,h,ha,he=>by
  simp only [List.getElem?_cons_succ] at ha
  simp only [List.take_succ_cons,evL] at h ⊢
  cases hb:b.ev one with
  | error e=>rw [hb] at h;cases h
  | ok u =>
   rw [hb] at h
   simp only at h ⊢
   cases hv:evL one (us.take i) with
   | error e=>rw [hv] at h;cases h
   | ok ws =>
    rw [evL_fail hv ha he]
theorem evL_len:∀ {us:List Tr} {vs:List V},evL one us = .ok vs→vs.length=us.length
 | [],vs,h=>by simp only [evL,Except.ok.injEq] at h;subst h;rfl
 | b::us,vs,h=>by
  simp only [evL] at h
  cases hb:b.ev one with
  | error e=>rw [hb] at h;cases h
  | ok u =>
   rw [hb] at h
   simp only at h
   cases hv:evL one us with
   | error e=>rw [hv] at h;cases h
   | ok ws =>
    rw [hv] at h
    simp only [Except.ok.injEq] at h
    subst h
    rw [List.length_cons,List.length_cons,evL_len hv]
end
def At (l:List Ins) (p:Nat) (t:Tr):Prop := ∃ pre suf,l=pre++(t.flat++suf)∧pre.length=p
theorem At.len {l:List Ins} {p:Nat} {t:Tr} (h:At l p t):p+t.flat.length≤l.length:=by
 obtain ⟨pre,suf,rfl,rfl⟩:=h
 simp only [List.length_append];omega
theorem At.get {l:List Ins} {p:Nat} {t:Tr} (h:At l p t) {k:Nat} (hk:k<t.flat.length):l[p+k]? = t.flat[k]? := by
 obtain ⟨pre,suf,rfl,rfl⟩:=h
 rw [List.getElem?_append_right (by omega),Nat.add_sub_cancel_left,List.getElem?_append_left hk]
theorem At.top {l:List Ins} {p:Nat} {t:Tr} (h:At l p t):l[p+t.flat.length-1]? = some t.top:=by
 obtain ⟨r,hr⟩:=flat_top t
 have hl:t.flat.length=r.length+1:=by rw [hr];simp
 have:=h.get (k:=r.length) (by omega)
 rw [show p+t.flat.length-1=p+r.length by omega,this,hr,List.getElem?_append_right (Nat.le_refl _),Nat.sub_self]
 rfl
theorem At.arg {l:List Ins} {p:Nat} {t:Tr} (h:At l p t) {i:Nat} {a:Tr} (ha:t.args[i]? = some a):At l (p+(flatL (t.args.take i)).length) a∧(endsL p t.args)[i]? = some (p+(flatL (t.args.take i)).length+a.flat.length-1):=by
 have hsp:t.args=t.args.take i++a::t.args.drop (i+1):=by
  obtain ⟨hi,e⟩:=List.getElem?_eq_some_iff.1 ha
  rw [← e,List.getElem_cons_drop,List.take_append_drop]
 have hil:(t.args.take i).length=i:=by rw [List.length_take];have:=(List.getElem?_eq_some_iff.1 ha).1;omega
 refine ⟨?_,?_⟩
 ·obtain ⟨pre,suf,rfl,rfl⟩:=h
  refine ⟨pre++flatL (t.args.take i),flatL (t.args.drop (i+1))++([t.top]++suf),?_,by rw [List.length_append]⟩
  rw [flat_args t]
  conv=>lhs;rw [hsp]
  rw [flatL_app]
  simp only [flatL,List.append_assoc]
 ·conv=>lhs;rw [hsp]
  rw [endsL_app,List.getElem?_append_right (by rw [endsL_len,hil];exact Nat.le_refl _),endsL_len,hil,Nat.sub_self]
  rfl
theorem back_step {t:Tr} (ht:t.ok) {k:Nat} {x:Ins} (hx:t.flat[k]? = some x):1+surplus (t.flat.drop k)=(1+surplus (t.flat.drop (k+1)))-1+(takes x.op:Int)∧(k=0→1+surplus (t.flat.drop k)=0)∧(k≠0→1≤1+surplus (t.flat.drop k)):=by
 obtain ⟨hk,e⟩:=List.getElem?_eq_some_iff.1 hx
 have h1:t.flat.drop k=x::t.flat.drop (k+1):=by rw [List.drop_eq_getElem_cons hk,e]
 refine ⟨?_,fun h0 => ?_,fun h0 => ?_⟩
 ·rw [h1];simp only [surplus];omega
 ·subst h0;rw [List.drop_zero,flat_sum ht];decide
 ·have:=flat_back ht (t.flat.take k) (t.flat.drop k) (List.take_append_drop _ _).symm (fun h=>h0 (by have:=congrArg List.length h;rw [List.length_take,List.length_nil] at this;omega))
  omega
end Go.Lg.Fml
end
section
set_option maxHeartbeats 12800000
set_option maxRecDepth 100000
namespace Go.Proofs.YtopiioklkkiedaaGreatDoor
open Go Go.Lg Go.Lg.Fml Go.Lg.Fld
def insV (x:Ins):List Value:=[.int .i64 x.op,.int .i64 x.a,.int .i64 x.b,.bool x.k.1,.int .u64 (x.k.2/18446744073709551616),.int .u64 (x.k.2%18446744073709551616)]
def smallI (x:Ins):Prop:=(-9223372036854775808≤x.op∧x.op<9223372036854775808)∧(-9223372036854775808≤x.a∧x.a<9223372036854775808)∧(-9223372036854775808≤x.b∧x.b<9223372036854775808)∧In2 x.k.2
structure InsIn (X:Nat→Option Obj) (ad:Option Addr) (l:List Ins):Prop where
 rows:Go.Lg.RowsIn X ad 6 (l.map insV)
 small:∀ x∈l,smallI x
theorem InsIn.mono {X Y:Nat→Option Obj} (hXY:∀ b o,X b=some o→Y b=some o) {ad:Option Addr} {l:List Ins} (h:InsIn X ad l):InsIn Y ad l:=⟨h.rows.mono hXY,h.small⟩
theorem InsIn.at {X:Nat→Option Obj} {ad:Option Addr} {l:List Ins} (h:InsIn X ad l) {i:Nat} {x:Ins} (hx:l[i]? = some x):
  ∃ (blk off:Nat) (arr:Array Value) (el:TypeId) (fr:Nat×Nat),ad=some ⟨blk,off,none⟩∧X blk=some (.cells arr el fr)∧off+i*6+6≤arr.size∧((arr.toList.drop (off+i*6)).take 6).map CV.val=(insV x).map CV.val∧arr[off+i*6]? = some (.int .i64 x.op):=by
 obtain ⟨blk,off,arr,el,fr,h1,h2,h3,h4⟩:=h.rows i (insV x) (by rw [dM,hx];rfl)
 refine ⟨blk,off,arr,el,fr,h1,h2,h3,by rw [h4],?_⟩
 have h5:((arr.toList.drop (off+i*6)).take 6)[0]? = some (.int .i64 x.op):=by rw [h4];rfl
 rw [List.getElem?_take,if_pos (by decide),List.getElem?_drop,Nat.add_zero,Array.getElem?_toList] at h5
 exact h5
structure FssIn (X:Nat→Option Obj) (ad:Option Addr) (fss:List (List Nm)):Prop where
 at_:∀ (i:Nat) (r:List Nm),fss[i]? = some r→∃ (blk off:Nat) (arr:Array Value) (el:TypeId) (fr:Nat×Nat) (vad:Option Addr) (vcap:Nat),ad=some ⟨blk,off,none⟩∧X blk=some (.cells arr el fr)∧off+i*1+1≤arr.size∧arr[off+i]? = some (.slice vad r.length vcap)∧NumsIn X vad r
theorem FssIn.mono {X Y:Nat→Option Obj} (hXY:∀ b o,X b=some o→Y b=some o) {ad:Option Addr} {fss:List (List Nm)} (h:FssIn X ad fss):FssIn Y ad fss:=⟨fun i r hr=>by
 obtain ⟨blk,off,arr,el,fr,vad,vcap,h1,h2,h3,h4,h5⟩:=h.at_ i r hr
 exact ⟨blk,off,arr,el,fr,vad,vcap,h1,hXY _ _ h2,h3,h4,h5.rows.mono hXY,h5.in2⟩⟩
abbrev LIn (x:Ins):LV:=.sv (.agg ((insV x).map .val))
abbrev LEnv (fad:Option Addr) (n cap:Nat) (at_:Int):LV:=.sv (.agg [.val (.slice fad n cap),.val (.int .i64 at_)])
end Go.Proofs.YtopiioklkkiedaaGreatDoor
end
section
set_option maxHeartbeats 12800000
set_option maxRecDepth 100000
namespace Go.Proofs.YtopiioklkkiedaaGreatDoor
open Go Go.Lg Go.Lg.Fml Go.Lg.Fld
structure Rl where
 nw:Int
 old:Int
 ex:List (List Ins)
 deriving DecidableEq
structure Pg where
 va:Int
 vb:Int
 rs:List Rl
 deriving DecidableEq
def firstX:List (List Ins)→Int
 | []=>0
 | c::t=>if encErr c=0 then firstX t else encErr c
def chkR (r:Rl) (last:Int):Int:=if r.nw<1∨24<r.nw∨r.old<0∨24<r.old∨r.nw≤last then 1 else if r.old=0∧r.ex≠[] then 4 else if 8<r.ex.length then 5 else firstX r.ex
def chkRs:Int→List Rl→Int
 | _,[]=>0
 | last,r::t=>if chkR r last=0 then chkRs r.nw t else chkR r last
def verOk (n:Int):Bool:=decide (1≤n)&&decide (n≤1073741824)
def chkP (p:Pg):Int:=if (verOk p.va&&verOk p.vb)=true then chkRs 0 p.rs else 1
theorem chkR_zero {r:Rl} {last:Int} (h:chkR r last=0):(1≤r.nw∧r.nw≤24)∧(0≤r.old∧r.old≤24)∧last<r.nw∧(r.old=0→r.ex=[])∧r.ex.length≤8∧firstX r.ex=0:=by
 unfold chkR at h
 split at h
 ·cases h
 ·rename_i h1
  split at h
  ·cases h
  ·rename_i h2
   split at h
   ·cases h
   ·rename_i h3
    refine ⟨by omega,by omega,by omega,fun e => ?_,by omega,h⟩
    by_cases hx:r.ex=[]
    ·exact hx
    ·exact absurd ⟨e,hx⟩ h2
def get4 (b:List UInt8):Option (Nat×List UInt8):=if 4≤b.length then some (le (b.take 4),b.drop 4) else none
def getE (b:List UInt8):Option (List Ins×List UInt8):=match get4 b with
 | none=>none
 | some (m,r)=>if m≤r.length then (match decX (r.take m) with
  | some l=>some (l,r.drop m)
  | none=>none) else none
def getEs:Nat→List UInt8→Option (List (List Ins)×List UInt8)
 | 0,b=>some ([],b)
 | n+1,b=>match getE b with
  | some (x,r)=>match getEs n r with
   | some (l,r')=>some (x::l,r')
   | none=>none
  | none=>none
def getRl:List UInt8→Option (Rl×List UInt8)
 | n::o::m::r=>match getEs m.toNat r with
  | some (l,r')=>some (⟨(n.toNat:Nat),(o.toNat:Nat),l⟩,r')
  | none=>none
 | _=>none
def getRls:Nat→List UInt8→Option (List Rl×List UInt8)
 | 0,b=>some ([],b)
 | n+1,b=>match getRl b with
  | some (x,r)=>match getRls n r with
   | some (l,r')=>some (x::l,r')
   | none=>none
  | none=>none
end Go.Proofs.YtopiioklkkiedaaGreatDoor
end
section
set_option maxHeartbeats 12800000
set_option maxRecDepth 100000
namespace Go.Lg.Fml
theorem dep_snoc {okJ:Ins→Bool} {l:List Ins} {i n:Nat} {x:Ins} (hd:dep okJ 0 (l.take i)=some n) (hx:l[i]? = some x):dep okJ 0 (l.take (i+1))=if okJ x=true∧takes x.op≤n∧n-takes x.op+1≤16 then some (n-takes x.op+1) else none:=by
 rw [Go.Lg.Fld.take_snoc hx,dep_app,hd]
 show dep okJ n [x]=_
 simp only [dep]
theorem dep_none {okJ:Ins→Bool} {l:List Ins} {i:Nat} (hd:dep okJ 0 (l.take i)=none):dep okJ 0 l=none:=by
 rw [← List.take_append_drop i l,dep_app,hd]
 rfl
theorem dep_le {okJ:Ins→Bool}:∀ {l:List Ins} {n m:Nat},n≤16→dep okJ n l=some m→m≤16
 | [],n,m,hn,h=>by simp only [dep,Option.some.injEq] at h;omega
 | x::l,n,m,hn,h=>by
  simp only [dep] at h
  split at h
  ·rename_i h1;exact dep_le h1.2.2 h
  ·cases h
end Go.Lg.Fml
namespace Go.Proofs.YtopiioklkkiedaaGreatDoor
open Go Go.Lg Go.Lg.Fml Go.Lg.Fld
set_option maxRecDepth 100000
variable (X:Nat→Option Obj)
instance:ArrB Tryz.prog 240 (List.replicate 18 (.int .i64 0)) 1:=⟨by kernel_rfl⟩
def tkC:List CV:=[.val (.int .i64 0),.val (.int .i64 0),.val (.int .i64 0),.val (.int .i64 0),.val (.int .i64 0),.val (.int .i64 2),.val (.int .i64 2),.val (.int .i64 2),.val (.int .i64 2),.val (.int .i64 2),.val (.int .i64 1),.val (.int .i64 2),.val (.int .i64 2),.val (.int .i64 2),.val (.int .i64 2),.val (.int .i64 1),.val (.int .i64 3),.val (.int .i64 2)]
theorem takes_at {op:Int} (h:5≤op∧op≤17):tkC[op.toNat]? = some (CV.val (.int .i64 (takes op:Nat))):=by
 rcases (show op=5∨op=6∨op=7∨op=8∨op=9∨op=10∨op=11∨op=12∨op=13∨op=14∨op=15∨op=16∨op=17 by omega) with rfl|rfl|rfl|rfl|rfl|rfl|rfl|rfl|rfl|rfl|rfl|rfl|rfl<;>rfl
theorem takes_out {op:Int} (h:op<5∨17<op):takes op=0:=by
 unfold takes
 rw [if_neg (by omega),if_neg (by omega),if_neg (by omega)]
set_option maxHeartbeats 1600000 in
theorem rTakes_spec (op:Int):PSpec Tryz.prog X 109 [Ln .i64 op] (Ln .i64 (takes op:Nat)):=by
 refine cF Tryz.func109 rfl V5 rfl rfl ?_
 intro C
 by_cases h1:op<5
 ·rw [takes_out (.inl h1)]
  (refine U8 ?_;refine klt rfl rfl (cP h1) ?_;refine U11 ?_)
  exact V6
 by_cases h2:17<op
 ·rw [takes_out (.inr h2)]
  (refine U8 ?_;refine klt O O (cO h1) ?_;refine U2 ?_;refine aS O O (cP h2) (dT O O) ?_;refine U8 ?_)
  exact V6
 have hat:=takes_at (op:=op) ⟨by omega,by omega⟩
 have hix:0+Int.toNat op*1=op.toNat:=by omega
 (refine U8 ?_;refine klt O O (cO h1) ?_;refine U2 ?_;refine aS O O (cO h2) (dT O O) ?_;refine U6 ?_;refine K.buildArr O O V2 O dS ?_;refine U6 ?_;refine K.indexArr O O V3 hix dS ?_;refine kl1 O O hat ?_;refine U3 ?_)
 exact V6
theorem chkX_bad {l:List Ins} {i n:Nat} {x:Ins} (h64:¬ 64<l.length) (hd:dep okI 0 (l.take i)=some n) (hx:l[i]? = some x) (hb:¬ (okI x=true∧takes x.op≤n∧n-takes x.op+1≤16)):chkX l=4:=by
 unfold chkX
 rw [if_neg h64,if_neg]
 rw [dep_none (i:=i+1) ((dep_snoc hd hx).trans (if_neg hb))]
 exact fun h=>by cases h
set_option maxHeartbeats 6400000 in
theorem rCheck11 (l:List Ins) (ad:Option Addr) (cap:Nat) (hin:InsIn X ad l) (hbig:l.length<4611686018427387904):PSpec Tryz.prog X 73 [Lx ad l.length cap] (Ln .i64 (chkX l)):=by
 refine cF Tryz.func73 rfl V5 rfl rfl ?_
 intro C
 by_cases hlong:64<l.length
 ·have e:chkX l=5:=if_pos hlong
  rw [e]
  refine U17 ?_
  exact V6
 refine U23 ?_
 refine cL (fun m σ=>∃ i n:Nat,i≤l.length∧m=l.length-i∧dep okI 0 (l.take i)=some n∧σ=⟨[(0,Lx ad l.length cap),(3,Ln .i64 (n:Nat)),(4,Ln .i64 (i:Nat))],[],X⟩) l.length
  ⟨⟨[(0,Lx ad l.length cap),(3,Ln .i64 (0:Nat)),(4,Ln .i64 (0:Nat))],[],X⟩,Le.of V9 VC V2 V2 V2,0,0,by omega,rfl,rfl,rfl⟩ ?_
 rintro m σ ⟨i,n,hi,rfl,hd,rfl⟩
 have hn16:=dep_le V3 hd
 by_cases hlt:i<l.length
 ·obtain ⟨x,hx⟩:=wg hlt
  obtain ⟨blk,off,arr,el,fr,rfl,hX,hsz,hcs,_⟩:=hin.at hx
  have hio:=wo off i 6
  obtain ⟨_,_,_,hk2⟩:=hin.small x (dE hx)
  have hG:=Good_spec X x.k.1 x.k.2 hk2 (gd x.k) rfl
  have hT:=rTakes_spec X x.op
  have hbad:=fun h=>chkX_bad (x:=x) hlong hd hx h
  have htk:=takes_le x.op
  by_cases c0:x.op<1
  ·rw [hbad (fun h=>by have:=(okI_facts h.1).1;omega)]
   (refine U60 ?_;refine U12 ?_)
   exact V6
  by_cases c1:17<x.op
  ·rw [hbad (fun h=>by have:=(okI_facts h.1).1;omega)]
   (refine U60 ?_;refine U12 ?_)
   exact V6
  cases hg:gd x.k with
  | false =>
   rw [hbad (fun h=>by rw [(okI_facts h.1).2.1] at hg;cases hg)]
   rw [hg] at hG
   (refine U60 ?_;refine U12 ?_)
   exact V6
  | true =>
  rw [hg] at hG
  by_cases c3:x.a<0
  ·rw [hbad (fun h=>by have:=(okI_facts h.1).2.2.1;omega)]
   (refine U41 ?_;refine bK O O (cP V3) (dT O O) ?_;refine U30 ?_)
   exact V6
  by_cases c4:7<x.a
  ·rw [hbad (fun h=>by have:=(okI_facts h.1).2.2.1;omega)]
   ((refine U37 ?_);(refine U35 ?_))
   exact V6
  by_cases c5:x.b<0
  ·rw [hbad (fun h=>by have:=(okI_facts h.1).2.2.2;omega)]
   ((refine U37 ?_);(refine U14 ?_;refine bK O O (cP V3) (dT O O) ?_;refine U20 ?_))
   exact V6
  by_cases c6:7<x.b
  ·rw [hbad (fun h=>by have:=(okI_facts h.1).2.2.2;omega)]
   ((refine U37 ?_);(refine U20 ?_);(refine U15 ?_))
   exact V6
  by_cases c7:n<takes x.op
  ·rw [hbad (fun h=>by have:=h.2.1;omega)]
   ((refine U37 ?_);(refine U20 ?_);(refine U6 ?_;refine bK O O (cP V3) (dT O O) ?_;refine U8 ?_))
   exact V6
  have hok:okI x=true:=by
   unfold okI
   rw [hg,cP (show 1≤x.op by omega),cP (show x.op≤17 by omega),cP (show 0≤x.a by omega),cP (show x.a≤7 by omega),cP (show 0≤x.b by omega),cP (show x.b≤7 by omega)]
   rfl
  have hsub:IntKind.i64.wrap ((n:Int)-(takes x.op:Nat))=((n-takes x.op:Nat):Int):=by rw [cH V3];omega
  have hadd:IntKind.i64.wrap (((n-takes x.op:Nat):Int)+1)=((n-takes x.op+1:Nat):Int):=by rw [cH V3];omega
  by_cases c8:16<n-takes x.op+1
  ·rw [hbad (fun h=>by have:=h.2.2;omega)]
   ((refine U37 ?_);(refine U20 ?_);(refine U32 ?_))
   exact V6
  have hadi:IntKind.i64.wrap ((i:Int)+1)=((i+1:Nat):Int):=by rw [cH V3];omega
  have hnext:=(dep_snoc hd hx).trans (if_pos ⟨hok,by omega,by omega⟩)
  ((refine U37 ?_);(refine U20 ?_);(refine U33 ?_))
  exact ⟨_,⟨[(0,Lx (some ⟨blk,off,none⟩) l.length cap),(3,Ln .i64 (n-takes x.op+1:Nat)),(4,Ln .i64 (i+1:Nat))],[],X⟩,by omega,Le.of V9 VC V2 V2 V2,i+1,_,by omega,O,hnext,O⟩
 have e:i=l.length:=by omega
 subst e
 rw [dG] at hd
 by_cases h1:n=1
 ·have e:chkX l=0:=by unfold chkX;rw [if_neg hlong,if_pos (by rw [hd,h1])]
  rw [e]
  (refine U14 ?_;refine kne rfl rfl (cT V3) ?_;refine U8 ?_)
  exact V6
 ·have e:chkX l=4:=by unfold chkX;rw [if_neg hlong,if_neg (by rw [hd];exact fun h=>h1 V2E)]
  rw [e]
  refine U22 ?_
  exact V6
end Go.Proofs.YtopiioklkkiedaaGreatDoor
end
section
namespace Go.Lg.Sg
open Go Go.Lg
def nuV (l:List Int):List Value:=l.map (Value.int .i64 ·)
def NuIn (X:Nat→Option Obj) (ad:Option Addr) (l:List Int):Prop:=RowsIn X ad 1 (l.map fun n=>[.int .i64 n])
theorem nu_at {l:List Int} {i:Nat} {x:Int} (h:l[i]? = some x):((nuV l).map CV.val)[i*1]? = some (.val (.int .i64 x)):=by
 unfold nuV
 rw [Nat.mul_one,List.getElem?_map,List.getElem?_map,h]
 rfl
abbrev nuB (k:Nat) (l:List Int):Nat×Option Box:=(k,some ⟨3,(nuV l).map .val,true⟩)
abbrev nuB' (k:Nat) (l:List Int) (r:Bool):Nat×Option Box:=(k,some ⟨3,(nuV l).map .val,r⟩)
end Go.Lg.Sg
end
section
set_option maxHeartbeats 12800000
set_option maxRecDepth 100000
namespace Go.Lg.Fml
theorem takes_sum_le:∀ (l:List Ins),-(l.length:Int)≤surplus l∧surplus l≤2*(l.length:Int)
 | []=>by simp [surplus]
 | x::l=>by
  have:=takes_le x.op
  have:=takes_sum_le l
  simp only [surplus,dJ]
  omega
theorem flat_len (t:Tr):1≤t.flat.length:=List.length_pos_iff.2 (flat_pos t)
theorem endsL_at:∀ {us:List Tr} {p i:Nat} {a:Tr},us[i]? = some a→(endsL p us)[i]? = some (p+(flatL (us.take (i+1))).length-1)
 | [],_,_,_,h=>by simp at h
 | b::us,p,0,a,h=>by simp [endsL,flatL]
 | b::us,p,i+1,a,h=>by
  rw [List.getElem?_cons_succ] at h
  rw [endsL,List.getElem?_cons_succ,endsL_at h,List.take_succ_cons,flatL,cW,Nat.add_assoc]
end Go.Lg.Fml
namespace Go.Proofs.YtopiioklkkiedaaGreatDoor
open Go Go.Lg Go.Lg.Fml Go.Lg.Fld Go.Lg.Sg
set_option maxRecDepth 100000
variable (X:Nat→Option Obj)
set_option maxHeartbeats 3200000 in
theorem rStart_spec (l:List Ins) (ad:Option Addr) (cap:Nat) (hin:InsIn X ad l) (hbig:l.length<1152921504606846976) {p:Nat} {t:Tr} (hA:At l p t) (ht:t.ok) (e:Int) (he:e=((p+t.flat.length:Nat):Int)-1):
  PSpec Tryz.prog X 151 [Lx ad l.length cap,Ln .i64 e] (Ln .i64 (p:Nat)):=by
 refine cF Tryz.func151 rfl V5 rfl rfl ?_
 intro C
 have hlen:=hA.len
 have h1:=flat_len t
 have hs0:1+surplus (t.flat.drop t.flat.length)=1:=by rw [List.drop_length];rfl
 (refine aA<|rgN<|kas O<|RunK.nil<|aA<|rgN<|kas O<|RunK.nil<|aA<|aA<|rgN<|kmv O<|kas O<|RunK.nil ?_;refine LWP.block ?_)
 refine cL (fun m σ=>∃ k:Nat,1≤k∧k≤t.flat.length∧m=k∧σ=⟨[(0,Lx ad l.length cap),(5,Ln .i64 (1+surplus (t.flat.drop k))),(6,Ln .i64 (((p+k:Nat):Int)-1))],[],X⟩) t.flat.length
  ⟨⟨[(0,Lx ad l.length cap),(5,Ln .i64 1),(6,Ln .i64 e)],[],X⟩,Le.of V9 VC V2 V2 V2,t.flat.length,h1,dO _,rfl,by rw [hs0,he]⟩ ?_
 rintro m σ ⟨k',hk1,hk,rfl,rfl⟩
 obtain ⟨k,rfl⟩:∃ k,m=k+1:=⟨m-1,by omega⟩
 obtain ⟨x,hx⟩:∃ x,t.flat[k]? = some x:=wg V3
 obtain ⟨b1,b2,b3⟩:=back_step ht hx
 have hxl:l[p+k]? = some x:=(hA.get V3).trans hx
 obtain ⟨blk,off,arr,el,fr,rfl,hX,hsz,hcs,hop⟩:=hin.at hxl
 have hT:=rTakes_spec X x.op
 have htk:=takes_le x.op
 have hs1:=takes_sum_le (t.flat.drop (k+1))
 rw [dC] at hs1
 have hio:off+Int.toNat (((p+(k+1):Nat):Int)-1)*6=off+(p+k)*6:=by
  have:Int.toNat (((p+(k+1):Nat):Int)-1)=p+k:=by omega
  rw [this]
 have hin0:0≤((p+(k+1):Nat):Int)-1∧((p+(k+1):Nat):Int)-1<(l.length:Nat):=by omega
 have hsub:IntKind.i64.wrap (1+surplus (t.flat.drop (k+1))-1)=surplus (t.flat.drop (k+1)):=by rw [cH V3];omega
 have hadd:IntKind.i64.wrap (surplus (t.flat.drop (k+1))+(takes x.op:Nat))=1+surplus (t.flat.drop k):=by rw [cH V3];omega
 by_cases h0:k=0
 ·subst h0
  have b2:=b2 rfl
  rw [b2] at hadd
  have e2:(((p+(0+1):Nat):Int)-1)=(p:Nat):=by omega
  rw [e2] at hio hin0 ⊢
  (refine aA<|aA<|rgN<|kmv O<|bD O O (cP V3) dS<|RunK.nil<|LWP.condT O ?_;refine LWP.skip ?_;refine aA<|LWP.block<|aA<|rgN<|kmv O<|bA O O hsub dS<|kmv O<|kmv O<|K.indexX O O cC hin0 hio dS<|K.fieldAddrX O O dS ?_;refine K.loadX O hX O hop dS<|kca O O (hT)<|kad O O hadd<|kas O<|RunK.nil<|aA<|rgN<|kmv O<|keq O O (r:=true) O<|RunK.nil<|LWP.condT O ?_;refine aA<|rgN<|kmv O<|kas O<|RunK.nil<|LWP.ret ?_)
  exact V6
 have b3:=b3 h0
 have hdec:IntKind.i64.wrap ((((p+(k+1):Nat):Int)-1)-1)=((p+k:Nat):Int)-1:=by rw [cH V3];omega
 (refine aA<|aA<|rgN<|kmv O<|bD O O (cP V3) dS<|RunK.nil<|LWP.condT O ?_;refine LWP.skip ?_;refine aA<|LWP.block<|aA<|rgN<|kmv O<|bA O O hsub dS<|kmv O<|kmv O<|K.indexX O O cC hin0 hio dS<|K.fieldAddrX O O dS ?_;refine K.loadX O hX O hop dS<|kca O O (hT)<|kad O O hadd<|kas O<|RunK.nil<|aA<|rgN<|kmv O<|keq O O (r:=false) (cS V3)<|RunK.nil<|LWP.condF O ?_;refine LWP.skip ?_;refine rgN<|kmv O<|bA O O hdec dS<|kas O<|RunK.nil ?_)
 exact ⟨_,⟨[(0,Lx (some ⟨blk,off,none⟩) l.length cap),(5,Ln .i64 (1+surplus (t.flat.drop k))),(6,Ln .i64 (((p+k:Nat):Int)-1))],[],X⟩,by omega,Le.of V9 VC V2 V2 V2,k,by omega,by omega,O,O⟩
def endsI (p:Nat) (us:List Tr):List Int:=(endsL p us).map fun n=>((n:Nat):Int)
theorem endsI_len (p:Nat) (us:List Tr):(endsI p us).length=us.length:=by unfold endsI;rw [cX,endsL_len]
theorem endsI_step {p:Nat} {us:List Tr} {j:Nat} {a:Tr} (h:us[j]? = some a):(endsI p us).drop j=((p+(flatL (us.take (j+1))).length-1:Nat):Int)::(endsI p us).drop (j+1):=by
 have h1:(endsI p us)[j]? = some ((p+(flatL (us.take (j+1))).length-1:Nat):Int):=by unfold endsI;rw [dM,endsL_at h];rfl
 obtain ⟨hj,e⟩:=List.getElem?_eq_some_iff.1 h1
 rw [List.drop_eq_getElem_cons hj,e]
set_option maxHeartbeats 6400000 in
theorem rBranches_spec (l:List Ins) (ad:Option Addr) (cap:Nat) (hin:InsIn X ad l) (hbig:l.length<1152921504606846976) {p:Nat} {t:Tr} (hA:At l p t) (ht:t.ok) (hpos:0<t.args.length) (e:Int) (he:e=((p+t.flat.length:Nat):Int)-1):
  MSpec Tryz.prog X 111 [Lx ad l.length cap,Ln .i64 e] [] (.sv (.one (.slc 1000001 0 (endsI p t.args).length))) [nuB 1000001 (endsI p t.args)]:=by
 refine cG Tryz.func111 rfl V5 rfl rfl V7 rfl rfl ?_
 intro C
 have hrl:∀ l:List Int,((nuV l).map CV.val).length=l.length*1:=fun l=>by unfold nuV;rw [cX,cX,Nat.mul_one]
 have hlen:=hA.len
 have h1:=flat_len t
 have hfa:=flat_args t
 have hfl:t.flat.length=(flatL t.args).length+1:=by rw [hfa];simp
 have hal:=args_le t
 obtain ⟨htop,hoks⟩:=ok_args ht
 obtain ⟨blk,off,arr,el,fr,rfl,hX,hsz,hcs,hop⟩:=hin.at hA.top
 have hT:=rTakes_spec X t.top.op
 rw [htop] at hT
 have hio:off+Int.toNat e*6=off+(p+t.flat.length-1)*6:=by
  have:Int.toNat e=p+t.flat.length-1:=by omega
  rw [this]
 have hin0:0≤e∧e<(l.length:Nat):=by omega
 have hdrop0:(endsI p t.args).drop t.args.length=[]:=List.drop_eq_nil_of_le (by rw [endsI_len];exact dO _)
 have he1:IntKind.i64.wrap (e-1)=((p+(flatL (t.args.take (t.args.length-0))).length:Nat):Int)-1:=by
  rw [Nat.sub_zero,dG,cH (by omega)];omega
 refine LWP.ends ?_
 (refine aA<|rgN<|kas O<|RunK.nil<|aA<|rgN<|aZ (zs:=[]) (sz:=1) (e:=3) V5 O O O O O O dS<|kas O<|RunK.nil<|aA<|rgN<|kmv O<|bA O O he1 dS<|kas O ?_;refine RunK.nil<|aA<|aA<|rgN<|kas O<|RunK.nil<|LWP.block ?_)
 refine cL (fun m σ=>∃ (i:Nat) (r:Bool),i≤t.args.length∧(0<i→r=true)∧m=t.args.length-i∧σ=⟨[(0,Lx (some ⟨blk,off,none⟩) l.length cap),(1,Ln .i64 e),(5,.sv (.one (.slc 500 0 ((endsI p t.args).drop (t.args.length-i)).length))),(6,Ln .i64 (((p+(flatL (t.args.take (t.args.length-i))).length:Nat):Int)-1)),(7,Ln .i64 (i:Nat))],[nuB' 500 ((endsI p t.args).drop (t.args.length-i)) r],X⟩) t.args.length
  ⟨⟨[(0,Lx (some ⟨blk,off,none⟩) l.length cap),(1,Ln .i64 e),(5,.sv (.one (.slc 500 0 ([]:List Int).length))),(6,Ln .i64 (((p+(flatL (t.args.take (t.args.length-0))).length:Nat):Int)-1)),(7,Ln .i64 (0:Nat))],[nuB' 500 [] false],X⟩,Le.ofR [(500,8)] V10 V1 V2 V2 V0 V2 V2,0,false,by omega,(fun h=>absurd h VA),rfl,by rw [Nat.sub_zero,hdrop0]⟩ ?_
 rintro m σ ⟨i,r,hi,hr,rfl,rfl⟩
 by_cases hlt:i<t.args.length
 ·obtain ⟨j,hj⟩:∃ j,t.args.length-i=j+1:=⟨t.args.length-i-1,by omega⟩
  have hj2:t.args.length-(i+1)=j:=by omega
  rw [hj]
  obtain ⟨a,ha⟩:∃ a,t.args[j]? = some a:=wg V3
  obtain ⟨hAa,_⟩:=hA.arg ha
  have hstep:=endsI_step (p:=p) ha
  have htk:t.args.take (j+1)=t.args.take j++[a]:=take_snoc ha
  have hft:(flatL (t.args.take (j+1))).length=(flatL (t.args.take j)).length+a.flat.length:=by rw [htk,flatL_app,cW];simp [flatL]
  have ha1:=flat_len a
  have hal2:=hAa.len
  have hS:=rStart_spec X l (some ⟨blk,off,none⟩) cap hin hbig hAa (hoks a (dE ha)) (((p+(flatL (t.args.take (j+1))).length:Nat):Int)-1) V3
  have hcell:(((p+(flatL (t.args.take (j+1))).length:Nat):Int)-1)=((p+(flatL (t.args.take (j+1))).length-1:Nat):Int):=by omega
  have hsub:IntKind.i64.wrap (((p+(flatL (t.args.take j)).length:Nat):Int)-1)=((p+(flatL (t.args.take j)).length:Nat):Int)-1:=by rw [cH V3]
  have hadd:IntKind.i64.wrap ((i:Int)+1)=((i+1:Nat):Int):=by rw [cH V3];omega
  rw [← hcell] at hstep
  have hElen:((endsI p t.args).drop (j+1)).length≤3:=by rw [dC,endsI_len];omega
  generalize ((p+(flatL (t.args.take (j+1))).length:Nat):Int)-1=v at *
  generalize hE:(endsI p t.args).drop (j+1)=E at *
  have hnc:[CV.val (.int .i64 v)]++(nuV E).map CV.val=(nuV (v::E)).map CV.val:=rfl
  have hnl:1+E.length=(v::E).length:=by rw [dJ,Nat.add_comm]
  have htake:((nuV E).map CV.val).take (E.length*1)=(nuV E).map CV.val:=List.take_of_length_le (by rw [hrl];exact dO _)
  have hsol:((nuV E).map CV.val).all CV.solid=true:=vals_solid (by unfold nuV;rw [List.all_map];exact List.all_eq_true.2 fun _ _=>rfl)
  (refine aA<|aA<|rgN<|kmv O<|kmv O<|kmv O<|K.indexX O O cC hin0 hio dS<|K.fieldAddrX O O dS ?_;refine K.loadX O hX O hop dS<|kca O O (hT)<|klt O O (cP V3)<|RunK.nil<|LWP.condT O ?_;refine LWP.skip ?_;refine aA<|LWP.block<|aA<|rgN<|kmv O<|aZ (zs:=[.int .i64 0]) (sz:=1) (e:=3) (cs':=[.val (.int .i64 v)]) V5 O O O O O O dS<|kmv O<|bQ (by_:=8) (e2:=3) (l2:=(nuV E).map .val) (nl:=(v::E).length) (nc:=(nuV (v::E)).map .val) O O O O O (by rw [hrl];exact dO _) htake hsol V5 V5 V3 V3 O hnl hnc dS<|kas O<|RunK.nil<|rgN<|kmv O<|kmv O<|kca O O (hS) ?_;refine bA O O hsub dS<|kas O<|RunK.nil<|rgN<|kmv O<|kad O O hadd<|kas O<|RunK.nil ?_)
  exact ⟨_,⟨[(0,Lx (some ⟨blk,off,none⟩) l.length cap),(1,Ln .i64 e),(5,.sv (.one (.slc 500 0 (v::E).length))),(6,Ln .i64 (((p+(flatL (t.args.take j)).length:Nat):Int)-1)),(7,Ln .i64 (i+1:Nat))],[nuB' 500 (v::E) true],X⟩,by omega,Le.ofR [(500,24)] V10 V1 V2 V2 V0 V2 V2,i+1,true,by omega,(fun _=>rfl),rfl,by rw [hj2,hstep]⟩
 ·have e2:i=t.args.length:=by omega
  obtain rfl:r=true:=hr V3
  subst e2
  rw [Nat.sub_self,List.drop_zero]
  (refine aA<|aA<|rgN<|kmv O<|kmv O<|kmv O<|K.indexX O O cC hin0 hio dS<|K.fieldAddrX O O dS ?_;refine K.loadX O hX O hop dS<|kca O O (hT)<|klt O O (cO V3)<|RunK.nil<|LWP.condF O ?_;refine LWP.exit<|aA<|rgN<|kmv O<|kas O<|RunK.nil<|LWP.ret ?_)
  refine cE (σ':=⟨[(4,.sv (.one (.slc 500 0 (endsI p t.args).length)))],[nuB 500 (endsI p t.args)],X⟩) (Le.ofR [(500,500)] V13 V1 V2 V2 V0 V2 V2) ?_
  refine cE Le.loose (cD ?_)
  exact ⟨[(1000001,500)],⟨[_],⟨O,trivial⟩,O⟩,V1,O,O⟩
end Go.Proofs.YtopiioklkkiedaaGreatDoor
end
section
namespace Go.Proofs
open Go.Shelf
def Tryz.lays134_ren : Go.Shelf.Ren := ⟨fun | 134 => 240 | 129 => 242 | n => n, fun | 53 => 84 | 3 => 3 | 4 => 4 | 46 => 73 | 5 => 5 | 9 => 9 | n => n, fun | n => n⟩
theorem Tryz.lays134 : Go.Proofs.Lays.n134 Tryz.prog Tryz.lays134_ren := {
  mixed := by kernel_rfl
  f129 := Tryz.func242.trans (congrArg some (by kernel_rfl))
  f134 := Tryz.func240.trans (congrArg some (by kernel_rfl))
  t3 := Tryz.underlying3
  a3 := Tryz.isAgg3
  z3 := Tryz.sizeOf3
  v3 := Tryz.zeroValue3
  t4 := Tryz.underlying4
  a4 := Tryz.isAgg4
  z4 := Tryz.sizeOf4
  v4 := Tryz.zeroValue4
  t5 := Tryz.underlying5
  a5 := Tryz.isAgg5
  z5 := Tryz.sizeOf5
  v5 := Tryz.zeroValue5
  t9 := Tryz.underlying9
  a9 := Tryz.isAgg9
  z9 := Tryz.sizeOf9
  v9 := Tryz.zeroValue9
  t46 := Tryz.underlying73
  a46 := Tryz.isAgg73
  z46 := Tryz.sizeOf73
  v46 := Tryz.zeroValue73
  t53 := Tryz.underlying84
  a53 := Tryz.isAgg84
  z53 := Tryz.sizeOf84
  v53 := Tryz.zeroValue84 }
theorem Tryz.bits_LeadingZeros64 (x : Int) (w : World) (h0 : 0 ≤ x) (h1 : x ≤ 18446744073709551615) :
    Calls Tryz.prog 240 #[.int .u64 x] w fun e w' => e = .returned (.int .i64 (64 - (Lib.bitLen x.toNat : Int))) ∧ w' = w := Any.bits_LeadingZeros64 Tryz.lays134 x w h0 h1
def Tryz.lays264_ren : Go.Shelf.Ren := ⟨fun | 264 => 232 | n => n, fun | 53 => 84 | 46 => 73 | n => n, fun | n => n⟩
theorem Tryz.lays264 : Go.Proofs.Lays.n264 Tryz.prog Tryz.lays264_ren := {
  mixed := by kernel_rfl
  f264 := Tryz.func232.trans (congrArg some (by kernel_rfl))
  t46 := Tryz.underlying73
  a46 := Tryz.isAgg73
  z46 := Tryz.sizeOf73
  v46 := Tryz.zeroValue73
  t53 := Tryz.underlying84
  a53 := Tryz.isAgg84
  z53 := Tryz.sizeOf84
  v53 := Tryz.zeroValue84 }
open Go.RowKit Go.Lib in
theorem Tryz.bits_Mul64 (x y : Nat) (hx : x < 18446744073709551616) (hy : y < 18446744073709551616) (w : World) :
    Calls Tryz.prog 232 #[.int .u64 x, .int .u64 y] w fun e w' => e = .returned (.tuple #[.int .u64 ((x * y / 18446744073709551616 : Nat) : Int), .int .u64 ((x * y % 18446744073709551616 : Nat) : Int)]) ∧ w' = w := Any.bits_Mul64 Tryz.lays264 x y hx hy w
end Go.Proofs
end
section
set_option maxHeartbeats 12800000
set_option maxRecDepth 100000
namespace Go.Proofs.YtopiioklkkiedaaGreatDoor
open Go Go.Lg Go.Lg.Arith
variable (X:Nat→Option Obj)
theorem mul64_spec (x y p:Int) (hx:0≤x∧x<18446744073709551616) (hy:0≤y∧y<18446744073709551616) (hp:x*y=p):
  PSpec Tryz.prog X 232 [Ln .u64 x,Ln .u64 y] (.tup [Sn .u64 (p/18446744073709551616),Sn .u64 (p%18446744073709551616)]):=by
 subst hp
 obtain ⟨a,rfl⟩:=Int.eq_ofNat_of_zero_le hx.1
 obtain ⟨b,rfl⟩:=Int.eq_ofNat_of_zero_le hy.1
 refine PSpec.ofCalls (vals:=[.int .u64 a,.int .u64 b]) (v:=.tuple #[.int .u64 (a*b/18446744073709551616),.int .u64 (a*b%18446744073709551616)]) V5 O O (fun w _ => ?_)
 have h:=Tryz.bits_Mul64 a b V3 V3 w
 have e1:((a*b/18446744073709551616:Nat):Int)=(a:Int)*b/18446744073709551616:=by rw [Int.natCast_ediv,Int.natCast_mul];rfl
 have e2:((a*b%18446744073709551616:Nat):Int)=(a:Int)*b%18446744073709551616:=by rw [Int.natCast_emod,Int.natCast_mul];rfl
 rw [e1,e2] at h
 exact h
theorem times_spec (M N:Int) (hM:In2 M) (hN:In2 N) (hw:M<18446744073709551616∨N<18446744073709551616) (r:Bool) (hr:decide (M*N<340282366920938463463374607431768211456)=r):
  PSpec Tryz.prog X 215 [LZ M,LZ N] (.tup [SZ (M*N%340282366920938463463374607431768211456),Sb r]):=by
 have core:∀ H L m p q P:Int,0≤H∧H<18446744073709551616→0≤L∧L<18446744073709551616→0≤m∧m<18446744073709551616→H*m=p→L*m=q→(H*18446744073709551616+L)*m=P →
   0≤p∧0≤q∧P=p*18446744073709551616+q∧q/18446744073709551616<18446744073709551616∧p/18446744073709551616<18446744073709551616:=by
  intro H L m p q P hH hL hm hp hq hP
  have b1:=mul_bound (A:=18446744073709551615) (B:=18446744073709551615) ⟨hH.1,by omega⟩ (show 0≤m∧m≤18446744073709551615 by omega)
  have b2:=mul_bound (A:=18446744073709551615) (B:=18446744073709551615) ⟨hL.1,by omega⟩ (show 0≤m∧m≤18446744073709551615 by omega)
  have:=times_low hp hq hP
  rw [hp] at b1
  rw [hq] at b2
  omega
 unfold In2 at *
 refine cF Tryz.func215 rfl V5 rfl rfl ?_
 intro C
 by_cases h0:M/18446744073709551616=0
 ·obtain ⟨p,hp⟩:∃ p,N/18446744073709551616*(M%18446744073709551616)=p:=⟨_,rfl⟩
  obtain ⟨q,hq⟩:∃ q,N%18446744073709551616*(M%18446744073709551616)=q:=⟨_,rfl⟩
  obtain ⟨S,hS⟩:∃ S,M*N=S:=⟨_,rfl⟩
  obtain ⟨c1,c2,c3,c4,c5⟩:=core _ _ _ p q S V3 V3 V3 hp hq (by
   rw [← hS,show N/18446744073709551616*18446744073709551616+N%18446744073709551616=N by omega,show M%18446744073709551616=M by omega];exact Int.mul_comm _ _)
  rw [hS] at hr ⊢
  by_cases hP:S<340282366920938463463374607431768211456
  ·rw [cP hP] at hr
   subst hr
   (refine U36 ?_;refine kca O O (mul64_spec _ _ _ p V3 V3 hp) ?_;refine U12 ?_;refine kca O O (mul64_spec _ _ _ q V3 V3 hq) ?_;refine U10 ?_;refine K.callN O O (add64 (s:=S%340282366920938463463374607431768211456/18446744073709551616) (t:=0) V3 V3 V3) O dS ?_;refine U21 ?_)
   unfold SZ;rw [show S%340282366920938463463374607431768211456%18446744073709551616=q%18446744073709551616 by omega]
   exact V4
  ·rw [cO hP] at hr
   subst hr
   by_cases ho:p/18446744073709551616=0
   ·(refine U36 ?_;refine kca O O (mul64_spec _ _ _ p V3 V3 hp) ?_;refine U12 ?_;refine kca O O (mul64_spec _ _ _ q V3 V3 hq) ?_;refine U10 ?_;refine K.callN O O (add64 (s:=S%340282366920938463463374607431768211456/18446744073709551616) (t:=1) V3 V3 V3) O dS ?_;refine U21 ?_)
    unfold SZ;rw [show S%340282366920938463463374607431768211456%18446744073709551616=q%18446744073709551616 by omega]
    exact V4
   ·(refine U36 ?_;refine kca O O (mul64_spec _ _ _ p V3 V3 hp) ?_;refine U12 ?_;refine kca O O (mul64_spec _ _ _ q V3 V3 hq) ?_;refine U10 ?_;refine K.callN O O (add64 (s:=S%340282366920938463463374607431768211456/18446744073709551616) (t:=(q/18446744073709551616+p%18446744073709551616)/18446744073709551616) V3 V3 V3) O dS ?_;refine U21 ?_)
    unfold SZ;rw [show S%340282366920938463463374607431768211456%18446744073709551616=q%18446744073709551616 by omega]
    exact V4
 ·have hN0:N/18446744073709551616=0:=by omega
  obtain ⟨p,hp⟩:∃ p,M/18446744073709551616*(N%18446744073709551616)=p:=⟨_,rfl⟩
  obtain ⟨q,hq⟩:∃ q,M%18446744073709551616*(N%18446744073709551616)=q:=⟨_,rfl⟩
  obtain ⟨S,hS⟩:∃ S,M*N=S:=⟨_,rfl⟩
  obtain ⟨c1,c2,c3,c4,c5⟩:=core _ _ _ p q S V3 V3 V3 hp hq (by
   rw [← hS,show M/18446744073709551616*18446744073709551616+M%18446744073709551616=M by omega,show N%18446744073709551616=N by omega])
  rw [hS] at hr ⊢
  by_cases hP:S<340282366920938463463374607431768211456
  ·rw [cP hP] at hr
   subst hr
   (refine U31 ?_;refine kca O O (mul64_spec _ _ _ p V3 V3 hp) ?_;refine U12 ?_;refine kca O O (mul64_spec _ _ _ q V3 V3 hq) ?_;refine U10 ?_;refine K.callN O O (add64 (s:=S%340282366920938463463374607431768211456/18446744073709551616) (t:=0) V3 V3 V3) O dS ?_;refine U21 ?_)
   unfold SZ;rw [show S%340282366920938463463374607431768211456%18446744073709551616=q%18446744073709551616 by omega]
   exact V4
  ·rw [cO hP] at hr
   subst hr
   by_cases ho:p/18446744073709551616=0
   ·(refine U31 ?_;refine kca O O (mul64_spec _ _ _ p V3 V3 hp) ?_;refine U12 ?_;refine kca O O (mul64_spec _ _ _ q V3 V3 hq) ?_;refine U10 ?_;refine K.callN O O (add64 (s:=S%340282366920938463463374607431768211456/18446744073709551616) (t:=1) V3 V3 V3) O dS ?_;refine U21 ?_)
    unfold SZ;rw [show S%340282366920938463463374607431768211456%18446744073709551616=q%18446744073709551616 by omega]
    exact V4
   ·(refine U31 ?_;refine kca O O (mul64_spec _ _ _ p V3 V3 hp) ?_;refine U12 ?_;refine kca O O (mul64_spec _ _ _ q V3 V3 hq) ?_;refine U10 ?_;refine K.callN O O (add64 (s:=S%340282366920938463463374607431768211456/18446744073709551616) (t:=(q/18446744073709551616+p%18446744073709551616)/18446744073709551616) V3 V3 V3) O dS ?_;refine U21 ?_)
    unfold SZ;rw [show S%340282366920938463463374607431768211456%18446744073709551616=q%18446744073709551616 by omega]
    exact V4
theorem times_far (M N:Int) (hM:In2 M) (hN:In2 N) (h1:18446744073709551616≤M) (h2:18446744073709551616≤N):
  PSpec Tryz.prog X 215 [LZ M,LZ N] (.tup [.agg [.val (.int .u64 0),.val (.int .u64 0)],Sb false]):=by
 unfold In2 at *
 refine cF Tryz.func215 rfl V5 rfl rfl ?_
 intro C
 refine U31 ?_
 exact V4
end Go.Proofs.YtopiioklkkiedaaGreatDoor
end
section
set_option maxHeartbeats 12800000
set_option maxRecDepth 100000
namespace Go.Proofs.YtopiioklkkiedaaGreatDoor
open Go Go.Lg Go.Lg.Arith
variable (X:Nat→Option Obj)
theorem Mul_arg (b c:Bool) (M N:Int) (hM:In2 M) (hN:In2 N) (hf:(formB b M&&formB c N)=false):PSpec Tryz.prog X 185 [LI b M,LI c N] (.tup [S0,Sn .i64 1]):=by
 refine cF Tryz.func185 rfl V5 rfl rfl ?_
 intro C
 (refine U12 ?_;refine kca rfl rfl (bothForm_spec _ _ _ _ _ hM hN _ hf) ?_;refine U10 ?_)
 exact V4
theorem zv_mul (x y:Int):zv (decide (x<0) != decide (y<0)) (mg x*mg y)=x*y:=by
 unfold zv mg
 by_cases cx:x<0<;>by_cases cy:y<0<;>simp [cx,cy,Int.neg_mul,Int.mul_neg]
theorem range_zv {b:Bool} {N:Int} (hN:0≤N):R127 (zv b N)↔N<170141183460469231731687303715884105728:=by
 unfold R127 zv
 cases b<;>simp<;>omega
theorem Mul_q (x y:Int) (hx:R127 x) (hy:R127 y):PSpec Tryz.prog X 185 [LQ x,LQ y] (addR (x*y)):=by
 have hf:=both_q hx hy
 have hB:=bothForm_spec X _ _ _ _ (mg_in2 hx) (mg_in2 hy) true hf
 have hz:=zv_mul x y
 have hp0:0≤mg x*mg y:=Int.mul_nonneg (mg_nonneg x) (mg_nonneg y)
 have hrange:=range_zv (b:=decide (x<0) != decide (y<0)) hp0
 rw [hz] at hrange
 by_cases hfar:18446744073709551616≤mg x∧18446744073709551616≤mg y
 ·have hm:=Int.mul_le_mul hfar.1 hfar.2 VA (by omega:(0:Int)≤mg x)
  rw [addR_out (by rw [hrange];omega)]
  refine cF Tryz.func185 rfl V5 rfl rfl ?_
  intro C
  (refine U18 ?_;refine rgD mixed ?_;refine U1 ?_;refine kca rfl rfl (sizeOf_spec _ _ _ _) ?_;refine U1 ?_;refine kca rfl rfl (sizeOf_spec _ _ _ _)<|kca rfl rfl (times_far _ _ _ (mg_in2 hx) (mg_in2 hy) hfar.1 hfar.2) ?_;refine U22 ?_)
  exact V4
 ·have ht:=times_spec X (mg x) (mg y) (mg_in2 hx) (mg_in2 hy) V3
  by_cases hbig:mg x*mg y<340282366920938463463374607431768211456
  ·have ht':=ht true (cP hbig)
   have e:mg x*mg y%340282366920938463463374607431768211456=mg x*mg y:=by omega
   rw [e] at ht'
   by_cases hfit:mg x*mg y<170141183460469231731687303715884105728
   ·rw [addR_in (hrange.2 hfit),← tup_q hp0 hz]
    have hb:=bounded_ok X (decide (x<0) != decide (y<0)) (mg x*mg y) ⟨hp0,hfit⟩ _ rfl
    refine cF Tryz.func185 rfl V5 rfl rfl ?_
    intro C
    (refine U18 ?_;refine rgD mixed ?_;refine U1 ?_;refine kca O O (sizeOf_spec _ _ _ _) ?_;refine U1 ?_;refine kca O O (sizeOf_spec _ _ _ _) ?_;refine U23 ?_;refine K.neqB O O O dS ?_;refine U8 ?_)
    exact V4
   ·rw [addR_out (by rw [hrange];omega)]
    have hb:=bounded_no X (decide (x<0) != decide (y<0)) (mg x*mg y) V3 ⟨hp0,hbig⟩
    refine cF Tryz.func185 rfl V5 rfl rfl ?_
    intro C
    (refine U18 ?_;refine rgD mixed ?_;refine U1 ?_;refine kca O O (sizeOf_spec _ _ _ _) ?_;refine U1 ?_;refine kca O O (sizeOf_spec _ _ _ _) ?_;refine U23 ?_;refine K.neqB O O O dS ?_;refine U8 ?_)
    exact V4
  ·have ht':=ht false (cO hbig)
   rw [addR_out (by rw [hrange];omega)]
   refine cF Tryz.func185 rfl V5 rfl rfl ?_
   intro C
   (refine U18 ?_;refine rgD mixed ?_;refine U1 ?_;refine kca rfl rfl (sizeOf_spec _ _ _ _) ?_;refine U1 ?_;refine kca rfl rfl (sizeOf_spec _ _ _ _) ?_;refine U23 ?_)
   exact V4
end Go.Proofs.YtopiioklkkiedaaGreatDoor
end
