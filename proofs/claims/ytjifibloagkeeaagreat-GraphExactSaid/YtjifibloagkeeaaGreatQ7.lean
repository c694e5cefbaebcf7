/- A piece of a proof over this program: contracts of its functions, and a logic to prove them by. -/
import Derived.Test.YtjifibloagkeeaaGreatQ2
import Derived.Test.YtjifibloagkeeaaGreatQ3
import Derived.Test.YtjifibloagkeeaaGreatQ4
import Derived.Test.YtjifibloagkeeaaGreatQ5
import Derived.Test.YtjifibloagkeeaaGreatQ6
import Derived.Lib.SmallJoins
import Derived.Test.YtjifibloagkeeaaGreatRows
section
namespace Go.Proofs.YtjifibloagkeeaaGreat
open Go Go.Lg Go.Lg.Fld Go.Lg.Sg
set_option maxRecDepth 100000
def TbX (X:Nat→Option Obj) (tb:Addr) (t:Tb):Prop := ∃ (b:Nat) (fr:Nat×Nat) (ad:Option Addr) (cap:Nat) (vC vP:Value),tb=⟨b,0,none⟩ ∧
  X b=some (.cells (tblV t (.slice ad t.l.length cap) vC vP).toArray 109 fr)∧t.l.length+t.kept≤t.most∧t.most≤256
theorem TbX.mono {Y Z:Nat→Option Obj} {tb:Addr} {t:Tb} (hYZ:∀ b o,Y b=some o→Z b=some o) (h:TbX Y tb t):TbX Z tb t:=by
  obtain ⟨b,fr,ad,cap,vC,vP,h1,h2,h3⟩:=h
  exact ⟨b,fr,ad,cap,vC,vP,h1,hYZ _ _ h2,h3⟩
theorem tbR_x {t:Tb} (hk:TbOk t) {b m:Nat} {H X:Nat→Option Obj} (h:(tbR t).holds (b,m) H) (hX:∀ x o,H x=some o→X x=some o):TbX X ⟨b,0,none⟩ t:=by
  obtain ⟨_,_,fr,Hs,He,Hr,vE,vC,vP,ps,h2,_,_,_,hI,_⟩:=h
  obtain ⟨ad,cap,hE⟩:=hI.ents.slice
  rw [cV] at hE
  subst hE
  exact ⟨b,fr,ad,cap,vC,vP,O,hX _ _ h2,hk.room,hk.most.2⟩
abbrev Lpx (tb:Addr):LV:=.sv (.one (.val (.pointer (some tb))))
variable (X:Nat→Option Obj)
theorem tSigX (tb:Addr) (t:Tb) (h:TbX X tb t):PSpec Tryz.prog X 24 [Lpx tb] (Ln .u32 (t.set:Nat)):=by
  obtain ⟨b,fr,ad,cap,vC,vP,rfl,hX,_⟩:=h
  have h0:(tblV t (.slice ad t.l.length cap) vC vP).toArray[0]? = some (.int .u32 (t.set:Nat)):=rfl
  refine cD Tryz.func24 rfl (by kernel_rfl) rfl rfl ?_
  intro C
  (refine aA<|rgN<|kas O<|aB<|aA<|aA<|rgN<|kmv O<|K.ptrNilX O (by kernel_rfl) (Or.inl ⟨O,O⟩) dP ?_;refine aB<|aF O ?_;refine aH ?_;refine aA<|rgN<|kmv O<|K.nilCheckX O dP ?_;refine bH O O dP ?_;refine aW O hX O h0 dP<|kas O<|aB<|aI ?_)
  exact ⟨[_],⟨O,trivial⟩,O⟩
theorem tLenX (tb:Addr) (t:Tb) (h:TbX X tb t):PSpec Tryz.prog X 25 [Lpx tb] (Ln .i64 (t.l.length:Nat)):=by
  obtain ⟨b,fr,ad,cap,vC,vP,rfl,hX,_⟩:=h
  have h0:(tblV t (.slice ad t.l.length cap) vC vP).toArray[3]? = some (.slice ad t.l.length cap):=rfl
  refine cD Tryz.func25 rfl (by kernel_rfl) rfl rfl ?_
  intro C
  (refine aA<|rgN<|kas O<|aB<|aA<|aA<|rgN<|kmv O<|K.ptrNilX O (by kernel_rfl) (Or.inl ⟨O,O⟩) dP ?_;refine aB<|aF O ?_;refine aH ?_;refine aA<|rgN<|kmv O<|K.nilCheckX O dP ?_;refine bH O O dP ?_;refine aW O hX O h0 dP<|aQ O bY O dP ?_;refine kas O<|aB<|aI ?_)
  exact ⟨[_],⟨O,trivial⟩,O⟩
theorem tRoomX (tb:Addr) (t:Tb) (h:TbX X tb t):PSpec Tryz.prog X 26 [Lpx tb] (Ln .i64 (roomT t:Nat)):=by
  have hl:=tLenX X tb t h
  obtain ⟨b,fr,ad,cap,vC,vP,rfl,hX,hr,hm⟩:=h
  have h0:(tblV t (.slice ad t.l.length cap) vC vP).toArray[1]? = some (.int .i64 (t.most:Nat)):=rfl
  have h2:(tblV t (.slice ad t.l.length cap) vC vP).toArray[2]? = some (.int .i64 (t.kept:Nat)):=rfl
  have h4:IntKind.i64.wrap (((t.most:Nat):Int)-(t.l.length:Nat))=((t.most-t.l.length:Nat):Int):=by rw [cF (by omega)];omega
  have h5:IntKind.i64.wrap (((t.most-t.l.length:Nat):Int)-(t.kept:Nat))=((roomT t:Nat):Int):=by unfold roomT;rw [cF (by omega)];omega
  refine cD Tryz.func26 rfl (by kernel_rfl) rfl rfl ?_
  intro C
  (refine aA<|rgN<|kas O<|aB<|aA<|aA<|rgN<|kmv O<|K.ptrNilX O (by kernel_rfl) (Or.inl ⟨O,O⟩) dP ?_;refine aB<|aF O ?_;refine aH ?_;refine aA<|rgD mixed<|kmv O<|K.nilCheckX O dP ?_;refine bH O O dP ?_;refine aW O hX O h0 dP<|kmv O<|kca O O hl<|bA O O h4 dP<|kmv O<|K.nilCheckX O dP ?_;refine bH O O dP ?_;refine aW O hX O h2 dP<|bA O O h5 dP<|kas O<|aB<|rgA ?_;refine aI ?_)
  exact ⟨[_],⟨O,trivial⟩,O⟩
end Go.Proofs.YtjifibloagkeeaaGreat
end
section
namespace Go.Proofs.YtjifibloagkeeaaGreat
open Go Go.Lg Go.Lg.Fld Go.Lg.Sg
set_option maxRecDepth 100000
abbrev Wy:=Int×Int×Bool
structure Gr where
  sc:Sc
  archs:Nat
  rows:Nat
  l:List Nat
  w:List Wy
def goodG (s:Sc) (archs rows:Int):Bool:=decide (chkE s=0)&&decide (1≤archs)&&decide (archs≤64)&&decide (1≤rows)&&decide (rows≤256)
def findG (l:List Nat) (s:Nat):Option Nat:=l.findIdx? fun x=>x==s
def canG (sc:Sc) (s:Nat):Bool:=isB s&&(idsL s).all (hasC sc.cs)
def makeE (g:Gr) (s:Nat):Int:=if (findG g.l s).isSome=true then 0 else if canG g.sc s=true then (if g.archs≤g.l.length then 5 else 0) else 6
def makeL (g:Gr) (s:Nat):List Nat:=if (findG g.l s).isSome=true then g.l else if makeE g s=0 then g.l++[s] else g.l
def makeG (g:Gr) (s:Nat):Gr:={ g with l:=makeL g s }
def makeN (g:Gr) (s:Nat):Nat:=match findG g.l s with|some i=>i|none=>if makeE g s=0 then g.l.length else 0
def knowsW (w:List Wy) (x:Wy):Bool:=w.any fun y=>y==x
def addW (w:List Wy) (x:Wy):List Wy:=if knowsW w x=true then w else w++[x]
def nextS (s:Nat) (c:Int) (a:Bool):Nat:=if a=true then withN s c else withoutN s c
def rowG (g:Gr) (i:Int):Bool:=decide (0≤i)&&decide (i<g.l.length)
def setAt (g:Gr) (i:Int):Nat:=g.l.getD i.toNat 0
def stepE (g:Gr) (i c:Int) (a:Bool):Int:=
  if rowG g i=true then (if hasC g.sc.cs c=true then (if hasB (setAt g i) c=a then 7 else makeE g (nextS (setAt g i) c a)) else 6) else 3
def stepW (g:Gr) (i c:Int) (a:Bool):List Wy:=addW (addW g.w (i,c,a)) ((makeN g (nextS (setAt g i) c a):Nat),c,!a)
def stepG (g:Gr) (i c:Int) (a:Bool):Gr:=if stepE g i c a=0 then { g with l:=makeL g (nextS (setAt g i) c a),w:=stepW g i c a } else g
def stepN (g:Gr) (i c:Int) (a:Bool):Nat:=if stepE g i c a=0 then makeN g (nextS (setAt g i) c a) else 0
structure GrOk (g:Gr):Prop where
  sc:chkE g.sc=0
  archs:1≤g.archs∧g.archs≤64
  rows:1≤g.rows∧g.rows≤256
  room:g.l.length≤g.archs
  nd:g.l.Nodup
  can:∀ s∈g.l,canG g.sc s=true∧s<4294967296
theorem findG_some {l:List Nat} {s i:Nat} (h:findG l s=some i):l[i]? = some s:=by
  unfold findG at h
  obtain ⟨hi,h1,_⟩:=List.findIdx?_eq_some_iff_getElem.1 h
  rw [cW hi]
  simp at h1
  rw [h1]
theorem findG_none {l:List Nat} {s:Nat}:findG l s=none↔s ∉ l:=by
  unfold findG
  rw [List.findIdx?_eq_none_iff]
  constructor
  · intro h hm;have:=h s hm;simp at this
  · intro h x hx;simp;rintro rfl;exact h hx
theorem findG_at {l:List Nat} (hn:l.Nodup) {s i:Nat} (h:l[i]? = some s):findG l s=some i:=by
  cases hf:findG l s with
  | none=>exact absurd (dB h) (findG_none.1 hf)
  | some j =>
    have hj:=findG_some hf
    have hjl:=(List.getElem?_eq_some_iff.1 hj).1
    rw [(List.getElem?_inj hjl hn).1 (hj.trans h.symm)]
theorem makeE_zero {g:Gr} {s:Nat} (h:makeE g s=0):(∃ i,findG g.l s=some i)∨(findG g.l s=none∧canG g.sc s=true∧g.l.length<g.archs):=by
  unfold makeE at h
  cases hf:findG g.l s with
  | some i=>exact .inl ⟨i,rfl⟩
  | none =>
    rw [hf] at h
    simp only [Option.isSome_none,Bool.false_eq_true,if_false] at h
    by_cases hc:canG g.sc s=true
    · rw [if_pos hc] at h
      by_cases hl:g.archs≤g.l.length
      · rw [if_pos hl] at h;cases h
      · exact .inr ⟨rfl,hc,by omega⟩
    · rw [if_neg hc] at h;cases h
theorem make_some {g:Gr} {s i:Nat} (h:findG g.l s=some i):makeE g s=0∧makeL g s=g.l∧makeN g s=i:=by
  refine ⟨?_,?_,?_⟩
  · unfold makeE;rw [h];rfl
  · unfold makeL;rw [h];rfl
  · unfold makeN;rw [h]
theorem make_new {g:Gr} {s:Nat} (h:findG g.l s=none) (he:makeE g s=0):makeL g s=g.l++[s]∧makeN g s=g.l.length:=by
  refine ⟨?_,?_⟩
  · unfold makeL;rw [h,if_neg (by decide),if_pos he]
  · unfold makeN;rw [h];simp only;rw [if_pos he]
theorem make_no {g:Gr} {s:Nat} (he:makeE g s≠0):makeL g s=g.l∧makeN g s=0∧findG g.l s=none:=by
  have hf:findG g.l s=none:=by
    cases hf:findG g.l s with
    | none=>rfl
    | some i=>exact absurd (make_some hf).1 he
  refine ⟨?_,?_,hf⟩
  · unfold makeL;rw [hf,if_neg (by decide),if_neg he]
  · unfold makeN;rw [hf];simp only;rw [if_neg he]
theorem makeN_at {g:Gr} {s:Nat} (he:makeE g s=0):(makeL g s)[makeN g s]? = some s:=by
  rcases makeE_zero he with ⟨i,hi⟩|⟨hf,_⟩
  · obtain ⟨_,h2,h3⟩:=make_some hi
    rw [h2,h3];exact findG_some hi
  · obtain ⟨h1,h2⟩:=make_new hf he
    rw [h1,h2,List.getElem?_append_right (dL _),Nat.sub_self];rfl
theorem makeL_pre {g:Gr} {s:Nat}:∃ t,makeL g s=g.l++t∧t.length≤1∧(makeE g s≠0→t=[]):=by
  by_cases he:makeE g s=0
  · rcases makeE_zero he with ⟨i,hi⟩|⟨hf,_⟩
    · exact ⟨[],by rw [(make_some hi).2.1,dH],Nat.zero_le _,fun h=>absurd he h⟩
    · exact ⟨[s],(make_new hf he).1,dL _,fun h=>absurd he h⟩
  · exact ⟨[],by rw [(make_no he).1,dH],Nat.zero_le _,fun _=>rfl⟩
theorem GrOk.make {g:Gr} (h:GrOk g) {s:Nat} (hs:s<4294967296):GrOk (makeG g s):=by
  by_cases he:makeE g s=0
  · rcases makeE_zero he with ⟨i,hi⟩|⟨hf,hc,hl⟩
    · have e:makeG g s=g:=by unfold makeG;rw [(make_some hi).2.1]
      rw [e];exact h
    · have e:=(make_new hf he).1
      refine ⟨h.sc,h.archs,h.rows,?_,?_,?_⟩
      · show (makeL g s).length≤g.archs
        rw [e,cU];exact hl
      · show (makeL g s).Nodup
        rw [e]
        exact List.nodup_append.2 ⟨h.nd,by simp,fun x hx y hy e=>findG_none.1 hf (by simp at hy;rw [← hy,← e];exact hx)⟩
      · intro x hx
        have hx:x∈makeL g s:=hx
        rw [e] at hx
        rcases List.mem_append.1 hx with hx|hx
        · exact h.can x hx
        · rw [List.mem_singleton.1 hx];exact ⟨hc,hs⟩
  · have e:makeG g s=g:=by unfold makeG;rw [(make_no he).1]
    rw [e];exact h
theorem GrOk.ways {g:Gr} (h:GrOk g) (w:List Wy):GrOk { g with w:=w }:=⟨h.sc,h.archs,h.rows,h.room,h.nd,h.can⟩
theorem GrOk.new {s:Sc} {archs rows:Nat} (h:goodG s (archs:Nat) (rows:Nat)=true):GrOk ⟨s,archs,rows,[],[]⟩:=by
  unfold goodG at h
  simp only [Bool.and_eq_true,decide_eq_true_eq] at h
  exact ⟨h.1.1.1.1,by show 1≤archs∧archs≤64;omega,by show 1≤rows∧rows≤256;omega,Nat.zero_le _,List.nodup_nil,fun s hs=>by cases hs⟩
theorem setAt_of {g:Gr} {i s:Nat} (h:g.l[i]? = some s):setAt g (i:Nat)=s:=by
  unfold setAt
  rw [dE,List.getD_eq_getElem?_getD,h];rfl
theorem rowG_at {g:Gr} {i:Int} (h:rowG g i=true):∃ (k s:Nat),i=(k:Int)∧g.l[k]? = some s:=by
  unfold rowG at h
  simp only [Bool.and_eq_true,decide_eq_true_eq] at h
  obtain ⟨k,rfl⟩:=Int.eq_ofNat_of_zero_le h.1
  exact ⟨k,_,O,cW (by omega)⟩
theorem rowG_of {g:Gr} {k s:Nat} (h:g.l[k]? = some s):rowG g (k:Nat)=true:=by
  have:=(List.getElem?_eq_some_iff.1 h).1
  unfold rowG
  rw [cN (by omega),cN (by omega)];rfl
theorem okJ_of {sc:Sc} (h:chkE sc=0) {c:Int} (hc:hasC sc.cs c=true):okJ c=true:=by
  unfold hasC at hc
  obtain ⟨x,hx,e⟩:=List.any_eq_true.1 hc
  have e:=beq_iff_eq.1 e
  unfold chkE at h
  split at h
  · cases h
  obtain ⟨j,hj⟩:=List.mem_iff_getElem?.1 hx
  have h1:=firstE_zero h j (Nat.zero_le _) (by have:=(List.getElem?_eq_some_iff.1 hj).1;omega)
  unfold cmpE at h1
  rw [hj] at h1
  simp only at h1
  split at h1
  · cases h1
  rename_i hn
  unfold okJ
  rw [Bool.and_eq_true,decide_eq_true_eq,decide_eq_true_eq]
  omega
theorem with_back {s:Nat} {c:Int} (hj:okJ c=true) (h:hasB s c=false):withoutN (withN s c) c=s∧hasB (withN s c) c=true:=by
  have hb:s.testBit c.toNat=false:=by unfold hasB at h;rw [hj,Bool.true_and] at h;exact h
  refine ⟨Nat.eq_of_testBit_eq fun j => ?_,?_⟩
  · rw [without_bit,with_bit,hj,Bool.true_and]
    by_cases e:c.toNat=j
    · rw [cN e,← e,hb];rfl
    · rw [cL e];simp
  · unfold hasB
    rw [with_bit,hj,cN rfl];simp
theorem without_back {s:Nat} {c:Int} (hj:okJ c=true) (h:hasB s c=true):withN (withoutN s c) c=s∧hasB (withoutN s c) c=false:=by
  have hb:s.testBit c.toNat=true:=by unfold hasB at h;rw [hj,Bool.true_and] at h;exact h
  refine ⟨Nat.eq_of_testBit_eq fun j => ?_,?_⟩
  · rw [with_bit,without_bit,hj,Bool.true_and]
    by_cases e:c.toNat=j
    · rw [cN e,← e,hb];rfl
    · rw [cL e];simp
  · unfold hasB
    rw [without_bit,hj,cN rfl];simp
theorem next_back {s:Nat} {c:Int} {a:Bool} (hj:okJ c=true) (h:hasB s c≠a):nextS (nextS s c a) c (!a)=s∧hasB (nextS s c a) c=a:=by
  cases a with
  | true =>
    have h:hasB s c=false:=by simpa using h
    exact with_back hj h
  | false =>
    have h:hasB s c=true:=by simpa using h
    exact without_back hj h
theorem next_lt {s:Nat} {c:Int} {a:Bool} (hs:s<4294967296):nextS s c a<4294967296:=by
  unfold nextS
  split
  · exact with_lt hs
  · exact without_lt hs
theorem add_same {w:List Wy} {x:Wy} (h:knowsW w x=true):addW w x=w:=by unfold addW;rw [if_pos h]
theorem addW_len (w:List Wy) (x:Wy):(addW w x).length≤w.length+1:=by
  unfold addW
  split
  · omega
  · rw [cU];exact dL _
structure Stepped (g:Gr) (i:Int) (c:Int) (a:Bool) (k s:Nat):Prop where
  i:i=(k:Int)
  at_:g.l[k]? = some s
  has:hasC g.sc.cs c=true
  ne:hasB s c≠a
  make:makeE g (nextS s c a)=0
theorem step_zero {g:Gr} {i c:Int} {a:Bool} (h:stepE g i c a=0):∃ k s,Stepped g i c a k s:=by
  unfold stepE at h
  by_cases h1:rowG g i=true
  · rw [if_pos h1] at h
    obtain ⟨k,s,rfl,hs⟩:=rowG_at h1
    rw [setAt_of hs] at h
    by_cases h2:hasC g.sc.cs c=true
    · rw [if_pos h2] at h
      by_cases h3:hasB s c=a
      · rw [if_pos h3] at h;cases h
      · rw [if_neg h3] at h
        exact ⟨k,s,O,hs,h2,h3,h⟩
    · rw [if_neg h2] at h;cases h
  · rw [if_neg h1] at h;cases h
theorem Stepped.zero {g:Gr} {i c:Int} {a:Bool} {k s:Nat} (h:Stepped g i c a k s):stepE g i c a=0:=by
  unfold stepE
  rw [h.i,if_pos (rowG_of h.at_),if_pos h.has,setAt_of h.at_,if_neg h.ne];exact h.make
theorem Stepped.step {g:Gr} {i c:Int} {a:Bool} {k s:Nat} (h:Stepped g i c a k s):stepG g i c a={ g with l:=makeL g (nextS s c a),w:=addW (addW g.w (i,c,a)) ((makeN g (nextS s c a):Nat),c,!a) }∧stepN g i c a=makeN g (nextS s c a):=by
  have hz:=h.zero
  have hs:setAt g i=s:=by rw [h.i];exact setAt_of h.at_
  refine ⟨?_,?_⟩
  · unfold stepG stepW;rw [if_pos hz,hs]
  · unfold stepN;rw [if_pos hz,hs]
theorem GrOk.step {g:Gr} (h:GrOk g) (i c:Int) (a:Bool):GrOk (stepG g i c a):=by
  by_cases hz:stepE g i c a=0
  · obtain ⟨k,s,hS⟩:=step_zero hz
    rw [hS.step.1]
    have:=(h.make (s:=nextS s c a) (next_lt (h.can s (dB hS.at_)).2)).ways (addW (addW g.w (i,c,a)) ((makeN g (nextS s c a):Nat),c,!a))
    exact this
  · unfold stepG;rw [if_neg hz];exact h
theorem step_ways (g:Gr) (i c:Int) (a:Bool):(stepG g i c a).w.length≤g.w.length+2:=by
  unfold stepG
  split
  · show (stepW g i c a).length≤_
    unfold stepW
    have h1:=addW_len (addW g.w (i,c,a)) ((makeN g (nextS (setAt g i) c a):Nat),c,!a)
    have h2:=addW_len g.w (i,c,a)
    omega
  · omega
theorem step_same (g:Gr) (i c:Int) (a:Bool):(stepG g i c a).sc=g.sc∧(stepG g i c a).archs=g.archs∧(stepG g i c a).rows=g.rows:=by
  unfold stepG
  split<;>exact ⟨rfl,rfl,rfl⟩
end Go.Proofs.YtjifibloagkeeaaGreat
end
section
namespace Go.Lg
open Go Go.RowKit Go.ChangeShapes Go.WideShapes Go.Joins
section
variable {H:Type} {enc:TypeId×Value→H} {P:Program} {w:World}
def Light (P:Program) (t:TypeId) (d:DataW H):Prop := ∀ n∈d.weights P t,n≤reachBytes
end
end Go.Lg
end
section
namespace Go.Proofs.YtjifibloagkeeaaGreat
open Go Go.Lg Go.Lg.Fld Go.Lg.Sg
set_option maxRecDepth 100000
def fieldsOf (P : Program) (k : TypeId) : Option (List (TypeId × Nat)) := match P.underlying k with | some (.struct fs) => if fs.all (·.name != "_") = true then some (fs.toList.map fun f => (f.type, f.offset)) else none | _ => none
theorem key_struct {P:Program} {k t1 t2 t3:TypeId} {a b:Int} {c:Bool} (hf:fieldsOf P k=some [(t1,0),(t2,1),(t3,2)]) (hkt:P.keyType k=true) (hform:Value.formed P k (.agg #[.int .i64 a,.int .i64 b,.bool c])=true) (hsz:Nat.ble 1 P.types.size=true) (hc:P.cellsOf k=3)
    (c1:P.cellsOf t1=1) (c2:P.cellsOf t2=1) (c3:P.cellsOf t3=1) (h1:P.underlying t1=some (.int .i64)) (h2:P.underlying t2=some (.int .i64)) (h3:P.underlying t3=some .bool) (ha:(Lit.int .i64 a).wf=true) (hb:(Lit.int .i64 b).wf=true):
    ∃ l,Go.keyOf P k (.agg #[.int .i64 a,.int .i64 b,.bool c])=some l:=by
  unfold fieldsOf at hf
  split at hf
  · rename_i fs hu
    split at hf
    · rename_i hbl
      simp only [Option.some.injEq] at hf
      obtain ⟨D,hD⟩:∃ D,P.types.size+1=D+2:=⟨P.types.size-1,by have:=Nat.le_of_ble_eq_true hsz;omega⟩
      have hl:P.keyLits (P.types.size+1) k [.int .i64 a,.int .i64 b,.bool c]=some [.int .i64 a,.int .i64 b,.bool c]:=by
        rw [hD]
        unfold Program.keyLits
        simp only [hu]
        rw [if_pos ⟨by rw [hc];rfl,hbl⟩]
        have hm:(fs.toList.mapM fun f=>P.keyLits (D+1) f.type (([Value.int .i64 a,.int .i64 b,.bool c].drop f.offset).take (P.cellsOf f.type)))=((fs.toList.map fun f=>(f.type,f.offset)).mapM fun g=>P.keyLits (D+1) g.1 (([Value.int .i64 a,.int .i64 b,.bool c].drop g.2).take (P.cellsOf g.1))):=by
          rw [List.mapM_map];rfl
        rw [hm,hf]
        have e1:P.keyLits (D+1) t1 [.int .i64 a]=some [.int .i64 a]:=by unfold Program.keyLits;simp only [h1];rw [if_pos ⟨trivial,ha⟩]
        have e2:P.keyLits (D+1) t2 [.int .i64 b]=some [.int .i64 b]:=by unfold Program.keyLits;simp only [h2];rw [if_pos ⟨trivial,hb⟩]
        have e3:P.keyLits (D+1) t3 [.bool c]=some [.bool c]:=by unfold Program.keyLits;simp only [h3]
        simp only [List.mapM_cons,List.mapM_nil,c1,c2,c3,List.drop_zero,List.drop_succ_cons,List.take_succ_cons,List.take_zero,e1,e2,e3]
        rfl
      unfold Go.keyOf
      simp only [hu]
      rw [hkt,hform]
      exact ⟨_,by rw [Bool.and_self,if_pos rfl,show (Value.agg #[.int .i64 a,.int .i64 b,.bool c]).cells.toList=[.int .i64 a,.int .i64 b,.bool c] from rfl,hl];rfl⟩
    · cases hf
  · cases hf
def wyK (x:Wy):Value:=.agg #[.int .i64 x.1,.int .i64 x.2.1,.bool x.2.2]
theorem wyK_inj {x y:Wy} (h:wyK x=wyK y):x=y:=by
  unfold wyK at h
  simp only [Value.agg.injEq,Array.mk.injEq,List.cons.injEq,Value.int.injEq,true_and,Value.bool.injEq,and_true] at h
  obtain ⟨h1,h2,h3⟩:=h
  exact Prod.ext h1 (Prod.ext h2 h3)
abbrev In6 (n:Int):Prop := -9223372036854775808≤n∧n<9223372036854775808
theorem wf_i64 {n:Int} (h:In6 n):(Lit.int .i64 n).wf=true:=by
  obtain ⟨h1,h2⟩:=h
  have hmin:IntKind.i64.min = -9223372036854775808:=by decide
  have hmax:IntKind.i64.max=9223372036854775807:=by decide
  simp only [Lit.wf,Bool.and_eq_true,decide_eq_true_eq,hmin,hmax]
  omega
abbrev WK:TypeId:=86
theorem wyK_key {x:Wy} (h1:In6 x.1) (h2:In6 x.2.1):∃ l,Go.keyOf Tryz.prog WK (wyK x)=some l:=
  key_struct (t1:=3) (t2:=3) (t3:=4) (by kernel_rfl) (by kernel_rfl) (by rfl) (by kernel_rfl) (by kernel_rfl) (by kernel_rfl) (by kernel_rfl) (by kernel_rfl) (by kernel_rfl) (by kernel_rfl) (by kernel_rfl) (wf_i64 h1) (wf_i64 h2)
theorem wyL:KL Tryz.prog WK:=.of (deep_law (m:=3) (by decide) (by kernel_rfl) (by kernel_rfl) (by kernel_rfl))
structure WaysOk (g:Gr) (m:List (Value×Value)):Prop where
  keys:m.map (·.1)=g.w.map wyK
  at_:∀ x∈g.w,∃ (k n s:Nat),x.1=(k:Nat)∧g.l[k]? = some s∧hasC g.sc.cs x.2.1=true∧hasB s x.2.1≠x.2.2∧g.l[n]? = some (nextS s x.2.1 x.2.2)∧(wyK x,Value.int .i64 (n:Nat))∈m∧knowsW g.w ((n:Nat),x.2.1,!x.2.2)=true
theorem knows_mem {w:List Wy} {x:Wy}:knowsW w x=true↔x∈w:=by
  unfold knowsW
  rw [List.any_eq_true]
  exact ⟨fun ⟨y,h1,h2⟩=>by rw [← beq_iff_eq.1 h2];exact h1,fun h=>⟨x,h,beq_self_eq_true x⟩⟩
theorem WaysOk.none {g:Gr} (h:g.w=[]):WaysOk g []:=⟨by rw [h];rfl,fun x hx=>by rw [h] at hx;cases hx⟩
section
variable {g:Gr} {m:List (Value×Value)}
theorem WaysOk.key_mem (h:WaysOk g m) {x:Wy}:(∃ p∈m,p.1=wyK x)↔knowsW g.w x=true:=by
  rw [knows_mem]
  constructor
  · rintro ⟨p,hp,e⟩
    have:wyK x∈m.map (·.1):=by rw [← e];exact List.mem_map_of_mem hp
    rw [h.keys] at this
    obtain ⟨y,hy,e2⟩:=List.mem_map.1 this
    rw [← wyK_inj e2];exact hy
  · intro hx
    have:wyK x∈m.map (·.1):=by rw [h.keys];exact List.mem_map_of_mem hx
    obtain ⟨p,hp,e⟩:=List.mem_map.1 this
    exact ⟨p,hp,e⟩
theorem WaysOk.len (h:WaysOk g m):m.length=g.w.length:=by have:=congrArg List.length h.keys;rwa [cV,cV] at this
theorem WaysOk.no (h:WaysOk g m) {x:Wy} (hx:knowsW g.w x=false):∀ p∈m,p.1≠wyK x:=fun p hp e=>by
  have:=h.key_mem.1 ⟨p,hp,e⟩
  rw [hx] at this;cases this
theorem WaysOk.known (h:WaysOk g m) (hk:GrOk g) {i c:Int} {a:Bool} (hx:knowsW g.w (i,c,a)=true):(wyK (i,c,a),Value.int .i64 (stepN g i c a:Nat))∈m∧stepE g i c a=0∧stepG g i c a=g:=by
  obtain ⟨k,n,s,h1,h2,h3,h4,h5,h6,h7⟩:=h.at_ _ (knows_mem.1 hx)
  have hm:=make_some (findG_at hk.nd h5)
  have hS:Stepped g i c a k s:=⟨h1,h2,h3,h4,hm.1⟩
  obtain ⟨e1,e2⟩:=hS.step
  rw [hm.2.2] at e1 e2
  rw [hm.2.1] at e1
  refine ⟨by rw [e2];exact h6,hS.zero,?_⟩
  rw [e1,add_same hx,add_same h7]
theorem WaysOk.more (h:WaysOk g m) (hk:GrOk g) {i c:Int} {a:Bool} {k s:Nat} (hS:Stepped g i c a k s) (hx:knowsW g.w (i,c,a)=false):
    knowsW g.w ((stepN g i c a:Nat),c,!a)=false∧WaysOk (stepG g i c a) (m++[(wyK (i,c,a),Value.int .i64 (stepN g i c a:Nat))]++[(wyK ((stepN g i c a:Nat),c,!a),Value.int .i64 (k:Nat))])∧(stepG g i c a).w=g.w++[(i,c,a)]++[(((stepN g i c a:Nat):Int),c,!a)]:=by
  have hj:=okJ_of hk.sc hS.has
  obtain ⟨b1,b2⟩:=next_back hj hS.ne
  obtain ⟨e1,e2⟩:=hS.step
  have hat:=makeN_at hS.make
  have hok:=hk.step i c a
  obtain ⟨t,ht,_,_⟩:=makeL_pre (g:=g) (s:=nextS s c a)
  rw [← e2] at hat e1
  generalize hn:stepN g i c a=n at *
  have hb:knowsW g.w ((n:Nat),c,!a)=false:=by
    cases hb:knowsW g.w ((n:Nat),c,!a) with
    | false=>rfl
    | true =>
      obtain ⟨k',n',s',h1,h2,h3,h4,h5,h6,h7⟩:=h.at_ _ (knows_mem.1 hb)
      simp only at h1 h3 h4 h5 h7
      have hkn:k'=n:=by omega
      subst hkn
      rw [ht,dO (List.getElem?_eq_some_iff.1 h2).1,h2] at hat
      simp only [Option.some.injEq] at hat
      subst hat
      rw [b1] at h5
      have:n'=k:=by
        have:=findG_at hk.nd h5
        rw [findG_at hk.nd hS.at_] at this
        simpa using this.symm
      subst this
      rw [Bool.not_not,← hS.i,hx] at h7
      cases h7
  have hne:¬((i,c,a):Wy)=(((n:Nat):Int),c,!a):=fun e=>by
    have:a = !a:=congrArg (fun x:Wy=>x.2.2) e
    cases a<;>cases this
  have hw:(stepG g i c a).w=g.w++[(i,c,a)]++[(((n:Nat):Int),c,!a)]:=by
    rw [e1]
    show addW (addW g.w (i,c,a)) ((n:Nat),c,!a)=_
    have:addW g.w (i,c,a)=g.w++[(i,c,a)]:=by unfold addW;rw [if_neg (by rw [hx];decide)]
    rw [this]
    unfold addW
    rw [if_neg]
    intro hh
    rw [knows_mem,List.mem_append] at hh
    rcases hh with hh|hh
    · rw [← knows_mem,hb] at hh;cases hh
    · rw [List.mem_singleton] at hh;exact hne hh.symm
  have hl:(stepG g i c a).l=makeL g (nextS s c a):=by rw [e1]
  have hsc:(stepG g i c a).sc=g.sc:=by rw [e1]
  have hold:∀ {j v:Nat},g.l[j]? = some v→(stepG g i c a).l[j]? = some v:=fun {j v} hj=>by rw [hl,ht,dO (List.getElem?_eq_some_iff.1 hj).1];exact hj
  refine ⟨hb,⟨by rw [dF,dF,h.keys,hw,dF,dF];rfl,fun x hxm => ?_⟩,hw⟩
  rw [hw,List.mem_append,List.mem_append,List.mem_singleton,List.mem_singleton] at hxm
  have hkn1:knowsW (stepG g i c a).w (i,c,a)=true:=by rw [hw,knows_mem];simp
  have hkn2:knowsW (stepG g i c a).w ((n:Nat),c,!a)=true:=by rw [hw,knows_mem];simp
  rcases hxm with (hxm|rfl)|rfl
  · obtain ⟨k',n',s',h1,h2,h3,h4,h5,h6,h7⟩:=h.at_ _ hxm
    refine ⟨k',n',s',h1,hold h2,by rw [hsc];exact h3,h4,hold h5,by simp [h6],?_⟩
    rw [hw,knows_mem]
    rw [knows_mem] at h7
    simp [h7]
  · exact ⟨k,n,s,hS.i,hold hS.at_,by rw [hsc];exact hS.has,hS.ne,by rw [hl];exact hat,by simp,hkn2⟩
  · refine ⟨n,k,nextS s c a,rfl,by rw [hl];exact hat,by rw [hsc];exact hS.has,?_,?_,by simp,?_⟩
    · simp only;rw [b2];cases a<;>decide
    · simp only;rw [b1];exact hold hS.at_
    · simp only;rw [Bool.not_not,← hS.i];exact hkn1
theorem WaysOk.same_l (h:WaysOk g m) {g':Gr} (hl:∃ t,g'.l=g.l++t) (hs:g'.sc=g.sc) (hw:g'.w=g.w):WaysOk g' m:=by
  obtain ⟨t,ht⟩:=hl
  refine ⟨by rw [hw];exact h.keys,fun x hx => ?_⟩
  rw [hw] at hx
  obtain ⟨k',n',s',h1,h2,h3,h4,h5,h6,h7⟩:=h.at_ _ hx
  exact ⟨k',n',s',h1,by rw [ht,dO (List.getElem?_eq_some_iff.1 h2).1];exact h2,by rw [hs];exact h3,h4,by rw [ht,dO (List.getElem?_eq_some_iff.1 h5).1];exact h5,h6,by rw [hw];exact h7⟩
end
abbrev tbl (g:Gr) (s:Nat):Tb:=⟨g.sc,s,g.rows,0,[]⟩
def tabsG (g:Gr):List Rsc:=g.l.map fun s=>tbR (tbl g s)
abbrev PT:TypeId:=42
def TArr (H:Nat→Option Obj) (v:Value) (ps:List Nat):Prop:=(v=nilSlc∧ps=[])∨∃ db,LeadsTo H db v PT 1 (pvs ps)
theorem TArr.slice {H:Nat→Option Obj} {v:Value} {ps:List Nat} (h:TArr H v ps):∃ ad cap,v = .slice ad ps.length cap:=by
  rcases h with ⟨rfl,rfl⟩|⟨db,len,cap,arr,fr,rfl,h2,_⟩
  · exact ⟨none,0,rfl⟩
  · have:len=ps.length:=by rw [pvs_len] at h2;omega
    rw [this];exact ⟨_,cap,rfl⟩
theorem TArr.ptrs {H:Nat→Option Obj} {v:Value} {ps:List Nat} (h:TArr H v ps):PtrsIn H v ps:=by
  rcases h with ⟨rfl,rfl⟩|⟨db,h⟩
  · exact ⟨none,0,rfl,fun i b hb=>by simp at hb⟩
  · exact ptrs_leads h
abbrev FewC (cs:List Cp):Prop:=cs.length≤30∧∀ c∈cs,c.fs.length≤12
structure GraIn (g:Gr) (Hs Hm Hr Ha:Nat→Option Obj) (vC vT:Value) (mb:Nat) (ps:List Nat) (m:List (Value×Value)):Prop where
  sc:∃ (cb cc:Nat),vC = .slice (some ⟨cb,0,none⟩) g.sc.cs.length cc∧CompsIn Hs (some ⟨cb,0,none⟩) g.sc.cs
  map:∃ mn,(mapR Tryz.prog WK m).holds (mb,mn) Hm
  refs:Refs Hr ps (tabsG g)
  arr:TArr Ha vT ps
  ways:WaysOk g m
  names:NamesIn g.sc.cs
  few:FewC g.sc.cs
abbrev grV (g:Gr) (vC vT:Value) (mb:Nat):List Value:=[.int .i64 g.sc.ver,vC,.int .i64 (g.archs:Nat),.int .i64 (g.rows:Nat),vT,.map (some mb)]
abbrev ApM (A B:Nat→Option Obj):Prop := ∀ b,B b≠none→A b=none
structure GrHS (H:Nat→Option Obj) (g:Gr) (Hs Hm Hr Ha:Nat→Option Obj) (vC vT:Value) (mb:Nat) (ps:List Nat) (m:List (Value×Value)):Prop where
  mem:H=joinM (joinM (joinM Hs Hm) Hr) Ha
  a1:ApM Hs Hm
  a2:ApM (joinM Hs Hm) Hr
  a3:ApM (joinM (joinM Hs Hm) Hr) Ha
  to:GraIn g Hs Hm Hr Ha vC vT mb ps m
def GrH (H:Nat→Option Obj) (vals:List Value) (g:Gr):Prop := ∃ Hs Hm Hr Ha vC vT mb ps m,vals=grV g vC vT mb∧GrHS H g Hs Hm Hr Ha vC vT mb ps m
def gR (g:Gr):Rsc:=⟨fun ρ H=>ρ.2=6∧∃ (fr:Nat×Nat) (vals:List Value),H ρ.1=some (.cells vals.toArray 75 fr)∧GrH (cutM H ρ.1) vals g⟩
abbrev gB (k:Nat) (g:Gr):Nat×Option Box:=(k,some ⟨0,[],.res (gR g)⟩)
abbrev gO (k:Nat) (vals:List Value):Nat×Option Box:=(k,some ⟨75,vals.map .val,false⟩)
abbrev LnilG:LV:=.sv (.one (.val (.pointer none)))
structure GrX (Y:Nat→Option Obj) (g:Gr) (vC vT:Value) (mb:Nat) (ps:List Nat) (m:List (Value×Value)):Prop where
  sc:∃ (cb cc:Nat),vC = .slice (some ⟨cb,0,none⟩) g.sc.cs.length cc∧CompsIn Y (some ⟨cb,0,none⟩) g.sc.cs
  map:MapIn Tryz.prog WK Y mb m
  len:ps.length=g.l.length
  ptrs:PtrsIn Y vT ps
  tabs:∀ (i s:Nat),g.l[i]? = some s→∃ b,ps[i]? = some b∧TbX Y ⟨b,0,none⟩ (tbl g s)
  ways:WaysOk g m
  names:NamesIn g.sc.cs
  few:FewC g.sc.cs
def GrIn (Y:Nat→Option Obj) (vals:List Value) (g:Gr):Prop := ∃ vC vT mb ps m,vals=grV g vC vT mb∧GrX Y g vC vT mb ps m
theorem GrX.mono {Y Z:Nat→Option Obj} {g:Gr} {vC vT:Value} {mb:Nat} {ps:List Nat} {m:List (Value×Value)} (hYZ:∀ b o,Y b=some o→Z b=some o) (h:GrX Y g vC vT mb ps m):GrX Z g vC vT mb ps m:=by
  obtain ⟨cb,cc,h1,h2⟩:=h.sc
  exact ⟨⟨cb,cc,h1,h2.mono hYZ⟩,h.map.mono hYZ,h.len,h.ptrs.mono hYZ,fun i s hs=>let ⟨b,g1,g2⟩:=h.tabs i s hs;⟨b,g1,g2.mono hYZ⟩,h.ways,h.names,h.few⟩
theorem GrIn.mono {Y Z:Nat→Option Obj} {vals:List Value} {g:Gr} (hYZ:∀ b o,Y b=some o→Z b=some o) (h:GrIn Y vals g):GrIn Z vals g:=by
  obtain ⟨vC,vT,mb,ps,m,h1,h2⟩:=h
  exact ⟨vC,vT,mb,ps,m,h1,h2.mono hYZ⟩
theorem tblOk_of {g:Gr} (hk:GrOk g) {s:Nat} (h:s∈g.l):goodT g.sc s (g.rows:Nat)=true∧TbOk (tbl g s):=by
  obtain ⟨h1,h2⟩:=hk.can s h
  have hg:goodT g.sc s (g.rows:Nat)=true:=by
    unfold canG at h1
    rw [Bool.and_eq_true] at h1
    have:=hk.rows
    unfold goodT
    rw [cN hk.sc,h1.1,h1.2,cN (by omega),cN (by omega)];rfl
  exact ⟨hg,TbOk.new h2 hg⟩
theorem tabs_at {g:Gr} {i s:Nat} (h:g.l[i]? = some s):(tabsG g)[i]? = some (tbR (tbl g s)):=by unfold tabsG;rw [dJ,h];rfl
theorem tabs_len (g:Gr):(tabsG g).length=g.l.length:=cV _
theorem refs_tabs {H Y:Nat→Option Obj} {g:Gr} {ps:List Nat} (hk:GrOk g) (h:Refs H ps (tabsG g)) (hX:∀ x o,H x=some o→Y x=some o):∀ (i s:Nat),g.l[i]? = some s→∃ b,ps[i]? = some b∧TbX Y ⟨b,0,none⟩ (tbl g s):=fun i s hs=>by
  obtain ⟨b,m,Hc,h1,h2,_,h4,_⟩:=h.take (tabs_at hs)
  exact ⟨b,h1,tbR_x (tblOk_of hk (dB hs)).2 h2 fun x o hx=>hX _ _ (h4 x o hx)⟩
theorem GraIn.x {g:Gr} {Hs Hm Hr Ha Y:Nat→Option Obj} {vC vT:Value} {mb:Nat} {ps:List Nat} {m:List (Value×Value)} (hk:GrOk g) (h:GraIn g Hs Hm Hr Ha vC vT mb ps m)
    (h1:∀ b o,Hs b=some o→Y b=some o) (h2:∀ b o,Hm b=some o→Y b=some o) (h3:∀ b o,Hr b=some o→Y b=some o) (h4:∀ b o,Ha b=some o→Y b=some o):GrX Y g vC vT mb ps m:=by
  obtain ⟨cb,cc,e1,e2⟩:=h.sc
  obtain ⟨mn,hm⟩:=h.map
  exact ⟨⟨cb,cc,e1,e2.mono h1⟩,(MapIn.of hm).1.mono h2,by rw [h.refs.len,tabs_len],h.arr.ptrs.mono h4,refs_tabs hk h.refs h3,h.ways,h.names,h.few⟩
section
variable {P:Program} {n:Nat} {C:Ctx} {c:Code} {Q:Exit→St→Prop} {X H:Nat→Option Obj} {s:List (Nat×LV)} {bx:List (Nat×Option Box)} {k:Nat} {g:Gr} {vals:List Value}
theorem own4 {A B D E:Nat→Option Obj} (h:OwnedM C X H) (e:H=joinM (joinM (joinM A B) D) E) (a1:ApM A B) (a2:ApM (joinM A B) D) (a3:ApM (joinM (joinM A B) D) E):
    OwnedM C X A∧OwnedM C (joinM X A) B∧OwnedM C (joinM (joinM X A) B) D∧OwnedM C (joinM (joinM (joinM X A) B) D) E∧joinM X H=joinM (joinM (joinM (joinM X A) B) D) E:=by
  obtain ⟨h1,h2⟩:=own_join h e a3
  obtain ⟨h3,h4⟩:=own_join h1 rfl a2
  obtain ⟨h5,h6⟩:=own_join h3 rfl a1
  refine ⟨h5,h6,by rw [joinM_join];exact h4,by rw [joinM_join X A B,joinM_join];exact h2,?_⟩
  rw [e,← joinM_join,← joinM_join,← joinM_join]
theorem ap_own {A B:Nat→Option Obj} (h:OwnedM C (joinM X A) B):ApM A B:=fun _ hb=>own_far h hb
theorem ap4 {A B D E:Nat→Option Obj} (h2:OwnedM C (joinM X A) B) (h3:OwnedM C (joinM (joinM X A) B) D) (h4:OwnedM C (joinM (joinM (joinM X A) B) D) E):ApM A B∧ApM (joinM A B) D∧ApM (joinM (joinM A B) D) E:=
  ⟨ap_own h2,ap_own (by rw [← joinM_join];exact h3),ap_own (by rw [← joinM_join,← joinM_join];exact h4)⟩
theorem own4_join {A B D E:Nat→Option Obj} (h1:OwnedM C X A) (h2:OwnedM C (joinM X A) B) (h3:OwnedM C (joinM (joinM X A) B) D) (h4:OwnedM C (joinM (joinM (joinM X A) B) D) E):OwnedM C X (joinM (joinM (joinM A B) D) E):=
  ((h1.join h2).join (by rw [← joinM_join];exact h3)).join (by rw [← joinM_join,← joinM_join];exact h4)
theorem g_in (hO:OwnedM C X H) (h:GrH H vals g) (hk:GrOk g:=by assumption):GrIn (joinM X H) vals g:=by
  obtain ⟨Hs,Hm,Hr,Ha,vC,vT,mb,ps,m,h1,h2⟩:=h
  obtain ⟨o1,o2,o3,o4,e⟩:=own4 hO h2.mem h2.a1 h2.a2 h2.a3
  refine ⟨vC,vT,mb,ps,m,h1,h2.to.x hk ?_ ?_ ?_ ?_⟩
  · rw [e];exact fun b o hb=>joinM_has o4 (joinM_has o3 (joinM_has o2 (joinM_in hb)))
  · rw [e];exact fun b o hb=>joinM_has o4 (joinM_has o3 (joinM_in hb))
  · rw [e];exact fun b o hb=>joinM_has o4 (joinM_in hb)
  · rw [e];exact fun b o hb=>joinM_in hb
theorem g_len {vals:List Value} {H:Nat→Option Obj} (h:GrH H vals g):vals.length=6:=by
  obtain ⟨_,_,_,_,_,_,_,_,_,rfl,_⟩:=h
  rfl
theorem g_open (h:∀ (H:Nat→Option Obj) (vals:List Value),OwnedM C X H→GrH H vals g→LWP P n C c Q ⟨s,gO k vals::bx,joinM X H⟩):LWP P n C c Q ⟨s,gB k g::bx,X⟩:=by
  refine LWP.openRes (fun ρ H h => ?_) fun ρ H vals el fr hR hv hO => ?_
  · obtain ⟨h1,fr,vals,h2,h3⟩:=h
    exact ⟨_,_,fr,h2,by rw [h1];exact g_len h3⟩
  · obtain ⟨h1,fr',vs,h2,h3⟩:=hR
    rw [hv] at h2
    simp only [Option.some.injEq,Obj.cells.injEq] at h2
    obtain ⟨rfl,rfl,rfl⟩:=h2
    exact h _ _ (hO.cut ρ.1) h3
theorem g_holds {H:Nat→Option Obj} (hI:GrH H vals g) (ρ:Nat×Nat) (fr:Nat×Nat) (g1:H ρ.1=none) (g3:ρ.2=vals.length):(gR g).holds ρ (withBlock H ρ.1 (.cells vals.toArray 75 fr)):=
  ⟨by rw [g3];exact g_len hI,fr,vals,cK _ _ _,by rw [cut_with g1];exact hI⟩
theorem g_shut {Mid:St→Prop} (hO:OwnedM C X H) (hI:GrH H vals g) (h:Leads n C Mid ⟨s,gB k g::bx,X⟩):Leads n C Mid ⟨s,gO k vals::bx,joinM X H⟩:=
  Leads.closeRes (vals:=vals) hO (fun ρ fr g1 _ g3=>g_holds hI ρ fr g1 g3) h
end
end Go.Proofs.YtjifibloagkeeaaGreat
end
section
namespace Go.Proofs.YtjifibloagkeeaaGreat
open Go Go.Lg Go.Lg.Fld Go.Lg.Sg
set_option maxRecDepth 100000
def u32V (l:List Nat):List Value:=l.map fun n=>.int .u32 (n:Nat)
def U32In (X:Nat→Option Obj) (ad:Option Addr) (l:List Nat):Prop:=Go.Lg.RowsIn X ad 1 (l.map fun n=>[Value.int .u32 (n:Nat)])
def wyV (x:Wy):List Value:=[.int .i64 x.1,.int .i64 x.2.1,.bool x.2.2]
def WysIn (X:Nat→Option Obj) (ad:Option Addr) (w:List Wy):Prop:=Go.Lg.RowsIn X ad 3 (w.map wyV)
theorem U32In.mono {X Y:Nat→Option Obj} (hXY:∀ b o,X b=some o→Y b=some o) {ad:Option Addr} {l:List Nat} (h:U32In X ad l):U32In Y ad l:=Go.Lg.RowsIn.mono h hXY
theorem WysIn.mono {X Y:Nat→Option Obj} (hXY:∀ b o,X b=some o→Y b=some o) {ad:Option Addr} {l:List Wy} (h:WysIn X ad l):WysIn Y ad l:=Go.Lg.RowsIn.mono h hXY
theorem joinM_mono {X H:Nat→Option Obj}:∀ b o,H b=some o→joinM X H b=some o:=fun _ _ h=>joinM_in h
theorem U32In.nil {X:Nat→Option Obj} {ad:Option Addr}:U32In X ad []:=fun i r h=>by simp at h
theorem WysIn.nil {X:Nat→Option Obj} {ad:Option Addr}:WysIn X ad []:=fun i r h=>by simp at h
def rgV (g:Gr) (ad:Option Addr) (cap:Nat) (lad:Option Addr) (lc:Nat) (wad:Option Addr) (wc:Nat):List Value:=[.int .i64 g.sc.ver,.slice ad g.sc.cs.length cap,.int .i64 (g.archs:Nat),.slice lad g.l.length lc,.slice wad g.w.length wc]
def rgR (ad:Option Addr) (cap:Nat) (g:Gr):Rsc:=⟨fun ρ H=>ρ.2=5∧∃ (fr:Nat×Nat) (lad:Option Addr) (lc:Nat) (wad:Option Addr) (wc:Nat),
  H ρ.1=some (.cells (rgV g ad cap lad lc wad wc).toArray 51 fr)∧U32In (cutM H ρ.1) lad g.l∧WysIn (cutM H ρ.1) wad g.w⟩
abbrev rgB (k:Nat) (ad:Option Addr) (cap:Nat) (g:Gr):Nat×Option Box:=(k,some ⟨0,[],.res (rgR ad cap g)⟩)
abbrev rgO (k:Nat) (g:Gr) (ad:Option Addr) (cap:Nat) (lad:Option Addr) (lc:Nat) (wad:Option Addr) (wc:Nat):Nat×Option Box:=(k,some ⟨51,[.val (.int .i64 g.sc.ver),.val (.slice ad g.sc.cs.length cap),.val (.int .i64 (g.archs:Nat)),.val (.slice lad g.l.length lc),.val (.slice wad g.w.length wc)],false⟩)
theorem rg_root (ad:Option Addr) (cap:Nat) (g:Gr):∀ ρ H,(rgR ad cap g).holds ρ H→∃ vals el fr,H ρ.1=some (.cells vals el fr)∧vals.size=ρ.2:=fun ρ H h=>by
  obtain ⟨h1,fr,lad,lc,wad,wc,h2,_⟩:=h
  exact ⟨_,_,fr,h2,by rw [h1];rfl⟩
section
variable {P:Program} {n:Nat} {C:Ctx} {c:Code} {Q:Exit→St→Prop} {X:Nat→Option Obj} {s:List (Nat×LV)} {bx:List (Nat×Option Box)} {k:Nat}
theorem rg_open {ad:Option Addr} {cap:Nat} {g:Gr}
    (h:∀ (H:Nat→Option Obj) (lad:Option Addr) (lc:Nat) (wad:Option Addr) (wc:Nat),OwnedM C X H→U32In H lad g.l→WysIn H wad g.w→LWP P n C c Q ⟨s,rgO k g ad cap lad lc wad wc::bx,joinM X H⟩):
    LWP P n C c Q ⟨s,rgB k ad cap g::bx,X⟩:=by
  refine LWP.openRes (rg_root ad cap g) fun ρ H vals el fr hR hv hO => ?_
  obtain ⟨h1,fr',lad,lc,wad,wc,h2,h3,h4⟩:=hR
  rw [hv] at h2
  simp only [Option.some.injEq,Obj.cells.injEq] at h2
  obtain ⟨rfl,rfl,rfl⟩:=h2
  exact h _ lad lc wad wc (hO.cut _) h3 h4
theorem rg_holds {ad:Option Addr} {cap:Nat} {g:Gr} {H:Nat→Option Obj} {lad:Option Addr} {lc:Nat} {wad:Option Addr} {wc:Nat} (hL:U32In H lad g.l) (hW:WysIn H wad g.w) (ρ:Nat×Nat) (fr:Nat×Nat) (h1:H ρ.1=none) (h3:ρ.2=(rgV g ad cap lad lc wad wc).length):
    (rgR ad cap g).holds ρ (withBlock H ρ.1 (.cells (rgV g ad cap lad lc wad wc).toArray 51 fr)):=
  ⟨h3,fr,lad,lc,wad,wc,cK _ _ _,by rw [cut_with h1];exact hL,by rw [cut_with h1];exact hW⟩
theorem rg_shut {Mid:St→Prop} {ad:Option Addr} {cap:Nat} {g:Gr} {H:Nat→Option Obj} {lad:Option Addr} {lc:Nat} {wad:Option Addr} {wc:Nat} (hO:OwnedM C X H) (hL:U32In H lad g.l) (hW:WysIn H wad g.w)
    (h:Leads n C Mid ⟨s,rgB k ad cap g::bx,X⟩):Leads n C Mid ⟨s,rgO k g ad cap lad lc wad wc::bx,joinM X H⟩:=
  Leads.closeRes (vals:=rgV g ad cap lad lc wad wc) hO (fun ρ fr g1 _ g3=>rg_holds hL hW ρ fr g1 g3) h
theorem rg_shutL {ad:Option Addr} {cap:Nat} {g:Gr} {H:Nat→Option Obj} {lad:Option Addr} {lc:Nat} {wad:Option Addr} {wc:Nat} (hO:OwnedM C X H) (hL:U32In H lad g.l) (hW:WysIn H wad g.w)
    (h:LWP P n C c Q ⟨s,rgB k ad cap g::bx,X⟩):LWP P n C c Q ⟨s,rgO k g ad cap lad lc wad wc::bx,joinM X H⟩:=
  LWP.closeRes (vals:=rgV g ad cap lad lc wad wc) hO (fun ρ fr g1 _ g3=>rg_holds hL hW ρ fr g1 g3) h
end
end Go.Proofs.YtjifibloagkeeaaGreat
end
section
namespace Go.Proofs.YtjifibloagkeeaaGreat
open Go Go.Lg Go.Lg.Fld Go.Lg.Sg
set_option maxRecDepth 100000
abbrev gS (k:Nat) (g:Gr) (cC cT cM:CV):Nat×Option Box:=(k,some ⟨75,[.val (.int .i64 g.sc.ver),cC,.val (.int .i64 (g.archs:Nat)),.val (.int .i64 (g.rows:Nat)),cT,cM],false⟩)
abbrev mV (mb:Nat):CV:=.val (.map (some mb))
abbrev vS' (ad:Option Addr) (n cap:Nat):CV:=.val (.slice ad n cap)
theorem hasC_first {cs:List Cp} {id:Int} (h:hasC cs id=true):∃ (i:Nat) (c:Cp),cs[i]? = some c∧c.id=id∧∀ (j:Nat) (y:Cp),j<i→cs[j]? = some y→(y.id==id)=false:=by
  unfold hasC at h
  cases hf:cs.findIdx? (fun c=>c.id==id) with
  | none =>
    rw [List.findIdx?_eq_none_iff] at hf
    obtain ⟨x,hx,e⟩:=List.any_eq_true.1 h
    rw [hf x hx] at e;cases e
  | some i =>
    obtain ⟨hi,h1,h2⟩:=List.findIdx?_eq_some_iff_getElem.1 hf
    refine ⟨i,_,cW hi,by simpa using h1,fun j y hj hy => ?_⟩
    have:=h2 j hj
    rw [cW (by omega)] at hy
    simp only [Option.some.injEq] at hy
    rw [← hy]
    simpa using this
theorem hasC_no {cs:List Cp} {id:Int} (h:hasC cs id=false):∀ (j:Nat) (y:Cp),cs[j]? = some y→(y.id==id)=false:=fun j y hy=>by
  unfold hasC at h
  have:=List.any_eq_false.1 h y (dB hy)
  simpa using this
variable (X:Nat→Option Obj)
theorem tfind1_spec (s:Nat) (x:Nat) (g:Gr) {tb b:Nat} {arr:Array Value} {el:TypeId} {fr:Nat×Nat} (hT:TbX X ⟨tb,0,none⟩ (tbl g x)) (hX:X b=some (.cells arr el fr)) (h0:arr[0]? = some (.int .u32 (s:Nat))):
    PSpec Tryz.prog X 38 [Vp tb,Vp b] (Lb (x==s)):=by
  have hS:=tSigX X _ _ hT
  have he:(((x:Nat):Int)==((s:Nat):Int))=(x==s):=by
    rw [Bool.eq_iff_iff];simp only [beq_iff_eq];omega
  refine cD Tryz.func38 rfl (by kernel_rfl) rfl rfl ?_
  intro C
  (refine aA<|rgN<|kas O<|aB<|aA<|rgD mixed<|kmv O<|kca O O hS<|aW O hX O h0 dP<|keq O O he<|kas O<|aB<|rgA ?_;refine aI ?_)
  exact ⟨[_],⟨O,trivial⟩,O⟩
theorem idxT_spec (pad:Option Addr) (pcap:Nat) (l ps:List Nat) (hlen:ps.length=l.length) (hP:PtrsIn X (.slice pad ps.length pcap) ps) (hbig:ps.length<4611686018427387904) (f:FuncId) (caps:List Value) (p:Nat→Bool)
    (hp:∀ (i s b:Nat),l[i]? = some s→ps[i]? = some b→PSpec Tryz.prog X f ([Vp b]++caps.map fun v=>.sv (.one (.val v))) (Lb (p s))):
    PSpec Tryz.prog X 37 [Lx pad ps.length pcap,Lf f caps] (Ln .i64 (findI p l)):=by
  obtain ⟨pad',pcap',he,hP⟩:=hP
  simp only [Value.slice.injEq,true_and] at he
  obtain ⟨rfl,rfl⟩:=he
  refine cD Tryz.func37 rfl (by kernel_rfl) rfl rfl ?_
  intro C
  (refine aA<|rgN<|kas O<|aB<|aA<|aA<|rgN<|kmv O<|aQ O bY O dP ?_;refine kmv O<|aB<|aG ?_)
  refine cH (fun m σ=>∃ i:Nat,i≤ps.length∧m=ps.length-i∧(∀ (j:Nat) (y:Nat),j<i→l[j]? = some y→p y=false)∧σ=⟨[(0,Lx pad ps.length pcap),(1,Lf f caps),(7,Ln .i64 (ps.length:Nat)),(8,Ln .i64 (i:Nat))],[],X⟩) ps.length
    ⟨_,Le.of (by exact ⟨rfl,rfl,rfl,rfl,trivial⟩) (by exact trivial) (by exact rfl) (by exact rfl) (by exact rfl),0,by omega,by omega,fun j y hj=>absurd hj (by omega),rfl⟩ ?_
  rintro m σ ⟨i,hi,rfl,hpre,rfl⟩
  by_cases hlt:i<ps.length
  · obtain ⟨b,hb⟩:∃ b,ps[i]? = some b:=⟨_,cW hlt⟩
    obtain ⟨s,hs⟩:∃ s,l[i]? = some s:=⟨_,cW (by omega)⟩
    obtain ⟨blk,arr,el,fr,rfl,hX,hcs⟩:=hP i b hb
    have hio:0+Int.toNat (i:Int)*1=i:=by simp
    have hPs:=hp i s b hs hb
    have hadd:IntKind.i64.wrap (((i:Nat):Int)+1)=((i+1:Nat):Int):=by rw [cF (by omega)];omega
    cases hpc:p s with
    | true =>
      rw [hpc] at hPs
      rw [findI_some hpre hs hpc]
      (refine aA<|rgN<|klt O O (cN (by omega))<|aB<|aA<|aE O ?_;refine aH ?_;refine aA<|aG<|aA<|rgN<|kmv O<|kas O<|aB<|aA<|rgN<|kmv O<|kmv O<|kmv O<|aR O O bY (by omega) hio dP<|aW O hX O hcs dP ?_;refine K.callF O O O hPs dP ?_;refine aB<|aE O ?_;refine aA<|rgN<|kmv O<|kas O<|aB<|aI ?_)
      exact ⟨[_],⟨O,trivial⟩,O⟩
    | false =>
      rw [hpc] at hPs
      (refine aA<|rgN<|klt O O (cN (by omega))<|aB<|aA<|aE O ?_;refine aH ?_;refine aA<|aG<|aA<|rgN<|kmv O<|kas O<|aB<|aA<|rgN<|kmv O<|kmv O<|kmv O<|aR O O bY (by omega) hio dP<|aW O hX O hcs dP ?_;refine K.callF O O O hPs dP ?_;refine aB<|aF O ?_;refine aH ?_;refine rgN<|kad O O hadd<|kmv O<|aB ?_)
      exact ⟨_,_,by omega,Le.of (by exact ⟨O,O,O,O,trivial⟩) (by exact trivial) (by exact O) (by exact O) (by exact O),i+1,by omega,O,(fun j y hj hy=>by
        by_cases e:j=i
        · subst e;rw [hs] at hy;cases hy;exact hpc
        · exact hpre j y (by omega) hy),rfl⟩
  · rw [findI_none fun j y hy=>hpre j y (by have:=(List.getElem?_eq_some_iff.1 hy).1;omega) hy]
    (refine aA<|rgN<|klt O O (cL (by omega))<|aB<|aA<|aF O ?_;refine aJ<|aA<|rgN<|kas O<|aB<|aI ?_)
    exact ⟨[_],⟨O,trivial⟩,O⟩
section
variable (g:Gr) (vC:Value) (pad:Option Addr) (pcap mb:Nat) (ps:List Nat) (m:List (Value×Value)) (hI:GrX X g vC (.slice pad ps.length pcap) mb ps m) (hk:GrOk g)
include hI hk
omit hk in
theorem hlen0:MSpec Tryz.prog X 11 [Lp 1000000] [gS 1000000 g (.val vC) (vS' pad ps.length pcap) (mV mb)] (Ln .i64 (g.l.length:Nat)) [gS 1000000 g (.val vC) (vS' pad ps.length pcap) (mV mb)]:=by
  have hl:=hI.len
  refine cE Tryz.func11 rfl (by kernel_rfl) rfl rfl (by exact (by repeat' (first|refine bR ?_ ?_|rfl|exact bT|exact bS|exact bU rfl))) rfl rfl ?_
  intro C
  rw [← hl]
  (refine aA<|rgN<|kas O<|aB<|aA<|aA<|rgN<|kmv O<|K.ptrNil O (by kernel_rfl) (.inl ⟨O,O⟩) dP<|aB<|aF O ?_;refine aH ?_;refine aA<|rgN<|kmv O<|bI O dP<|kfa O O ?_;refine kl1 O O O<|aQ O bY O dP ?_;refine kas O<|aB<|aI ?_)
  exact ⟨[],⟨[_],⟨rfl,trivial⟩,rfl⟩,(by repeat' (first|exact trivial|refine cO ⟨_,rfl,?_⟩ ?_|refine cO ⟨_,rfl⟩ ?_|rfl|exact bV _ _ _ _|exact bW _ _ _ _|exact bX rfl)),rfl,rfl⟩
theorem hroom0:MSpec Tryz.prog X 12 [Lp 1000000] [gS 1000000 g (.val vC) (vS' pad ps.length pcap) (mV mb)] (Ln .i64 (g.archs-g.l.length:Nat)) [gS 1000000 g (.val vC) (vS' pad ps.length pcap) (mV mb)]:=by
  have h0:=hlen0 X g vC pad pcap mb ps m hI
  have hr:=hk.room
  have ha:=hk.archs
  have h1:IntKind.i64.wrap (((g.archs:Nat):Int)-(g.l.length:Nat))=((g.archs-g.l.length:Nat):Int):=by rw [cF (by omega)];omega
  generalize g.archs-g.l.length=rm at *
  refine cE Tryz.func12 rfl (by kernel_rfl) rfl rfl (by exact (by repeat' (first|refine bR ?_ ?_|rfl|exact bT|exact bS|exact bU rfl))) rfl rfl ?_
  intro C
  (refine aA<|rgN<|kas O<|aB<|aA<|aA<|rgN<|kmv O<|K.ptrNil O (by kernel_rfl) (.inl ⟨O,O⟩) dP<|aB<|aF O ?_;refine aH ?_;refine aA<|rgD mixed<|kmv O<|bI O dP<|kfa O O ?_;refine kl1 O O O<|kmv O<|K.callR [(1000000,1000000)] (h0) O O (by exact (cO ⟨_,O,O⟩ trivial)) (by exact (bR (bR O (bR O (bR O (bR O (bR O (bR O O)))))) O)) O O O O dP<|bA O O h1 dP<|kas O<|aB<|rgA ?_;refine aI ?_)
  exact ⟨[],⟨[_],⟨rfl,trivial⟩,rfl⟩,(by repeat' (first|exact trivial|refine cO ⟨_,rfl,?_⟩ ?_|refine cO ⟨_,rfl⟩ ?_|rfl|exact bV _ _ _ _|exact bW _ _ _ _|exact bX rfl)),rfl,rfl⟩
omit hk in
theorem hways0:MSpec Tryz.prog X 13 [Lp 1000000] [gS 1000000 g (.val vC) (vS' pad ps.length pcap) (mV mb)] (Ln .i64 (g.w.length:Nat)) [gS 1000000 g (.val vC) (vS' pad ps.length pcap) (mV mb)]:=by
  have hw:=hI.ways.len
  have hm:=hI.map
  refine cE Tryz.func13 rfl (by kernel_rfl) rfl rfl (by exact (by repeat' (first|refine bR ?_ ?_|rfl|exact bT|exact bS|exact bU rfl))) rfl rfl ?_
  intro C
  (refine aA<|rgN<|kas O<|aB<|aA<|aA<|rgN<|kmv O<|K.ptrNil O (by kernel_rfl) (.inl ⟨O,O⟩) dP<|aB<|aF O ?_;refine aH ?_;refine aA<|rgN<|kmv O<|bI O dP<|kfa O O ?_;refine kl1 O O O<|K.lenMapX (kt:=WK) (et:=3) O hm (by kernel_rfl) (by rw [hw]) dP ?_;refine kas O<|aB<|aI ?_)
  exact ⟨[],⟨[_],⟨rfl,trivial⟩,rfl⟩,(by repeat' (first|exact trivial|refine cO ⟨_,rfl,?_⟩ ?_|refine cO ⟨_,rfl⟩ ?_|rfl|exact bV _ _ _ _|exact bW _ _ _ _|exact bX rfl)),rfl,rfl⟩
theorem wayAt (x:Wy):∃ v,At m (wyK x) v (.int .i64 0)∧(knowsW g.w x=true→v = .int .i64 (stepN g x.1 x.2.1 x.2.2:Nat))∧(knowsW g.w x=true↔∃ p∈m,p.1=wyK x):=by
  have hkm:=hI.ways.key_mem (x:=x)
  cases hx:knowsW g.w x with
  | true =>
    obtain ⟨h1,_⟩:=hI.ways.known hk (i:=x.1) (c:=x.2.1) (a:=x.2.2) hx
    exact ⟨_,.inl h1,fun _=>rfl,by rw [hkm,hx]⟩
  | false=>exact ⟨.int .i64 0,.inr ⟨hI.ways.no hx,rfl⟩,fun h=>(by cases h),by rw [hkm,hx]⟩
theorem hknows0 (i c:Int) (a:Bool) (hi:In6 i) (hc:In6 c):MSpec Tryz.prog X 16 [Lp 1000000,Ln .i64 i,Ln .i64 c,Lb a] [gS 1000000 g (.val vC) (vS' pad ps.length pcap) (mV mb)] (Lb (knowsW g.w (i,c,a))) [gS 1000000 g (.val vC) (vS' pad ps.length pcap) (mV mb)]:=by
  obtain ⟨v,h1,_,h3⟩:=wayAt X g vC pad pcap mb ps m hI hk (i,c,a)
  obtain ⟨l,hl⟩:=wyK_key (x:=(i,c,a)) hi hc
  have hm:=hI.map
  generalize knowsW g.w (i,c,a)=q at *
  refine cE Tryz.func16 rfl (by kernel_rfl) rfl rfl (by exact (by repeat' (first|refine bR ?_ ?_|rfl|exact bT|exact bS|exact bU rfl))) rfl rfl ?_
  intro C
  (refine aA<|rgN<|kas O<|aB<|aA<|aA<|rgN<|kmv O<|K.ptrNil O (by kernel_rfl) (.inl ⟨O,O⟩) dP<|aB<|aF O ?_;refine aH ?_;refine aA<|rgN<|kmv O<|bI O dP<|kfa O O ?_;refine kl1 O O O<|kmv O<|kmv O<|kmv O<|aT O O (by exact O) (by exact nl3 O O O O) dP ?_;refine K.lookupOkX (kt:=WK) (et:=3) (z:=.int .i64 0) O O (agg_key (us:=[.int .i64 i,.int .i64 c,.bool a])) hm (by kernel_rfl) wyL hl (by kernel_rfl) h1 h3 dP ?_;refine kmv O<|kex O O<|kex O O<|kas O<|kas O<|aB<|aA<|rgN<|kmv O<|kas O<|aB<|aI ?_)
  exact ⟨[],⟨[_],⟨rfl,trivial⟩,rfl⟩,(by repeat' (first|exact trivial|refine cO ⟨_,rfl,?_⟩ ?_|refine cO ⟨_,rfl⟩ ?_|rfl|exact bV _ _ _ _|exact bW _ _ _ _|exact bX rfl)),rfl,rfl⟩
theorem hfind0 (s:Nat):MSpec Tryz.prog X 10 [Lp 1000000,Ln .u32 (s:Nat)] [gS 1000000 g (.val vC) (vS' pad ps.length pcap) (mV mb)] (.tup [Sn .i64 ((match findG g.l s with|some i=>i|none=>0:Nat):Nat),.one (.val (.bool (findG g.l s).isSome))]) [gS 1000000 g (.val vC) (vS' pad ps.length pcap) (mV mb)]:=by
  have hlen:=hI.len
  have hr:=hk.room
  have ha:=hk.archs
  have hfi:findI (fun x=>x==s) g.l=match findG g.l s with|some i=>(i:Nat)|none => -1:=rfl
  refine cE Tryz.func10 rfl (by kernel_rfl) rfl rfl (by exact (by repeat' (first|refine bR ?_ ?_|rfl|exact bT|exact bS|exact bU rfl))) rfl rfl ?_
  intro C
  (refine aA<|rgN<|K.box1 O O O dP<|kas O<|kas O<|aB<|aA<|aA<|rgN<|kmv O<|K.ptrNil O (by kernel_rfl) (.inl ⟨O,O⟩) dP<|aB<|aF O ?_;refine aH ?_;refine aA ?_)
  refine LWP.le (σ':=⟨[(3,Lp 3),(0,Lp 1000000)],[(3,some ⟨35,[Value.int .u32 (s:Nat)].map .val,false⟩),gS 1000000 g (.val vC) (vS' pad ps.length pcap) (mV mb)],X⟩) (Le.of (by exact ⟨O,O,trivial⟩) (by exact ⟨O,O,trivial⟩) (by exact O) (by exact O) (by repeat' (first|refine bR ?_ ?_|rfl|exact bT|exact bS|exact bU O))) ?_
  refine LWP.freezePtr (by rfl) (by rfl) (by rfl) fun b arr0 fr0 hn _ h0 => ?_
  have hI':=hI.mono (cG (o:=.cells arr0 35 fr0) hn)
  have hq:=idxT_spec _ pad pcap g.l ps hlen hI'.ptrs (by omega) 38 [.pointer (some ⟨b,0,none⟩)] (fun x=>x==s) fun i x tb hx htb=>by
    obtain ⟨tb',e1,e2⟩:=hI'.tabs i x hx
    rw [htb] at e1
    simp only [Option.some.injEq] at e1
    subst e1
    exact tfind1_spec _ s x g e2 (cK X b (.cells arr0 35 fr0)) (at_zero h0)
  rw [hfi] at hq
  cases hf:findG g.l s with
  | none =>
    rw [hf] at hq
    simp only at hq ⊢
    (refine rgN<|kmv O<|bI O dP<|kfa O O ?_;refine kl1 O O O<|K.makeFunc O O dP ?_;refine kca O O hq<|kas O<|aB<|aA<|rgN<|kmv O<|K.max2 O O (c:=0) (by decide) dP ?_;refine kmv O<|bD O O (r:=false) (by decide) dP<|kas O<|kas O<|aB<|aI ?_)
    exact ⟨[],⟨[_,_],⟨rfl,rfl,trivial⟩,rfl⟩,(by repeat' (first|exact trivial|refine cO ⟨_,rfl,?_⟩ ?_|refine cO ⟨_,rfl⟩ ?_|rfl|exact bV _ _ _ _|exact bW _ _ _ _|exact bX rfl)),rfl,rfl⟩
  | some i =>
    rw [hf] at hq
    simp only at hq ⊢
    (refine rgN<|kmv O<|bI O dP<|kfa O O ?_;refine kl1 O O O<|K.makeFunc O O dP ?_;refine kca O O hq<|kas O<|aB<|aA<|rgN<|kmv O<|K.max2 O O (c:=(i:Nat)) (by split<;>omega) dP ?_;refine kmv O<|bD O O (r:=true) (cN (by omega)) dP<|kas O<|kas O<|aB<|aI ?_)
    exact ⟨[],⟨[_,_],⟨rfl,rfl,trivial⟩,rfl⟩,(by repeat' (first|exact trivial|refine cO ⟨_,rfl,?_⟩ ?_|refine cO ⟨_,rfl⟩ ?_|rfl|exact bV _ _ _ _|exact bW _ _ _ _|exact bX rfl)),rfl,rfl⟩
theorem htable0_no (i:Int) (h:rowG g i=false):MSpec Tryz.prog X 15 [Lp 1000000,Ln .i64 i] [gS 1000000 g (.val vC) (vS' pad ps.length pcap) (mV mb)] LnilT [gS 1000000 g (.val vC) (vS' pad ps.length pcap) (mV mb)]:=by
  have _:=hk
  have h0:=hlen0 X g vC pad pcap mb ps m hI
  unfold rowG at h
  rw [Bool.and_eq_false_iff,decide_eq_false_iff_not,decide_eq_false_iff_not] at h
  refine cE Tryz.func15 rfl (by kernel_rfl) rfl rfl (by exact (by repeat' (first|refine bR ?_ ?_|rfl|exact bT|exact bS|exact bU rfl))) rfl rfl ?_
  intro C
  by_cases hi:i<0
  · (refine aA<|rgN<|kas O<|aB<|aA<|aA<|rgN<|kmv O<|klt O O (cN hi)<|kmv O<|aC O O O<|aC O O O<|aC O O O<|aC O O O ?_;refine kpt O O<|aB<|aE O ?_;refine aA<|rgN<|kas O<|aB<|aI ?_)
    exact ⟨[],⟨[_],⟨rfl,trivial⟩,rfl⟩,(by repeat' (first|exact trivial|refine cO ⟨_,rfl,?_⟩ ?_|refine cO ⟨_,rfl⟩ ?_|rfl|exact bV _ _ _ _|exact bW _ _ _ _|exact bX rfl)),rfl,rfl⟩
  · (refine aA<|rgN<|kas O<|aB<|aA<|aA<|rgN<|kmv O<|klt O O (cL hi)<|kmv O<|gmv O O O<|gmv O O O<|K.callR [(1000000,1000000)] (h0) O O (by exact (cO ⟨_,O,O⟩ trivial)) (by exact (bR (bR O (bR O (bR O (bR O (bR O (bR O O)))))) O)) O O O O (dQ O O) ?_;refine bD O O (cN (by omega)) (dQ O O) ?_;refine kpf O O<|aB<|aE O ?_;refine aA<|rgN<|kas O<|aB<|aI ?_)
    exact ⟨[],⟨[_],⟨rfl,trivial⟩,rfl⟩,(by repeat' (first|exact trivial|refine cO ⟨_,rfl,?_⟩ ?_|refine cO ⟨_,rfl⟩ ?_|rfl|exact bV _ _ _ _|exact bW _ _ _ _|exact bX rfl)),rfl,rfl⟩
theorem htable0 (i b:Nat) (h:ps[i]? = some b):MSpec Tryz.prog X 15 [Lp 1000000,Ln .i64 (i:Nat)] [gS 1000000 g (.val vC) (vS' pad ps.length pcap) (mV mb)] (Vp b) [gS 1000000 g (.val vC) (vS' pad ps.length pcap) (mV mb)]:=by
  have _:=hk
  have h0:=hlen0 X g vC pad pcap mb ps m hI
  have hi:=(List.getElem?_eq_some_iff.1 h).1
  have hlen:=hI.len
  obtain ⟨pad',pcap',he,hP⟩:=hI.ptrs
  simp only [Value.slice.injEq,true_and] at he
  obtain ⟨rfl,rfl⟩:=he
  obtain ⟨blk,arr,el,fr,rfl,hX,hcs⟩:=hP i b h
  have hio:0+Int.toNat (i:Int)*1=i:=by simp
  refine cE Tryz.func15 rfl (by kernel_rfl) rfl rfl (by exact (by repeat' (first|refine bR ?_ ?_|rfl|exact bT|exact bS|exact bU rfl))) rfl rfl ?_
  intro C
  (refine aA<|rgN<|kas O<|aB<|aA<|aA<|rgN<|kmv O<|klt O O (cL (by omega))<|kmv O<|gmv O O O<|gmv O O O<|K.callR [(1000000,1000000)] (h0) O O (by exact (cO ⟨_,O,O⟩ trivial)) (by exact (bR (bR O (bR O (bR O (bR O (bR O (bR O O)))))) O)) O O O O (dQ O O) ?_;refine bD O O (cL (by omega)) (dQ O O) ?_;refine kpf O O<|aB<|aF O ?_;refine aH ?_;refine aA<|rgN<|kmv O<|bI O dP<|kfa O O ?_;refine kl1 O O O<|kmv O<|aR O O bY (by omega) hio dP<|aW O hX O hcs dP<|kas O<|aB<|aI ?_)
  exact ⟨[],⟨[_],⟨rfl,trivial⟩,rfl⟩,(by repeat' (first|exact trivial|refine cO ⟨_,rfl,?_⟩ ?_|refine cO ⟨_,rfl⟩ ?_|rfl|exact bV _ _ _ _|exact bW _ _ _ _|exact bX rfl)),rfl,rfl⟩
end
abbrev sgB (k:Nat) (l:List Nat):Nat×Option Box:=(k,some ⟨35,(u32V l).map .val,false⟩)
theorem gu32_len (l:List Nat):(u32V l).length=l.length:=cV _
end Go.Proofs.YtjifibloagkeeaaGreat
end
section
namespace Go.Proofs.YtjifibloagkeeaaGreat
open Go Go.Lg Go.Lg.Fld Go.Lg.Sg Go.Lg.Col
set_option maxRecDepth 100000
abbrev Lw (x:Wy):LV:=.sv (.agg [.val (.int .i64 x.1),.val (.int .i64 x.2.1),.val (.bool x.2.2)])
abbrev wyB (k:Nat) (i c:Int) (a:Bool):Nat×Option Box:=(k,some ⟨86,[.val (.int .i64 i),.val (.int .i64 c),.val (.bool a)],false⟩)
def chkS (g:Gr) (i c:Int) (a:Bool):Int:=if rowG g i=true then (if hasC g.sc.cs c=true then (if hasB (setAt g i) c=a then 7 else 0) else 6) else 3
theorem stepE_chk (g:Gr) (i c:Int) (a:Bool):stepE g i c a=if chkS g i c a=0 then makeE g (nextS (setAt g i) c a) else chkS g i c a:=by
  unfold stepE chkS
  by_cases h1:rowG g i=true
  · rw [if_pos h1,if_pos h1]
    by_cases h2:hasC g.sc.cs c=true
    · rw [if_pos h2,if_pos h2]
      by_cases h3:hasB (setAt g i) c=a
      · rw [if_pos h3,if_pos h3,if_neg (by decide)]
      · rw [if_neg h3,if_neg h3,if_pos rfl]
    · rw [if_neg h2,if_neg h2,if_neg (by decide)]
  · rw [if_neg h1,if_neg h1,if_neg (by decide)]
variable (X:Nat→Option Obj)
theorem hOf (i c:Int) (a:Bool) (s:Nat) (hs:s<4294967296):PSpec Tryz.prog X 35 [Lw (i,c,a),Ln .u32 (s:Nat)] (Ln .u32 (nextS s c a:Nat)):=by
  have h1:=gWith X s hs c
  have h2:=gWithout X s hs c
  refine cD Tryz.func35 rfl (by kernel_rfl) rfl rfl ?_
  intro C
  unfold nextS
  cases a with
  | true =>
    (refine aA<|rgN<|aL O O O dP<|kas O<|aB<|aA<|aA<|rgN<|kfa O O ?_;refine kl1 O O O<|aB<|aE O ?_;refine aA<|rgN<|kmv O<|kfa O O ?_;refine kl1 O O O<|kca O O h1<|kas O<|aB<|aI ?_)
    exact ⟨[_],⟨O,trivial⟩,O⟩
  | false =>
    (refine aA<|rgN<|aL O O O dP<|kas O<|aB<|aA<|aA<|rgN<|kfa O O ?_;refine kl1 O O O<|aB<|aF O ?_;refine aH ?_;refine aA<|rgN<|kmv O<|kfa O O ?_;refine kl1 O O O<|kca O O h2<|kas O<|aB<|aI ?_)
    exact ⟨[_],⟨O,trivial⟩,O⟩
theorem hBack (i c:Int) (a:Bool) (t:Int):PSpec Tryz.prog X 36 [Lw (i,c,a),Ln .i64 t] (Lw (t,c,!a)):=by
  refine cD Tryz.func36 rfl (by kernel_rfl) rfl rfl ?_
  intro C
  (refine aA<|rgN<|aL O O O dP<|aP O dP ?_;refine aB<|aA<|rgN<|kmv O<|kfa O O ?_;refine kl1 O O O<|kfa O O ?_;refine kl1 O O O<|aV O O dP<|aT O O (by exact O) (by exact nl3 O O O O) dP ?_;refine aM O O O O O O dP ?_;refine aB<|aI ?_)
  exact ⟨[_],⟨⟨_,_,O,O,O,.inl ⟨AggT.h,O⟩⟩,trivial⟩,O⟩
abbrev z32 (k:Nat):List Value:=List.replicate k (Value.int .u32 0)
section
variable (g:Gr) (vC:Value) (pad:Option Addr) (pcap mb:Nat) (ps:List Nat) (m:List (Value×Value)) (hI:GrX X g vC (.slice pad ps.length pcap) mb ps m) (hk:GrOk g)
include hI hk
set_option maxHeartbeats 3200000 in
theorem hcheck0 (i c:Int) (a:Bool):MSpec Tryz.prog X 34 [Lp 1000000,Lw (i,c,a)] [gS 1000000 g (.val vC) (vS' pad ps.length pcap) (mV mb)] (Ln .i64 (chkS g i c a)) [gS 1000000 g (.val vC) (vS' pad ps.length pcap) (mV mb)]:=by
  obtain ⟨cb,cc,rfl,hin⟩:=hI.sc
  have hfew:=hI.few
  have hno:=htable0_no X g _ pad pcap mb ps m hI hk i
  have hyes:=htable0 X g _ pad pcap mb ps m hI hk
  refine cE Tryz.func34 rfl (by kernel_rfl) rfl rfl (by exact (by repeat' (first|refine bR ?_ ?_|rfl|exact bT|exact bS|exact bU rfl))) rfl rfl ?_
  intro C
  unfold chkS
  by_cases h1:rowG g i=true
  case neg =>
    rw [if_neg h1]
    have hT:=hno (by simpa using h1)
    (refine aA<|rgN<|aL O O O dP<|kas O<|aB<|aA<|rgN<|kmv O<|kfa O O ?_;refine kl1 O O O<|K.callR [(1000000,1000000)] (hT) O O (by exact (cO ⟨_,O,O⟩ trivial)) (by exact (bR (bR O (bR O (bR O (bR O (bR O (bR O O)))))) O)) O O O O dP<|kas O<|aB<|aA<|aA<|rgN<|kmv O<|K.nilNil O (by kernel_rfl) (.inl ⟨O,O⟩) dP<|aB<|aE O ?_;refine aA<|rgN<|kas O<|aB<|aI ?_)
    exact ⟨[],⟨[_],⟨rfl,trivial⟩,rfl⟩,(by repeat' (first|exact trivial|refine cO ⟨_,rfl,?_⟩ ?_|refine cO ⟨_,rfl⟩ ?_|rfl|exact bV _ _ _ _|exact bW _ _ _ _|exact bX rfl)),rfl,rfl⟩
  rw [if_pos h1]
  obtain ⟨j,s,rfl,hs⟩:=rowG_at h1
  obtain ⟨b,hb,hT⟩:=hI.tabs j s hs
  have hTb:=hyes j b hb
  have hSg:=tSigX X _ _ hT
  have hs32:=(hk.can s (dB hs)).2
  have hH:=gHas X s hs32 c
  rw [setAt_of hs]
  by_cases h2:hasC g.sc.cs c=true
  case neg =>
    rw [if_neg h2]
    have hF:=pFind_no X g.sc.ver (some ⟨cb,0,none⟩) cc g.sc.cs c hin (by omega) (hasC_no (by simpa using h2))
    generalize g.sc.cs.length=nc at *
    (refine aA<|rgN<|aL O O O dP<|kas O<|aB<|aA<|rgN<|kmv O<|kfa O O ?_;refine kl1 O O O<|K.callR [(1000000,1000000)] (hTb) O O (by exact (cO ⟨_,O,O⟩ trivial)) (by exact (bR (bR O (bR O (bR O (bR O (bR O (bR O O)))))) O)) O O O O dP<|kas O<|aB<|aA<|aA<|rgN<|kmv O<|K.ptrNilX O (by kernel_rfl) (Or.inl ⟨O,O⟩) dP ?_;refine aB<|aF O ?_;refine aH ?_;refine aA<|aA<|rgD mixed<|kmv O<|bI O dP<|kfa O O ?_;refine bJ O O O (by exact nl2 O O O) dP ?_;refine kfa O O ?_;refine kl1 O O O<|kca O O hF<|kmv O<|kex O O<|kex O O<|aP O dP ?_;refine aM O O O O O O dP ?_;refine kas O<|aB<|rgA ?_;refine aA<|rgN<|kmv O<|aV O O dP<|aB<|aE O ?_;refine aA<|rgN<|kas O<|aB<|aI ?_)
    exact ⟨[],⟨[_],⟨rfl,trivial⟩,rfl⟩,(by repeat' (first|exact trivial|refine cO ⟨_,rfl,?_⟩ ?_|refine cO ⟨_,rfl⟩ ?_|rfl|exact bV _ _ _ _|exact bW _ _ _ _|exact bX rfl)),rfl,rfl⟩
  rw [if_pos h2]
  obtain ⟨q,x,hx,hxi,hpre⟩:=hasC_first h2
  have hF:=pFind X g.sc.ver (some ⟨cb,0,none⟩) cc g.sc.cs c hin (by omega) (fun y hy=>by have:=hfew.2 y hy;omega) hpre hx hxi
  generalize g.sc.cs.length=nc at *
  (refine aA<|rgN<|aL O O O dP<|kas O<|aB<|aA<|rgN<|kmv O<|kfa O O ?_;refine kl1 O O O<|K.callR [(1000000,1000000)] (hTb) O O (by exact (cO ⟨_,O,O⟩ trivial)) (by exact (bR (bR O (bR O (bR O (bR O (bR O (bR O O)))))) O)) O O O O dP<|kas O<|aB<|aA<|aA<|rgN<|kmv O<|K.ptrNilX O (by kernel_rfl) (Or.inl ⟨O,O⟩) dP ?_;refine aB<|aF O ?_;refine aH ?_;refine aA<|aA ?_)
  refine LWP.le (σ':=⟨[(0,Lp 1000000),(3,Lp 3),(5,Vp b)],[wyB 3 (j:Nat) c a,gS 1000000 g (vS' (some ⟨cb,0,none⟩) nc cc) (vS' pad ps.length pcap) (mV mb)],X⟩) (Le.of (by exact ⟨O,O,O,trivial⟩) (by exact ⟨O,O,trivial⟩) (by exact O) (by exact O) (by repeat' (first|refine bR ?_ ?_|rfl|exact bT|exact bS|exact bU O))) ?_
  repeat refine aA ?_
  refine LWP.meetL (fun σ=>σ=⟨[(0,Lp 1000000),(3,Lp 3),(5,Vp b),(7,Lb true)],[wyB 3 (j:Nat) c a,gS 1000000 g (vS' (some ⟨cb,0,none⟩) nc cc) (vS' pad ps.length pcap) (mV mb)],X⟩) ?_ ?_
  · rcases hF with ⟨_,hf⟩|hf
    · (refine rgD mixed<|kmv O<|bI O dP<|kfa O O ?_;refine bJ O O O (by exact nl2 O O O) dP ?_;refine kfa O O ?_;refine kl1 O O O<|kca O O hf<|kmv O<|kex O O<|kex O O<|aP O dP ?_;refine aM O O O O O O dP ?_;refine kas O<|aB<|rgA ?_)
      exact Leads.here (Le.of (by exact ⟨O,O,O,O,trivial⟩) (by exact ⟨O,O,trivial⟩) (by exact O) (by exact O) (by repeat' (first|refine bR ?_ ?_|rfl|exact bT|exact bS|exact bU O))) O
    · (refine rgD mixed<|kmv O<|bI O dP<|kfa O O ?_;refine bJ O O O (by exact nl2 O O O) dP ?_;refine kfa O O ?_;refine kl1 O O O<|bE [(1000001,601)] (.tup [SCs x 601,Sb true]) [fdB 601 x.fs] (hf) O O (by exact trivial) O O O O O (by exact (.box O (bW _ _ _ _) .nil)) dP<|kmv O<|kex O O<|kex O O<|aP O dP ?_;refine aM O O O O O O dP ?_;refine kas O<|aB<|rgA ?_)
      exact Leads.here (Le.of (by exact ⟨O,O,O,O,trivial⟩) (by exact ⟨O,O,trivial⟩) (by exact O) (by exact O) (by repeat' (first|refine bR ?_ ?_|rfl|exact bT|exact bS|exact bU O))) O
  rintro σ rfl
  clear hF
  by_cases h3:hasB s c=a
  · rw [if_pos h3]
    generalize hasB s c=hb0 at *
    subst h3
    (refine aA<|rgN<|kmv O<|aV O O dP<|aB<|aF O ?_;refine aH ?_;refine aA<|aA<|rgD mixed<|kmv O<|kca O O hSg<|kfa O O ?_;refine kl1 O O O<|kca O O hH<|kfa O O ?_;refine kl1 O O O<|K.eqlB O O (r:=true) (by simp) dP<|aB<|rgA ?_;refine aE O ?_;refine aA<|rgN<|kas O<|aB<|aI ?_)
    exact ⟨[],⟨[_],⟨rfl,trivial⟩,rfl⟩,(by repeat' (first|exact trivial|refine cO ⟨_,rfl,?_⟩ ?_|refine cO ⟨_,rfl⟩ ?_|rfl|exact bV _ _ _ _|exact bW _ _ _ _|exact bX rfl)),rfl,rfl⟩
  · rw [if_neg h3]
    (refine aA<|rgN<|kmv O<|aV O O dP<|aB<|aF O ?_;refine aH ?_;refine aA<|aA<|rgD mixed<|kmv O<|kca O O hSg<|kfa O O ?_;refine kl1 O O O<|kca O O hH<|kfa O O ?_;refine kl1 O O O<|K.eqlB O O (r:=false) (by simpa using h3) dP<|aB<|rgA ?_;refine aF O ?_;refine aH ?_;refine aA<|rgN<|kas O<|aB<|aI ?_)
    exact ⟨[],⟨[_],⟨rfl,trivial⟩,rfl⟩,(by repeat' (first|exact trivial|refine cO ⟨_,rfl,?_⟩ ?_|refine cO ⟨_,rfl⟩ ?_|rfl|exact bV _ _ _ _|exact bW _ _ _ _|exact bX rfl)),rfl,rfl⟩
set_option maxHeartbeats 3200000 in
theorem hsigs0:MSpec Tryz.prog X 14 [Lp 1000000] [gS 1000000 g (.val vC) (vS' pad ps.length pcap) (mV mb)] (.sv (.one (.slc 1000001 0 g.l.length 1))) [gS 1000000 g (.val vC) (vS' pad ps.length pcap) (mV mb),sgB 1000001 g.l]:=by
  have hlen:=hI.len
  have hr:=hk.room
  have ha:=hk.archs
  have htabs:=hI.tabs
  obtain ⟨pad',pcap',he,hP⟩:=hI.ptrs
  simp only [Value.slice.injEq,true_and] at he
  obtain ⟨rfl,rfl⟩:=he
  have hmk:slcBuild Tryz.prog 40 ps.length=some (List.replicate ps.length (Value.int .u32 0),1,35):=slcBuild_one (by kernel_rfl) (by kernel_rfl) (by omega)
  refine cE Tryz.func14 rfl (by kernel_rfl) rfl rfl (by exact (by repeat' (first|refine bR ?_ ?_|rfl|exact bT|exact bS|exact bU rfl))) rfl rfl ?_
  intro C
  rw [← hlen]
  (refine aA<|rgN<|kas O<|aB<|aA<|aA<|rgN<|kmv O<|K.ptrNil O (by kernel_rfl) (.inl ⟨O,O⟩) dP<|aB<|aF O ?_;refine aH ?_;refine aA<|rgN<|kmv O<|bI O dP<|kfa O O ?_;refine kl1 O O O<|aQ O bY O dP ?_;refine K.makeSlc (m:=ps.length) (bytes:=4) O O hmk (by kernel_rfl) (by omega) O O dP<|kas O<|aB<|aA<|aA<|rgN<|kmv O<|bI O dP<|kfa O O ?_;refine kl1 O O O<|aQ O bY O dP ?_;refine kmv O<|aB<|aG ?_)
  refine cH (fun z σ=>∃ j:Nat,j≤ps.length∧z=ps.length-j∧σ=⟨[(0,Lp 1000000),(3,.sv (.one (.slc 603 0 ps.length 1))),(17,Lx pad ps.length pcap),(18,Ln .i64 (ps.length:Nat)),(19,Ln .i64 (j:Nat))],[(603,some ⟨35,(u32V (g.l.take j)++z32 (ps.length-j)).map .val,false⟩),gS 1000000 g (.val vC) (vS' pad ps.length pcap) (mV mb)],X⟩) ps.length
    ⟨⟨[(0,Lp 1000000),(3,.sv (.one (.slc 603 0 ps.length 1))),(17,Lx pad ps.length pcap),(18,Ln .i64 (ps.length:Nat)),(19,Ln .i64 (0:Nat))],[(603,some ⟨35,(u32V (g.l.take 0)++z32 (ps.length-0)).map .val,false⟩),gS 1000000 g (.val vC) (vS' pad ps.length pcap) (mV mb)],X⟩,Le.ofR [(603,13)] (by exact ⟨rfl,rfl,rfl,rfl,rfl,trivial⟩) (by repeat' (first|exact trivial|refine cO ⟨_,rfl,?_⟩ ?_|refine cO ⟨_,rfl⟩ ?_|rfl|exact bV _ _ _ _|exact bW _ _ _ _|exact bX rfl)) (by exact rfl) (by exact rfl) (by repeat' (first|refine bR ?_ ?_|rfl|exact bT|exact bS|exact bU rfl)) (by exact rfl) (by exact rfl),0,by omega,by omega,rfl⟩ ?_
  rintro z σ ⟨j,hj,rfl,rfl⟩
  by_cases hlt:j<ps.length
  · obtain ⟨s,hs⟩:∃ s,g.l[j]? = some s:=⟨_,cW (by omega)⟩
    obtain ⟨b,hb,hT⟩:=htabs j s hs
    obtain ⟨blk,arr,el,fr,rfl,hX,hcs⟩:=hP j b hb
    have hSg:=tSigX X _ _ hT
    have hio:0+Int.toNat (j:Int)*1=j:=by simp
    have hadd:IntKind.i64.wrap (((j:Nat):Int)+1)=((j+1:Nat):Int):=by rw [cF (by omega)];omega
    have hblt:Nat.blt j ((u32V (g.l.take j)++z32 (ps.length-j)).map CV.val).length=true:=by rw [Nat.blt_eq,cV,cU,gu32_len,cY,dC];omega
    have hput:((u32V (g.l.take j)++z32 (ps.length-j)).map CV.val).set j (.val (.int .u32 (s:Nat)))=(u32V (g.l.take (j+1))++z32 (ps.length-(j+1))).map .val:=by
      rw [← List.map_set (f:=CV.val),fill_put (by rw [gu32_len,cY];omega) hlt,take_snoc hs]
      unfold u32V
      simp
    (refine aA<|rgN<|klt O O (cN (by omega))<|aB<|aA<|aE O ?_;refine aH ?_;refine aA<|aG<|aA<|rgN<|kmv O<|aR O O bY (by omega) hio dP<|aW O hX O hcs dP<|kas O<|kas O<|aB<|rgN<|kmv O<|kmv O<|kmv O ?_;refine kca O O hSg<|K.indexSlc O O (by omega) hio dP ?_;refine bG O O O O hblt hput dP<|aB<|rgN<|kad O O hadd<|kmv O<|aB ?_)
    exact ⟨_,⟨[(0,Lp 1000000),(3,.sv (.one (.slc 603 0 ps.length 1))),(17,Lx (some ⟨blk,0,none⟩) ps.length pcap),(18,Ln .i64 (ps.length:Nat)),(19,Ln .i64 (j+1:Nat))],[(603,some ⟨35,(u32V (g.l.take (j+1))++z32 (ps.length-(j+1))).map .val,false⟩),gS 1000000 g (.val vC) (vS' (some ⟨blk,0,none⟩) ps.length pcap) (mV mb)],X⟩,(by omega:ps.length-(j+1)<ps.length-j),Le.of (by exact ⟨O,O,O,O,O,trivial⟩) (by exact ⟨O,O,trivial⟩) (by exact O) (by exact O) (by repeat' (first|refine bR ?_ ?_|rfl|exact bT|exact bS|exact bU O)),j+1,by omega,O,O⟩
  · have e:j=ps.length:=by omega
    subst e
    (refine aA<|rgN<|klt O O (cL (by omega))<|aB<|aA<|aF O ?_;refine aJ<|aA<|rgN<|kmv O<|kas O<|aB<|aI ?_)
    rw [List.take_of_length_le (by omega),Nat.sub_self,show z32 0=[] from rfl,dH]
    exact ⟨[(1000001,603)],⟨[_],⟨rfl,trivial⟩,rfl⟩,(by repeat' (first|exact trivial|refine cO ⟨_,rfl,?_⟩ ?_|refine cO ⟨_,rfl⟩ ?_|rfl|exact bV _ _ _ _|exact bW _ _ _ _|exact bX rfl)),rfl,rfl⟩
end
end Go.Proofs.YtjifibloagkeeaaGreat
end
section
namespace Go.Proofs.YtjifibloagkeeaaGreat
open Go Go.Lg Go.Lg.Fld Go.Lg.Sg Go.Lg.Col
set_option maxRecDepth 100000
theorem tbR_root (t:Tb):∀ ρ H,(tbR t).holds ρ H→H ρ.1≠none:=fun ρ H h=>by
  obtain ⟨m,_,fr,_,_,_,_,_,_,_,h2,_⟩:=h
  rw [h2];simp
theorem canT {g:Gr} (hk:GrOk g) (s:Nat):goodT g.sc s (g.rows:Nat)=canG g.sc s:=by
  have:=hk.rows
  unfold goodT canG
  rw [cN hk.sc,cN (show (1:Int)≤(g.rows:Nat) by omega),cN (show ((g.rows:Nat):Int)≤256 by omega)]
  simp
abbrev tabs (g:Gr) (ts:List Nat):List Rsc:=ts.map fun s=>tbR (tbl g s)
set_option maxHeartbeats 12800000 in
theorem make_body {C:Ctx} {Mid:St→Prop} {X0 Ha:Nat→Option Obj} {c:Code} (hc:Tryz.f8.body=some c) (g:Gr) (vC:Value) (pad:Option Addr) (pcap mb:Nat) (ps:List Nat) (m:List (Value×Value)) (s:Nat) (hs:s<4294967296) (hk:GrOk g)
    (hO:OwnedM C X0 Ha) (hA:TArr Ha (.slice pad ps.length pcap) ps) (hI:GrX (joinM X0 Ha) g vC (.slice pad ps.length pcap) mb ps m)
    (hend:∀ (qs ts:List Nat) (Hn Ha':Nat→Option Obj) (vT':Value),makeL g s=g.l++ts→OwnedM C X0 Hn→OwnedM C (joinM X0 Hn) Ha'→Refs Hn qs (tabs g ts)→TArr Ha' vT' (ps++qs) →
      Leads Tryz.f8.ntmps C Mid ⟨[(4,Ln .i64 (makeN g s:Nat)),(5,Ln .i64 (makeE g s))],[gS 1000000 g (.val vC) (.val vT') (mV mb)],joinM (joinM X0 Hn) Ha'⟩):
    LWP Tryz.prog Tryz.f8.ntmps C c (exitQ Tryz.f8.ntmps C Mid) ⟨enumL 0 [Lp 1000000,Ln .u32 (s:Nat)],[gS 1000000 g (.val vC) (vS' pad ps.length pcap) (mV mb)],joinM X0 Ha⟩:=by
  have hlen:=hI.len
  have hroom:=hk.room
  have harch:=hk.archs
  have hstay:makeL g s=g.l→Leads Tryz.f8.ntmps C Mid ⟨[(4,Ln .i64 (makeN g s:Nat)),(5,Ln .i64 (makeE g s))],[gS 1000000 g (.val vC) (vS' pad ps.length pcap) (mV mb)],joinM X0 Ha⟩:=fun h=>by
    have:=hend [] [] (fun _=>none) Ha (.slice pad ps.length pcap) (by rw [h,dH]) (OwnedM.nil _ _) (by rw [joinM_nil];exact hO) (Refs.nil _) (by rw [dH];exact hA)
    rw [joinM_nil] at this
    exact this
  refine LWP.ofBody O hc ?_
  cases hf:findG g.l s with
  | some i =>
    obtain ⟨e1,e2,e3⟩:=make_some hf
    rw [e1,e3] at hstay
    have hF:MSpec Tryz.prog (joinM X0 Ha) 10 [Lp 1000000,Ln .u32 (s:Nat)] [gS 1000000 g (.val vC) (vS' pad ps.length pcap) (mV mb)] (.tup [Sn .i64 (i:Nat),Sb true]) [gS 1000000 g (.val vC) (vS' pad ps.length pcap) (mV mb)]:=by
      have:=hfind0 _ g vC pad pcap mb ps m hI hk s
      rw [hf] at this;exact this
    (refine aA<|rgN<|kas O<|kas O<|aB<|aA<|aA<|rgN<|kmv O<|K.ptrNil O (by kernel_rfl) (.inl ⟨O,O⟩) dP<|aB<|aF O ?_;refine aH ?_;refine aA<|aA<|rgN<|kmv O<|kmv O<|K.callR [(1000000,1000000)] (hF) O O (by exact (cO ⟨_,O,O⟩ trivial)) (by exact (bR (bR O (bR O (bR O (bR O (bR O (bR O O)))))) O)) O O O O dP<|kmv O<|kex O O<|kex O O<|kas O<|kas O<|aB<|aA<|rgN ?_;refine kmv O<|aB<|aE O ?_;refine aA<|rgN<|kmv O<|kas O<|kas O<|aB<|aI ?_)
    exact cA (Le.of (by exact ⟨O,O,trivial⟩) (by exact ⟨O,trivial⟩) (by exact O) (by exact O) (by repeat' (first|refine bR ?_ ?_|rfl|exact bT|exact bS|exact bU O))) (hstay e2)
  | none =>
    have hF:MSpec Tryz.prog (joinM X0 Ha) 10 [Lp 1000000,Ln .u32 (s:Nat)] [gS 1000000 g (.val vC) (vS' pad ps.length pcap) (mV mb)] (.tup [Sn .i64 0,Sb false]) [gS 1000000 g (.val vC) (vS' pad ps.length pcap) (mV mb)]:=by
      have:=hfind0 _ g vC pad pcap mb ps m hI hk s
      rw [hf] at this;exact this
    obtain ⟨cb,cc,hvC,hin⟩:=hI.sc
    have hRm:=hroom0 _ g vC pad pcap mb ps m hI hk
    have hT:=canT hk s
    subst hvC
    by_cases hc:canG g.sc s=true
    case neg =>
      have e1:makeE g s=6:=by unfold makeE;rw [hf,if_neg (by decide),if_neg hc]
      obtain ⟨e2,e3,_⟩:=make_no (g:=g) (s:=s) (by rw [e1];decide)
      rw [e1,e3] at hstay
      have hN:=tNew_no (joinM X0 Ha) g.sc s (g.rows:Nat) (some ⟨cb,0,none⟩) cc hin hI.names hI.few hs (by rw [hT];simpa using hc)
      generalize g.sc.cs.length=nc at *
      (refine aA<|rgN<|kas O<|kas O<|aB<|aA<|aA<|rgN<|kmv O<|K.ptrNil O (by kernel_rfl) (.inl ⟨O,O⟩) dP<|aB<|aF O ?_;refine aH ?_;refine aA<|aA<|rgN<|kmv O<|kmv O<|K.callR [(1000000,1000000)] (hF) O O (by exact (cO ⟨_,O,O⟩ trivial)) (by exact (bR (bR O (bR O (bR O (bR O (bR O (bR O O)))))) O)) O O O O dP<|kmv O<|kex O O<|kex O O<|kas O<|kas O<|aB<|aA<|rgN ?_;refine kmv O<|aB<|aF O ?_;refine aH ?_;refine aA<|rgD mixed<|kmv O<|bI O dP<|kfa O O ?_;refine bJ O O O (by exact nl2 O O O) dP ?_;refine kmv O<|kmv O<|bI O dP<|kfa O O ?_;refine kl1 O O O<|kca O O hN<|kas O<|aB<|rgA ?_;refine aA<|aG<|aA<|rgN<|kmv O<|K.nilNil O (by kernel_rfl) (.inl ⟨O,O⟩) dP<|kas O<|aB<|aE O ?_;refine aA<|rgN<|kas O<|kas O<|aB<|aI ?_)
      exact cA (Le.of (by exact ⟨O,O,trivial⟩) (by exact ⟨O,trivial⟩) (by exact O) (by exact O) (by repeat' (first|refine bR ?_ ?_|rfl|exact bT|exact bS|exact bU O))) (hstay e2)
    rw [hc] at hT
    have hN:=tNew (joinM X0 Ha) g.sc s g.rows (some ⟨cb,0,none⟩) cc hin hI.names hI.few hs hT
    generalize g.sc.cs.length=nc at *
    by_cases hl:g.archs≤g.l.length
    · have e1:makeE g s=5:=by unfold makeE;rw [hf,if_neg (by decide),if_pos hc,if_pos hl]
      obtain ⟨e2,e3,_⟩:=make_no (g:=g) (s:=s) (by rw [e1];decide)
      rw [e1,e3] at hstay
      rw [show g.archs-g.l.length=0 by omega] at hRm
      (refine aA<|rgN<|kas O<|kas O<|aB<|aA<|aA<|rgN<|kmv O<|K.ptrNil O (by kernel_rfl) (.inl ⟨O,O⟩) dP<|aB<|aF O ?_;refine aH ?_;refine aA<|aA<|rgN<|kmv O<|kmv O<|K.callR [(1000000,1000000)] (hF) O O (by exact (cO ⟨_,O,O⟩ trivial)) (by exact (bR (bR O (bR O (bR O (bR O (bR O (bR O O)))))) O)) O O O O dP<|kmv O<|kex O O<|kex O O<|kas O<|kas O<|aB<|aA<|rgN ?_;refine kmv O<|aB<|aF O ?_;refine aH ?_;refine aA<|rgD mixed<|kmv O<|bI O dP<|kfa O O ?_;refine bJ O O O (by exact nl2 O O O) dP ?_;refine kmv O<|kmv O<|bI O dP<|kfa O O ?_;refine kl1 O O O<|bE [(1000001,601)] (Lp 601) [tB 601 (tbl g s)] (hN) O O (by exact trivial) O O O O O (by exact (.box O O .nil)) dP<|kas O<|aB<|rgA ?_;refine aA<|aG<|aA<|rgN<|kmv O<|K.ptrNil O (by kernel_rfl) (.inl ⟨O,O⟩) dP<|kas O<|aB<|aF O ?_;refine aA<|rgN<|kmv O<|K.callR [(1000000,1000000)] (hRm) O O (by exact (cO ⟨_,O,O⟩ trivial)) (by exact (bR (bR O (bR O (bR O (bR O (bR O (bR O O)))))) O)) O O O O dP<|keq O O (r:=true) O<|kas O<|aB<|aE O ?_;refine aA<|rgN<|kas O<|kas O<|aB<|aI ?_)
      exact cA (Le.of (by exact ⟨O,O,trivial⟩) (by exact ⟨O,trivial⟩) (by exact O) (by exact O) (by repeat' (first|refine bR ?_ ?_|rfl|exact bT|exact bS|exact bU O))) (hstay e2)
    have e1:makeE g s=0:=by unfold makeE;rw [hf,if_neg (by decide),if_pos hc,if_neg hl]
    obtain ⟨e2,e3⟩:=make_new hf e1
    rw [e1,e3] at hend
    have hrm0:(((g.archs-g.l.length:Nat):Int)==0)=false:=cP (by omega)
    generalize g.archs-g.l.length=rm at *
    clear hstay
    rw [← hlen] at hend
    have hadd:IntKind.i64.wrap (((ps.length+1:Nat):Int)-1)=((ps.length:Nat):Int):=by rw [cF (by omega)];omega
    have hfin:∀ (Ha0:Nat→Option Obj),OwnedM C X0 Ha0→Leads Tryz.f8.ntmps C Mid ⟨[(4,Ln .i64 (ps.length:Nat)),(5,Ln .i64 0)],[(603,some ⟨PT,(pvs ps).map .val ++ .ptr 601 0::([]:List Value).map .val,true⟩),tB 601 (tbl g s),gS 1000000 g (vS' (some ⟨cb,0,none⟩) nc cc) (.slc 603 0 (ps.length+1) 1) (mV mb)],joinM X0 Ha0⟩:=fun Ha0 hO0=>by
      refine Leads.fixRsc (k:=601) (s:=[(4,Ln .i64 (ps.length:Nat)),(5,Ln .i64 0)]) (bx:=[gS 1000000 g (vS' (some ⟨cb,0,none⟩) nc cc) (.slc 603 0 (ps.length+1) 1) (mV mb)]) (s0:=[]) (b0:=[(603,some ⟨PT,(pvs ps).map .val ++ .ptr 601 0::([]:List Value).map .val,true⟩)]) (by rfl) (by rfl) (by rfl) (by rfl) (by refine bR ?_ rfl;exact fixIn_mid _ _) fun ρ Hc2 k1 k2 => ?_
      obtain ⟨bn,mn⟩:=ρ
      obtain ⟨q1,q2,q3⟩:=OwnedM.swap hO0 k2
      have hpush:=(Refs.nil (fun _=>none)).push k1 (tbR_root _ _ _ k1) fun x hx=>rfl
      rw [show joinM (fun _=>none) Hc2=Hc2 from by funext b;unfold joinM;cases Hc2 b<;>rfl] at hpush
      have hcells:((pvs ps).map CV.val ++ .ptr 601 0::([]:List Value).map CV.val).map (CV.fix 601 bn)=(pvs (ps++[bn])).map CV.val:=by
        rw [fix_mid]
        unfold pvs
        simp
      rw [q3]
      refine cA (σ':=⟨[(4,Ln .i64 (ps.length:Nat)),(5,Ln .i64 0)],[(1000000,some ⟨75,[.val (.int .i64 g.sc.ver),vS' (some ⟨cb,0,none⟩) nc cc,.val (.int .i64 (g.archs:Nat)),.val (.int .i64 (g.rows:Nat))] ++ .slc 603 0 (ps.length+1) 1::[mV mb],false⟩),(603,some ⟨PT,(pvs (ps++[bn])).map .val,true⟩)],joinM (joinM X0 Hc2) Ha0⟩) (by
        show Le _ _ (⟨[]++_,[(603,some ⟨_,((pvs ps).map CV.val ++ .ptr 601 0::([]:List Value).map CV.val).map (CV.fix 601 bn),true⟩)]++_,_⟩:St) _
        rw [hcells]
        exact Le.of (by exact ⟨O,O,trivial⟩) (by exact ⟨O,O,trivial⟩) (by exact O) (by exact O) (by repeat' (first|refine bR ?_ ?_|rfl|exact bT|exact bS|exact bU O))) ?_
      refine Leads.closeCell q2 (by rw [pvs_len,cU];simp only [cX];omega) rfl rfl rfl rfl rfl rfl fun ba oa va _ _ hOa hva => ?_
      exact hend [bn] [s] Hc2 _ va e2 q1 hOa hpush (.inr ⟨ba,hva⟩)
    (refine aA<|rgN<|kas O<|kas O<|aB<|aA<|aA<|rgN<|kmv O<|K.ptrNil O (by kernel_rfl) (.inl ⟨O,O⟩) dP<|aB<|aF O ?_;refine aH ?_;refine aA<|aA<|rgN<|kmv O<|kmv O<|K.callR [(1000000,1000000)] (hF) O O (by exact (cO ⟨_,O,O⟩ trivial)) (by exact (bR (bR O (bR O (bR O (bR O (bR O (bR O O)))))) O)) O O O O dP<|kmv O<|kex O O<|kex O O<|kas O<|kas O<|aB<|aA<|rgN ?_;refine kmv O<|aB<|aF O ?_;refine aH ?_;refine aA<|rgD mixed<|kmv O<|bI O dP<|kfa O O ?_;refine bJ O O O (by exact nl2 O O O) dP ?_;refine kmv O<|kmv O<|bI O dP<|kfa O O ?_;refine kl1 O O O<|bE [(1000001,601)] (Lp 601) [tB 601 (tbl g s)] (hN) O O (by exact trivial) O O O O O (by exact (.box O O .nil)) dP<|kas O<|aB<|rgA ?_;refine aA<|aG<|aA<|rgN<|kmv O<|K.ptrNil O (by kernel_rfl) (.inl ⟨O,O⟩) dP<|kas O<|aB<|aF O ?_;refine aA<|rgN<|kmv O<|K.callR [(1000000,1000000)] (hRm) O O (by exact (cO ⟨_,O,O⟩ trivial)) (by exact (bR (bR O (bR O (bR O (bR O (bR O (bR O O)))))) O)) O O O O dP<|keq O O (r:=false) hrm0<|kas O<|aB<|aF O ?_;refine aH ?_;refine aA ?_)
    rcases hA with ⟨hv,rfl⟩|⟨db,hd⟩
    · cases hv
      refine LWP.le (σ':=⟨[(0,Lp 1000000),(8,Lp 601)],[gS 1000000 g (vS' (some ⟨cb,0,none⟩) nc cc) (vS' none 0 0) (mV mb),tB 601 (tbl g s)],joinM X0 Ha⟩) (Le.of (by exact ⟨O,O,trivial⟩) (by exact ⟨O,O,trivial⟩) (by exact O) (by exact O) (by repeat' (first|refine bR ?_ ?_|rfl|exact bT|exact bS|exact bU O))) ?_
      (refine rgN<|kmv O<|kmv O<|bI O dP<|kfa O O ?_;refine kl1 O O O<|kmv O<|aZ (zs:=[.pointer none]) (sz:=1) (e:=PT) (cs':=[.ptr 601 0]) (by kernel_rfl) O O O O O O dP<|K.appendNil (by_:=8) (e:=PT) (e2:=PT) (l2:=[.ptr 601 0]) O O O (dL _) O O (by decide) (by kernel_rfl) (by kernel_rfl) (by omega) (by omega) O dP ?_;refine bI O dP<|kfa O O ?_;refine bG O O O O O (nl6 O O O O O O O) dP<|aB<|aA<|rgN<|kmv O<|bI O dP<|kfa O O ?_;refine kl1 O O O<|K.lenSlc O bY O dP ?_;refine bA O O (cF (by omega)) dP<|kas O<|kas O<|aB<|aI ?_)
      exact cA (σ':=⟨[(4,Ln .i64 (([]:List Nat).length:Nat)),(5,Ln .i64 0)],[(603,some ⟨PT,(pvs []).map .val ++ .ptr 601 0::([]:List Value).map .val,true⟩),tB 601 (tbl g s),gS 1000000 g (vS' (some ⟨cb,0,none⟩) nc cc) (.slc 603 0 (([]:List Nat).length+1) 1) (mV mb)],joinM X0 Ha⟩) (Le.ofR [(603,43)] (by exact ⟨rfl,rfl,trivial⟩) (by repeat' (first|exact trivial|refine cO ⟨_,rfl,?_⟩ ?_|refine cO ⟨_,rfl⟩ ?_|rfl|exact bV _ _ _ _|exact bW _ _ _ _|exact bX rfl)) (by exact rfl) (by exact rfl) (by repeat' (first|refine bR ?_ ?_|rfl|exact bT|exact bS|exact bU rfl)) (by exact rfl) (by exact rfl)) (hfin Ha hO)
    · have hel:(pvs ps).length=ps.length*1:=by rw [pvs_len];omega
      have hcl1:((pvs ps).map CV.val).length=ps.length*1:=by rw [cV];exact hel
      refine LWP.le (σ':=⟨[(0,Lp 1000000),(8,Lp 601)],[(1000000,some ⟨75,[.val (.int .i64 g.sc.ver),vS' (some ⟨cb,0,none⟩) nc cc,.val (.int .i64 (g.archs:Nat)),.val (.int .i64 (g.rows:Nat))]++vS' pad ps.length pcap::[mV mb],false⟩),tB 601 (tbl g s)],joinM X0 Ha⟩) (Le.of (by exact ⟨O,O,trivial⟩) (by exact ⟨O,O,trivial⟩) (by exact O) (by exact O) (by repeat' (first|refine bR ?_ ?_|rfl|exact bT|exact bS|exact bU O))) ?_
      refine LWP.openCell (A:=[.val (.int .i64 g.sc.ver),vS' (some ⟨cb,0,none⟩) nc cc,.val (.int .i64 (g.archs:Nat)),.val (.int .i64 (g.rows:Nat))]) (B:=[mV mb]) (k:=602) (sz:=1) (len:=ps.length) hO hd hel (by omega) O (by repeat' (first|refine bR ?_ ?_|rfl|exact bS)) O O O ?_
      (refine rgN<|kmv O<|kmv O<|bI O dP<|kfa O O ?_;refine kl1 O O O<|kmv O<|aZ (zs:=[.pointer none]) (sz:=1) (e:=PT) (cs':=[.ptr 601 0]) (by kernel_rfl) O O O O O O dP<|bO (by_:=8) (e2:=PT) (l2:=[.ptr 601 0]) (nl:=ps.length+1) (nc:=(pvs ps).map .val++[.ptr 601 0]) O O hcl1 O O (dL _) O O (by kernel_rfl) (by kernel_rfl) (by omega) (by omega) O O O dP<|bI O dP<|kfa O O ?_;refine bG O O O O O (nl6 O O O O O O O) dP<|aB<|aA<|rgN<|kmv O<|bI O dP<|kfa O O ?_;refine kl1 O O O<|K.lenSlc O bY O dP ?_;refine bA O O hadd dP<|kas O<|kas O<|aB<|aI ?_)
      exact cA (σ':=⟨[(4,Ln .i64 (ps.length:Nat)),(5,Ln .i64 0)],[(603,some ⟨PT,(pvs ps).map .val ++ .ptr 601 0::([]:List Value).map .val,true⟩),tB 601 (tbl g s),gS 1000000 g (vS' (some ⟨cb,0,none⟩) nc cc) (.slc 603 0 (ps.length+1) 1) (mV mb)],joinM X0 (cutM Ha db)⟩) (Le.ofR [(603,43)] (by exact ⟨rfl,rfl,trivial⟩) (by repeat' (first|exact trivial|refine cO ⟨_,rfl,?_⟩ ?_|refine cO ⟨_,rfl⟩ ?_|rfl|exact bV _ _ _ _|exact bW _ _ _ _|exact bX rfl)) (by exact rfl) (by exact rfl) (by repeat' (first|refine bR ?_ ?_|rfl|exact bT|exact bS|exact bU rfl)) (by exact rfl) (by exact rfl)) (hfin _ (hO.cut db))
end Go.Proofs.YtjifibloagkeeaaGreat
end
section
namespace Go.Proofs.YtjifibloagkeeaaGreat
open Go Go.Lg Go.Lg.Fld Go.Lg.Sg Go.Lg.Col
set_option maxRecDepth 100000
theorem few_names {cs:List Cp} (hs:FewC cs) (hm:NamesIn cs):NamesC cs:=fun c hc=>⟨by have:=hs.2 c hc;omega,(hm c hc).1,(hm c hc).2⟩
variable (X:Nat→Option Obj)
theorem gNew_no (s:Sc) (archs rows:Int) (ad:Option Addr) (cap:Nat) (hin:CompsIn X ad s.cs) (hm:NamesIn s.cs) (hs:FewC s.cs) (h:goodG s archs rows=false):PSpec Tryz.prog X 6 [Sx s.ver ad s.cs.length cap,Ln .i64 archs,Ln .i64 rows] LnilG:=by
  have hC:=pCheckBig X s ad cap hin (by omega) (few_names hs hm) _ rfl
  refine cD Tryz.func6 rfl (by kernel_rfl) rfl rfl ?_
  intro C
  by_cases hc:chkE s=0
  case neg =>
    generalize chkE s=e at *
    (refine aA<|rgN<|aL O O O dP<|kas O<|aB<|aA<|aA<|rgN<|aK O O O dP ?_;refine kca O O hC<|kne O O (r:=true) (cR hc)<|kmv O<|aC O O O<|aC O O O<|kpt O O<|kmv O<|aC O O O<|aC O O O<|kpt O O<|kmv O<|aC O O O<|aC O O O<|kpt O O ?_;refine kmv O<|aC O O O<|aC O O O<|kpt O O<|aB<|aE O ?_;refine aA<|rgN<|kas O<|aB<|aI ?_)
    exact ⟨[_],⟨O,trivial⟩,O⟩
  unfold goodG at h
  rw [hc] at hC h
  by_cases h1:archs<1
  · (refine aA<|rgN<|aL O O O dP<|kas O<|aB<|aA<|aA<|rgN<|aK O O O dP ?_;refine kca O O hC<|kne O O (r:=false) O<|kmv O<|gmv O O O<|bK O O (cN h1) (dQ O O) ?_;refine kpf O O<|kmv O<|aC O O O<|aC O O O<|kpt O O<|kmv O<|aC O O O<|aC O O O<|kpt O O<|kmv O<|aC O O O<|aC O O O<|kpt O O<|aB ?_;refine aE O ?_;refine aA<|rgN<|kas O<|aB<|aI ?_)
    exact ⟨[_],⟨O,trivial⟩,O⟩
  by_cases h2:64<archs
  · (refine aA<|rgN<|aL O O O dP<|kas O<|aB<|aA<|aA<|rgN<|aK O O O dP ?_;refine kca O O hC<|kne O O (r:=false) O<|kmv O<|gmv O O O<|bK O O (cL h1) (dQ O O) ?_;refine kpf O O<|kmv O<|gmv O O O<|aS O O (cN h2) (dQ O O) ?_;refine kpf O O<|kmv O<|aC O O O<|aC O O O<|kpt O O<|kmv O<|aC O O O<|aC O O O<|kpt O O<|aB<|aE O ?_;refine aA<|rgN<|kas O<|aB<|aI ?_)
    exact ⟨[_],⟨O,trivial⟩,O⟩
  by_cases h3:rows<1
  · (refine aA<|rgN<|aL O O O dP<|kas O<|aB<|aA<|aA<|rgN<|aK O O O dP ?_;refine kca O O hC<|kne O O (r:=false) O<|kmv O<|gmv O O O<|bK O O (cL h1) (dQ O O) ?_;refine kpf O O<|kmv O<|gmv O O O<|aS O O (cL h2) (dQ O O) ?_;refine kpf O O<|kmv O<|gmv O O O<|bK O O (cN h3) (dQ O O) ?_;refine kpf O O<|kmv O<|aC O O O<|aC O O O<|kpt O O<|aB<|aE O ?_;refine aA<|rgN<|kas O<|aB<|aI ?_)
    exact ⟨[_],⟨O,trivial⟩,O⟩
  have h4:256<rows:=by
    rw [cN rfl,Bool.true_and,cN (by omega),cN (by omega),cN (by omega),Bool.true_and,Bool.true_and,Bool.true_and,decide_eq_false_iff_not] at h
    omega
  (refine aA<|rgN<|aL O O O dP<|kas O<|aB<|aA<|aA<|rgN<|aK O O O dP ?_;refine kca O O hC<|kne O O (r:=false) O<|kmv O<|gmv O O O<|bK O O (cL h1) (dQ O O) ?_;refine kpf O O<|kmv O<|gmv O O O<|aS O O (cL h2) (dQ O O) ?_;refine kpf O O<|kmv O<|gmv O O O<|bK O O (cL h3) (dQ O O) ?_;refine kpf O O<|kmv O<|gmv O O O<|aS O O (cN h4) (dQ O O) ?_;refine kpf O O<|aB<|aE O ?_;refine aA<|rgN<|kas O<|aB<|aI ?_)
  exact ⟨[_],⟨O,trivial⟩,O⟩
set_option maxHeartbeats 6400000 in
theorem gNew (s:Sc) (archs rows:Nat) (ad:Option Addr) (cap:Nat) (hin:CompsIn X ad s.cs) (hm:NamesIn s.cs) (hs:FewC s.cs) (h:goodG s (archs:Nat) (rows:Nat)=true):MSpec Tryz.prog X 6 [Sx s.ver ad s.cs.length cap,Ln .i64 (archs:Nat),Ln .i64 (rows:Nat)] [] (Lp 1000001) [gB 1000001 ⟨s,archs,rows,[],[]⟩]:=by
  have hC:=pCheckBig X s ad cap hin (by omega) (few_names hs hm) _ rfl
  have hCl:=pCloneBig X s.ver ad cap s.cs hin (by omega) fun c hc=>by have:=hs.2 c hc;omega
  unfold goodG at h
  simp only [Bool.and_eq_true,decide_eq_true_eq] at h
  obtain ⟨⟨⟨⟨hc,h1⟩,h2⟩,h3⟩,h4⟩:=h
  rw [hc] at hC
  refine cE Tryz.func6 rfl (by kernel_rfl) rfl rfl (by exact (by repeat' (first|refine bR ?_ ?_|rfl|exact bT|exact bS|exact bU rfl))) rfl rfl ?_
  intro C
  refine LWP.ends ?_
  generalize hnc:s.cs.length=nc at *
  (refine aA<|rgN<|aL O O O dP<|kas O<|aB<|aA<|aA<|rgN<|aK O O O dP ?_;refine kca O O hC<|kne O O (r:=false) O<|kmv O<|gmv O O O<|bK O O (cL (by omega)) (dQ O O) ?_;refine kpf O O<|kmv O<|gmv O O O<|aS O O (cL (by omega)) (dQ O O) ?_;refine kpf O O<|kmv O<|gmv O O O<|bK O O (cL (by omega)) (dQ O O) ?_;refine kpf O O<|kmv O<|gmv O O O<|aS O O (cL (by omega)) (dQ O O) ?_;refine kpf O O<|aB<|aF O ?_;refine aH ?_;refine aA<|rgN<|aK O O O dP ?_;refine bE [(1000001,602)] (.sv (.agg [.val (.int .i64 s.ver),.slc 602 0 nc 3])) [scB 602 s.cs] (hCl) O O (by exact trivial) O O O O O (by exact (.box O O .nil)) dP<|kmv O<|kmv O<|K.makeMap WK O dP ?_;refine aT O O (by exact O) (by exact nl6 O O O O O O O) dP ?_;refine aL O O O dP<|kas O<|aB<|aI ?_)
  refine cA (σ':=⟨[(6,Lp 32)],[(32,some ⟨75,[.val (.int .i64 s.ver)] ++ .slc 602 0 nc 3::[.val (.int .i64 (archs:Nat)),.val (.int .i64 (rows:Nat)),.val nilSlc,.mp 30],false⟩),scB 602 s.cs,(30,some ⟨0,[],.res (mapR Tryz.prog WK [])⟩)],X⟩) (Le.of (by exact ⟨O,trivial⟩) (by exact ⟨O,O,O,trivial⟩) (by exact O) (by exact O) (by repeat' (first|refine bR ?_ ?_|rfl|exact bT|exact bS|exact bU O))) ?_
  refine Leads.fixCell O O O O O O fun ρ H2 cc hsc hO2 hcc _ => ?_
  obtain ⟨cb,cm⟩:=ρ
  refine Leads.fixRsc (k:=30) (s:=[(6,Lp 32)]) (bx:=[]) (s0:=[]) (b0:=[(32,some ⟨75,[.val (.int .i64 s.ver),.val (.slice (some ⟨cb,0,none⟩) nc cc),.val (.int .i64 (archs:Nat)),.val (.int .i64 (rows:Nat)),.val nilSlc,.mp 30],false⟩)]) (by rfl) (by rfl) (by rfl) (by rfl) (by rfl) fun ρ Hm k1 k2 => ?_
  obtain ⟨mb,mn⟩:=ρ
  refine cA (σ':=⟨[(6,Lp 32)],[gO 32 (grV ⟨s,archs,rows,[],[]⟩ (.slice (some ⟨cb,0,none⟩) nc cc) nilSlc mb)],joinM X (joinM (joinM (joinM H2 Hm) (fun _=>none)) (fun _=>none))⟩) (by
    rw [joinM_nil,joinM_nil,← joinM_join]
    exact Le.of (by exact ⟨O,trivial⟩) (by exact ⟨O,trivial⟩) (by exact O) (by exact O) (by repeat' (first|refine bR ?_ ?_|rfl|exact bT|exact bS|exact bU O))) ?_
  refine g_shut (g:=⟨s,archs,rows,[],[]⟩) (own4_join hO2 k2 (OwnedM.nil _ _) (OwnedM.nil _ _)) ⟨H2,Hm,fun _=>none,fun _=>none,_,_,mb,[],[],rfl,rfl,ap_own k2,fun b hb=>absurd rfl hb,fun b hb=>absurd rfl hb,⟨cb,cc,by rw [← hnc],scR_in hsc fun _ _ h=>h⟩,⟨mn,k1⟩,Refs.nil _,.inl ⟨rfl,rfl⟩,.none rfl,hm,hs⟩ (bZ ?_)
  exact ⟨[(1000001,32)],⟨[_],⟨rfl,trivial⟩,rfl⟩,(by repeat' (first|exact trivial|refine cO ⟨_,rfl,?_⟩ ?_|refine cO ⟨_,rfl⟩ ?_|rfl|exact bV _ _ _ _|exact bW _ _ _ _|exact bX rfl)),rfl,rfl⟩
theorem gMake_nil (s:Nat):PSpec Tryz.prog X 8 [LnilG,Ln .u32 (s:Nat)] (.tup [Sn .i64 0,Sn .i64 2]):=by
  refine cD Tryz.func8 rfl (by kernel_rfl) rfl rfl ?_
  intro C
  (refine aA<|rgN<|kas O<|kas O<|aB<|aA<|aA<|rgN<|kmv O<|K.nilNil O (by kernel_rfl) (.inl ⟨O,O⟩) dP<|aB<|aE O ?_;refine aA<|rgN<|kas O<|kas O<|aB<|aI ?_)
  exact ⟨[_,_],⟨O,O,trivial⟩,O⟩
theorem GrHS.grow' {g g':Gr} {H Hs Hm Hr Hn Ha':Nat→Option Obj} {vC vT':Value} {mb:Nat} {ps qs ts:List Nat} {m:List (Value×Value)} {C:Ctx} (hsc:∃ (cb cc:Nat),vC = .slice (some ⟨cb,0,none⟩) g.sc.cs.length cc∧CompsIn Hs (some ⟨cb,0,none⟩) g.sc.cs) (hrf:Refs Hr ps (tabsG g)) (hnm:NamesIn g.sc.cs) (hfw:FewC g.sc.cs)
    (hmap:∃ mn,(mapR Tryz.prog WK m).holds (mb,mn) Hm) (hw:WaysOk g' m) (e1:g'.sc=g.sc) (e2:g'.rows=g.rows) (e4:g'.l=g.l++ts)
    (o1:OwnedM C X Hs) (o2:OwnedM C (joinM X Hs) Hm) (o3:OwnedM C (joinM (joinM X Hs) Hm) Hr) (on:OwnedM C (joinM (joinM (joinM X Hs) Hm) Hr) Hn) (oa:OwnedM C (joinM (joinM (joinM (joinM X Hs) Hm) Hr) Hn) Ha') (hR:Refs Hn qs (tabs g ts)) (hA:TArr Ha' vT' (ps++qs)) (hH:H=joinM (joinM (joinM Hs Hm) (joinM Hr Hn)) Ha'):
    OwnedM C X H∧GrHS H g' Hs Hm (joinM Hr Hn) Ha' vC vT' mb (ps++qs) m∧joinM (joinM (joinM (joinM (joinM X Hs) Hm) Hr) Hn) Ha'=joinM X H:=by
  have o34:=o3.join on
  have oa':OwnedM C (joinM (joinM (joinM X Hs) Hm) (joinM Hr Hn)) Ha':=by rw [← joinM_join];exact oa
  obtain ⟨a1,a2,a3⟩:=ap4 o2 o34 oa'
  subst hH
  refine ⟨own4_join o1 o2 o34 oa',⟨rfl,a1,a2,a3,?_⟩,by simp only [joinM_join]⟩
  have hR2:=hrf.append hR (ap_own on)
  have htb:tabsG g'=tabsG g++tabs g ts:=by
    unfold tabsG tbl
    rw [e1,e2,e4,dF]
  exact ⟨by rw [e1];exact hsc,hmap,by rw [htb];exact hR2,hA,hw,by rw [e1];exact hnm,by rw [e1];exact hfw⟩
theorem GrHS.grow {g g':Gr} {H Hs Hm Hr Ha Hn Ha':Nat→Option Obj} {vC vT vT':Value} {mb:Nat} {ps qs ts:List Nat} {m:List (Value×Value)} {C:Ctx} (h:GraIn g Hs Hm Hr Ha vC vT mb ps m) (e1:g'.sc=g.sc) (e2:g'.rows=g.rows) (e3:g'.w=g.w) (e4:g'.l=g.l++ts)
    (o1:OwnedM C X Hs) (o2:OwnedM C (joinM X Hs) Hm) (o3:OwnedM C (joinM (joinM X Hs) Hm) Hr) (on:OwnedM C (joinM (joinM (joinM X Hs) Hm) Hr) Hn) (oa:OwnedM C (joinM (joinM (joinM (joinM X Hs) Hm) Hr) Hn) Ha') (hR:Refs Hn qs (tabs g ts)) (hA:TArr Ha' vT' (ps++qs)) (hH:H=joinM (joinM (joinM Hs Hm) (joinM Hr Hn)) Ha'):
    OwnedM C X H∧GrHS H g' Hs Hm (joinM Hr Hn) Ha' vC vT' mb (ps++qs) m∧joinM (joinM (joinM (joinM (joinM X Hs) Hm) Hr) Hn) Ha'=joinM X H:=
  GrHS.grow' X h.sc h.refs h.names h.few h.map (h.ways.same_l ⟨ts,e4⟩ e1 e3) e1 e2 e4 o1 o2 o3 on oa hR hA hH
set_option maxHeartbeats 3200000 in
theorem gMake (g:Gr) (hk:GrOk g) (s:Nat) (hs:s<4294967296):MSpec Tryz.prog X 8 [Lp 1000000,Ln .u32 (s:Nat)] [gB 1000000 g] (.tup [Sn .i64 (makeN g s:Nat),Sn .i64 (makeE g s)]) [gB 1000000 (makeG g s)]:=by
  refine cE Tryz.func8 rfl (by kernel_rfl) rfl rfl (by exact (by repeat' (first|refine bR ?_ ?_|rfl|exact bT|exact bS|exact bU rfl))) rfl rfl ?_
  intro C
  refine g_open fun H vals hO hH => ?_
  have hX:=g_in hO hH
  obtain ⟨Hs,Hm,Hr,Ha,vC,vT,mb,ps,m,rfl,hHS⟩:=hH
  obtain ⟨o1,o2,o3,o4,e⟩:=own4 hO hHS.mem hHS.a1 hHS.a2 hHS.a3
  obtain ⟨pad,pcap,rfl⟩:=hHS.to.arr.slice
  have hI:GrX (joinM X H) g vC (.slice pad ps.length pcap) mb ps m:=by
    rw [e]
    exact hHS.to.x hk (fun b o hb=>joinM_has o4 (joinM_has o3 (joinM_has o2 (joinM_in hb)))) (fun b o hb=>joinM_has o4 (joinM_has o3 (joinM_in hb))) (fun b o hb=>joinM_has o4 (joinM_in hb)) (fun b o hb=>joinM_in hb)
  rw [e] at hI ⊢
  refine LWP.exits (Mid:=fun σ=>retM Tryz.prog Tryz.f8 [gB 1000000 g] (.tup [Sn .i64 (makeN g s:Nat),Sn .i64 (makeE g s)]) [gB 1000000 (makeG g s)] .ret σ) ?_ (fun _ h=>h) (fun _ h=>h)
  refine make_body O g vC pad pcap mb ps m s hs hk o4 hHS.to.arr hI fun qs ts Hn Ha' vT' hl on oa hR hA => ?_
  obtain ⟨p1,p2,p3⟩:=GrHS.grow X (g':=makeG g s) hHS.to rfl rfl rfl hl o1 o2 o3 on oa hR hA rfl
  rw [p3]
  generalize makeN g s=mn
  generalize makeE g s=me
  refine g_shut (k:=1000000) (g:=makeG g s) (vals:=grV (makeG g s) vC vT' mb) p1 ⟨_,_,_,_,_,_,_,_,_,O,p2⟩ (bZ ?_)
  exact ⟨[],⟨[_,_],⟨rfl,rfl,trivial⟩,rfl⟩,(by repeat' (first|exact trivial|refine cO ⟨_,rfl,?_⟩ ?_|refine cO ⟨_,rfl⟩ ?_|rfl|exact bV _ _ _ _|exact bW _ _ _ _|exact bX rfl)),rfl,rfl⟩
end Go.Proofs.YtjifibloagkeeaaGreat
end
section
namespace Go.Proofs.YtjifibloagkeeaaGreat
open Go Go.Lg Go.Lg.Fld Go.Lg.Sg Go.Lg.Col
set_option maxRecDepth 100000
def gnR (g:Gr) (s:Nat) (vC:Value) (mb:Nat) (ps:List Nat):Rsc:=⟨fun ρ H=>ρ.2=6∧∃ (fr:Nat×Nat) (qs ts:List Nat) (Hn Ha:Nat→Option Obj) (vT:Value),H ρ.1=some (.cells (grV g vC vT mb).toArray 75 fr)∧cutM H ρ.1=joinM Hn Ha∧ApM Hn Ha ∧
  makeL g s=g.l++ts∧Refs Hn qs (tabs g ts)∧TArr Ha vT (ps++qs)⟩
abbrev gnB (k:Nat) (g:Gr) (s:Nat) (vC:Value) (mb:Nat) (ps:List Nat):Nat×Option Box:=(k,some ⟨0,[],.res (gnR g s vC mb ps)⟩)
abbrev ptB (k:Nat) (ps:List Nat) (r:Bool):Nat×Option Box:=(k,some ⟨PT,(pvs ps).map .val,r⟩)
section
variable {P:Program} {n:Nat} {C:Ctx} {c:Code} {Q:Exit→St→Prop} {X:Nat→Option Obj} {sl:List (Nat×LV)} {bx:List (Nat×Option Box)} {k:Nat}
theorem gn_open {g:Gr} {s:Nat} {vC:Value} {mb:Nat} {ps:List Nat}
    (h:∀ (qs ts:List Nat) (Hn Ha:Nat→Option Obj) (vT:Value),makeL g s=g.l++ts→OwnedM C X Hn→OwnedM C (joinM X Hn) Ha→Refs Hn qs (tabs g ts)→TArr Ha vT (ps++qs)→LWP P n C c Q ⟨sl,gS k g (.val vC) (.val vT) (mV mb)::bx,joinM (joinM X Hn) Ha⟩):
    LWP P n C c Q ⟨sl,gnB k g s vC mb ps::bx,X⟩:=by
  refine LWP.openRes (fun ρ H h => ?_) fun ρ H vals el fr hR hv hO => ?_
  · obtain ⟨h1,fr,_,_,_,_,_,h2,_⟩:=h
    exact ⟨_,_,fr,h2,by rw [h1];rfl⟩
  · obtain ⟨h1,fr',qs,ts,Hn,Ha,vT,h2,h3,h4,h5,h6,h7⟩:=hR
    rw [hv] at h2
    simp only [Option.some.injEq,Obj.cells.injEq] at h2
    obtain ⟨rfl,rfl,rfl⟩:=h2
    have hO1:=hO.cut ρ.1
    rw [h3] at hO1 ⊢
    obtain ⟨p1,p2⟩:=own_join hO1 rfl h4
    rw [← joinM_join]
    exact h qs ts Hn Ha vT h5 p1 p2 h6 h7
end
variable (X:Nat→Option Obj)
set_option maxHeartbeats 3200000 in
theorem gMakeHalf (g:Gr) (hk:GrOk g) (s:Nat) (hs:s<4294967296) (vC:Value) (mb:Nat) (ps:List Nat) (m:List (Value×Value)) (r:Bool)
    (hI:∀ (Y:Nat→Option Obj) (vT:Value),(∀ b o,X b=some o→Y b=some o)→PtrsIn Y vT ps→GrX Y g vC vT mb ps m):
    MSpec Tryz.prog X 8 [Lp 1000000,Ln .u32 (s:Nat)] [gS 1000000 g (.val vC) (.slc 1000001 0 ps.length 1) (mV mb),ptB 1000001 ps r] (.tup [Sn .i64 (makeN g s:Nat),Sn .i64 (makeE g s)]) [gnB 1000000 g s vC mb ps,(1000001,none)]:=by
  refine cE Tryz.func8 rfl (by kernel_rfl) rfl rfl (by exact (by repeat' (first|refine bR ?_ ?_|rfl|exact bT|exact bS|exact bU rfl))) rfl rfl ?_
  intro C
  refine LWP.toNil ?_
  refine LWP.closeCell (A:=[.val (.int .i64 g.sc.ver),.val vC,.val (.int .i64 (g.archs:Nat)),.val (.int .i64 (g.rows:Nat))]) (B:=[mV mb]) (OwnedM.nil C X) (by rw [pvs_len];omega) O O O O O O fun b o v _ _ hO hL => ?_
  generalize withBlock (fun _=>none) b o=Ha at *
  have hA:TArr Ha v ps:=.inr ⟨b,hL⟩
  obtain ⟨pad,pcap,rfl⟩:=hA.slice
  have hG:=hI (joinM X Ha) (.slice pad ps.length pcap) (fun b o hb=>joinM_has hO hb) (hA.ptrs.mono fun b o hb=>joinM_in hb)
  refine LWP.exits (Mid:=fun σ=>retM Tryz.prog Tryz.f8 [gS 1000000 g (.val vC) (.slc 1000001 0 ps.length 1) (mV mb),ptB 1000001 ps r] (.tup [Sn .i64 (makeN g s:Nat),Sn .i64 (makeE g s)]) [gnB 1000000 g s vC mb ps,(1000001,none)] .ret σ) ?_ (fun _ h=>h) (fun _ h=>h)
  refine make_body O g vC pad pcap mb ps m s hs hk hO hA hG fun qs ts Hn Ha' vT' hl on oa hR hA' => ?_
  generalize makeN g s=mn
  generalize makeE g s=me
  rw [joinM_join]
  refine Leads.dead (k:=1000001) O ?_
  refine cA (σ':=⟨[(4,Ln .i64 (mn:Nat)),(5,Ln .i64 me)],[gS 1000000 g (.val vC) (.val vT') (mV mb),(1000001,none)],joinM X (joinM Hn Ha')⟩) (Le.same ⟨fun _=>O,fun j=>(by
    show cond (Nat.beq 1000001 j) _ (cond (Nat.beq 1000000 j) _ _)=cond (Nat.beq 1000000 j) _ (cond (Nat.beq 1000001 j) _ _)
    by_cases e:j=1000001
    · subst e;rfl
    · rw [show Nat.beq 1000001 j=false from by cases h:Nat.beq 1000001 j;rfl;exact absurd (Nat.eq_of_beq_eq_true h).symm e];rfl),rfl⟩) ?_
  refine Leads.closeRes (vals:=grV g vC vT' mb) (R:=gnR g s vC mb ps) (on.join oa) (fun ρ fr g1 _ g3=>⟨g3,fr,qs,ts,Hn,Ha',vT',cK _ _ _,by rw [cut_with g1],ap_own oa,hl,hR,hA'⟩) (bZ ?_)
  exact ⟨[],⟨[_,_],⟨rfl,rfl,trivial⟩,rfl⟩,(by repeat' (first|exact trivial|refine cO ⟨_,rfl,?_⟩ ?_|refine cO ⟨_,rfl⟩ ?_|rfl|exact bV _ _ _ _|exact bW _ _ _ _|exact bX rfl)),rfl,rfl⟩
theorem gStep_nil (i c:Int) (a:Bool):PSpec Tryz.prog X 9 [LnilG,Ln .i64 i,Ln .i64 c,Lb a] (.tup [Sn .i64 0,Sn .i64 2]):=by
  refine cD Tryz.func9 rfl (by kernel_rfl) rfl rfl ?_
  intro C
  (refine aA<|rgN<|kas O<|kas O<|aB<|aA<|aA<|rgN<|kmv O<|K.nilNil O (by kernel_rfl) (.inl ⟨O,O⟩) dP<|aB<|aE O ?_;refine aA<|rgN<|kas O<|kas O<|aB<|aI ?_)
  exact ⟨[_,_],⟨O,O,trivial⟩,O⟩
theorem minus_self (H:Nat→Option Obj):minusM H H=fun _=>none:=by
  funext b
  unfold minusM
  cases H b<;>rfl
set_option maxHeartbeats 12800000 in
theorem gStep (g:Gr) (hk:GrOk g) (i c:Int) (a:Bool) (hi:In6 i) (hc:In6 c):MSpec Tryz.prog X 9 [Lp 1000000,Ln .i64 i,Ln .i64 c,Lb a] [gB 1000000 g] (.tup [Sn .i64 (stepN g i c a:Nat),Sn .i64 (stepE g i c a)]) [gB 1000000 (stepG g i c a)]:=by
  refine cE Tryz.func9 rfl (by kernel_rfl) rfl rfl (by exact (by repeat' (first|refine bR ?_ ?_|rfl|exact bT|exact bS|exact bU rfl))) rfl rfl ?_
  intro C
  refine LWP.ends ?_
  refine g_open fun H vals hO hH => ?_
  obtain ⟨Hs,Hm,Hr,Ha,vC,vT,mb,ps,m,rfl,hHS⟩:=hH
  obtain ⟨o1,o2,o3,o4,e⟩:=own4 hO hHS.mem hHS.a1 hHS.a2 hHS.a3
  obtain ⟨pad,pcap,rfl⟩:=hHS.to.arr.slice
  have hI:GrX (joinM X H) g vC (.slice pad ps.length pcap) mb ps m:=by
    rw [e]
    exact hHS.to.x hk (fun b o hb=>joinM_has o4 (joinM_has o3 (joinM_has o2 (joinM_in hb)))) (fun b o hb=>joinM_has o4 (joinM_has o3 (joinM_in hb))) (fun b o hb=>joinM_has o4 (joinM_in hb)) (fun b o hb=>joinM_in hb)
  have hGH:GrH H (grV g vC (.slice pad ps.length pcap) mb) g:=⟨_,_,_,_,_,_,_,_,_,rfl,hHS⟩
  obtain ⟨v,h1,h2,h3⟩:=wayAt _ g vC pad pcap mb ps m hI hk (i,c,a)
  obtain ⟨kl,hkl⟩:=wyK_key (x:=(i,c,a)) hi hc
  have hm:=hI.map
  (refine aA<|rgN<|kas O<|kas O<|aB<|aA<|aA<|rgN<|kmv O<|K.ptrNil O (by kernel_rfl) (.inl ⟨O,O⟩) dP<|aB<|aF O ?_;refine aH ?_;refine aA<|rgN<|kmv O<|kmv O<|kmv O<|aT O O (by exact O) (by exact nl3 O O O O) dP ?_;refine aP O dP ?_;refine aM O O O O O O dP ?_;refine aB<|aA<|aA ?_)
  refine LWP.le (σ':=⟨[(0,Lp 1000000),(1,Ln .i64 i),(10,Lp 10)],[wyB 10 i c a,gS 1000000 g (.val vC) (vS' pad ps.length pcap) (mV mb)],joinM X H⟩) (Le.of (by exact ⟨O,O,O,trivial⟩) (by exact ⟨O,O,trivial⟩) (by exact O) (by exact O) (by repeat' (first|refine bR ?_ ?_|rfl|exact bT|exact bS|exact bU O))) ?_
  cases hq:knowsW g.w (i,c,a) with
  | true =>
    obtain ⟨_,k2,k3⟩:=hI.ways.known hk hq
    rw [k2,k3]
    have hv:=h2 hq
    simp only at hv
    subst hv
    rw [hq] at h3
    generalize stepN g i c a=sn at *
    (refine rgD mixed<|kmv O<|bI O dP<|kfa O O ?_;refine kl1 O O O<|aK O O O dP ?_;refine K.lookupOkX (kt:=WK) (et:=3) (z:=.int .i64 0) O O (agg_key (us:=[.int .i64 i,.int .i64 c,.bool a])) hm (by kernel_rfl) wyL hkl (by kernel_rfl) h1 h3 dP ?_;refine kmv O<|kex O O<|kex O O<|kas O<|kas O<|aB<|rgA ?_;refine aA<|rgN<|kmv O<|aB<|aE O ?_;refine aA<|rgN<|kmv O<|kas O<|kas O<|aB<|aI ?_)
    refine cA (σ':=⟨[(8,Ln .i64 (sn:Nat)),(9,Ln .i64 0)],[gO 1000000 (grV g vC (.slice pad ps.length pcap) mb)],joinM X H⟩) (Le.of (by exact ⟨O,O,trivial⟩) (by exact ⟨O,trivial⟩) (by exact O) (by exact O) (by repeat' (first|refine bR ?_ ?_|rfl|exact bT|exact bS|exact bU O))) ?_
    refine g_shut hO hGH (bZ ?_)
    exact ⟨[],⟨[_,_],⟨rfl,rfl,trivial⟩,rfl⟩,(by repeat' (first|exact trivial|refine cO ⟨_,rfl,?_⟩ ?_|refine cO ⟨_,rfl⟩ ?_|rfl|exact bV _ _ _ _|exact bW _ _ _ _|exact bX rfl)),rfl,rfl⟩
  | false =>
    rw [hq] at h3
    clear h2
    have hch:=hcheck0 _ g vC pad pcap mb ps m hI hk i c a
    (refine rgD mixed<|kmv O<|bI O dP<|kfa O O ?_;refine kl1 O O O<|aK O O O dP ?_;refine K.lookupOkX (kt:=WK) (et:=3) (z:=.int .i64 0) O O (agg_key (us:=[.int .i64 i,.int .i64 c,.bool a])) hm (by kernel_rfl) wyL hkl (by kernel_rfl) h1 h3 dP ?_;refine kmv O<|kex O O<|kex O O<|kas O<|kas O<|aB<|rgA ?_;refine aA<|rgN<|kmv O<|aB<|aF O ?_;refine aH ?_;refine aA<|aA<|rgN<|kmv O<|aK O O O dP ?_;refine K.callR [(1000000,1000000)] (hch) O O (by exact (cO ⟨_,O,O⟩ trivial)) (by exact (bR (bR O (bR O (bR O (bR O (bR O (bR O O)))))) O)) O O O O dP<|kas O<|aB<|aA ?_)
    refine LWP.le (σ':=⟨[(0,Lp 1000000),(1,Ln .i64 i),(10,Lp 10),(13,Ln .i64 (chkS g i c a))],[wyB 10 i c a,gS 1000000 g (.val vC) (vS' pad ps.length pcap) (mV mb)],joinM X H⟩) (Le.of (by exact ⟨O,O,O,O,trivial⟩) (by exact ⟨O,O,trivial⟩) (by exact O) (by exact O) (by repeat' (first|refine bR ?_ ?_|rfl|exact bT|exact bS|exact bU O))) ?_
    have hsE:=stepE_chk g i c a
    by_cases hz:chkS g i c a=0
    case neg =>
      rw [if_neg hz] at hsE
      have e2:stepG g i c a=g:=by unfold stepG;rw [if_neg (by rw [hsE];exact hz)]
      have e3:stepN g i c a=0:=by unfold stepN;rw [if_neg (by rw [hsE];exact hz)]
      rw [hsE,e2,e3]
      clear hsE hch
      generalize chkS g i c a=ce at *
      (refine rgN<|kmv O<|kne O O (r:=true) (cR hz)<|aB<|aE O ?_;refine aA<|rgN<|kmv O<|kas O<|kas O<|aB<|aI ?_)
      refine cA (σ':=⟨[(8,Ln .i64 (0:Nat)),(9,Ln .i64 ce)],[gO 1000000 (grV g vC (.slice pad ps.length pcap) mb)],joinM X H⟩) (Le.of (by exact ⟨O,O,trivial⟩) (by exact ⟨O,trivial⟩) (by exact O) (by exact O) (by repeat' (first|refine bR ?_ ?_|rfl|exact bT|exact bS|exact bU O))) ?_
      refine g_shut hO hGH (bZ ?_)
      exact ⟨[],⟨[_,_],⟨rfl,rfl,trivial⟩,rfl⟩,(by repeat' (first|exact trivial|refine cO ⟨_,rfl,?_⟩ ?_|refine cO ⟨_,rfl⟩ ?_|rfl|exact bV _ _ _ _|exact bW _ _ _ _|exact bX rfl)),rfl,rfl⟩
    rw [if_pos hz] at hsE
    obtain ⟨k,s,rfl,hs,hC,hN⟩:∃ k s,i=((k:Nat):Int)∧g.l[k]? = some s∧hasC g.sc.cs c=true∧hasB s c≠a:=by
      unfold chkS at hz
      by_cases r1:rowG g i=true
      · obtain ⟨k,s,rfl,hs⟩:=rowG_at r1
        rw [if_pos r1,setAt_of hs] at hz
        by_cases r2:hasC g.sc.cs c=true
        · rw [if_pos r2] at hz
          by_cases r3:hasB s c=a
          · rw [if_pos r3] at hz;cases hz
          · exact ⟨k,s,rfl,hs,r2,r3⟩
        · rw [if_neg r2] at hz;cases hz
      · rw [if_neg r1] at hz;cases hz
    rw [setAt_of hs] at hsE
    rw [hz]
    clear hch
    have hs32:=(hk.can s (dB hs)).2
    have hn32:=next_lt (c:=c) (a:=a) hs32
    rw [e]
    have hX0s:∀ b o,Hs b=some o→joinM (joinM (joinM X Hs) Hm) Hr b=some o:=fun b o hb=>joinM_has o3 (joinM_has o2 (joinM_in hb))
    have hX0m:∀ b o,Hm b=some o→joinM (joinM (joinM X Hs) Hm) Hr b=some o:=fun b o hb=>joinM_has o3 (joinM_in hb)
    have hX0r:∀ b o,Hr b=some o→joinM (joinM (joinM X Hs) Hm) Hr b=some o:=fun b o hb=>joinM_in hb
    have hG:=hHS.to
    obtain ⟨mn,hmn⟩:=hG.map
    obtain ⟨hmI,hmr,_⟩:=MapIn.of hmn
    have hI0:∀ (Y:Nat→Option Obj) (vT:Value),(∀ b o,joinM (joinM (joinM X Hs) Hm) Hr b=some o→Y b=some o)→PtrsIn Y vT ps→GrX Y g vC vT mb ps m:=fun Y vT hY hP=>by
      obtain ⟨cb,cc,e1,e2⟩:=hG.sc
      exact ⟨⟨cb,cc,e1,e2.mono fun b o hb=>hY _ _ (hX0s b o hb)⟩,hmI.mono fun b o hb=>hY _ _ (hX0m b o hb),by rw [hG.refs.len,tabs_len],hP,refs_tabs hk hG.refs fun b o hb=>hY _ _ (hX0r b o hb),hG.ways,hG.names,hG.few⟩
    clear hm hI hGH
    rcases hG.arr with ⟨_,h0⟩|⟨db,hd⟩
    · have:ps.length=g.l.length:=by rw [hG.refs.len,tabs_len]
      rw [h0] at this
      have:=(List.getElem?_eq_some_iff.1 hs).1
      simp at *
      omega
    obtain ⟨b,hb,hT⟩:=refs_tabs (Y:=joinM (joinM (joinM (joinM X Hs) Hm) Hr) (cutM Ha db)) hk hG.refs (fun b o hb=>joinM_has (o4.cut db) (hX0r b o hb)) k s hs
    have hkl2:=(List.getElem?_eq_some_iff.1 hb).1
    have hel:(pvs ps).length=ps.length*1:=by rw [pvs_len];omega
    have hio:0+Int.toNat (k:Int)*1=k:=by simp
    have hcell:((pvs ps).map CV.val)[k]? = some (.val (.pointer (some ⟨b,0,none⟩))):=by unfold pvs;rw [dJ,dJ,hb];rfl
    have hSg:=tSigX _ _ _ hT
    have hOf:=hOf (joinM (joinM (joinM (joinM X Hs) Hm) Hr) (cutM Ha db)) ((k:Nat):Int) c a s hs32
    have hMk:=gMakeHalf (joinM (joinM (joinM (joinM X Hs) Hm) Hr) (cutM Ha db)) g hk (nextS s c a) hn32 vC mb ps m true fun Y vT hY hP=>hI0 Y vT (fun b o hb=>hY _ _ (joinM_has (o4.cut db) hb)) hP
    refine LWP.le (σ':=⟨[(0,Lp 1000000),(1,Ln .i64 (k:Nat)),(10,Lp 10),(13,Ln .i64 0)],[(1000000,some ⟨75,[.val (.int .i64 g.sc.ver),.val vC,.val (.int .i64 (g.archs:Nat)),.val (.int .i64 (g.rows:Nat))]++vS' pad ps.length pcap::[mV mb],false⟩),wyB 10 (k:Nat) c a],joinM (joinM (joinM (joinM X Hs) Hm) Hr) Ha⟩) (Le.of (by exact ⟨O,O,O,O,trivial⟩) (by exact ⟨O,O,trivial⟩) (by exact O) (by exact O) (by repeat' (first|refine bR ?_ ?_|rfl|exact bT|exact bS|exact bU O))) ?_
    refine LWP.openCell (A:=[.val (.int .i64 g.sc.ver),.val vC,.val (.int .i64 (g.archs:Nat)),.val (.int .i64 (g.rows:Nat))]) (B:=[mV mb]) (k:=602) (sz:=1) (len:=ps.length) o4 hd hel (by omega) O (by repeat' (first|refine bR ?_ ?_|rfl|exact bS)) O O O ?_
    (refine rgN<|kmv O<|kne O O (r:=false) O<|aB<|aF O ?_;refine aH ?_;refine aA<|rgD mixed<|kmv O<|aK O O O dP ?_;refine kmv O<|bI O dP<|kfa O O ?_;refine kl1 O O O<|kmv O<|K.indexSlc O O (by omega) hio dP ?_;refine kl1 O O hcell<|kca O O hSg<|kca O O hOf<|aU [(1000000,1000000),(1000001,602)] [gnB 1000000 g (nextS s c a) vC mb ps,(602,none)] (hMk) O O (by exact (cO ⟨_,O,O⟩ (cO ⟨_,O,(bW _ _ _ _)⟩ trivial))) (by exact (bR (bR O (bR O (bR O (bR O (bR O (bR O O)))))) (bR bS O))) O O O O (by exact (.box O O (.dead O .nil))) dP<|kmv O<|kex O O<|kex O O<|kas O<|kas O<|aB<|rgA ?_;refine aA<|aA ?_)
    refine LWP.le (σ':=⟨[(0,Lp 1000000),(1,Ln .i64 (k:Nat)),(10,Lp 10),(14,Ln .i64 (makeN g (nextS s c a):Nat)),(15,Ln .i64 (makeE g (nextS s c a)))],[gnB 1000000 g (nextS s c a) vC mb ps,wyB 10 (k:Nat) c a],joinM (joinM (joinM (joinM X Hs) Hm) Hr) (cutM Ha db)⟩) (Le.of (by exact ⟨O,O,O,O,O,trivial⟩) (by exact ⟨O,O,trivial⟩) (by exact O) (by exact O) (by repeat' (first|refine bR ?_ ?_|rfl|exact bT|exact bS|exact bU O))) ?_
    refine gn_open fun qs ts Hn Ha' vT' hl on oa hR hA => ?_
    have hR0:=(Refs.nil (cutM Ha db)).append hR (ap_own on)
    rw [List.nil_append,List.nil_append] at hR0
    clear hMk hSg hOf
    by_cases hme:makeE g (nextS s c a)=0
    case neg =>
      have e2:stepG g (k:Nat) c a=g:=by unfold stepG;rw [if_neg (by rw [hsE];exact hme)]
      have e3:stepN g (k:Nat) c a=0:=by unfold stepN;rw [if_neg (by rw [hsE];exact hme)]
      have hts:ts=[]:=by
        have:=(make_no hme).1
        rw [hl] at this
        simpa using this
      rw [hsE,e2,e3]
      generalize makeN g (nextS s c a)=mn at *
      generalize makeE g (nextS s c a)=me at *
      (refine rgN<|kmv O<|kne O O (r:=true) (cR hme)<|aB<|aE O ?_;refine aA<|rgN<|kmv O<|kas O<|kas O<|aB<|aI ?_)
      obtain ⟨p1,p2,p3⟩:=GrHS.grow X (g':=g) hG rfl rfl rfl (by rw [hts,dH]) o1 o2 o3 ((o4.cut db).join on) (by rw [← joinM_join];exact oa) hR0 hA rfl
      refine cA (σ':=⟨[(8,Ln .i64 (0:Nat)),(9,Ln .i64 me)],[gO 1000000 (grV g vC vT' mb)],joinM X (joinM (joinM (joinM Hs Hm) (joinM Hr (joinM (cutM Ha db) Hn))) Ha')⟩) (by
        rw [← p3,← joinM_join _ (cutM Ha db) Hn]
        exact Le.of (by exact ⟨O,O,trivial⟩) (by exact ⟨O,trivial⟩) (by exact O) (by exact O) (by repeat' (first|refine bR ?_ ?_|rfl|exact bT|exact bS|exact bU O))) ?_
      refine g_shut p1 ⟨_,_,_,_,_,_,_,_,_,O,p2⟩ (bZ ?_)
      exact ⟨[],⟨[_,_],⟨rfl,rfl,trivial⟩,rfl⟩,(by repeat' (first|exact trivial|refine cO ⟨_,rfl,?_⟩ ?_|refine cO ⟨_,rfl⟩ ?_|rfl|exact bV _ _ _ _|exact bW _ _ _ _|exact bX rfl)),rfl,rfl⟩
    have hS:Stepped g ((k:Nat):Int) c a k s:=⟨rfl,hs,hC,hN,hme⟩
    obtain ⟨b1,b2,b3⟩:=hG.ways.more hk hS hq
    obtain ⟨e1,e2⟩:=hS.step
    have hat:=(List.getElem?_eq_some_iff.1 (makeN_at hme)).1
    have hlen64:(makeL g (nextS s c a)).length≤64:=by
      have:=(hk.make (s:=nextS s c a) hn32).room
      have h64:=hk.archs
      have:(makeL g (nextS s c a)).length≤g.archs:=this
      omega
    rw [hsE,hme,e2]
    rw [e2] at b1 b2
    rw [e1] at b2 ⊢
    generalize makeN g (nextS s c a)=nn at *
    have hn6:In6 ((nn:Nat):Int):=⟨by omega,by omega⟩
    obtain ⟨kl2,hkl3⟩:=wyK_key (x:=(((nn:Nat):Int),c,!a)) hn6 hc
    have hne:wyK (((k:Nat):Int),c,a)≠wyK (((nn:Nat):Int),c,!a):=fun e=>by
      have:a = !a:=congrArg (fun x:Wy=>x.2.2) (wyK_inj e)
      cases a<;>cases this
    have put1:Put m (wyK (((k:Nat):Int),c,a)) (.int .i64 (nn:Nat)) (m++[(wyK (((k:Nat):Int),c,a),.int .i64 (nn:Nat))]):=.inr ⟨hG.ways.no hq,rfl⟩
    have put2:Put (m++[(wyK (((k:Nat):Int),c,a),.int .i64 (nn:Nat))]) (wyK (((nn:Nat):Int),c,!a)) (.int .i64 (k:Nat)) (m++[(wyK (((k:Nat):Int),c,a),.int .i64 (nn:Nat))]++[(wyK (((nn:Nat):Int),c,!a),.int .i64 (k:Nat))]):=.inr ⟨fun p hp=>by
      rcases List.mem_append.1 hp with hp|hp
      · exact hG.ways.no b1 p hp
      · rw [List.mem_singleton.1 hp];exact hne,rfl⟩
    obtain ⟨⟨p1,p2,p3,p4,p5,_⟩,pe⟩:=ownL_perm (C:=C) (l:=[Hm,Hr,cutM Ha db,Hn,Ha']) (l':=[Hr,cutM Ha db,Hn,Ha',Hm]) ((by decide:[0,1,2,3,4].Perm [1,2,3,4,0]).map fun i:Nat=>[Hm,Hr,cutM Ha db,Hn,Ha'].getD i Hm) (joinM X Hs) ⟨o2,o3,o4.cut db,on,oa,trivial⟩
    rw [show joinM (joinM (joinM (joinM (joinM (joinM X Hs) Hm) Hr) (cutM Ha db)) Hn) Ha'=joinL (joinM X Hs) [Hm,Hr,cutM Ha db,Hn,Ha'] from rfl,pe]
    refine LWP.le (σ':=⟨[(0,Lp 1000000),(1,Ln .i64 (k:Nat)),(10,Lp 10),(14,Ln .i64 (nn:Nat)),(15,Ln .i64 0)],[gS 1000000 g (.val vC) (.val vT') (mV mb),wyB 10 (k:Nat) c a],joinM (joinM (joinM (joinM (joinM (joinM X Hs) Hr) (cutM Ha db)) Hn) Ha') Hm⟩) (Le.of (by exact ⟨O,O,O,O,O,trivial⟩) (by exact ⟨O,O,trivial⟩) (by exact O) (by exact O) (by repeat' (first|refine bR ?_ ?_|rfl|exact bT|exact bS|exact bU O))) ?_
    refine LWP.takeRes (k:=604) p5 (fun _ _ h=>h) hmn hmr O O O (by decide) ?_
    rw [minus_self,joinM_nil]
    have hBk:=hBack (joinM (joinM (joinM (joinM (joinM X Hs) Hr) (cutM Ha db)) Hn) Ha') ((k:Nat):Int) c a ((nn:Nat):Int)
    (refine rgN<|kmv O<|kne O O (r:=false) O<|aB<|aF O ?_;refine aH ?_;refine aA<|rgD mixed<|kmv O<|bI O dP<|kfa O O ?_;refine kl1 O O O<|aK O O O dP ?_;refine kmv O<|K.mapUpdateAt (k:=604) (et:=3) (kt:=WK) _ O O (agg_key (us:=[.int .i64 (k:Nat),.int .i64 c,.bool a])) O one_key O (by kernel_rfl) wyL hkl put1 dP ?_;refine aB<|rgA ?_;refine aA<|rgD mixed<|kmv O<|bI O dP<|kfa O O ?_;refine kl1 O O O<|aK O O O dP ?_;refine kmv O<|kca O O hBk<|kmv O<|K.mapUpdateAt (k:=604) (et:=3) (kt:=WK) _ O O (agg_key (us:=[.int .i64 (nn:Nat),.int .i64 c,.bool (!a)])) O one_key O (by kernel_rfl) wyL hkl3 put2 dP ?_;refine aB<|rgA ?_;refine aA<|rgN<|kmv O<|kas O<|kas O<|aB<|aI ?_)
    refine cA (σ':=⟨[(8,Ln .i64 (nn:Nat)),(9,Ln .i64 0)],[(604,some ⟨0,[],.res (atR mb (mapR Tryz.prog WK (m++[(wyK (((k:Nat):Int),c,a),.int .i64 (nn:Nat))]++[(wyK (((nn:Nat):Int),c,!a),.int .i64 (k:Nat))])))⟩),gS 1000000 g (.val vC) (.val vT') (mV mb)],joinM (joinM (joinM (joinM (joinM X Hs) Hr) (cutM Ha db)) Hn) Ha'⟩) (Le.of (by exact ⟨O,O,trivial⟩) (by exact ⟨O,O,trivial⟩) (by exact O) (by exact O) (by repeat' (first|refine bR ?_ ?_|rfl|exact bT|exact bS|exact bU O))) ?_
    refine Leads.fixAlone O O O fun ρ H2 hh o2' => ?_
    obtain ⟨mb',mn'⟩:=ρ
    obtain ⟨rfl,hm2⟩:=hh
    obtain ⟨⟨ow1,ow2,ow3,ow4,ow5,_⟩,owe⟩:=ownL_perm (C:=C) (l:=[Hr,cutM Ha db,Hn,Ha',H2]) (l':=[H2,Hr,cutM Ha db,Hn,Ha']) ((by decide:[0,1,2,3,4].Perm [4,0,1,2,3]).map fun i:Nat=>[Hr,cutM Ha db,Hn,Ha',H2].getD i Hm) (joinM X Hs) ⟨p1,p2,p3,p4,o2',trivial⟩
    rw [show joinM (joinM (joinM (joinM (joinM (joinM X Hs) Hr) (cutM Ha db)) Hn) Ha') H2=joinL (joinM X Hs) [Hr,cutM Ha db,Hn,Ha',H2] from rfl,owe]
    have ow6:OwnedM C (joinM (joinM (joinM (joinM X Hs) H2) Hr) (joinM (cutM Ha db) Hn)) Ha':=by rw [← joinM_join];exact ow5
    obtain ⟨q1,q2,q3⟩:=GrHS.grow' X (ts:=ts) hG.sc hG.refs hG.names hG.few ⟨mn',hm2⟩ b2 rfl rfl hl o1 ow1 ow2 (ow3.join ow4) ow6 hR0 hA rfl
    refine cA (σ':=⟨[(8,Ln .i64 (nn:Nat)),(9,Ln .i64 0)],[gO 1000000 (grV g vC vT' mb')],joinM X (joinM (joinM (joinM Hs H2) (joinM Hr (joinM (cutM Ha db) Hn))) Ha')⟩) (by
      rw [← q3,← joinM_join _ (cutM Ha db) Hn]
      exact Le.of (by exact ⟨O,O,trivial⟩) (by exact ⟨O,trivial⟩) (by exact O) (by exact O) (by repeat' (first|refine bR ?_ ?_|rfl|exact bT|exact bS|exact bU O))) ?_
    refine g_shut (g:={ g with l:=makeL g (nextS s c a),w:=addW (addW g.w (((k:Nat):Int),c,a)) (((nn:Nat):Int),c,!a) }) (vals:=grV g vC vT' mb') q1 ⟨_,_,_,_,_,_,_,_,_,O,q2⟩ (bZ ?_)
    exact ⟨[],⟨[_,_],⟨rfl,rfl,trivial⟩,rfl⟩,(by repeat' (first|exact trivial|refine cO ⟨_,rfl,?_⟩ ?_|refine cO ⟨_,rfl⟩ ?_|rfl|exact bV _ _ _ _|exact bW _ _ _ _|exact bX rfl)),rfl,rfl⟩
end Go.Proofs.YtjifibloagkeeaaGreat
end
section
namespace Go.Proofs.YtjifibloagkeeaaGreat
open Go Go.Lg Go.Lg.Fld Go.Lg.Sg
set_option maxRecDepth 100000
def gMade (_:Nat):Bool:=true
theorem gMade_zero {n:Nat} (h:gMade n=false):n=0:=by cases h
variable (X:Nat→Option Obj)
section
variable {vals:List Value} {g:Gr} (hI:GrIn X vals g) (hk:GrOk g)
include hI hk
theorem grLen:MSpec Tryz.prog X 11 [Lp 1000000] [gO 1000000 vals] (Ln .i64 (g.l.length:Nat)) [gO 1000000 vals]:=by
  obtain ⟨vC,vT,mb,ps,m,rfl,hX⟩:=hI
  obtain ⟨pad,pcap,rfl,_⟩:=hX.ptrs
  have _:=hk
  exact hlen0 X g vC pad pcap mb ps m hX
theorem gRoom:MSpec Tryz.prog X 12 [Lp 1000000] [gO 1000000 vals] (Ln .i64 (g.archs-g.l.length:Nat)) [gO 1000000 vals]:=by
  obtain ⟨vC,vT,mb,ps,m,rfl,hX⟩:=hI
  obtain ⟨pad,pcap,rfl,_⟩:=hX.ptrs
  exact hroom0 X g vC pad pcap mb ps m hX hk
theorem gWays:MSpec Tryz.prog X 13 [Lp 1000000] [gO 1000000 vals] (Ln .i64 (g.w.length:Nat)) [gO 1000000 vals]:=by
  obtain ⟨vC,vT,mb,ps,m,rfl,hX⟩:=hI
  obtain ⟨pad,pcap,rfl,_⟩:=hX.ptrs
  have _:=hk
  exact hways0 X g vC pad pcap mb ps m hX
theorem gKnows (i c:Int) (a:Bool) (hi:In6 i) (hc:In6 c):MSpec Tryz.prog X 16 [Lp 1000000,Ln .i64 i,Ln .i64 c,Lb a] [gO 1000000 vals] (Lb (knowsW g.w (i,c,a))) [gO 1000000 vals]:=by
  obtain ⟨vC,vT,mb,ps,m,rfl,hX⟩:=hI
  obtain ⟨pad,pcap,rfl,_⟩:=hX.ptrs
  exact hknows0 X g vC pad pcap mb ps m hX hk i c a hi hc
theorem gFind (s:Nat) (_:s<4294967296):MSpec Tryz.prog X 10 [Lp 1000000,Ln .u32 (s:Nat)] [gO 1000000 vals] (.tup [Sn .i64 ((match findG g.l s with|some i=>i|none=>0:Nat):Nat),.one (.val (.bool (findG g.l s).isSome))]) [gO 1000000 vals]:=by
  obtain ⟨vC,vT,mb,ps,m,rfl,hX⟩:=hI
  obtain ⟨pad,pcap,rfl,_⟩:=hX.ptrs
  exact hfind0 X g vC pad pcap mb ps m hX hk s
theorem gSigs_none (hm:gMade g.l.length=false):MSpec Tryz.prog X 14 [Lp 1000000] [gO 1000000 vals] (.sv (.one (.val (.slice none 0 0)))) [gO 1000000 vals]:=by have _:=hI;have _:=hk;cases hm
theorem gSigs (_:gMade g.l.length=true):MSpec Tryz.prog X 14 [Lp 1000000] [gO 1000000 vals] (.sv (.one (.slc 1000001 0 g.l.length 1))) [gO 1000000 vals,sgB 1000001 g.l]:=by
  obtain ⟨vC,vT,mb,ps,m,rfl,hX⟩:=hI
  obtain ⟨pad,pcap,rfl,_⟩:=hX.ptrs
  exact hsigs0 X g vC pad pcap mb ps m hX hk
theorem gTable_no (i:Int) (h:rowG g i=false):MSpec Tryz.prog X 15 [Lp 1000000,Ln .i64 i] [gO 1000000 vals] LnilT [gO 1000000 vals]:=by
  obtain ⟨vC,vT,mb,ps,m,rfl,hX⟩:=hI
  obtain ⟨pad,pcap,rfl,_⟩:=hX.ptrs
  exact htable0_no X g vC pad pcap mb ps m hX hk i h
theorem gTable (i s:Nat) (h:g.l[i]? = some s):∃ tb,TbX X tb (tbl g s)∧MSpec Tryz.prog X 15 [Lp 1000000,Ln .i64 (i:Nat)] [gO 1000000 vals] (Lpx tb) [gO 1000000 vals]:=by
  obtain ⟨vC,vT,mb,ps,m,rfl,hX⟩:=hI
  obtain ⟨pad,pcap,rfl,_⟩:=hX.ptrs
  obtain ⟨b,hb,hT⟩:=hX.tabs i s h
  exact ⟨_,hT,htable0 X g vC pad pcap mb ps m hX hk i b hb⟩
end
theorem gFind_nil (s:Nat):PSpec Tryz.prog X 10 [LnilG,Ln .u32 (s:Nat)] (.tup [Sn .i64 0,.one (.val (.bool false))]):=by
  refine cD Tryz.func10 rfl (by kernel_rfl) rfl rfl ?_
  intro C
  (refine aA<|rgN<|K.box1 O O O dP<|kas O<|kas O<|aB<|aA<|aA<|rgN<|kmv O<|K.nilNil O (by kernel_rfl) (.inl ⟨O,O⟩) dP<|aB<|aE O ?_;refine aA<|rgN<|kas O<|kas O<|aB<|aI ?_)
  exact ⟨[_,_],⟨O,O,trivial⟩,O⟩
theorem gLen_nil:PSpec Tryz.prog X 11 [LnilG] (Ln .i64 0):=by
  refine cD Tryz.func11 rfl (by kernel_rfl) rfl rfl ?_
  intro C
  (refine aA<|rgN<|kas O<|aB<|aA<|aA<|rgN<|kmv O<|K.nilNil O (by kernel_rfl) (.inl ⟨O,O⟩) dP<|aB<|aE O ?_;refine aA<|rgN<|kas O<|aB<|aI ?_)
  exact ⟨[_],⟨O,trivial⟩,O⟩
theorem gRoom_nil:PSpec Tryz.prog X 12 [LnilG] (Ln .i64 0):=by
  refine cD Tryz.func12 rfl (by kernel_rfl) rfl rfl ?_
  intro C
  (refine aA<|rgN<|kas O<|aB<|aA<|aA<|rgN<|kmv O<|K.nilNil O (by kernel_rfl) (.inl ⟨O,O⟩) dP<|aB<|aE O ?_;refine aA<|rgN<|kas O<|aB<|aI ?_)
  exact ⟨[_],⟨O,trivial⟩,O⟩
theorem gWays_nil:PSpec Tryz.prog X 13 [LnilG] (Ln .i64 0):=by
  refine cD Tryz.func13 rfl (by kernel_rfl) rfl rfl ?_
  intro C
  (refine aA<|rgN<|kas O<|aB<|aA<|aA<|rgN<|kmv O<|K.nilNil O (by kernel_rfl) (.inl ⟨O,O⟩) dP<|aB<|aE O ?_;refine aA<|rgN<|kas O<|aB<|aI ?_)
  exact ⟨[_],⟨O,trivial⟩,O⟩
theorem gSigs_nil:PSpec Tryz.prog X 14 [LnilG] (.sv (.one (.val (.slice none 0 0)))):=by
  refine cD Tryz.func14 rfl (by kernel_rfl) rfl rfl ?_
  intro C
  (refine aA<|rgN<|kas O<|aB<|aA<|aA<|rgN<|kmv O<|K.nilNil O (by kernel_rfl) (.inl ⟨O,O⟩) dP<|aB<|aE O ?_;refine aA<|rgN<|kas O<|aB<|aI ?_)
  exact ⟨[_],⟨O,trivial⟩,O⟩
theorem gTable_nil (i:Int):PSpec Tryz.prog X 15 [LnilG,Ln .i64 i] LnilT:=by
  have h0:=gLen_nil X
  refine cD Tryz.func15 rfl (by kernel_rfl) rfl rfl ?_
  intro C
  by_cases hi:i<0
  · (refine aA<|rgN<|kas O<|aB<|aA<|aA<|rgN<|kmv O<|klt O O (cN hi)<|kmv O<|aC O O O<|aC O O O<|aC O O O<|aC O O O ?_;refine kpt O O<|aB<|aE O ?_;refine aA<|rgN<|kas O<|aB<|aI ?_)
    exact ⟨[_],⟨O,trivial⟩,O⟩
  · (refine aA<|rgN<|kas O<|aB<|aA<|aA<|rgN<|kmv O<|klt O O (cL hi)<|kmv O<|gmv O O O<|gmv O O O<|gca O O h0 O O<|bD O O (cN (by omega)) (dQ O O) ?_;refine kpf O O<|aB<|aE O ?_;refine aA<|rgN<|kas O<|aB<|aI ?_)
    exact ⟨[_],⟨O,trivial⟩,O⟩
theorem gKnows_nil (i c:Int) (a:Bool):PSpec Tryz.prog X 16 [LnilG,Ln .i64 i,Ln .i64 c,Lb a] (Lb false):=by
  refine cD Tryz.func16 rfl (by kernel_rfl) rfl rfl ?_
  intro C
  (refine aA<|rgN<|kas O<|aB<|aA<|aA<|rgN<|kmv O<|K.nilNil O (by kernel_rfl) (.inl ⟨O,O⟩) dP<|aB<|aE O ?_;refine aA<|rgN<|kas O<|aB<|aI ?_)
  exact ⟨[_],⟨O,trivial⟩,O⟩
end Go.Proofs.YtjifibloagkeeaaGreat
end
section
namespace Go.Proofs.YtjifibloagkeeaaGreat
open Go Go.Lg Go.Lg.Fld Go.Lg.Sg
set_option maxRecDepth 100000
def sc17:Sc:=⟨1,[⟨1,[97],[]⟩,⟨2,[98],[]⟩]⟩
def g17a:Gr:=⟨sc17,4,9,[],[]⟩
def g17b:Gr:=makeG g17a 0
def g17c:Gr:=stepG g17b 0 1 true
def g17d:Gr:=stepG g17c 1 2 true
def g17e:Gr:=stepG g17d 2 1 false
theorem good17:goodG sc17 (4:Nat) (9:Nat)=true:=by decide +kernel
theorem ok17a:GrOk g17a:=GrOk.new good17
theorem ok17b:GrOk g17b:=ok17a.make (by decide)
theorem ok17c:GrOk g17c:=ok17b.step 0 1 true
theorem ok17d:GrOk g17d:=ok17c.step 1 2 true
theorem ok17e:GrOk g17e:=ok17d.step 2 1 false
theorem q17a:makeN g17a 0=0∧makeE g17a 0=0:=by decide +kernel
theorem q17b:stepN g17b 0 1 true=1∧stepE g17b 0 1 true=0:=by decide +kernel
theorem q17c:stepN g17c 1 2 true=2∧stepE g17c 1 2 true=0:=by decide +kernel
theorem q17d:stepN g17d 2 1 false=3∧stepE g17d 2 1 false=0:=by decide +kernel
theorem q17e:stepN g17e 0 1 false=0∧stepE g17e 0 1 false=7:=by decide +kernel
theorem q17f:makeN g17e 8=0∧makeE g17e 8=6:=by decide +kernel
theorem q17g:findG g17e.l 6=some 2:=by decide +kernel
theorem q17h:g17e.l.length=4∧g17e.w.length=6∧knowsW g17e.w (3,1,true)=true:=by decide +kernel
theorem q17i:g17e.l[2]? = some 6:=by decide +kernel
theorem same17:stepG g17e 0 1 false=g17e∧makeG g17e 8=g17e:=by
  refine ⟨?_,?_⟩
  · unfold stepG;rw [if_neg (by rw [q17e.2];decide)]
  · unfold makeG;rw [(make_no (by rw [q17f.2];decide)).1]
theorem inb17:InB sc17.cs:=by
  intro c hc
  simp only [sc17,List.mem_cons,List.not_mem_nil,or_false] at hc
  rcases hc with rfl|rfl<;>exact ⟨by decide,fun f hf=>by cases hf⟩
theorem names17:NamesIn sc17.cs:=fun c hc=>by
  simp only [sc17,List.mem_cons,List.not_mem_nil,or_false] at hc
  rcases hc with rfl|rfl<;>exact ⟨by decide,fun f hf=>by cases hf⟩
theorem few17:sc17.cs.length≤30∧∀ c∈sc17.cs,c.fs.length≤12:=⟨by decide,fun c hc=>by
  simp only [sc17,List.mem_cons,List.not_mem_nil,or_false] at hc
  rcases hc with rfl|rfl<;>decide⟩
theorem lent_sc17 {S:Nat→Option (Option Box)} {Y:Nat→Option Obj} {k n:Nat} {cs:List Cp} {e:TypeId} {cc:List CV} {u:Value} (hk:S k=some (some ⟨e,cc,.res (scR cs)⟩)) (hu:LentC S Y (.slc k 0 n 3) u):∃ (blk cap:Nat),u = .slice (some ⟨blk,0,none⟩) n cap∧CompsIn Y (some ⟨blk,0,none⟩) cs:=by
  obtain ⟨b,blk,cap2,m,hk',rfl,hc,hfit,hB⟩:=hu
  rw [hk] at hk'
  simp only [Option.some.injEq] at hk'
  subst hk'
  obtain ⟨H,hR,hHY⟩:=hB
  exact ⟨blk,cap2,O,scR_in hR hHY⟩
variable (X:Nat→Option Obj)
theorem two17_spec:MSpec Tryz.prog X 28 [] [] (.sv (.agg [.val (.int .i64 1),.slc 1000001 0 2 3])) [scB 1000001 sc17.cs]:=by
  refine cE Tryz.func28 rfl (by kernel_rfl) rfl rfl (by exact (by repeat' (first|refine bR ?_ ?_|rfl|exact bT|exact bS|exact bU rfl))) rfl rfl ?_
  intro C
  refine LWP.ends ?_
  (refine aA<|rgN<|aP O dP ?_;refine aB<|aA<|rgN<|aT O O (by exact O) (by exact nl3 O O O O) dP ?_;refine aT O O (by exact O) (by exact nl3 O O O O) dP ?_;refine aZ (zs:=(List.replicate 2 [Value.int .i64 0,.string ⟨#[]⟩,.slice none 0 0]).flatten) (sz:=3) (e:=69) (cs':=[Value.int .i64 1,.string ⟨#[97]⟩,.slice none 0 0,.int .i64 2,.string ⟨#[98]⟩,.slice none 0 0].map .val) (by kernel_rfl) O O O O O O dP<|aT O O (by exact O) (by exact nl2 O O O) dP ?_;refine aM O O O O O O dP ?_;refine aB<|aI ?_)
  refine cA (σ':=⟨[(0,Lp 0)],[(3,some ⟨69,(rowsZ sc17.cs [.slice none 0 0,.slice none 0 0]++[]).map .val,false⟩),(0,some ⟨24,[.val (.int .i64 1),.slc 3 0 2 3],false⟩)],joinM X (fun _=>none)⟩) (by rw [joinM_nil];exact Le.of (by exact ⟨rfl,trivial⟩) (by exact ⟨rfl,rfl,trivial⟩) (by exact rfl) (by exact rfl) (by repeat' (first|refine bR ?_ ?_|rfl|exact bT|exact bS|exact bU rfl))) ?_
  have G:Twigs (fun _=>none) 79 3 [] [.slice none 0 0,.slice none 0 0] (sc17.cs.map fun c=>flV c.fs):=((Twigs.nil _ _ _ _).pushZ none 0).pushZ none 0
  refine sc_shut (OwnedM.nil C X) G inb17 (bZ ?_)
  exact ⟨[(1000001,3)],⟨[_],⟨⟨_,_,rfl,rfl,rfl,.inl ⟨AggT.h,rfl⟩⟩,trivial⟩,rfl⟩,(by repeat' (first|exact trivial|refine cO ⟨_,rfl,?_⟩ ?_|refine cO ⟨_,rfl⟩ ?_|rfl|exact bV _ _ _ _|exact bW _ _ _ _|exact bX rfl)),rfl,rfl⟩
theorem new17_lent:MSpec Tryz.prog X 6 [.sv (.agg [.val (.int .i64 1),.slc 1000000 0 2 3]),Ln .i64 4,Ln .i64 9] [scB 1000000 sc17.cs] (Lp 1000001) ([scB 1000000 sc17.cs]++[gB 1000001 g17a]):=by
  refine MSpec.lend (by kernel_rfl) O (by exact (by repeat' (first|refine bR ?_ ?_|rfl|exact bT|exact bS|exact bU O))) (by exact (by repeat' (first|refine bR ?_ ?_|rfl|exact bT|exact bS|exact bU O))) O O fun Y us hY hL => ?_
  obtain ⟨u1,us1,rfl,⟨av,rfl,a1,av1,rfl,g1,a2,av2,rfl,g2,rfl⟩,u2,us2,rfl,h2,u3,us3,rfl,h3,rfl⟩:=hL
  have g1:a1 = .int .i64 1:=g1
  have h2:u2 = .int .i64 4:=h2
  have h3:u3 = .int .i64 9:=h3
  subst g1 h2 h3
  obtain ⟨blk,cap,rfl,hin⟩:=lent_sc17 (S:=stOf [scB 1000000 sc17.cs]) (k:=1000000) rfl g2
  exact gNew Y sc17 4 9 (some ⟨blk,0,none⟩) cap hin names17 few17 good17
set_option maxHeartbeats 25600000 in
theorem awake17_spec:PSpec Tryz.prog X 4 [] (Lb true):=by
  have h1:=two17_spec X
  have h2:=new17_lent X
  have a1:=gMake X g17a ok17a 0 (by decide)
  have a2:=gStep X g17b ok17b 0 1 true ⟨by decide,by decide⟩ ⟨by decide,by decide⟩
  have a3:=gStep X g17c ok17c 1 2 true ⟨by decide,by decide⟩ ⟨by decide,by decide⟩
  have a4:=gStep X g17d ok17d 2 1 false ⟨by decide,by decide⟩ ⟨by decide,by decide⟩
  have a5:=gStep X g17e ok17e 0 1 false ⟨by decide,by decide⟩ ⟨by decide,by decide⟩
  have a6:=gMake X g17e ok17e 8 (by decide)
  rw [q17a.1,q17a.2,show makeG g17a 0=g17b from rfl] at a1
  rw [q17b.1,q17b.2,show stepG g17b 0 1 true=g17c from rfl] at a2
  rw [q17c.1,q17c.2,show stepG g17c 1 2 true=g17d from rfl] at a3
  rw [q17d.1,q17d.2,show stepG g17d 2 1 false=g17e from rfl] at a4
  rw [q17e.1,q17e.2,same17.1] at a5
  rw [q17f.1,q17f.2,same17.2] at a6
  have hk:=ok17e
  have k1:=q17g
  have k2:=q17h
  have k3:=q17i
  have k4:g17e.archs=4:=by decide +kernel
  generalize g17a=ga at *
  generalize g17b=gb at *
  generalize g17c=gc at *
  generalize g17d=gd at *
  generalize g17e=ge at *
  refine cD Tryz.func4 rfl (by kernel_rfl) rfl rfl ?_
  intro C
  (refine aA<|rgN<|kas O<|aB<|aA<|rgN<|bE [(1000001,701)] (.sv (.agg [.val (.int .i64 1),.slc 701 0 2 3])) [scB 701 sc17.cs] (h1) O O (by exact trivial) O O O O O (by exact (.box O O .nil)) dP<|bE [(1000000,701),(1000001,500)] (Lp 500) [scB 701 sc17.cs,gB 500 ga] (h2) O O (by exact (cO ⟨_,O,O⟩ trivial)) (by exact (bR O O)) O O O O (by exact (.box O O (.box O O .nil))) dP<|kas O<|aB<|aA<|rgN<|kmv O<|aU [(1000000,500)] [gB 500 gb] (a1) O O (by exact (cO ⟨_,O,O⟩ trivial)) (by exact (bR O O)) O O O O (by exact (.box O O .nil)) dP ?_;refine kmv O<|kex O O<|kex O O<|kas O<|kas O<|aB<|aA<|rgN<|kmv O<|aU [(1000000,500)] [gB 500 gc] (a2) O O (by exact (cO ⟨_,O,O⟩ trivial)) (by exact (bR O O)) O O O O (by exact (.box O O .nil)) dP<|kmv O<|kex O O<|kex O O<|kas O ?_;refine kas O<|aB<|aA<|rgN<|kmv O<|aU [(1000000,500)] [gB 500 gd] (a3) O O (by exact (cO ⟨_,O,O⟩ trivial)) (by exact (bR O O)) O O O O (by exact (.box O O .nil)) dP<|kmv O<|kex O O<|kex O O<|kas O<|kas O<|aB<|aA<|rgN ?_;refine kmv O<|aU [(1000000,500)] [gB 500 ge] (a4) O O (by exact (cO ⟨_,O,O⟩ trivial)) (by exact (bR O O)) O O O O (by exact (.box O O .nil)) dP<|kmv O<|kex O O<|kex O O<|kas O<|kas O<|aB<|aA<|rgN<|kmv O<|aU [(1000000,500)] [gB 500 ge] (a5) O O (by exact (cO ⟨_,O,O⟩ trivial)) (by exact (bR O O)) O O O O (by exact (.box O O .nil)) dP<|kmv O<|kex O O ?_;refine kex O O<|kas O<|kas O<|aB<|aA<|rgN<|kmv O<|aU [(1000000,500)] [gB 500 ge] (a6) O O (by exact (cO ⟨_,O,O⟩ trivial)) (by exact (bR O O)) O O O O (by exact (.box O O .nil)) dP<|kmv O<|kex O O<|kex O O<|kas O<|kas O<|aB ?_;refine aA ?_)
  refine LWP.le (σ':=⟨[(1,Lp 500),(2,Ln .i64 0),(3,Ln .i64 0),(4,Ln .i64 1),(5,Ln .i64 0),(6,Ln .i64 2),(7,Ln .i64 0),(8,Ln .i64 3),(9,Ln .i64 0),(11,Ln .i64 7),(13,Ln .i64 6)],[gB 500 ge],X⟩) (Le.of (by exact ⟨O,O,O,O,O,O,O,O,O,O,O,trivial⟩) (by exact ⟨O,trivial⟩) (by exact O) (by exact O) (by exact O)) ?_
  refine g_open fun H vals hO hI0 => ?_
  have hI:=g_in hO hI0
  have b1:=gFind (joinM X H) hI hk 6 (by decide)
  have b2:=grLen (joinM X H) hI hk
  have b3:=gRoom (joinM X H) hI hk
  have b4:=gWays (joinM X H) hI hk
  have b5:=gKnows (joinM X H) hI hk 3 1 true ⟨by decide,by decide⟩ ⟨by decide,by decide⟩
  have b6:=gTable_no (joinM X H) hI hk 4 (by unfold rowG;rw [k2.1];decide)
  obtain ⟨tb,hT,b7⟩:=gTable (joinM X H) hI hk 2 6 k3
  have b8:=tSigX (joinM X H) tb _ hT
  rw [k1] at b1
  rw [k2.1] at b2 b3
  rw [k4] at b3
  rw [k2.2.1] at b4
  rw [k2.2.2] at b5
  ((refine rgN<|kmv O<|aU [(1000000,500)] [gO 500 vals] (b1) O O (by exact (cO ⟨_,O,(bW _ _ _ _)⟩ trivial)) (by exact (bR bS O)) O O O O (by exact (.box O (bW _ _ _ _) .nil)) dP<|kmv O<|kex O O<|kex O O<|kas O<|kas O<|aB<|aA<|rgN<|kmv O<|keq O O (r:=true) O<|kmv O ?_;refine gmv O O O<|bC O O (r:=true) O (dQ O O) ?_;refine kpt O O<|kmv O<|gmv O O O<|bC O O (r:=true) O (dQ O O) ?_;refine kpt O O<|kmv O<|gmv O O O<|bC O O (r:=true) O (dQ O O) ?_;refine kpt O O<|kmv O<|gmv O O O<|bC O O (r:=true) O (dQ O O) ?_;refine kpt O O<|kmv O<|gmv O O O<|bC O O (r:=true) O (dQ O O) ?_;refine kpt O O<|kmv O<|gmv O O O<|bC O O (r:=true) O (dQ O O) ?_;refine kpt O O<|kmv O<|gmv O O O<|bC O O (r:=true) O (dQ O O) ?_;refine kpt O O<|kmv O<|gmv O O O<|bC O O (r:=true) O (dQ O O) ?_;refine kpt O O<|kmv O<|gmv O O O<|bC O O (r:=true) O (dQ O O) ?_;refine kpt O O<|kmv O<|gmv O O O<|kpt O O<|kmv O<|gmv O O O<|bC O O (r:=true) O (dQ O O) ?_;refine kpt O O<|kmv O<|gmv O O O<|aU [(1000000,500)] [gO 500 vals] (b2) O O (by exact (cO ⟨_,O,(bW _ _ _ _)⟩ trivial)) (by exact (bR bS O)) O O O O (by exact (.box O (bW _ _ _ _) .nil)) (dQ O O) ?_);(refine bC O O (r:=true) O (dQ O O) ?_;refine kpt O O<|kmv O<|gmv O O O<|aU [(1000000,500)] [gO 500 vals] (b3) O O (by exact (cO ⟨_,O,(bW _ _ _ _)⟩ trivial)) (by exact (bR bS O)) O O O O (by exact (.box O (bW _ _ _ _) .nil)) (dQ O O) ?_;refine bC O O (r:=true) O (dQ O O) ?_;refine kpt O O<|kmv O<|gmv O O O<|aU [(1000000,500)] [gO 500 vals] (b4) O O (by exact (cO ⟨_,O,(bW _ _ _ _)⟩ trivial)) (by exact (bR bS O)) O O O O (by exact (.box O (bW _ _ _ _) .nil)) (dQ O O) ?_;refine bC O O (r:=true) O (dQ O O) ?_;refine kpt O O<|kmv O<|gmv O O O<|aU [(1000000,500)] [gO 500 vals] (b5) O O (by exact (cO ⟨_,O,(bW _ _ _ _)⟩ trivial)) (by exact (bR bS O)) O O O O (by exact (.box O (bW _ _ _ _) .nil)) (dQ O O) ?_;refine kpt O O<|kmv O<|gmv O O O<|aU [(1000000,500)] [gO 500 vals] (b6) O O (by exact (cO ⟨_,O,(bW _ _ _ _)⟩ trivial)) (by exact (bR bS O)) O O O O (by exact (.box O (bW _ _ _ _) .nil)) (dQ O O) ?_;refine K.nilNil O (by kernel_rfl) (.inl ⟨O,O⟩) (dQ O O) ?_;refine kpt O O<|kmv O<|gmv O O O<|aU [(1000000,500)] [gO 500 vals] (b7) O O (by exact (cO ⟨_,O,(bW _ _ _ _)⟩ trivial)) (by exact (bR bS O)) O O O O (by exact (.box O (bW _ _ _ _) .nil)) (dQ O O) ?_;refine gca O O b8 O O<|bC O O (r:=true) O (dQ O O) ?_;refine kpt O O<|kas O<|aB<|aI ?_))
  exact ⟨[_],⟨O,trivial⟩,O⟩
end Go.Proofs.YtjifibloagkeeaaGreat
end
section
namespace Go.Proofs.YtjifibloagkeeaaGreat
open Go Go.Lg Go.Lg.Fld Go.Lg.Sg Go.Lg.Arith
set_option maxRecDepth 100000
structure Ag where
  kind:Int
  set:Nat
  i:Int
  c:Int
  a:Bool
def Ag.vals (x:Ag):List Value:=[.int .i64 x.kind,.int .u32 (x.set:Nat),.int .i64 x.i,.int .i64 x.c,.bool x.a]
structure AgsIn (X:Nat→Option Obj) (ad:Option Addr) (l:List Ag):Prop where
  rows:Go.Lg.RowsIn X ad 5 (l.map Ag.vals)
  small:∀ x∈l,(-9223372036854775808≤x.kind∧x.kind<9223372036854775808)∧x.set<4294967296∧(-9223372036854775808≤x.i∧x.i<9223372036854775808)∧(-9223372036854775808≤x.c∧x.c<9223372036854775808)
theorem AgsIn.mono {X Y:Nat→Option Obj} {ad:Option Addr} {l:List Ag} (h:AgsIn X ad l) (hXY:∀ b o,X b=some o→Y b=some o):AgsIn Y ad l:=⟨h.rows.mono hXY,h.small⟩
theorem AgsIn.at {X:Nat→Option Obj} {ad:Option Addr} {l:List Ag} (h:AgsIn X ad l) {i:Nat} {x:Ag} (hx:l[i]? = some x):∃ (blk off:Nat) (arr:Array Value) (el:TypeId) (fr:Nat×Nat),ad=some ⟨blk,off,none⟩∧X blk=some (.cells arr el fr)∧off+i*5+5≤arr.size∧((arr.toList.drop (off+i*5)).take 5).map CV.val=[.val (.int .i64 x.kind),.val (.int .u32 (x.set:Nat)),.val (.int .i64 x.i),.val (.int .i64 x.c),.val (.bool x.a)]:=by
  obtain ⟨blk,off,arr,el,fr,h1,h2,h3,h4⟩:=h.rows i x.vals (by rw [dJ,hx];rfl)
  exact ⟨blk,off,arr,el,fr,h1,h2,h3,by rw [h4];rfl⟩
theorem u32_at {X:Nat→Option Obj} {ad:Option Addr} {l:List Nat} (h:U32In X ad l) {i s:Nat} (hs:l[i]? = some s):∃ (blk off:Nat) (arr:Array Value) (el:TypeId) (fr:Nat×Nat),ad=some ⟨blk,off,none⟩∧X blk=some (.cells arr el fr)∧arr[off+i*1]? = some (.int .u32 (s:Nat)):=by
  obtain ⟨blk,off,arr,el,fr,h1,h2,h3,h4⟩:=h i [.int .u32 (s:Nat)] (by rw [dJ,hs];rfl)
  refine ⟨blk,off,arr,el,fr,h1,h2,?_⟩
  rw [← Array.getElem?_toList]
  have:=congrArg (fun L:List Value=>L[0]?) h4
  simp only [List.getElem?_take,List.getElem?_drop] at this
  simpa using this
theorem u32_frozen {X:Nat→Option Obj} {blk:Nat} {arr:Array Value} {el:TypeId} {fr:Nat×Nat} {l:List Nat} (h:∃ sp,arr.toList=u32V l++sp):U32In (withBlock X blk (.cells arr el fr)) (some ⟨blk,0,none⟩) l:=by
  obtain ⟨sp,h⟩:=h
  refine rows_in (cK _ _ _) (fun r hr=>by obtain ⟨x,_,rfl⟩:=List.mem_map.1 hr;rfl) ⟨sp,?_⟩
  rw [h]
  congr 1
  clear h
  unfold u32V
  induction l with
  | nil=>rfl
  | cons x t ih=>rw [List.map_cons,List.map_cons,List.flatten_cons,← ih];rfl
variable (X:Nat→Option Obj)
set_option maxHeartbeats 3200000 in
theorem great17_spec (ver:Int) (ad:Option Addr) (cap:Nat) (cs:List Cp) (hin:CompsIn X ad cs) (r:Bool) (hr:greatB16 cs=r):PSpec Tryz.prog X 5 [Sx ver ad cs.length cap] (Lb r):=by
  subst hr
  refine cD Tryz.func5 rfl (by kernel_rfl) rfl rfl ?_
  intro C
  by_cases hn:30<cs.length
  · rw [show greatB16 cs=true by unfold greatB16;rw [cN hn];rfl]
    (refine aA<|rgN<|aL O O O dP<|kas O<|aB<|aA<|aA<|rgN<|kfa O O ?_;refine kl1 O O O<|aQ O bY O dP ?_;refine aS O O (cN (by omega)) dP<|aB<|aE O ?_;refine aA<|rgN<|kas O<|aB<|aI ?_)
    exact ⟨[_],⟨O,trivial⟩,O⟩
  (refine aA<|rgN<|aL O O O dP<|kas O<|aB<|aA<|aA<|rgN<|kfa O O ?_;refine kl1 O O O<|aQ O bY O dP ?_;refine aS O O (cL (by omega)) dP<|aB<|aF O ?_;refine aH ?_;refine aA<|aA<|rgN<|kas O<|aB<|aG ?_)
  refine cH (fun m σ=>∃ i:Nat,i≤cs.length∧m=cs.length-i∧(∀ (j:Nat) (y:Cp),j<i→cs[j]? = some y→decide (12<y.fs.length)=false)∧σ=⟨[(1,Lp 1),(3,Ln .i64 (i:Nat))],[sxB 1 ver ad cs.length cap],X⟩) cs.length
    ⟨_,Le.of (by exact ⟨rfl,rfl,trivial⟩) (by exact ⟨rfl,trivial⟩) (by exact rfl) (by exact rfl) (by repeat' (first|refine bR ?_ ?_|rfl|exact bT|exact bS|exact bU rfl)),0,by omega,by omega,fun j y hj=>absurd hj (by omega),rfl⟩ ?_
  rintro m σ ⟨i,hi,rfl,hpre,rfl⟩
  by_cases hlt:i<cs.length
  · obtain ⟨c,hc⟩:∃ c,cs[i]? = some c:=⟨_,cW hlt⟩
    obtain ⟨blk,off,arr,el,fr,fad,fcap,rfl,hX,hsz,hcs,g1,g2,g3,hF⟩:=hin.get hc
    have hio:off+Int.toNat (i:Int)*3=off+i*3:=by simp
    by_cases h1:12<c.fs.length
    · rw [show greatB16 cs=true by unfold greatB16;rw [any_at hc (by exact cN h1),Bool.or_true]]
      (refine aA<|aA<|rgN<|kmv O<|kfa O O ?_;refine kl1 O O O<|aQ O bY O dP ?_;refine klt O O (cN (by omega))<|aB<|aE O ?_;refine aH ?_;refine aA<|aG<|aA<|rgN<|kfa O O ?_;refine kl1 O O O<|kmv O<|aR O O bY (by omega) hio dP<|bH O O dP ?_;refine aW O hX O g3 dP<|aQ O bY O dP ?_;refine aS O O (cN (by omega)) dP<|aB<|aE O ?_;refine aA<|rgN<|kas O<|aB<|aI ?_)
      exact ⟨[_],⟨O,trivial⟩,O⟩
    · (refine aA<|aA<|rgN<|kmv O<|kfa O O ?_;refine kl1 O O O<|aQ O bY O dP ?_;refine klt O O (cN (by omega))<|aB<|aE O ?_;refine aH ?_;refine aA<|aG<|aA<|rgN<|kfa O O ?_;refine kl1 O O O<|kmv O<|aR O O bY (by omega) hio dP<|bH O O dP ?_;refine aW O hX O g3 dP<|aQ O bY O dP ?_;refine aS O O (cL (by omega)) dP<|aB<|aF O ?_;refine aH ?_;refine rgN<|kmv O<|kad O O (cF (by omega))<|kas O<|aB ?_)
      exact ⟨_,_,by omega,Le.of (by exact ⟨O,O,trivial⟩) (by exact ⟨O,trivial⟩) (by exact O) (by exact O) (by repeat' (first|refine bR ?_ ?_|rfl|exact bT|exact bS|exact bU O)),i+1,by omega,O,(fun j y hj hy=>by
        by_cases e:j=i
        · subst e
          rw [hc] at hy
          cases hy
          exact cL h1
        · exact hpre j y (by omega) hy),rfl⟩
  · rw [show greatB16 cs=false by unfold greatB16;rw [cL hn,any_no fun j y hy=>hpre j y (by have:=(List.getElem?_eq_some_iff.1 hy).1;omega) hy];rfl]
    (refine aA<|aA<|rgN<|kmv O<|kfa O O ?_;refine kl1 O O O<|aQ O bY O dP ?_;refine klt O O (cL (by omega))<|aB<|aF O ?_;refine aJ<|aA<|rgN<|kas O<|aB<|aI ?_)
    exact ⟨[_],⟨O,trivial⟩,O⟩
end Go.Proofs.YtjifibloagkeeaaGreat
end
section
namespace Go.Proofs.YtjifibloagkeeaaGreat
open Go Go.Lg Go.RowKit Go.ChangeShapes Go.WideShapes Go.Joins
set_option maxRecDepth 100000
section
variable {H:Type} {enc:TypeId×Value→H} {w:World}
theorem five_fields {P:Program} {t:TypeId} {f0 f1 f2 f3 f4:Field} {fuel:Nat} {cs:List Value} {x:DataW H×List MemPlace} (ht:P.underlying t=some (.struct #[f0,f1,f2,f3,f4])) (h:DataW.trod enc P w 0 (fun _=>true) true fuel t cs=some x):
    ∃ n,(∃ y,DataW.trod enc P w 0 (fun _=>true) true n f0.type ((cs.drop f0.offset).take (P.cellsOf f0.type))=some y)∧(∃ y,DataW.trod enc P w 0 (fun _=>true) true n f1.type ((cs.drop f1.offset).take (P.cellsOf f1.type))=some y) ∧
      (∃ y,DataW.trod enc P w 0 (fun _=>true) true n f2.type ((cs.drop f2.offset).take (P.cellsOf f2.type))=some y)∧(∃ y,DataW.trod enc P w 0 (fun _=>true) true n f3.type ((cs.drop f3.offset).take (P.cellsOf f3.type))=some y) ∧
      (∃ y,DataW.trod enc P w 0 (fun _=>true) true n f4.type ((cs.drop f4.offset).take (P.cellsOf f4.type))=some y):=by
  obtain ⟨xs,n,_,rfl,_,hlen,hf⟩:=DataW.trod_struct ht h
  have hg:∀ (i:Nat) (f:Field),(#[f0,f1,f2,f3,f4]:Array Field)[i]? = some f→∃ y,DataW.trod enc P w 0 (fun _=>true) true n f.type ((cs.drop f.offset).take (P.cellsOf f.type))=some y:=fun i f hi=>by
    have h1:i<xs.length:=by
      have:=(Array.getElem?_eq_some_iff.1 hi).1
      simp only [List.size_toArray,dG,dM] at this hlen
      omega
    have h2:=hf i f hi
    rw [cW h1] at h2
    exact ⟨_,h2⟩
  exact ⟨n,hg 0 _ O,hg 1 _ O,hg 2 _ O,hg 3 _ O,hg 4 _ O⟩
theorem open_acts17 {r:Reach} {b0:Nat} {v:Value} {d:DataW H} {p:List MemPlace} (hv:Value.okWide Tryz.prog w r b0 25 v) (h:DataW.Trod enc Tryz.prog w 0 (fun _=>true) true 25 v d p):
    ∃ (ad:Option Addr) (cap:Nat) (ds:List Ag),v = .slice ad ds.length cap∧ds.length≤cap∧cap≤maxLen∧AgsIn (fun b=>w.heap[b]?) ad ds:=by
  obtain ⟨ad,cap,rows,rfl,h1,h2,h3,h4,_⟩:=open_rows (e:=53) (sz:=5) (by kernel_rfl) (by kernel_rfl) (by decide) hv h
  obtain ⟨ds,rfl,h5⟩:=map_of (f:=Ag.vals) (q:=fun x=>(-9223372036854775808≤x.kind∧x.kind<9223372036854775808)∧x.set<4294967296∧(-9223372036854775808≤x.i∧x.i<9223372036854775808)∧(-9223372036854775808≤x.c∧x.c<9223372036854775808)) (vs:=rows) (fun u hu=>by
    obtain ⟨hlen,n,x,hx⟩:=h4 u hu
    obtain ⟨n',⟨y0,g0⟩,⟨y1,g1⟩,⟨y2,g2⟩,⟨y3,g3⟩,⟨y4,g4⟩⟩:=five_fields (t:=53) Tryz.underlying53 hx
    obtain ⟨c0,c1,c2,c3,c4,rfl⟩:∃ c0 c1 c2 c3 c4,u=[c0,c1,c2,c3,c4]:=by
      match u,hlen with
      | [c0,c1,c2,c3,c4],_=>exact ⟨c0,c1,c2,c3,c4,rfl⟩
    obtain ⟨k,e0,_,wa0⟩:=DataW.trod_int (k:=.i64) (by kernel_rfl) g0
    obtain ⟨s,e1,_,wa1⟩:=DataW.trod_int (k:=.u32) (by kernel_rfl) g1
    obtain ⟨i,e2,_,wa2⟩:=DataW.trod_int (k:=.i64) (by kernel_rfl) g2
    obtain ⟨c,e3,_,wa3⟩:=DataW.trod_int (k:=.i64) (by kernel_rfl) g3
    obtain ⟨b,e4,_⟩:=DataW.trod_bool (by kernel_rfl) g4
    have q0:c0 = .int .i64 k:=by simpa using (show ([c0,c1,c2,c3,c4].drop 0).take 1=[.int .i64 k] from e0)
    have q1:c1 = .int .u32 s:=by simpa using (show ([c0,c1,c2,c3,c4].drop 1).take 1=[.int .u32 s] from e1)
    have q2:c2 = .int .i64 i:=by simpa using (show ([c0,c1,c2,c3,c4].drop 2).take 1=[.int .i64 i] from e2)
    have q3:c3 = .int .i64 c:=by simpa using (show ([c0,c1,c2,c3,c4].drop 3).take 1=[.int .i64 c] from e3)
    have q4:c4 = .bool b:=by simpa using (show ([c0,c1,c2,c3,c4].drop 4).take 1=[.bool b] from e4)
    subst q0 q1 q2 q3 q4
    have b0:=bounds_i64 wa0
    have b1:=bounds_u32 wa1
    have b2:=bounds_i64 wa2
    have b3:=bounds_i64 wa3
    obtain ⟨s',rfl⟩:∃ s':Nat,s=(s':Int):=⟨s.toNat,by omega⟩
    exact ⟨⟨k,s',i,c,b⟩,O,by show (-9223372036854775808≤k∧k<9223372036854775808)∧s'<4294967296∧(-9223372036854775808≤i∧i<9223372036854775808)∧(-9223372036854775808≤c∧c<9223372036854775808);omega⟩)
  exact ⟨ad,cap,ds,by rw [cV],by rw [cV] at h1;exact h1,h2,⟨h3,h5⟩⟩
end
end Go.Proofs.YtjifibloagkeeaaGreat
end
section
namespace Go.Proofs.YtjifibloagkeeaaGreat
open Go Go.Lg Go.Lg.Fld Go.Lg.Sg
set_option maxRecDepth 100000
def findZ (l:List Nat) (s:Nat):Int:=match findG l s with|some i=>(i:Nat)|none => -1
theorem findG_first {l:List Nat} {s i:Nat} (h:l[i]? = some s) (hno:∀ (j x:Nat),j<i→l[j]? = some x→x≠s):findG l s=some i:=by
  unfold findG
  obtain ⟨hi,e⟩:=List.getElem?_eq_some_iff.1 h
  refine List.findIdx?_eq_some_iff_getElem.2 ⟨hi,by rw [e];simp,fun j hj => ?_⟩
  have:=hno j _ hj (cW (by omega))
  simpa using this
theorem row_at1 {X:Nat→Option Obj} {ad:Option Addr} {l:List Nat} (h:U32In X ad l) {i s:Nat} (hs:l[i]? = some s):∃ (blk off:Nat) (arr:Array Value) (el:TypeId) (fr:Nat×Nat),ad=some ⟨blk,off,none⟩∧X blk=some (.cells arr el fr)∧arr[off+i*1]? = some (.int .u32 (s:Nat)):=by
  obtain ⟨blk,off,arr,el,fr,h1,h2,h3,h4⟩:=h i [.int .u32 (s:Nat)] (by rw [dJ,hs];rfl)
  refine ⟨blk,off,arr,el,fr,h1,h2,?_⟩
  rw [← Array.getElem?_toList]
  have:=congrArg (fun L:List Value=>L[0]?) h4
  simp only [List.getElem?_take,List.getElem?_drop] at this
  simpa using this
theorem way_at {X:Nat→Option Obj} {ad:Option Addr} {w:List Wy} (h:WysIn X ad w) {i:Nat} {x:Wy} (hx:w[i]? = some x):∃ (blk off:Nat) (arr:Array Value) (el:TypeId) (fr:Nat×Nat),ad=some ⟨blk,off,none⟩∧X blk=some (.cells arr el fr)∧off+i*3+3≤arr.size∧((arr.toList.drop (off+i*3)).take 3).map CV.val=[.val (.int .i64 x.1),.val (.int .i64 x.2.1),.val (.bool x.2.2)]:=by
  obtain ⟨blk,off,arr,el,fr,h1,h2,h3,h4⟩:=h i (wyV x) (by rw [dJ,hx];rfl)
  exact ⟨blk,off,arr,el,fr,h1,h2,h3,by rw [h4];rfl⟩
variable (X:Nat→Option Obj)
set_option maxHeartbeats 3200000 in
theorem kFind (g:Gr) (s:Nat) (ad lad wad:Option Addr) (cap lc wc:Nat) (hL:U32In X lad g.l) (hl:g.l.length<4611686018427387904):
    MSpec Tryz.prog X 22 [Lp 1000000,Ln .u32 (s:Nat)] [rgO 1000000 g ad cap lad lc wad wc] (Ln .i64 (findZ g.l s)) [rgO 1000000 g ad cap lad lc wad wc]:=by
  refine cE Tryz.func22 rfl (by kernel_rfl) rfl rfl (by exact (by repeat' (first|refine bR ?_ ?_|rfl|exact bT|exact bS|exact bU rfl))) rfl rfl ?_
  intro C
  (refine aA<|rgN<|kas O<|aB<|aA<|aA<|rgN<|kas O<|aB<|aG ?_)
  refine LWP.le (σ':=⟨[(0,Lp 1000000),(1,Ln .u32 (s:Nat)),(5,Ln .i64 (0:Nat))],[rgO 1000000 g ad cap lad lc wad wc],X⟩) (Le.of (by exact ⟨O,O,O,trivial⟩) (by exact ⟨O,trivial⟩) (by exact O) (by exact O) (by repeat' (first|refine bR ?_ ?_|rfl|exact bT|exact bS|exact bU O))) ?_
  refine cH (fun z σ=>∃ i:Nat,i≤g.l.length∧z=g.l.length-i∧(∀ (j x:Nat),j<i→g.l[j]? = some x→x≠s)∧σ=⟨[(0,Lp 1000000),(1,Ln .u32 (s:Nat)),(5,Ln .i64 (i:Nat))],[rgO 1000000 g ad cap lad lc wad wc],X⟩) g.l.length
    ⟨_,Le.of (by exact ⟨rfl,rfl,rfl,trivial⟩) (by exact ⟨rfl,trivial⟩) (by exact rfl) (by exact rfl) (by repeat' (first|refine bR ?_ ?_|rfl|exact bT|exact bS|exact bU rfl)),0,by omega,by omega,(fun j x hj=>by omega),rfl⟩ ?_
  rintro z σ ⟨i,hi,rfl,hno,rfl⟩
  by_cases hlt:i<g.l.length
  case neg =>
    have hf:findZ g.l s = -1:=by
      unfold findZ
      rw [findG_none.2 fun hm=>by
        obtain ⟨j,hj⟩:=List.mem_iff_getElem?.1 hm
        exact hno j s (by have:=(List.getElem?_eq_some_iff.1 hj).1;omega) hj rfl]
    rw [hf]
    (refine aA<|aA<|rgN<|kmv O<|kmv O<|bI O dP<|kfa O O ?_;refine kl1 O O O<|aQ O bY O dP ?_;refine klt O O (cL (by omega))<|aB<|aF O ?_;refine aJ<|aA<|rgN<|kas O<|aB<|aI ?_)
    exact ⟨[],⟨[_],⟨rfl,trivial⟩,rfl⟩,(by repeat' (first|exact trivial|refine cO ⟨_,rfl,?_⟩ ?_|refine cO ⟨_,rfl⟩ ?_|rfl|exact bV _ _ _ _|exact bW _ _ _ _|exact bX rfl)),rfl,rfl⟩
  obtain ⟨v,hv⟩:∃ v,g.l[i]? = some v:=⟨_,cW hlt⟩
  obtain ⟨lb,lo,larr,lel,lfr,rfl,hX,hJ⟩:=row_at1 hL hv
  have hlo:lo+Int.toNat ((i:Nat):Int)*1=lo+i*1:=by simp
  have hadd:IntKind.i64.wrap (((i:Nat):Int)+1)=((i+1:Nat):Int):=by rw [cF (by omega)];omega
  by_cases hvs:v=s
  · have hf:findZ g.l s=(i:Nat):=by unfold findZ;rw [findG_first (hvs▸hv) hno]
    rw [hf]
    (refine aA<|aA<|rgN<|kmv O<|kmv O<|bI O dP<|kfa O O ?_;refine kl1 O O O<|aQ O bY O dP ?_;refine klt O O (cN (by omega))<|aB<|aE O ?_;refine aH ?_;refine aA<|aG<|aA<|rgN<|kmv O<|bI O dP<|kfa O O ?_;refine kl1 O O O<|kmv O<|aR O O bY (by omega) hlo dP<|aW O hX O hJ dP<|kmv O<|keq O O (r:=true) (cS (by omega))<|aB<|aE O ?_;refine aA<|rgN<|kmv O<|kas O<|aB<|aI ?_)
    exact ⟨[],⟨[_],⟨rfl,trivial⟩,rfl⟩,(by repeat' (first|exact trivial|refine cO ⟨_,rfl,?_⟩ ?_|refine cO ⟨_,rfl⟩ ?_|rfl|exact bV _ _ _ _|exact bW _ _ _ _|exact bX rfl)),rfl,rfl⟩
  (refine aA<|aA<|rgN<|kmv O<|kmv O<|bI O dP<|kfa O O ?_;refine kl1 O O O<|aQ O bY O dP ?_;refine klt O O (cN (by omega))<|aB<|aE O ?_;refine aH ?_;refine aA<|aG<|aA<|rgN<|kmv O<|bI O dP<|kfa O O ?_;refine kl1 O O O<|kmv O<|aR O O bY (by omega) hlo dP<|aW O hX O hJ dP<|kmv O<|keq O O (r:=false) (cP (by omega))<|aB<|aF O ?_;refine aH ?_;refine rgN<|kmv O<|kad O O hadd<|kas O<|aB ?_)
  exact ⟨g.l.length-(i+1),⟨[(0,Lp 1000000),(1,Ln .u32 (s:Nat)),(5,Ln .i64 (i+1:Nat))],[rgO 1000000 g ad cap (some ⟨lb,lo,none⟩) lc wad wc],X⟩,by omega,Le.of (by exact ⟨O,O,O,trivial⟩) (by exact ⟨O,trivial⟩) (by exact O) (by exact O) (by repeat' (first|refine bR ?_ ?_|rfl|exact bT|exact bS|exact bU O)),i+1,by omega,O,(fun j x hj hx=>by
    rcases Nat.lt_succ_iff_lt_or_eq.1 hj with h|rfl
    · exact hno j x h hx
    · rw [hv] at hx;cases hx;exact hvs),rfl⟩
theorem knows_of {w:List Wy} {x:Wy} {i:Nat} (h:w[i]? = some x):knowsW w x=true:=List.any_eq_true.2 ⟨x,dB h,beq_self_eq_true x⟩
theorem knows_no {w:List Wy} {x:Wy} (h:∀ (j:Nat) (y:Wy),j<w.length→w[j]? = some y→y≠x):knowsW w x=false:=List.any_eq_false.2 fun y hy e=>by
  obtain ⟨j,hj⟩:=List.mem_iff_getElem?.1 hy
  exact h j y (List.getElem?_eq_some_iff.1 hj).1 hj (eq_of_beq e)
theorem wyEq {x y:Wy}:(x.1==y.1&&(x.2.1==y.2.1&&x.2.2==y.2.2))=decide (x=y):=by
  obtain ⟨a,b,c⟩:=x
  obtain ⟨a',b',c'⟩:=y
  simp only [Prod.mk.injEq,Bool.decide_and,Bool.beq_eq_decide_eq]
theorem eqWy {a b a' b':Int} {c c':Bool} (r:Bool) (hr:(a==a'&&(b==b'&&c==c'))=r) (w:World):
    (Op.equalIn 10000 58 (.agg [.int .i64 a,.int .i64 b,.bool c].toArray) (.agg [.int .i64 a',.int .i64 b',.bool c'].toArray)).run Tryz.prog w = .ok r w:=by
  subst hr
  rw [show (10000:Nat)=9999+1 from rfl,run_equalIn_agg w 9999 58 _ _ (by kernel_rfl) (by kernel_rfl)]
  simp only [Program.fieldsOf,Tryz.underlying58]
  go_simp
  cases c<;>cases c'<;>by_cases h1:a=a'<;>by_cases h2:b=b'<;>simp [h1,h2]
abbrev Wx (x:Wy):LV:=.sv (.agg [.val (.int .i64 x.1),.val (.int .i64 x.2.1),.val (.bool x.2.2)])
abbrev wxB (k:Nat) (x:Wy):Nat×Option Box:=(k,some ⟨58,[.val (.int .i64 x.1),.val (.int .i64 x.2.1),.val (.bool x.2.2)],false⟩)
set_option maxHeartbeats 3200000 in
theorem kKnows (g:Gr) (x:Wy) (ad lad wad:Option Addr) (cap lc wc:Nat) (hW:WysIn X wad g.w) (hl:g.w.length<4611686018427387904):
    MSpec Tryz.prog X 23 [Lp 1000000,Wx x] [rgO 1000000 g ad cap lad lc wad wc] (Lb (knowsW g.w x)) [rgO 1000000 g ad cap lad lc wad wc]:=by
  refine cE Tryz.func23 rfl (by kernel_rfl) rfl rfl (by exact (by repeat' (first|refine bR ?_ ?_|rfl|exact bT|exact bS|exact bU rfl))) rfl rfl ?_
  intro C
  (refine aA<|rgN<|aL O O O dP<|kas O<|aB<|aA<|aA<|rgN<|kas O<|aB<|aG ?_)
  refine LWP.le (σ':=⟨[(0,Lp 1000000),(3,Lp 3),(5,Ln .i64 (0:Nat))],[wxB 3 x,rgO 1000000 g ad cap lad lc wad wc],X⟩) (Le.of (by exact ⟨O,O,O,trivial⟩) (by exact ⟨O,O,trivial⟩) (by exact O) (by exact O) (by repeat' (first|refine bR ?_ ?_|rfl|exact bT|exact bS|exact bU O))) ?_
  refine cH (fun z σ=>∃ i:Nat,i≤g.w.length∧z=g.w.length-i∧(∀ (j:Nat) (y:Wy),j<i→g.w[j]? = some y→y≠x)∧σ=⟨[(0,Lp 1000000),(3,Lp 3),(5,Ln .i64 (i:Nat))],[wxB 3 x,rgO 1000000 g ad cap lad lc wad wc],X⟩) g.w.length
    ⟨_,Le.of (by exact ⟨rfl,rfl,rfl,trivial⟩) (by exact ⟨rfl,rfl,trivial⟩) (by exact rfl) (by exact rfl) (by repeat' (first|refine bR ?_ ?_|rfl|exact bT|exact bS|exact bU rfl)),0,by omega,by omega,(fun j y hj=>by omega),rfl⟩ ?_
  rintro z σ ⟨i,hi,rfl,hno,rfl⟩
  by_cases hlt:i<g.w.length
  case neg =>
    rw [knows_no fun j y hj hy=>hno j y (by omega) hy]
    (refine aA<|aA<|rgN<|kmv O<|kmv O<|bI O dP<|kfa O O ?_;refine kl1 O O O<|aQ O bY O dP ?_;refine klt O O (cL (by omega))<|aB<|aF O ?_;refine aJ<|aA<|rgN<|kas O<|aB<|aI ?_)
    exact ⟨[],⟨[_],⟨rfl,trivial⟩,rfl⟩,(by repeat' (first|exact trivial|refine cO ⟨_,rfl,?_⟩ ?_|refine cO ⟨_,rfl⟩ ?_|rfl|exact bV _ _ _ _|exact bW _ _ _ _|exact bX rfl)),rfl,rfl⟩
  obtain ⟨y,hy⟩:∃ y,g.w[i]? = some y:=⟨_,cW hlt⟩
  obtain ⟨wb,wo,warr,wel,wfr,rfl,hX,hsz,hcells⟩:=way_at hW hy
  have hwo:wo+Int.toNat ((i:Nat):Int)*3=wo+i*3:=by simp
  have hadd:IntKind.i64.wrap (((i:Nat):Int)+1)=((i+1:Nat):Int):=by rw [cF (by omega)];omega
  by_cases hyx:y=x
  · rw [knows_of (hyx▸hy)]
    (refine aA<|aA<|rgN<|kmv O<|kmv O<|bI O dP<|kfa O O ?_;refine kl1 O O O<|aQ O bY O dP ?_;refine klt O O (cN (by omega))<|aB<|aE O ?_;refine aH ?_;refine aA<|aG<|aA<|rgD mixed<|kmv O<|bI O dP<|kfa O O ?_;refine kl1 O O O<|kmv O<|aR O O bY (by omega) hwo dP<|aY O hX (by kernel_rfl) hsz hcells dP<|aK O O O dP ?_;refine K.aggEq O O O O (by kernel_rfl) (eqWy true (wyEq.trans (cN hyx))) (.inl ⟨O,O⟩) dP<|aB<|rgA ?_;refine aE O ?_;refine aA<|rgN<|kas O<|aB<|aI ?_)
    exact ⟨[],⟨[_],⟨rfl,trivial⟩,rfl⟩,(by repeat' (first|exact trivial|refine cO ⟨_,rfl,?_⟩ ?_|refine cO ⟨_,rfl⟩ ?_|rfl|exact bV _ _ _ _|exact bW _ _ _ _|exact bX rfl)),rfl,rfl⟩
  (refine aA<|aA<|rgN<|kmv O<|kmv O<|bI O dP<|kfa O O ?_;refine kl1 O O O<|aQ O bY O dP ?_;refine klt O O (cN (by omega))<|aB<|aE O ?_;refine aH ?_;refine aA<|aG<|aA<|rgD mixed<|kmv O<|bI O dP<|kfa O O ?_;refine kl1 O O O<|kmv O<|aR O O bY (by omega) hwo dP<|aY O hX (by kernel_rfl) hsz hcells dP<|aK O O O dP ?_;refine K.aggEq O O O O (by kernel_rfl) (eqWy false (wyEq.trans (cL hyx))) (.inl ⟨O,O⟩) dP<|aB<|rgA ?_;refine aF O ?_;refine aH ?_;refine rgN<|kmv O<|kad O O hadd<|kas O<|aB ?_)
  exact ⟨g.w.length-(i+1),⟨[(0,Lp 1000000),(3,Lp 3),(5,Ln .i64 (i+1:Nat))],[wxB 3 x,rgO 1000000 g ad cap lad lc (some ⟨wb,wo,none⟩) wc],X⟩,by omega,Le.of (by exact ⟨O,O,O,trivial⟩) (by exact ⟨O,O,trivial⟩) (by exact O) (by exact O) (by repeat' (first|refine bR ?_ ?_|rfl|exact bT|exact bS|exact bU O)),i+1,by omega,O,(fun j v hj hv=>by
    rcases Nat.lt_succ_iff_lt_or_eq.1 hj with h|rfl
    · exact hno j v h hv
    · rw [hy] at hv;cases hv;exact hyx),rfl⟩
end Go.Proofs.YtjifibloagkeeaaGreat
end
section
namespace Go.Proofs.YtjifibloagkeeaaGreat
open Go Go.Lg Go.Lg.Fld Go.Lg.Sg
set_option maxRecDepth 100000
theorem u32V_len (l:List Nat):(u32V l).length=l.length*1:=by unfold u32V;rw [cV,Nat.mul_one]
theorem u32V_one (l:List Nat):∀ u∈u32V l,u.oneCell'=true:=fun u hu=>by obtain ⟨x,_,rfl⟩:=List.mem_map.1 hu;rfl
theorem u32V_flat (l:List Nat):(l.map fun n=>[Value.int .u32 (n:Nat)]).flatten=u32V l:=by
  unfold u32V
  induction l with
  | nil=>rfl
  | cons x l ih=>simp only [List.map_cons,List.flatten_cons,ih];rfl
theorem u32_reads {X:Nat→Option Obj} {ad:Option Addr} {l:List Nat} (h:U32In X ad l):ReadsX X ad (u32V l)∧(ad=none→l.length=0):=by
  refine ⟨?_,fun e => ?_⟩
  · rw [← u32V_flat]
    exact reads_rows (by decide) (fun r hr=>by obtain ⟨x,_,rfl⟩:=List.mem_map.1 hr;rfl) h
  · subst e
    have:=rowsIn_none h
    rw [List.map_eq_nil_iff] at this
    rw [this];rfl
theorem u32_leads {H:Nat→Option Obj} {b:Nat} {v:Value} {el:TypeId} {l:List Nat} (h:LeadsTo H b v el 1 (u32V l)):∃ lc,v = .slice (some ⟨b,0,none⟩) l.length lc∧U32In H (some ⟨b,0,none⟩) l:=by
  obtain ⟨len,cap,arr,fr,h1,h2,h3,h4,h5,h6⟩:=h
  rw [u32V_len] at h2
  have e:len=l.length:=by omega
  subst e
  refine ⟨cap,h1,rows_in h5 (fun r hr=>by obtain ⟨x,_,rfl⟩:=List.mem_map.1 hr;rfl) ?_⟩
  rw [u32V_flat];exact h6
theorem withBlock_more {H:Nat→Option Obj} {b:Nat} {o:Obj} (h:H b=none):∀ b' o',H b'=some o'→withBlock H b o b'=some o':=cG h
variable (X:Nat→Option Obj)
set_option maxHeartbeats 6400000 in
theorem kMake (g:Gr) (s:Nat) (ad:Option Addr) (cap:Nat) (hin:CompsIn X ad g.sc.cs) (hcs:g.sc.cs.length≤30) (hk:GrOk g) (hs:s<4294967296):
    MSpec Tryz.prog X 19 [Lp 1000000,Ln .u32 (s:Nat)] [rgB 1000000 ad cap g] (.tup [Sn .i64 (makeN g s:Nat),Sn .i64 (makeE g s)]) [rgB 1000000 ad cap (makeG g s)]:=by
  have hm:=hk.archs
  have hro:=hk.room
  refine cE Tryz.func19 rfl (by kernel_rfl) rfl rfl (by exact (by repeat' (first|refine bR ?_ ?_|rfl|exact bT|exact bS|exact bU rfl))) rfl rfl ?_
  intro C
  refine LWP.ends (rg_open fun H lad lc wad wc hO hL hW => ?_)
  have hF:=kFind (joinM X H) g s ad lad wad cap lc wc (hL.mono joinM_mono) (by omega)
  cases hf:findG g.l s with
  | some i =>
    obtain ⟨m1,m2,m3⟩:=make_some hf
    have hG:makeG g s=g:=by unfold makeG;rw [m2]
    rw [m1,m3,hG]
    rw [show findZ g.l s=(i:Nat) by unfold findZ;rw [hf]] at hF
    (refine aA<|rgN<|kas O<|kas O<|aB<|aA<|aA<|rgN<|kmv O<|kmv O<|aU [] [rgO 1000000 g ad cap lad lc wad wc] (hF) O O (by exact (cO ⟨_,O,O⟩ trivial)) (by exact (bR (bR O (bR O (bR O (bR O (bR O O))))) O)) O O O O (by exact (.box O O .nil)) dP<|kas O<|aB<|aA ?_;refine rgN<|kmv O<|bD O O (cN (by omega)) dP<|aB<|aE O ?_;refine aA<|rgN<|kmv O<|kas O<|kas O<|aB<|aI ?_)
    refine cA (σ':=⟨[(4,Ln .i64 (i:Nat)),(5,Ln .i64 0)],[rgO 1000000 g ad cap lad lc wad wc],joinM X H⟩) (Le.of (by exact ⟨O,O,trivial⟩) (by exact ⟨O,trivial⟩) (by exact O) (by exact O) (by repeat' (first|refine bR ?_ ?_|rfl|exact bT|exact bS|exact bU O))) ?_
    refine rg_shut hO hL hW (bZ ?_)
    exact ⟨[],⟨[_,_],⟨rfl,rfl,trivial⟩,rfl⟩,(by repeat' (first|exact trivial|refine cO ⟨_,rfl,?_⟩ ?_|refine cO ⟨_,rfl⟩ ?_|rfl|exact bV _ _ _ _|exact bW _ _ _ _|exact bX rfl)),rfl,rfl⟩
  | none =>
  rw [show findZ g.l s = -1 by unfold findZ;rw [hf]] at hF
  have hI:=rIs_spec (joinM X H) s hs
  have hD:=rIds_spec (joinM X H) s hs
  have hE:makeE g s=if canG g.sc s=true then (if g.archs≤g.l.length then 5 else 0) else 6:=by unfold makeE;rw [hf];rfl
  have hno:makeE g s≠0→makeN g s=0∧makeG g s=g:=fun he=>⟨(make_no he).2.1,by unfold makeG;rw [(make_no he).1]⟩
  cases hb:isB s with
  | false =>
    rw [hb] at hI
    rw [show canG g.sc s=false by unfold canG;rw [hb];rfl,if_neg (by decide)] at hE
    obtain ⟨n1,n2⟩:=hno (by rw [hE];decide)
    rw [hE,n1,n2]
    (refine aA<|rgN<|kas O<|kas O<|aB<|aA<|aA<|rgN<|kmv O<|kmv O<|aU [] [rgO 1000000 g ad cap lad lc wad wc] (hF) O O (by exact (cO ⟨_,O,O⟩ trivial)) (by exact (bR (bR O (bR O (bR O (bR O (bR O O))))) O)) O O O O (by exact (.box O O .nil)) dP<|kas O<|aB<|aA ?_;refine rgN<|kmv O<|bD O O (cL (by decide)) dP<|aB<|aF O ?_;refine aH ?_;refine aA<|aA<|rgN<|kmv O<|kca O O hI<|aV O O dP<|aB<|aE O ?_;refine aA<|rgN<|kas O<|kas O<|aB<|aI ?_)
    refine cA (σ':=⟨[(4,Ln .i64 0),(5,Ln .i64 6)],[rgO 1000000 g ad cap lad lc wad wc],joinM X H⟩) (Le.of (by exact ⟨O,O,trivial⟩) (by exact ⟨O,trivial⟩) (by exact O) (by exact O) (by repeat' (first|refine bR ?_ ?_|rfl|exact bT|exact bS|exact bU O))) ?_
    refine rg_shut hO hL hW (bZ ?_)
    exact ⟨[],⟨[_,_],⟨rfl,rfl,trivial⟩,rfl⟩,(by repeat' (first|exact trivial|refine cO ⟨_,rfl,?_⟩ ?_|refine cO ⟨_,rfl⟩ ?_|rfl|exact bV _ _ _ _|exact bW _ _ _ _|exact bX rfl)),rfl,rfl⟩
  | true =>
  rw [hb] at hI
  have hcan:canG g.sc s=(idsL s).all (hasC g.sc.cs):=by unfold canG;rw [hb];rfl
  (refine aA<|rgN<|kas O<|kas O<|aB<|aA<|aA<|rgN<|kmv O<|kmv O<|aU [] [rgO 1000000 g ad cap lad lc wad wc] (hF) O O (by exact (cO ⟨_,O,O⟩ trivial)) (by exact (bR (bR O (bR O (bR O (bR O (bR O O))))) O)) O O O O (by exact (.box O O .nil)) dP<|kas O<|aB<|aA ?_;refine rgN<|kmv O<|bD O O (cL (by decide)) dP<|aB<|aF O ?_;refine aH ?_;refine aA<|aA<|rgN<|kmv O<|kca O O hI<|aV O O dP<|aB<|aF O ?_;refine aH ?_;refine aA<|rgN<|kmv O<|bE [(1000001,500)] (.sv (.one (.slc 500 0 (idsL s).length))) [nuB 500 (idsL s)] (hD) O O (by exact trivial) O O O O O (by exact (.box O (bW _ _ _ _) .nil)) dP<|kas O<|aB<|aA<|aA<|rgN<|kas O<|aB<|aG ?_)
  clear hI hD hF
  have hlen:=ids_le s
  refine LWP.le (σ':=⟨[(0,Lp 1000000),(1,Ln .u32 (s:Nat)),(7,.sv (.one (.slc 500 0 (idsL s).length))),(8,Ln .i64 (0:Nat))],[nuB 500 (idsL s),rgO 1000000 g ad cap lad lc wad wc],joinM X H⟩) (Le.of (by exact ⟨O,O,O,O,trivial⟩) (by exact ⟨O,O,trivial⟩) (by exact O) (by exact O) (by repeat' (first|refine bR ?_ ?_|rfl|exact bT|exact bS|exact bU O))) ?_
  refine cH (fun m σ=>∃ i:Nat,i≤(idsL s).length∧m=(idsL s).length-i∧(∀ x∈(idsL s).take i,hasC g.sc.cs x=true)∧σ=⟨[(0,Lp 1000000),(1,Ln .u32 (s:Nat)),(7,.sv (.one (.slc 500 0 (idsL s).length))),(8,Ln .i64 (i:Nat))],[nuB 500 (idsL s),rgO 1000000 g ad cap lad lc wad wc],joinM X H⟩) (idsL s).length
    ⟨_,Le.of (by exact ⟨rfl,rfl,rfl,rfl,trivial⟩) (by exact ⟨rfl,rfl,trivial⟩) (by exact rfl) (by exact rfl) (by repeat' (first|refine bR ?_ ?_|rfl|exact bT|exact bS|exact bU rfl)),0,by omega,by omega,fun x hx=>absurd hx (by simp),rfl⟩ ?_
  rintro m σ ⟨i,hi,rfl,hpre,rfl⟩
  by_cases hlt:i<(idsL s).length
  case neg =>
    have e:i=(idsL s).length:=by omega
    subst e
    rw [hcan,all_take hpre,if_pos rfl] at hE
    by_cases hfull:g.archs≤g.l.length
    · rw [if_pos hfull] at hE
      obtain ⟨n1,n2⟩:=hno (by rw [hE];decide)
      rw [hE,n1,n2]
      (refine aA<|aA<|rgN<|kmv O<|kmv O<|K.lenSlc O bY O dP ?_;refine klt O O (cL (by omega))<|aB<|aF O ?_;refine aJ<|aA<|aA<|rgD mixed<|kmv O<|bI O dP<|kfa O O ?_;refine kl1 O O O<|aQ O bY O dP ?_;refine kmv O<|bI O dP<|kfa O O ?_;refine kl1 O O O<|bD O O (cN (by omega)) dP<|aB<|rgA ?_;refine aE O ?_;refine aA<|rgN<|kas O<|kas O<|aB<|aI ?_)
      refine cA (σ':=⟨[(4,Ln .i64 0),(5,Ln .i64 5)],[rgO 1000000 g ad cap lad lc wad wc],joinM X H⟩) (Le.of (by exact ⟨O,O,trivial⟩) (by exact ⟨O,trivial⟩) (by exact O) (by exact O) (by repeat' (first|refine bR ?_ ?_|rfl|exact bT|exact bS|exact bU O))) ?_
      refine rg_shut hO hL hW (bZ ?_)
      exact ⟨[],⟨[_,_],⟨rfl,rfl,trivial⟩,rfl⟩,(by repeat' (first|exact trivial|refine cO ⟨_,rfl,?_⟩ ?_|refine cO ⟨_,rfl⟩ ?_|rfl|exact bV _ _ _ _|exact bW _ _ _ _|exact bX rfl)),rfl,rfl⟩
    · rw [if_neg hfull] at hE
      obtain ⟨n1,n2⟩:=make_new hf hE
      have hG:makeG g s={ g with l:=g.l++[s] }:=by unfold makeG;rw [n1]
      rw [hE,n2,hG]
      obtain ⟨hRd,h0⟩:=u32_reads (hL.mono (joinM_mono (X:=X)))
      have hzl:=u32V_len g.l
      have hcl:((u32V g.l).map CV.val).length=g.l.length*1:=by rw [cV,hzl]
      have hnl:g.l.length+1=(g.l++[s]).length:=by rw [cU];rfl
      have hsub:IntKind.i64.wrap ((((g.l++[s]).length:Nat):Int)-1)=((g.l.length:Nat):Int):=by rw [cF (by omega)];omega
      (refine aA<|aA<|rgN<|kmv O<|kmv O<|K.lenSlc O bY O dP ?_;refine klt O O (cL (by omega))<|aB<|aF O ?_;refine aJ<|aA<|aA<|rgD mixed<|kmv O<|bI O dP<|kfa O O ?_;refine kl1 O O O<|aQ O bY O dP ?_;refine kmv O<|bI O dP<|kfa O O ?_;refine kl1 O O O<|bD O O (cL (by omega)) dP<|aB<|rgA ?_;refine aF O ?_;refine aH ?_;refine aA<|rgN<|kmv O<|aZ (zs:=[]) (sz:=1) (e:=34) (by kernel_rfl) O O O O O O dP<|kmv O<|bI O dP<|kfa O O ?_;refine kl1 O O O<|K.appendXa (by_:=4) (e2:=34) (news:=u32V g.l) (nl:=g.l.length) (nc:=(u32V g.l).map .val) O O O O hRd h0 hzl (u32V_one g.l) (by kernel_rfl) (by kernel_rfl) (by omega) (by omega) O (by omega) O dP ?_;refine kmv O<|aZ (zs:=[.int .u32 0]) (sz:=1) (e:=34) (cs':=[.val (.int .u32 (s:Nat))]) (by kernel_rfl) O O O O O O dP<|bO (by_:=4) (e2:=34) (l2:=[.val (.int .u32 (s:Nat))]) (nl:=(g.l++[s]).length) (nc:=(u32V (g.l++[s])).map .val) O O hcl O O (dL _) O O (by kernel_rfl) (by kernel_rfl) (by omega) (by omega) O hnl (by unfold u32V;rw [dF,dF];rfl) dP<|bI O dP<|kfa O O ?_;refine bG O O O O O (nl5 O O O O O O) dP<|aB<|aA<|rgN<|kmv O<|bI O dP<|kfa O O ?_;refine kl1 O O O<|K.lenSlc O bY O dP ?_;refine bA O O hsub dP<|kas O<|kas O<|aB<|aI ?_)
      refine cA (σ':=⟨[(4,Ln .i64 (g.l.length:Nat)),(5,Ln .i64 0)],[(1000000,some ⟨51,[.val (.int .i64 g.sc.ver),.val (.slice ad g.sc.cs.length cap),.val (.int .i64 (g.archs:Nat))] ++ .slc 55 0 (g.l++[s]).length 1::[.val (.slice wad g.w.length wc)],false⟩),(55,some ⟨34,(u32V (g.l++[s])).map .val,true⟩)],joinM X H⟩) (Le.ofR [(1000000,1000000),(55,55)] (by exact ⟨rfl,rfl,trivial⟩) (by repeat' (first|exact trivial|refine cO ⟨_,rfl,?_⟩ ?_|refine cO ⟨_,rfl⟩ ?_|rfl|exact bV _ _ _ _|exact bW _ _ _ _|exact bX rfl)) (by exact rfl) (by exact rfl) (by repeat' (first|refine bR ?_ ?_|rfl|exact bT|exact bS|exact bU rfl)) (by exact rfl) (by exact rfl)) ?_
      refine Leads.closeCell hO (u32V_len _) (by repeat' (first|refine bR ?_ ?_|rfl|exact bS)) O O O O O fun b o v h1 _ hO3 hv => ?_
      obtain ⟨lc2,rfl,hL2⟩:=u32_leads hv
      exact rg_shut (g:={ g with l:=g.l++[s] }) hO3 hL2 (hW.mono (withBlock_more h1)) (bZ (by
        exact ⟨[],⟨[_,_],⟨rfl,rfl,trivial⟩,rfl⟩,(by repeat' (first|exact trivial|refine cO ⟨_,rfl,?_⟩ ?_|refine cO ⟨_,rfl⟩ ?_|rfl|exact bV _ _ _ _|exact bW _ _ _ _|exact bX rfl)),rfl,rfl⟩))
  obtain ⟨x,hx⟩:∃ x,(idsL s)[i]? = some x:=⟨_,cW hlt⟩
  have hxr:((nuV (idsL s)).map CV.val)[i]? = some (.val (.int .i64 x)):=by unfold nuV;rw [dJ,dJ,hx];rfl
  have hio:0+Int.toNat (i:Int)*1=i:=by simp
  have hFx:=sFind_spec (joinM X H) g.sc.ver ad cap g.sc.cs x (hin.mono fun b o h=>joinM_has hO h) (by omega)
  have hFl:=findI_lt g.sc.cs x
  have hadd:IntKind.i64.wrap (((i:Nat):Int)+1)=((i+1:Nat):Int):=by rw [cF (by omega)];omega
  cases hb2:hasC g.sc.cs x with
  | false =>
    rw [hb2] at hFl
    rw [hcan,List.all_eq_false.2 ⟨x,dB hx,by rw [hb2];decide⟩,if_neg (by decide)] at hE
    obtain ⟨n1,n2⟩:=hno (by rw [hE];decide)
    rw [hE,n1,n2]
    generalize findI (fun c=>c.id==x) g.sc.cs=f at *
    (refine aA<|aA<|rgN<|kmv O<|kmv O<|K.lenSlc O bY O dP ?_;refine klt O O (cN (by omega))<|aB<|aE O ?_;refine aH ?_;refine aA<|aG<|aA<|rgD mixed<|kmv O<|bI O dP<|kfa O O ?_;refine bJ O O O (by exact nl2 O O O) dP ?_;refine kmv O<|kmv O<|K.indexSlc O O (by omega) hio dP ?_;refine kl1 O O hxr<|kca O O hFx<|klt O O hFl<|aB<|rgA ?_;refine aE O ?_;refine aA<|rgN<|kas O<|kas O<|aB<|aI ?_)
    refine cA (σ':=⟨[(4,Ln .i64 0),(5,Ln .i64 6)],[rgO 1000000 g ad cap lad lc wad wc],joinM X H⟩) (Le.of (by exact ⟨O,O,trivial⟩) (by exact ⟨O,trivial⟩) (by exact O) (by exact O) (by repeat' (first|refine bR ?_ ?_|rfl|exact bT|exact bS|exact bU O))) ?_
    refine rg_shut hO hL hW (bZ ?_)
    exact ⟨[],⟨[_,_],⟨rfl,rfl,trivial⟩,rfl⟩,(by repeat' (first|exact trivial|refine cO ⟨_,rfl,?_⟩ ?_|refine cO ⟨_,rfl⟩ ?_|rfl|exact bV _ _ _ _|exact bW _ _ _ _|exact bX rfl)),rfl,rfl⟩
  | true =>
    rw [hb2] at hFl
    have hpre2:∀ y∈(idsL s).take (i+1),hasC g.sc.cs y=true:=by
      rw [take_snoc hx]
      intro y hy
      rcases List.mem_append.1 hy with hy|hy
      · exact hpre y hy
      · rw [List.mem_singleton.1 hy];exact hb2
    generalize findI (fun c=>c.id==x) g.sc.cs=f at *
    (refine aA<|aA<|rgN<|kmv O<|kmv O<|K.lenSlc O bY O dP ?_;refine klt O O (cN (by omega))<|aB<|aE O ?_;refine aH ?_;refine aA<|aG<|aA<|rgD mixed<|kmv O<|bI O dP<|kfa O O ?_;refine bJ O O O (by exact nl2 O O O) dP ?_;refine kmv O<|kmv O<|K.indexSlc O O (by omega) hio dP ?_;refine kl1 O O hxr<|kca O O hFx<|klt O O hFl<|aB<|rgA ?_;refine aF O ?_;refine aH ?_;refine rgN<|kmv O<|kad O O hadd<|kas O<|aB ?_)
    exact ⟨(idsL s).length-(i+1),⟨[(0,Lp 1000000),(1,Ln .u32 (s:Nat)),(7,.sv (.one (.slc 500 0 (idsL s).length))),(8,Ln .i64 (i+1:Nat))],[nuB 500 (idsL s),rgO 1000000 g ad cap lad lc wad wc],joinM X H⟩,by omega,Le.of (by exact ⟨O,O,O,O,trivial⟩) (by exact ⟨O,O,trivial⟩) (by exact O) (by exact O) (by repeat' (first|refine bR ?_ ?_|rfl|exact bT|exact bS|exact bU O)),i+1,by omega,O,hpre2,O⟩
end Go.Proofs.YtjifibloagkeeaaGreat
end
