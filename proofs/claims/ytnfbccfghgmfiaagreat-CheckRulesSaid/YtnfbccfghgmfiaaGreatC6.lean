/- A piece of a proof over this program: contracts of its functions, and a logic to prove them by. -/
import Derived.Test.YtnfbccfghgmfiaaGreatC3
import Derived.Test.YtnfbccfghgmfiaaGreatC4
import Derived.Test.YtnfbccfghgmfiaaGreatC5
import Derived.Lib.ItoaLen
import Derived.Lib.ItoaNum
import Derived.Lib.Walk
import Derived.Lib.ItoaMem
import Derived.Lib.AppendIntMem
import Derived.WalkKit
import Derived.BigCall
import Derived.BigGuard
import Derived.Lib.Repeat
import Derived.Lib.Join
section
namespace Go.Proofs.YtnfbccfghgmfiaaGreat
open Go Go.Lg Go.Lg.Fml Go.Lg.Fld Go.Lg.Arith
def findE (fs:List Fl) (f:Fl) (x:Ins):Int:=
  if x.op=2∨x.op=3 then (match fs[x.a.toNat]? with
    | none=>3
    | some g=>if (x.op=2∧g.count≤x.b)∨(x.op=3∧g.count<f.count) then 3 else if (g.kind=10)=(f.kind=10) then 0 else 8)
  else 0
def atE {α:Type} (g:α→Int) (l:List α) (i:Nat):Int:=match l[i]? with|some x=>g x|none=>0
theorem atE_at {α:Type} {g:α→Int} {l:List α} {i:Nat} {x:α} (h:l[i]? = some x):atE g l i=g x:=by unfold atE;rw [h]
def seqE {α:Type} (g:α→Int) (l:List α):Int:=firstE (atE g l) 0 l.length
theorem seqE_zero {α:Type} {g:α→Int} {l:List α} (h:seqE g l=0):∀ x∈l,g x=0:=fun x hx=>by
  obtain ⟨i,hi⟩:=List.mem_iff_getElem?.1 hx
  have:=firstE_zero h i (Nat.zero_le _) (by have:=(List.getElem?_eq_some_iff.1 hi).1;omega)
  rw [atE_at hi] at this;exact this
theorem seqE_none {α:Type} {g:α→Int} {l:List α} (h:∀ x∈l,g x=0):seqE g l=0:=firstE_none fun j _ _=>by
  unfold atE
  split
  · rename_i x hx;exact h x (cX hx)
  · rfl
def refE (f:Fl):List Ins→Int
  | [x]=>if f.kind=10∧(x.op=4∨(x.op=1∧x.k≠(false,0))) then 8 else 0
  | _=>if f.kind=10 then 8 else 0
def fmE (fs:List Fl) (f:Fl) (l:List Ins):Int:=if chkX l=0 then (if seqE (findE fs f) l=0 then refE f l else seqE (findE fs f) l) else chkX l
def ruE (fs gs:List Fl) (r:Rl):Int:=if r.old=0 then 0 else if r.ex.length=gs.length then seqE (fun q:Fl×List Ins=>fmE fs q.1 q.2) (gs.zip r.ex) else 4
def findC (cs:List Cp) (id:Int):Option Cp:=cs.find? fun c=>c.id==id
def nwE (a:Sc) (q:Rl×Cp):Int:=if q.1.nw=q.2.id∧(q.1.old=0∨(findC a.cs q.1.old).isSome) then 0 else 6
def flC (a:Sc) (id:Int):List Fl:=match findC a.cs id with|some c=>c.fs|none=>[]
def ruC (a:Sc) (q:Rl×Cp):Int:=ruE (flC a q.1.old) q.2.fs q.1
def ckE (a b:Sc) (p:Pg):Int:=
  if chkE a=0 then (if chkE b=0 then (if chkP p=0 then (if p.va=a.ver∧p.vb=b.ver∧p.va<p.vb then (if p.rs.length=b.cs.length then (if seqE (nwE a) (p.rs.zip b.cs)=0 then seqE (ruC a) (p.rs.zip b.cs) else 6) else 6) else 7) else chkP p) else chkE b) else chkE a
def num0:Ins:=⟨1,0,0,(false,0)⟩
def plainF (fs:List Fl) (f:Fl):Ins:=match fs.findIdx? (fun g=>g.nm==f.nm) with
  | none=>num0
  | some i=>match fs[i]? with
    | none=>num0
    | some g=>if f.count≤g.count∧((g.kind=10)=(f.kind=10)) then ⟨3,i,0,(false,0)⟩ else num0
def plainR (a:Sc) (c:Cp):Rl:=match findC a.cs c.id with
  | none=>⟨c.id,0,[]⟩
  | some o=>⟨c.id,c.id,c.fs.map fun f=>[plainF o.fs f]⟩
def plainP (a b:Sc):Pg:=⟨a.ver,b.ver,b.cs.map (plainR a)⟩
theorem findC_some {cs:List Cp} {id:Int} {c:Cp} (h:findC cs id=some c):c∈cs∧c.id=id:=⟨List.mem_of_find?_eq_some h,by have:=List.find?_some h;simpa using this⟩
theorem findC_at {cs:List Cp} {id:Int} {c:Cp} (h:findC cs id=some c):∃ i,cs[i]? = some c∧c.id=id∧∀ (j:Nat) (y:Cp),j<i→cs[j]? = some y→(y.id==id)=false:=by
  obtain ⟨hp,i,hi,he,hj⟩:=List.find?_eq_some_iff_getElem.1 h
  refine ⟨i,by rw [cS hi,he],by simpa using hp,fun j y hji hy => ?_⟩
  obtain ⟨hj',e⟩:=List.getElem?_eq_some_iff.1 hy
  have:=hj j hji
  rw [e] at this
  simpa using this
theorem findC_no {cs:List Cp} {id:Int} (h:findC cs id=none):∀ (j:Nat) (y:Cp),cs[j]? = some y→(y.id==id)=false:=fun j y hy=>by
  have:=List.find?_eq_none.1 h y (cX hy)
  simpa using this
theorem chkX_one {x:Ins} (h:okI x=true) (h0:takes x.op=0):chkX [x]=0:=by
  unfold chkX
  rw [if_neg (by simp)]
  have:dep okI 0 [x]=some 1:=by
    simp only [dep,h0,h]
    rfl
  rw [this];rfl
theorem plainF_cases (fs:List Fl) (f:Fl):plainF fs f=num0∨∃ (i:Nat) (g:Fl),fs[i]? = some g∧f.count≤g.count∧((g.kind=10)=(f.kind=10))∧plainF fs f=⟨3,i,0,(false,0)⟩:=by
  unfold plainF
  split
  · exact .inl rfl
  · rename_i i hi
    split
    · exact .inl rfl
    · rename_i g hg
      by_cases h:f.count≤g.count∧((g.kind=10)=(f.kind=10))
      · rw [if_pos h];exact .inr ⟨i,g,hg,h.1,h.2,rfl⟩
      · rw [if_neg h];exact .inl rfl
theorem plainF_okI {fs:List Fl} (h8:fs.length≤8) (f:Fl):okI (plainF fs f)=true∧takes (plainF fs f).op=0:=by
  rcases plainF_cases fs f with h|⟨i,g,hi,_,_,h⟩
  · rw [h];exact ⟨by decide +kernel,by decide +kernel⟩
  · rw [h]
    have:=(List.getElem?_eq_some_iff.1 hi).1
    refine ⟨?_,by show takes 3=0;decide⟩
    unfold okI
    simp only [Bool.and_eq_true,decide_eq_true_eq]
    exact ⟨by decide,by decide +kernel,by omega,by omega⟩
theorem plainF_fm {fs:List Fl} (h8:fs.length≤8) (f:Fl):fmE fs f [plainF fs f]=0:=by
  obtain ⟨h1,h2⟩:=plainF_okI h8 f
  unfold fmE
  rw [if_pos (chkX_one h1 h2)]
  have hs:seqE (findE fs f) [plainF fs f]=0:=seqE_none fun x hx=>by
    rw [List.mem_singleton.1 hx]
    rcases plainF_cases fs f with h|⟨i,g,hi,hc,hk,h⟩
    · rw [h];rfl
    · rw [h]
      unfold findE
      rw [if_pos (.inr rfl)]
      simp only [dA,hi]
      rw [if_neg (by omega),if_pos hk]
  rw [if_pos hs]
  show (if f.kind=10∧((plainF fs f).op=4∨((plainF fs f).op=1∧(plainF fs f).k≠(false,0))) then (8:Int) else 0)=0
  rw [if_neg]
  rintro ⟨_,h⟩
  rcases plainF_cases fs f with e|⟨i,g,_,_,_,e⟩
  · rw [e] at h;simp [num0] at h
  · rw [e] at h;simp at h
theorem plain_ex_ok {fs:List Fl} (h8:fs.length≤8) (gs:List Fl):firstX (gs.map fun f=>[plainF fs f])=0:=by
  induction gs with
  | nil=>rfl
  | cons f t ih =>
    obtain ⟨h1,h2⟩:=plainF_okI h8 f
    show (if encErr [plainF fs f]=0 then firstX (t.map fun f=>[plainF fs f]) else encErr [plainF fs f])=0
    have:encErr [plainF fs f]=0:=by
      unfold encErr
      rw [if_pos (chkX_one h1 h2)]
      have:plainI (plainF fs f)=true:=by
        rcases plainF_cases fs f with h|⟨i,g,_,_,_,h⟩
        · rw [h];decide +kernel
        · rw [h];rfl
      simp only [List.all_cons,List.all_nil,this,Bool.and_self,if_true]
    rw [if_pos this];exact ih
theorem chkE_good {s:Sc} (h:chkE s=0):(1≤s.ver∧s.ver≤1073741824)∧Fld.Good s.cs:=by
  unfold chkE at h
  by_cases hv:s.ver<1∨1073741824<s.ver
  · rw [if_pos hv] at h;cases h
  · rw [if_neg hv] at h;exact ⟨by omega,good_of h⟩
theorem _root_.Go.Lg.Fld.Good.len8 {cs:List Cp} (h:Fld.Good cs) {c:Cp} (hc:c∈cs):c.fs.length≤8:=by
  obtain ⟨i,hi⟩:=List.mem_iff_getElem?.1 hc
  exact (layErr_facts (h.one i c hi).2.2.2.2).1
theorem plainR_nw (a:Sc) (c:Cp):(plainR a c).nw=c.id:=by unfold plainR;split<;>rfl
theorem plainR_old {a:Sc} {c:Cp} (h1:1≤c.id):((plainR a c).old=0∧(plainR a c).ex=[])∨∃ o,findC a.cs c.id=some o∧plainR a c=⟨c.id,c.id,c.fs.map fun f=>[plainF o.fs f]⟩:=by
  unfold plainR
  split
  · exact .inl ⟨rfl,rfl⟩
  · rename_i o ho;exact .inr ⟨o,ho,rfl⟩
theorem plainR_chk {a:Sc} (ha:Fld.Good a.cs) {c:Cp} (h1:1≤c.id∧c.id≤24) (h8:c.fs.length≤8) {last:Int} (hl:last<c.id):chkR (plainR a c) last=0:=by
  rcases plainR_old (a:=a) h1.1 with ⟨h0,he⟩|⟨o,ho,h⟩
  · unfold chkR
    rw [h0,he,plainR_nw,if_neg (by omega),if_neg (fun h=>h.2 rfl),if_neg (by simp)]
    rfl
  · rw [h]
    unfold chkR
    simp only
    rw [if_neg (by omega),if_neg (by omega),if_neg (by rw [cR];omega)]
    exact plain_ex_ok (ha.len8 (findC_some ho).1) c.fs
theorem plain_chkRs {a:Sc} (ha:Fld.Good a.cs):∀ {l:List Cp} {last:Int},(∀ c∈l,(1≤c.id∧c.id≤24)∧c.fs.length≤8)→(∀ c∈l,last<c.id)→l.Pairwise (fun c d=>c.id<d.id)→chkRs last (l.map (plainR a))=0
  | [],_,_,_,_=>rfl
  | c::t,last,h,hl,hp=>by
    obtain ⟨p1,p2⟩:=List.pairwise_cons.1 hp
    have hc:=h c (List.mem_cons_self ..)
    show (if chkR (plainR a c) last=0 then chkRs (plainR a c).nw (t.map (plainR a)) else chkR (plainR a c) last)=0
    rw [if_pos (plainR_chk ha hc.1 hc.2 (hl c (List.mem_cons_self ..))),plainR_nw]
    exact plain_chkRs ha (fun d hd=>h d (List.mem_cons_of_mem _ hd)) p1 p2
theorem _root_.Go.Lg.Fld.Good.pair {cs:List Cp} (h:Fld.Good cs):cs.Pairwise (fun c d=>c.id<d.id):=by
  rw [List.pairwise_iff_getElem]
  intro i j hi hj hij
  exact (h.two i j _ _ hij (cS hi) (cS hj)).1
theorem _root_.Go.Lg.Fld.Good.all {cs:List Cp} (h:Fld.Good cs):∀ c∈cs,(1≤c.id∧c.id≤24)∧c.fs.length≤8:=fun c hc=>by
  obtain ⟨i,hi⟩:=List.mem_iff_getElem?.1 hc
  obtain ⟨g1,g2,_⟩:=h.one i c hi
  exact ⟨⟨g1,g2⟩,h.len8 hc⟩
theorem plain_chkP {a b:Sc} (ha:chkE a=0) (hb:chkE b=0) (n:Nat):chkP ⟨a.ver,b.ver,((plainP a b).rs).take n⟩=0:=by
  obtain ⟨va,ga⟩:=chkE_good ha
  obtain ⟨vb,gb⟩:=chkE_good hb
  unfold chkP verOk plainP
  simp only
  rw [if_pos (by simp;omega),← List.map_take]
  exact plain_chkRs ga (fun c hc=>gb.all c (List.take_subset _ _ hc)) (fun c hc=>by have:=(gb.all c (List.take_subset _ _ hc)).1;omega) (gb.pair.sublist (List.take_sublist _ _))
theorem zip_map_mem {α β:Type} {g:α→β}:∀ {l:List α} {q:β×α},q∈(l.map g).zip l→q.2∈l∧q.1=g q.2
  | [],_,h=>by cases h
  | x::t,q,h=>by
    rcases List.mem_cons.1 h with rfl|h
    · exact ⟨List.mem_cons_self ..,rfl⟩
    · obtain ⟨h1,h2⟩:=zip_map_mem h;exact ⟨List.mem_cons_of_mem _ h1,h2⟩
theorem zip_map_mem' {α β:Type} {g:α→β}:∀ {l:List α} {q:α×β},q∈l.zip (l.map g)→q.1∈l∧q.2=g q.1
  | [],_,h=>by cases h
  | x::t,q,h=>by
    rcases List.mem_cons.1 h with rfl|h
    · exact ⟨List.mem_cons_self ..,rfl⟩
    · obtain ⟨h1,h2⟩:=zip_map_mem' h;exact ⟨List.mem_cons_of_mem _ h1,h2⟩
theorem plain_ok {a b:Sc} (ha:chkE a=0) (hb:chkE b=0) (hv:a.ver<b.ver):ckE a b (plainP a b)=0:=by
  have h:=plain_chkP ha hb (plainP a b).rs.length
  rw [cZ] at h
  obtain ⟨_,ga⟩:=chkE_good ha
  obtain ⟨_,gb⟩:=chkE_good hb
  unfold ckE
  rw [if_pos ha,if_pos hb,if_pos (show chkP (plainP a b)=0 from h),if_pos ⟨rfl,rfl,hv⟩,if_pos (show ((plainP a b).rs).length=b.cs.length by unfold plainP;rw [cR])]
  have hn:seqE (nwE a) ((plainP a b).rs.zip b.cs)=0:=seqE_none fun q hq=>by
    obtain ⟨h1,h2⟩:=zip_map_mem hq
    unfold nwE
    rw [if_pos]
    rw [h2]
    refine ⟨plainR_nw a q.2,?_⟩
    rcases plainR_old (a:=a) (gb.all _ h1).1.1 with ⟨h0,_⟩|⟨o,ho,e⟩
    · exact .inl h0
    · exact .inr (by rw [e];rw [ho];rfl)
  rw [if_pos hn]
  refine seqE_none fun q hq => ?_
  obtain ⟨h1,h2⟩:=zip_map_mem hq
  unfold ruC ruE
  rcases plainR_old (a:=a) (gb.all _ h1).1.1 with ⟨h0,_⟩|⟨o,ho,e⟩
  · rw [h2,if_pos h0]
  · rw [h2,e]
    simp only
    rw [if_neg (by have:=(gb.all _ h1).1;omega),if_pos (by rw [cR])]
    refine seqE_none fun u hu => ?_
    obtain ⟨_,h4⟩:=zip_map_mem' hu
    unfold flC
    rw [ho,h4]
    exact plainF_fm (ga.len8 (findC_some ho).1) u.1
end Go.Proofs.YtnfbccfghgmfiaaGreat
end
section
namespace Go.Proofs.YtnfbccfghgmfiaaGreat
open Go Go.Lg Go.Lg.Fml Go.Lg.Fld Go.Lg.Arith
set_option maxRecDepth 100000
theorem InsIn.six {X:Nat→Option Obj} {ad:Option Addr} {l:List Ins} (h:InsIn X ad l) {i:Nat} {x:Ins} (hx:l[i]? = some x):
    ∃ (blk off:Nat) (arr:Array Value) (el:TypeId) (fr:Nat×Nat),ad=some ⟨blk,off,none⟩∧X blk=some (.cells arr el fr)∧off+i*6+6≤arr.size∧((arr.toList.drop (off+i*6)).take 6).map CV.val=(insV x).map CV.val∧arr[off+i*6]? = some (.int .i64 x.op) ∧
      arr[off+i*6+1]? = some (.int .i64 x.a)∧arr[off+i*6+2]? = some (.int .i64 x.b)∧((arr.toList.drop (off+i*6+3)).take 3).map CV.val=[.val (.bool x.k.1),.val (.int .u64 (x.k.2/18446744073709551616)),.val (.int .u64 (x.k.2%18446744073709551616))]:=by
  obtain ⟨blk,off,arr,el,fr,h1,h2,h3,h4⟩:=h.rows i (insV x) (by rw [dG,hx];rfl)
  have key:∀ j,j<6→arr[off+i*6+j]? = (insV x)[j]? := fun j hj=>by
    rw [← h4,List.getElem?_take,if_pos hj,List.getElem?_drop,Array.getElem?_toList]
  refine ⟨blk,off,arr,el,fr,h1,h2,h3,by rw [h4],key 0 (by decide),key 1 (by decide),key 2 (by decide),?_⟩
  have:(arr.toList.drop (off+i*6+3)).take 3=(((arr.toList.drop (off+i*6)).take 6).drop 3).take 3:=by
    rw [List.drop_take,List.take_take,List.drop_drop];rfl
  rw [this,h4];rfl
abbrev flB (k:Nat) (f:Fl):Nat×Option Box:=(k,some ⟨49,f.vals.map .val,false⟩)
theorem _root_.Go.Lg.Fld.FieldsIn.cells {X:Nat→Option Obj} {ad:Option Addr} {fs:List Fl} (h:FieldsIn X ad fs) {i:Nat} {f:Fl} (hf:fs[i]? = some f):
    ∃ (blk off:Nat) (arr:Array Value) (el:TypeId) (fr:Nat×Nat),ad=some ⟨blk,off,none⟩∧X blk=some (.cells arr el fr)∧off+i*3+3≤arr.size∧((arr.toList.drop (off+i*3)).take 3).map CV.val=f.vals.map CV.val ∧
      arr[off+i*3]? = some (.string ⟨f.nm.toArray⟩)∧arr[off+i*3+1]? = some (.int .i64 f.kind)∧arr[off+i*3+2]? = some (.int .i64 f.count):=by
  obtain ⟨blk,off,arr,el,fr,h1,h2,h3,h4⟩:=h.rows i f.vals (by rw [dG,hf];rfl)
  obtain ⟨g1,g2,g3⟩:=three_at h4
  exact ⟨blk,off,arr,el,fr,h1,h2,h3,by rw [h4],g1,g2,g3⟩
section
variable {fs:List Fl} {f:Fl} {x:Ins}
theorem findE_skip (h:¬(x.op=2∨x.op=3)):findE fs f x=0:=if_neg h
theorem findE_out (h:x.op=2∨x.op=3) (ha:fs[x.a.toNat]? = none):findE fs f x=3:=by unfold findE;rw [if_pos h,ha]
theorem findE_at (h:x.op=2∨x.op=3) {g:Fl} (ha:fs[x.a.toNat]? = some g):findE fs f x=if (x.op=2∧g.count≤x.b)∨(x.op=3∧g.count<f.count) then 3 else if (g.kind=10)=(f.kind=10) then 0 else 8:=by unfold findE;rw [if_pos h,ha]
end
theorem beq_dec (a b:Int):(a==b)=decide (a=b):=by by_cases h:a=b<;>simp [h]
variable (X:Nat→Option Obj)
set_option maxHeartbeats 6400000 in
theorem rFormula13 (c:Cp) (f:Fl) (l:List Ins) (cad ad:Option Addr) (ccap cap:Nat) (hF:FieldsIn X cad c.fs) (hin:InsIn X ad l) (hbig:l.length<4611686018427387904) (hfl:c.fs.length<4611686018427387904):
    PSpec Tryz.prog X 12 [Cx c cad ccap,Fx f,Lx ad l.length cap] (Ln .i64 (fmE c.fs f l)):=by
  have hC:=rCheck11 X l ad cap hin hbig
  refine cB Tryz.func12 rfl (by kernel_rfl) rfl rfl ?_
  intro C
  unfold fmE
  by_cases h0:chkX l=0
  case neg =>
    rw [if_neg h0]
    generalize chkX l=e at *
    (refine aA<|rgN<|aL O O O dM<|aL O O O dM<|kas O<|aB<|aA<|aA<|rgN<|kmv O<|kca O O (hC)<|kas O<|aB<|aA ?_;refine rgN<|kmv O<|kne O O (cO h0)<|aB<|aE O ?_;refine aA<|rgN<|kmv O<|kas O<|aB<|aI ?_)
    exact ⟨[_],⟨O,trivial⟩,O⟩
  rw [h0] at hC
  have hchk:=chkX_ok h0
  rw [if_pos h0]
  have hfin:∀ e,seqE (findE c.fs f) l=e→e≠0→(if seqE (findE c.fs f) l=0 then refE f l else seqE (findE c.fs f) l)=e:=fun e h1 h2=>by rw [h1,if_neg h2]
  (refine aA<|rgN<|aL O O O dM<|aL O O O dM<|kas O<|aB<|aA<|aA<|rgN<|kmv O<|kca O O (hC)<|kas O<|aB<|aA ?_;refine rgN<|kmv O<|kne O O (r:=false) O<|aB<|aF O ?_;refine aH ?_;refine aA<|rgN<|kfa O O ?_;refine kl1 O O O<|keq O O (r:=decide (f.kind=10)) (beq_dec f.kind 10)<|kas O<|aB<|aA<|aA<|rgN<|kas O<|aB<|aG ?_)
  refine cF (fun m σ=>∃ i:Nat,i≤l.length∧m=l.length-i∧(∀ j,0≤j→j<i→atE (findE c.fs f) l j=0)∧σ=⟨[(2,Lx ad l.length cap),(3,Lp 3),(4,Lp 4),(8,Lb (decide (f.kind=10))),(9,Ln .i64 (i:Nat))],[flB 4 f,cpB 3 c cad ccap],X⟩) l.length
    ⟨_,Le.of (by exact ⟨rfl,rfl,rfl,rfl,rfl,trivial⟩) (by exact ⟨rfl,rfl,trivial⟩) (by exact rfl) (by exact rfl) (by repeat' (first|refine bR ?_ ?_|rfl|exact bT|exact bS|exact bU rfl)),0,by omega,by omega,fun j _ hj=>absurd hj (by omega),rfl⟩ ?_
  rintro m σ ⟨i,hi,rfl,hpre,rfl⟩
  by_cases hlt:i<l.length
  case neg =>
    have e:i=l.length:=by omega
    subst e
    have hs:seqE (findE c.fs f) l=0:=firstE_none fun j h1 h2=>hpre j h1 (by omega)
    rw [if_pos hs]
    by_cases hk:f.kind=10
    case neg =>
      have hr:refE f l=0:=by
        unfold refE
        split
        · rw [if_neg (fun h=>hk h.1)]
        · rw [if_neg hk]
      rw [hr]
      rw [cJ hk]
      (refine aA<|aA<|rgN<|kmv O<|kmv O<|aQ O bY O dM ?_;refine klt O O (cJ (by omega))<|aB<|aF O ?_;refine aJ<|aA<|aA<|rgN<|kmv O<|kmv O<|aC O O O<|aC O O O<|aC O O O<|aC O O O<|aD O O<|aD O O<|aD O O<|aD O O ?_;refine aD O O<|aC O O O<|aC O O O<|aD O O<|aD O O<|aD O O<|aD O O<|aD O O<|aD O O<|aD O O<|aD O O<|aD O O<|aD O O<|aD O O ?_;refine aD O O<|aD O O<|aC O O O<|kpf O O<|aB<|aF O ?_;refine aH ?_;refine aA<|rgN<|kas O<|aB<|aI ?_)
      exact ⟨[_],⟨O,trivial⟩,O⟩
    rw [cK hk]
    by_cases h1:l.length=1
    case neg =>
      have hr:refE f l=8:=by
        unfold refE
        split
        · exact absurd rfl h1
        · rw [if_pos hk]
      rw [hr]
      (refine aA<|aA<|rgN<|kmv O<|kmv O<|aQ O bY O dM ?_;refine klt O O (cJ (by omega))<|aB<|aF O ?_;refine aJ<|aA<|aA<|rgN<|kmv O<|kmv O<|gmv O O O<|aQ O bY O (dN O O) ?_;refine aX O O (r:=true) (cO (by omega)) (dN O O) ?_;refine gmv O O O<|aC O O O<|aC O O O<|aC O O O<|aC O O O<|aC O O O<|bF O O (dN O O) ?_;refine gmv O O O<|aC O O O<|aC O O O<|aC O O O<|aC O O O<|aC O O O<|aC O O O<|aD O O<|aD O O<|aD O O<|aD O O<|aD O O<|aD O O<|aC O O O ?_;refine bF O O (dN O O) ?_;refine kpt O O<|aB<|aE O ?_;refine aA<|rgN<|kas O<|aB<|aI ?_)
      exact ⟨[_],⟨O,trivial⟩,O⟩
    obtain ⟨x,hx⟩:∃ x,l[0]? = some x:=⟨_,cS (by omega)⟩
    have hl1:l=[x]:=by
      match l,h1,hx with
      | [y],_,hx=>simp only [List.getElem?_cons_zero,Option.some.injEq] at hx;rw [hx]
    obtain ⟨blk,off,arr,el,fr,rfl,hX,hsz,hcs,g0,g1,g2,g3⟩:=hin.six hx
    obtain ⟨_,_,_,hk2⟩:=hin.small x (cX hx)
    have hr:refE f l=if x.op=4∨(x.op=1∧x.k≠(false,0)) then 8 else 0:=by
      rw [hl1]
      show (if f.kind=10∧(x.op=4∨(x.op=1∧x.k≠(false,0))) then (8:Int) else 0)=_
      by_cases hb:x.op=4∨(x.op=1∧x.k≠(false,0))
      · rw [if_pos hb,if_pos ⟨hk,hb⟩]
      · rw [if_neg hb,if_neg (fun h=>hb h.2)]
    rw [hr]
    have hsz3:off+0*6+3+3≤arr.size:=by omega
    have h00:off+Int.toNat 0*6=off+0*6:=by simp
    by_cases c4:x.op=4
    · rw [if_pos (.inl c4)]
      (refine aA<|aA<|rgN<|kmv O<|kmv O<|aQ O bY O dM ?_;refine klt O O (cJ (by omega))<|aB<|aF O ?_;refine aJ<|aA<|aA<|rgN<|kmv O<|kmv O<|gmv O O O<|aQ O bY O (dN O O) ?_;refine aX O O (r:=false) (cN (by omega)) (dN O O) ?_;refine gmv O O O<|gmv O O O<|aR O O bY (by omega) h00 (dN O O) ?_;refine bH O O (dN O O) ?_;refine aW O hX O g0 (dN O O) ?_;refine bC O O (r:=true) (cP c4) (dN O O) ?_;refine bN O O (dN O O) ?_;refine gmv O O O<|aC O O O<|aC O O O<|aC O O O<|aC O O O<|aC O O O<|aC O O O<|aD O O<|aD O O<|aD O O<|aD O O<|aD O O<|aD O O<|aC O O O ?_;refine bF O O (dN O O) ?_;refine kpt O O<|aB<|aE O ?_;refine aA<|rgN<|kas O<|aB<|aI ?_)
      exact ⟨[_],⟨O,trivial⟩,O⟩
    by_cases c1:x.op=1
    case neg =>
      rw [if_neg (fun h=>h.elim c4 fun h=>c1 h.1)]
      (refine aA<|aA<|rgN<|kmv O<|kmv O<|aQ O bY O dM ?_;refine klt O O (cJ (by omega))<|aB<|aF O ?_;refine aJ<|aA<|aA<|rgN<|kmv O<|kmv O<|gmv O O O<|aQ O bY O (dN O O) ?_;refine aX O O (r:=false) (cN (by omega)) (dN O O) ?_;refine gmv O O O<|gmv O O O<|aR O O bY (by omega) h00 (dN O O) ?_;refine bH O O (dN O O) ?_;refine aW O hX O g0 (dN O O) ?_;refine bC O O (r:=false) (cM c4) (dN O O) ?_;refine bN O O (dN O O) ?_;refine gmv O O O<|gmv O O O<|aR O O bY (by omega) h00 (dN O O) ?_;refine bH O O (dN O O) ?_;refine aW O hX O g0 (dN O O) ?_;refine bC O O (r:=false) (cM c1) (dN O O) ?_;refine gmv O O O<|aC O O O<|aC O O O<|aC O O O<|aC O O O<|aC O O O<|aC O O O<|bN O O (dN O O) ?_;refine bN O O (dN O O) ?_;refine kpt O O<|aB<|aF O ?_;refine aH ?_;refine aA<|rgN<|kas O<|aB<|aI ?_)
      exact ⟨[_],⟨O,trivial⟩,O⟩
    obtain ⟨op,a,b,kb,kN⟩:=x
    simp only at hk2 g0 g1 g2 g3 hcs c4 c1 ⊢
    have q:=eqI (b:=kb) (b':=false) (h:=kN/18446744073709551616) (h':=0) (l:=kN%18446744073709551616) (l':=0) _ (eqZ hk2)
    by_cases hz:((kb,kN):Nm)=(false,0)
    · rw [if_neg (fun h=>h.elim c4 fun h=>h.2 hz)]
      rw [cK hz] at q
      ((refine aA<|aA<|rgN<|kmv O<|kmv O<|aQ O bY O dM ?_;refine klt O O (cJ (by omega))<|aB<|aF O ?_;refine aJ<|aA<|aA<|rgN<|kmv O<|kmv O<|gmv O O O<|aQ O bY O (dN O O) ?_;refine aX O O (r:=false) (cN (by omega)) (dN O O) ?_;refine gmv O O O<|gmv O O O<|aR O O bY (by omega) h00 (dN O O) ?_;refine bH O O (dN O O) ?_;refine aW O hX O g0 (dN O O) ?_;refine bC O O (r:=false) (cM c4) (dN O O) ?_;refine bN O O (dN O O) ?_;refine gmv O O O<|gmv O O O<|aR O O bY (by omega) h00 (dN O O) ?_;refine bH O O (dN O O) ?_;refine aW O hX O g0 (dN O O) ?_);(refine bC O O (r:=true) (cP c1) (dN O O) ?_;refine gmv O O O<|gmv O O O<|aR O O bY (by omega) h00 (dN O O) ?_;refine bH O O (dN O O) ?_;refine aY O hX (by kernel_rfl) hsz3 g3 (dN O O) ?_;refine aT O O (by exact O) (by exact nl3 O O O O) (dN O O) ?_;refine bP O O O O (by kernel_rfl) q (.inr ⟨O,O⟩) (dN O O) ?_;refine bF O O (dN O O) ?_;refine bN O O (dN O O) ?_;refine kpt O O<|aB<|aF O ?_;refine aH ?_;refine aA<|rgN<|kas O<|aB<|aI ?_))
      exact ⟨[_],⟨O,trivial⟩,O⟩
    · rw [if_pos (.inr ⟨c1,hz⟩)]
      rw [cJ hz] at q
      ((refine aA<|aA<|rgN<|kmv O<|kmv O<|aQ O bY O dM ?_;refine klt O O (cJ (by omega))<|aB<|aF O ?_;refine aJ<|aA<|aA<|rgN<|kmv O<|kmv O<|gmv O O O<|aQ O bY O (dN O O) ?_;refine aX O O (r:=false) (cN (by omega)) (dN O O) ?_;refine gmv O O O<|gmv O O O<|aR O O bY (by omega) h00 (dN O O) ?_;refine bH O O (dN O O) ?_;refine aW O hX O g0 (dN O O) ?_;refine bC O O (r:=false) (cM c4) (dN O O) ?_;refine bN O O (dN O O) ?_;refine gmv O O O<|gmv O O O<|aR O O bY (by omega) h00 (dN O O) ?_;refine bH O O (dN O O) ?_;refine aW O hX O g0 (dN O O) ?_);(refine bC O O (r:=true) (cP c1) (dN O O) ?_;refine gmv O O O<|gmv O O O<|aR O O bY (by omega) h00 (dN O O) ?_;refine bH O O (dN O O) ?_;refine aY O hX (by kernel_rfl) hsz3 g3 (dN O O) ?_;refine aT O O (by exact O) (by exact nl3 O O O O) (dN O O) ?_;refine bP O O O O (by kernel_rfl) q (.inr ⟨O,O⟩) (dN O O) ?_;refine bF O O (dN O O) ?_;refine bN O O (dN O O) ?_;refine kpt O O<|aB<|aE O ?_;refine aA<|rgN<|kas O<|aB<|aI ?_))
      exact ⟨[_],⟨O,trivial⟩,O⟩
  obtain ⟨x,hx⟩:∃ x,l[i]? = some x:=⟨_,cS hlt⟩
  obtain ⟨blk,off,arr,el,fr,rfl,hX,hsz,hcs,_⟩:=hin.at hx
  have hio:off+Int.toNat (i:Int)*6=off+i*6:=by simp
  obtain ⟨_,_,⟨ha0,_⟩,_⟩:=okI_facts (hchk x (cX hx))
  have hadd:IntKind.i64.wrap ((i:Int)+1)=((i+1:Nat):Int):=by rw [cD (by omega)];omega
  have fin:∀ e,findE c.fs f x=e→e≠0→(if seqE (findE c.fs f) l=0 then refE f l else seqE (findE c.fs f) l)=e:=fun e he h0=>hfin e (firstE_some hpre (Nat.zero_le _) (by omega) (by rw [atE_at hx];exact he) h0) h0
  have next:findE c.fs f x=0→∀ j,0≤j→j<i+1→atE (findE c.fs f) l j=0:=fun he j h0 hj=>by
    by_cases e:j=i
    · rw [e,atE_at hx];exact he
    · exact hpre j h0 (by omega)
  by_cases c23:x.op=2∨x.op=3
  case neg =>
    (refine aA<|aA<|rgN<|kmv O<|kmv O<|aQ O bY O dM ?_;refine klt O O (cK (by omega))<|aB<|aE O ?_;refine aH ?_;refine aA<|aG<|aA<|rgN<|kmv O<|kmv O<|aR O O bY (by omega) hio dM<|aY O hX (by kernel_rfl) hsz hcs dM<|aP O dM ?_;refine aM O O O O O O dM ?_;refine aB<|aA<|aA<|rgN<|kfa O O ?_;refine kl1 O O O<|kne O O (r:=true) (cO (by omega))<|kmv O<|aN O O (dN O O) ?_;refine aO O O O (dN O O) ?_;refine aX O O (r:=true) (cO (by omega)) (dN O O) ?_;refine kpt O O<|aB<|aE O ?_;refine aJ<|rgN<|kmv O<|kad O O hadd<|kas O<|aB ?_)
    exact ⟨_,_,by omega,Le.of (by exact ⟨O,O,O,O,O,trivial⟩) (by exact ⟨O,O,trivial⟩) (by exact O) (by exact O) (by repeat' (first|refine bR ?_ ?_|rfl|exact bT|exact bS|exact bU O)),i+1,by omega,O,next (findE_skip c23),O⟩
  cases hg:c.fs[x.a.toNat]? with
  | none =>
    have hge:=List.getElem?_eq_none_iff.1 hg
    rw [fin 3 (findE_out c23 hg) (by decide)]
    rcases c23 with c2|c3
    · (refine aA<|aA<|rgN<|kmv O<|kmv O<|aQ O bY O dM ?_;refine klt O O (cK (by omega))<|aB<|aE O ?_;refine aH ?_;refine aA<|aG<|aA<|rgN<|kmv O<|kmv O<|aR O O bY (by omega) hio dM<|aY O hX (by kernel_rfl) hsz hcs dM<|aP O dM ?_;refine aM O O O O O O dM ?_;refine aB<|aA<|aA<|rgN<|kfa O O ?_;refine kl1 O O O<|kne O O (r:=false) (cN c2)<|kmv O<|aC O O O<|aC O O O<|aC O O O<|kpf O O<|aB<|aF O ?_;refine aH ?_;refine aA<|aA<|rgN<|kfa O O ?_;refine kl1 O O O<|kfa O O ?_;refine kl1 O O O<|aQ O bY O dM ?_;refine bD O O (cK (by omega)) dM<|aB<|aE O ?_;refine aA<|rgN<|kas O<|aB<|aI ?_)
      exact ⟨[_],⟨O,trivial⟩,O⟩
    · (refine aA<|aA<|rgN<|kmv O<|kmv O<|aQ O bY O dM ?_;refine klt O O (cK (by omega))<|aB<|aE O ?_;refine aH ?_;refine aA<|aG<|aA<|rgN<|kmv O<|kmv O<|aR O O bY (by omega) hio dM<|aY O hX (by kernel_rfl) hsz hcs dM<|aP O dM ?_;refine aM O O O O O O dM ?_;refine aB<|aA<|aA<|rgN<|kfa O O ?_;refine kl1 O O O<|kne O O (r:=true) (cO (by omega))<|kmv O<|aN O O (dN O O) ?_;refine aO O O O (dN O O) ?_;refine aX O O (r:=false) (cN c3) (dN O O) ?_;refine kpt O O<|aB<|aF O ?_;refine aH ?_;refine aA<|aA<|rgN<|kfa O O ?_;refine kl1 O O O<|kfa O O ?_;refine kl1 O O O<|aQ O bY O dM ?_;refine bD O O (cK (by omega)) dM<|aB<|aE O ?_;refine aA<|rgN<|kas O<|aB<|aI ?_)
      exact ⟨[_],⟨O,trivial⟩,O⟩
  | some g =>
  have hlg:=(List.getElem?_eq_some_iff.1 hg).1
  have hE:=findE_at (f:=f) c23 hg
  obtain ⟨fb,fo,farr,fel,ffr,rfl,hFX,hFz,hFc,_⟩:=hF.cells hg
  have hio3:fo+Int.toNat x.a*3=fo+x.a.toNat*3:=rfl
  rcases c23 with c2|c3
  · by_cases hb:g.count≤x.b
    · rw [if_pos (.inl ⟨c2,hb⟩)] at hE
      rw [fin 3 hE (by decide)]
      ((refine aA<|aA<|rgN<|kmv O<|kmv O<|aQ O bY O dM ?_;refine klt O O (cK (by omega))<|aB<|aE O ?_;refine aH ?_;refine aA<|aG<|aA<|rgN<|kmv O<|kmv O<|aR O O bY (by omega) hio dM<|aY O hX (by kernel_rfl) hsz hcs dM<|aP O dM ?_;refine aM O O O O O O dM ?_;refine aB<|aA<|aA<|rgN<|kfa O O ?_;refine kl1 O O O<|kne O O (r:=false) (cN c2)<|kmv O<|aC O O O<|aC O O O<|aC O O O<|kpf O O<|aB<|aF O ?_;refine aH ?_;refine aA<|aA<|rgN<|kfa O O ?_;refine kl1 O O O<|kfa O O ?_;refine kl1 O O O<|aQ O bY O dM ?_;refine bD O O (cJ (by omega)) dM<|aB<|aF O ?_);(refine aH ?_;refine aA<|rgN<|kfa O O ?_;refine kl1 O O O<|kfa O O ?_;refine kl1 O O O<|aR O O bY (by omega) hio3 dM<|aY O hFX (by kernel_rfl) hFz hFc dM<|aP O dM ?_;refine aM O O O O O O dM ?_;refine aB<|aA<|aA<|rgN<|kfa O O ?_;refine kl1 O O O<|keq O O (r:=true) (cP c2)<|kmv O<|aN O O (dN O O) ?_;refine aO O O O (dN O O) ?_;refine aN O O (dN O O) ?_;refine aO O O O (dN O O) ?_;refine bD O O (cK (by omega)) (dN O O) ?_;refine kpt O O<|kmv O<|aC O O O<|aC O O O<|aC O O O<|aC O O O<|aD O O<|aD O O<|aD O O<|aD O O<|aD O O<|aC O O O<|kpt O O<|aB ?_);(refine aE O ?_;refine aA<|rgN<|kas O<|aB<|aI ?_))
      exact ⟨[_],⟨O,trivial⟩,O⟩
    rw [if_neg (by omega)] at hE
    by_cases hk:f.kind=10
    · rw [cK hk]
      by_cases hm:g.kind=10
      · rw [if_pos (by rw [eq_iff_iff];exact ⟨fun _=>hk,fun _=>hm⟩)] at hE
        ((refine aA<|aA<|rgN<|kmv O<|kmv O<|aQ O bY O dM ?_;refine klt O O (cK (by omega))<|aB<|aE O ?_;refine aH ?_;refine aA<|aG<|aA<|rgN<|kmv O<|kmv O<|aR O O bY (by omega) hio dM<|aY O hX (by kernel_rfl) hsz hcs dM<|aP O dM ?_;refine aM O O O O O O dM ?_;refine aB<|aA<|aA<|rgN<|kfa O O ?_;refine kl1 O O O<|kne O O (r:=false) (cN c2)<|kmv O<|aC O O O<|aC O O O<|aC O O O<|kpf O O<|aB<|aF O ?_;refine aH ?_;refine aA<|aA<|rgN<|kfa O O ?_;refine kl1 O O O<|kfa O O ?_;refine kl1 O O O<|aQ O bY O dM ?_;refine bD O O (cJ (by omega)) dM<|aB<|aF O ?_);(refine aH ?_;refine aA<|rgN<|kfa O O ?_;refine kl1 O O O<|kfa O O ?_;refine kl1 O O O<|aR O O bY (by omega) hio3 dM<|aY O hFX (by kernel_rfl) hFz hFc dM<|aP O dM ?_;refine aM O O O O O O dM ?_;refine aB<|aA<|aA<|rgN<|kfa O O ?_;refine kl1 O O O<|keq O O (r:=true) (cP c2)<|kmv O<|aN O O (dN O O) ?_;refine aO O O O (dN O O) ?_;refine aN O O (dN O O) ?_;refine aO O O O (dN O O) ?_;refine bD O O (cJ (by omega)) (dN O O) ?_;refine kpt O O<|kmv O<|aN O O (dN O O) ?_);(refine aO O O O (dN O O) ?_;refine bC O O (r:=false) (cM (by omega)) (dN O O) ?_;refine gmv O O O<|aC O O O<|aC O O O<|aC O O O<|aC O O O<|aC O O O<|bN O O (dN O O) ?_;refine kpf O O<|aB<|aF O ?_;refine aH ?_;refine aA<|rgN<|kmv O<|kmv O<|aN O O (dN O O) ?_;refine aO O O O (dN O O) ?_;refine aX O O (r:=false) (cN hm) (dN O O) ?_;refine kpt O O<|kmv O<|gmv O O O<|aV O O (dN O O) ?_;refine gmv O O O<|aC O O O<|aC O O O<|aC O O O<|bN O O (dN O O) ?_;refine kpf O O<|aB<|aF O ?_;refine aH ?_);(refine rgN<|kmv O<|kad O O hadd<|kas O<|aB ?_))
        exact ⟨_,_,by omega,Le.of (by exact ⟨O,O,O,O,O,trivial⟩) (by exact ⟨O,O,trivial⟩) (by exact O) (by exact O) (by repeat' (first|refine bR ?_ ?_|rfl|exact bT|exact bS|exact bU O)),i+1,by omega,O,next hE,O⟩
      · rw [if_neg (fun h=>hm (h.mpr hk))] at hE
        rw [fin 8 hE (by decide)]
        ((refine aA<|aA<|rgN<|kmv O<|kmv O<|aQ O bY O dM ?_;refine klt O O (cK (by omega))<|aB<|aE O ?_;refine aH ?_;refine aA<|aG<|aA<|rgN<|kmv O<|kmv O<|aR O O bY (by omega) hio dM<|aY O hX (by kernel_rfl) hsz hcs dM<|aP O dM ?_;refine aM O O O O O O dM ?_;refine aB<|aA<|aA<|rgN<|kfa O O ?_;refine kl1 O O O<|kne O O (r:=false) (cN c2)<|kmv O<|aC O O O<|aC O O O<|aC O O O<|kpf O O<|aB<|aF O ?_;refine aH ?_;refine aA<|aA<|rgN<|kfa O O ?_;refine kl1 O O O<|kfa O O ?_;refine kl1 O O O<|aQ O bY O dM ?_;refine bD O O (cJ (by omega)) dM<|aB<|aF O ?_);(refine aH ?_;refine aA<|rgN<|kfa O O ?_;refine kl1 O O O<|kfa O O ?_;refine kl1 O O O<|aR O O bY (by omega) hio3 dM<|aY O hFX (by kernel_rfl) hFz hFc dM<|aP O dM ?_;refine aM O O O O O O dM ?_;refine aB<|aA<|aA<|rgN<|kfa O O ?_;refine kl1 O O O<|keq O O (r:=true) (cP c2)<|kmv O<|aN O O (dN O O) ?_;refine aO O O O (dN O O) ?_;refine aN O O (dN O O) ?_;refine aO O O O (dN O O) ?_;refine bD O O (cJ (by omega)) (dN O O) ?_;refine kpt O O<|kmv O<|aN O O (dN O O) ?_);(refine aO O O O (dN O O) ?_;refine bC O O (r:=false) (cM (by omega)) (dN O O) ?_;refine gmv O O O<|aC O O O<|aC O O O<|aC O O O<|aC O O O<|aC O O O<|bN O O (dN O O) ?_;refine kpf O O<|aB<|aF O ?_;refine aH ?_;refine aA<|rgN<|kmv O<|kmv O<|aN O O (dN O O) ?_;refine aO O O O (dN O O) ?_;refine aX O O (r:=true) (cO hm) (dN O O) ?_;refine kpt O O<|kmv O<|aC O O O<|aC O O O<|aC O O O<|aD O O<|aD O O<|aD O O<|aC O O O<|kpt O O<|aB<|aE O ?_;refine aA<|rgN<|kas O<|aB<|aI ?_))
        exact ⟨[_],⟨O,trivial⟩,O⟩
    · rw [cJ hk]
      by_cases hm:g.kind=10
      · rw [if_neg (fun h=>hk (h.mp hm))] at hE
        rw [fin 8 hE (by decide)]
        ((refine aA<|aA<|rgN<|kmv O<|kmv O<|aQ O bY O dM ?_;refine klt O O (cK (by omega))<|aB<|aE O ?_;refine aH ?_;refine aA<|aG<|aA<|rgN<|kmv O<|kmv O<|aR O O bY (by omega) hio dM<|aY O hX (by kernel_rfl) hsz hcs dM<|aP O dM ?_;refine aM O O O O O O dM ?_;refine aB<|aA<|aA<|rgN<|kfa O O ?_;refine kl1 O O O<|kne O O (r:=false) (cN c2)<|kmv O<|aC O O O<|aC O O O<|aC O O O<|kpf O O<|aB<|aF O ?_;refine aH ?_;refine aA<|aA<|rgN<|kfa O O ?_;refine kl1 O O O<|kfa O O ?_;refine kl1 O O O<|aQ O bY O dM ?_;refine bD O O (cJ (by omega)) dM<|aB<|aF O ?_);(refine aH ?_;refine aA<|rgN<|kfa O O ?_;refine kl1 O O O<|kfa O O ?_;refine kl1 O O O<|aR O O bY (by omega) hio3 dM<|aY O hFX (by kernel_rfl) hFz hFc dM<|aP O dM ?_;refine aM O O O O O O dM ?_;refine aB<|aA<|aA<|rgN<|kfa O O ?_;refine kl1 O O O<|keq O O (r:=true) (cP c2)<|kmv O<|aN O O (dN O O) ?_;refine aO O O O (dN O O) ?_;refine aN O O (dN O O) ?_;refine aO O O O (dN O O) ?_;refine bD O O (cJ (by omega)) (dN O O) ?_;refine kpt O O<|kmv O<|aN O O (dN O O) ?_);(refine aO O O O (dN O O) ?_;refine bC O O (r:=false) (cM (by omega)) (dN O O) ?_;refine gmv O O O<|aC O O O<|aC O O O<|aC O O O<|aC O O O<|aC O O O<|bN O O (dN O O) ?_;refine kpf O O<|aB<|aF O ?_;refine aH ?_;refine aA<|rgN<|kmv O<|kmv O<|aC O O O<|aC O O O<|aC O O O<|kpf O O<|kmv O<|gmv O O O<|aV O O (dN O O) ?_;refine gmv O O O<|aN O O (dN O O) ?_;refine aO O O O (dN O O) ?_;refine bC O O (r:=true) (cP hm) (dN O O) ?_;refine bF O O (dN O O) ?_;refine kpf O O<|aB<|aE O ?_;refine aA<|rgN<|kas O<|aB<|aI ?_))
        exact ⟨[_],⟨O,trivial⟩,O⟩
      · rw [if_pos (by rw [eq_iff_iff];exact ⟨fun h=>absurd h hm,fun h=>absurd h hk⟩)] at hE
        ((refine aA<|aA<|rgN<|kmv O<|kmv O<|aQ O bY O dM ?_;refine klt O O (cK (by omega))<|aB<|aE O ?_;refine aH ?_;refine aA<|aG<|aA<|rgN<|kmv O<|kmv O<|aR O O bY (by omega) hio dM<|aY O hX (by kernel_rfl) hsz hcs dM<|aP O dM ?_;refine aM O O O O O O dM ?_;refine aB<|aA<|aA<|rgN<|kfa O O ?_;refine kl1 O O O<|kne O O (r:=false) (cN c2)<|kmv O<|aC O O O<|aC O O O<|aC O O O<|kpf O O<|aB<|aF O ?_;refine aH ?_;refine aA<|aA<|rgN<|kfa O O ?_;refine kl1 O O O<|kfa O O ?_;refine kl1 O O O<|aQ O bY O dM ?_;refine bD O O (cJ (by omega)) dM<|aB<|aF O ?_);(refine aH ?_;refine aA<|rgN<|kfa O O ?_;refine kl1 O O O<|kfa O O ?_;refine kl1 O O O<|aR O O bY (by omega) hio3 dM<|aY O hFX (by kernel_rfl) hFz hFc dM<|aP O dM ?_;refine aM O O O O O O dM ?_;refine aB<|aA<|aA<|rgN<|kfa O O ?_;refine kl1 O O O<|keq O O (r:=true) (cP c2)<|kmv O<|aN O O (dN O O) ?_;refine aO O O O (dN O O) ?_;refine aN O O (dN O O) ?_;refine aO O O O (dN O O) ?_;refine bD O O (cJ (by omega)) (dN O O) ?_;refine kpt O O<|kmv O<|aN O O (dN O O) ?_);(refine aO O O O (dN O O) ?_;refine bC O O (r:=false) (cM (by omega)) (dN O O) ?_;refine gmv O O O<|aC O O O<|aC O O O<|aC O O O<|aC O O O<|aC O O O<|bN O O (dN O O) ?_;refine kpf O O<|aB<|aF O ?_;refine aH ?_;refine aA<|rgN<|kmv O<|kmv O<|aC O O O<|aC O O O<|aC O O O<|kpf O O<|kmv O<|gmv O O O<|aV O O (dN O O) ?_;refine gmv O O O<|aN O O (dN O O) ?_;refine aO O O O (dN O O) ?_;refine bC O O (r:=false) (cM hm) (dN O O) ?_;refine bF O O (dN O O) ?_;refine kpf O O<|aB<|aF O ?_;refine aH ?_);(refine rgN<|kmv O<|kad O O hadd<|kas O<|aB ?_))
        exact ⟨_,_,by omega,Le.of (by exact ⟨O,O,O,O,O,trivial⟩) (by exact ⟨O,O,trivial⟩) (by exact O) (by exact O) (by repeat' (first|refine bR ?_ ?_|rfl|exact bT|exact bS|exact bU O)),i+1,by omega,O,next hE,O⟩
  · by_cases hb:g.count<f.count
    · rw [if_pos (.inr ⟨c3,hb⟩)] at hE
      rw [fin 3 hE (by decide)]
      ((refine aA<|aA<|rgN<|kmv O<|kmv O<|aQ O bY O dM ?_;refine klt O O (cK (by omega))<|aB<|aE O ?_;refine aH ?_;refine aA<|aG<|aA<|rgN<|kmv O<|kmv O<|aR O O bY (by omega) hio dM<|aY O hX (by kernel_rfl) hsz hcs dM<|aP O dM ?_;refine aM O O O O O O dM ?_;refine aB<|aA<|aA<|rgN<|kfa O O ?_;refine kl1 O O O<|kne O O (r:=true) (cO (by omega))<|kmv O<|aN O O (dN O O) ?_;refine aO O O O (dN O O) ?_;refine aX O O (r:=false) (cN c3) (dN O O) ?_;refine kpt O O<|aB<|aF O ?_;refine aH ?_;refine aA<|aA<|rgN<|kfa O O ?_);(refine kl1 O O O<|kfa O O ?_;refine kl1 O O O<|aQ O bY O dM ?_;refine bD O O (cJ (by omega)) dM<|aB<|aF O ?_;refine aH ?_;refine aA<|rgN<|kfa O O ?_;refine kl1 O O O<|kfa O O ?_;refine kl1 O O O<|aR O O bY (by omega) hio3 dM<|aY O hFX (by kernel_rfl) hFz hFc dM<|aP O dM ?_;refine aM O O O O O O dM ?_;refine aB<|aA<|aA<|rgN<|kfa O O ?_;refine kl1 O O O<|keq O O (r:=false) (cM (by omega))<|kmv O<|aC O O O<|aC O O O<|aC O O O<|aC O O O<|aC O O O<|kpf O O<|kmv O<|aN O O (dN O O) ?_;refine aO O O O (dN O O) ?_;refine bC O O (r:=true) (cP c3) (dN O O) ?_);(refine gmv O O O<|aN O O (dN O O) ?_;refine aO O O O (dN O O) ?_;refine aN O O (dN O O) ?_;refine aO O O O (dN O O) ?_;refine bK O O (cK (by omega)) (dN O O) ?_;refine bF O O (dN O O) ?_;refine kpf O O<|aB<|aE O ?_;refine aA<|rgN<|kas O<|aB<|aI ?_))
      exact ⟨[_],⟨O,trivial⟩,O⟩
    rw [if_neg (by omega)] at hE
    by_cases hk:f.kind=10
    · rw [cK hk]
      by_cases hm:g.kind=10
      · rw [if_pos (by rw [eq_iff_iff];exact ⟨fun _=>hk,fun _=>hm⟩)] at hE
        ((refine aA<|aA<|rgN<|kmv O<|kmv O<|aQ O bY O dM ?_;refine klt O O (cK (by omega))<|aB<|aE O ?_;refine aH ?_;refine aA<|aG<|aA<|rgN<|kmv O<|kmv O<|aR O O bY (by omega) hio dM<|aY O hX (by kernel_rfl) hsz hcs dM<|aP O dM ?_;refine aM O O O O O O dM ?_;refine aB<|aA<|aA<|rgN<|kfa O O ?_;refine kl1 O O O<|kne O O (r:=true) (cO (by omega))<|kmv O<|aN O O (dN O O) ?_;refine aO O O O (dN O O) ?_;refine aX O O (r:=false) (cN c3) (dN O O) ?_;refine kpt O O<|aB<|aF O ?_;refine aH ?_;refine aA<|aA<|rgN<|kfa O O ?_);(refine kl1 O O O<|kfa O O ?_;refine kl1 O O O<|aQ O bY O dM ?_;refine bD O O (cJ (by omega)) dM<|aB<|aF O ?_;refine aH ?_;refine aA<|rgN<|kfa O O ?_;refine kl1 O O O<|kfa O O ?_;refine kl1 O O O<|aR O O bY (by omega) hio3 dM<|aY O hFX (by kernel_rfl) hFz hFc dM<|aP O dM ?_;refine aM O O O O O O dM ?_;refine aB<|aA<|aA<|rgN<|kfa O O ?_;refine kl1 O O O<|keq O O (r:=false) (cM (by omega))<|kmv O<|aC O O O<|aC O O O<|aC O O O<|aC O O O<|aC O O O<|kpf O O<|kmv O<|aN O O (dN O O) ?_;refine aO O O O (dN O O) ?_;refine bC O O (r:=true) (cP c3) (dN O O) ?_);(refine gmv O O O<|aN O O (dN O O) ?_;refine aO O O O (dN O O) ?_;refine aN O O (dN O O) ?_;refine aO O O O (dN O O) ?_;refine bK O O (cJ (by omega)) (dN O O) ?_;refine bF O O (dN O O) ?_;refine kpf O O<|aB<|aF O ?_;refine aH ?_;refine aA<|rgN<|kmv O<|kmv O<|aN O O (dN O O) ?_;refine aO O O O (dN O O) ?_;refine aX O O (r:=false) (cN hm) (dN O O) ?_;refine kpt O O<|kmv O<|gmv O O O<|aV O O (dN O O) ?_);(refine gmv O O O<|aC O O O<|aC O O O<|aC O O O<|bN O O (dN O O) ?_;refine kpf O O<|aB<|aF O ?_;refine aH ?_;refine rgN<|kmv O<|kad O O hadd<|kas O<|aB ?_))
        exact ⟨_,_,by omega,Le.of (by exact ⟨O,O,O,O,O,trivial⟩) (by exact ⟨O,O,trivial⟩) (by exact O) (by exact O) (by repeat' (first|refine bR ?_ ?_|rfl|exact bT|exact bS|exact bU O)),i+1,by omega,O,next hE,O⟩
      · rw [if_neg (fun h=>hm (h.mpr hk))] at hE
        rw [fin 8 hE (by decide)]
        ((refine aA<|aA<|rgN<|kmv O<|kmv O<|aQ O bY O dM ?_;refine klt O O (cK (by omega))<|aB<|aE O ?_;refine aH ?_;refine aA<|aG<|aA<|rgN<|kmv O<|kmv O<|aR O O bY (by omega) hio dM<|aY O hX (by kernel_rfl) hsz hcs dM<|aP O dM ?_;refine aM O O O O O O dM ?_;refine aB<|aA<|aA<|rgN<|kfa O O ?_;refine kl1 O O O<|kne O O (r:=true) (cO (by omega))<|kmv O<|aN O O (dN O O) ?_;refine aO O O O (dN O O) ?_;refine aX O O (r:=false) (cN c3) (dN O O) ?_;refine kpt O O<|aB<|aF O ?_;refine aH ?_;refine aA<|aA<|rgN<|kfa O O ?_);(refine kl1 O O O<|kfa O O ?_;refine kl1 O O O<|aQ O bY O dM ?_;refine bD O O (cJ (by omega)) dM<|aB<|aF O ?_;refine aH ?_;refine aA<|rgN<|kfa O O ?_;refine kl1 O O O<|kfa O O ?_;refine kl1 O O O<|aR O O bY (by omega) hio3 dM<|aY O hFX (by kernel_rfl) hFz hFc dM<|aP O dM ?_;refine aM O O O O O O dM ?_;refine aB<|aA<|aA<|rgN<|kfa O O ?_;refine kl1 O O O<|keq O O (r:=false) (cM (by omega))<|kmv O<|aC O O O<|aC O O O<|aC O O O<|aC O O O<|aC O O O<|kpf O O<|kmv O<|aN O O (dN O O) ?_;refine aO O O O (dN O O) ?_;refine bC O O (r:=true) (cP c3) (dN O O) ?_);(refine gmv O O O<|aN O O (dN O O) ?_;refine aO O O O (dN O O) ?_;refine aN O O (dN O O) ?_;refine aO O O O (dN O O) ?_;refine bK O O (cJ (by omega)) (dN O O) ?_;refine bF O O (dN O O) ?_;refine kpf O O<|aB<|aF O ?_;refine aH ?_;refine aA<|rgN<|kmv O<|kmv O<|aN O O (dN O O) ?_;refine aO O O O (dN O O) ?_;refine aX O O (r:=true) (cO hm) (dN O O) ?_;refine kpt O O<|kmv O<|aC O O O<|aC O O O<|aC O O O<|aD O O<|aD O O<|aD O O<|aC O O O<|kpt O O<|aB<|aE O ?_);(refine aA<|rgN<|kas O<|aB<|aI ?_))
        exact ⟨[_],⟨O,trivial⟩,O⟩
    · rw [cJ hk]
      by_cases hm:g.kind=10
      · rw [if_neg (fun h=>hk (h.mp hm))] at hE
        rw [fin 8 hE (by decide)]
        ((refine aA<|aA<|rgN<|kmv O<|kmv O<|aQ O bY O dM ?_;refine klt O O (cK (by omega))<|aB<|aE O ?_;refine aH ?_;refine aA<|aG<|aA<|rgN<|kmv O<|kmv O<|aR O O bY (by omega) hio dM<|aY O hX (by kernel_rfl) hsz hcs dM<|aP O dM ?_;refine aM O O O O O O dM ?_;refine aB<|aA<|aA<|rgN<|kfa O O ?_;refine kl1 O O O<|kne O O (r:=true) (cO (by omega))<|kmv O<|aN O O (dN O O) ?_;refine aO O O O (dN O O) ?_;refine aX O O (r:=false) (cN c3) (dN O O) ?_;refine kpt O O<|aB<|aF O ?_;refine aH ?_;refine aA<|aA<|rgN<|kfa O O ?_);(refine kl1 O O O<|kfa O O ?_;refine kl1 O O O<|aQ O bY O dM ?_;refine bD O O (cJ (by omega)) dM<|aB<|aF O ?_;refine aH ?_;refine aA<|rgN<|kfa O O ?_;refine kl1 O O O<|kfa O O ?_;refine kl1 O O O<|aR O O bY (by omega) hio3 dM<|aY O hFX (by kernel_rfl) hFz hFc dM<|aP O dM ?_;refine aM O O O O O O dM ?_;refine aB<|aA<|aA<|rgN<|kfa O O ?_;refine kl1 O O O<|keq O O (r:=false) (cM (by omega))<|kmv O<|aC O O O<|aC O O O<|aC O O O<|aC O O O<|aC O O O<|kpf O O<|kmv O<|aN O O (dN O O) ?_;refine aO O O O (dN O O) ?_;refine bC O O (r:=true) (cP c3) (dN O O) ?_);(refine gmv O O O<|aN O O (dN O O) ?_;refine aO O O O (dN O O) ?_;refine aN O O (dN O O) ?_;refine aO O O O (dN O O) ?_;refine bK O O (cJ (by omega)) (dN O O) ?_;refine bF O O (dN O O) ?_;refine kpf O O<|aB<|aF O ?_;refine aH ?_;refine aA<|rgN<|kmv O<|kmv O<|aC O O O<|aC O O O<|aC O O O<|kpf O O<|kmv O<|gmv O O O<|aV O O (dN O O) ?_;refine gmv O O O<|aN O O (dN O O) ?_;refine aO O O O (dN O O) ?_;refine bC O O (r:=true) (cP hm) (dN O O) ?_);(refine bF O O (dN O O) ?_;refine kpf O O<|aB<|aE O ?_;refine aA<|rgN<|kas O<|aB<|aI ?_))
        exact ⟨[_],⟨O,trivial⟩,O⟩
      · rw [if_pos (by rw [eq_iff_iff];exact ⟨fun h=>absurd h hm,fun h=>absurd h hk⟩)] at hE
        ((refine aA<|aA<|rgN<|kmv O<|kmv O<|aQ O bY O dM ?_;refine klt O O (cK (by omega))<|aB<|aE O ?_;refine aH ?_;refine aA<|aG<|aA<|rgN<|kmv O<|kmv O<|aR O O bY (by omega) hio dM<|aY O hX (by kernel_rfl) hsz hcs dM<|aP O dM ?_;refine aM O O O O O O dM ?_;refine aB<|aA<|aA<|rgN<|kfa O O ?_;refine kl1 O O O<|kne O O (r:=true) (cO (by omega))<|kmv O<|aN O O (dN O O) ?_;refine aO O O O (dN O O) ?_;refine aX O O (r:=false) (cN c3) (dN O O) ?_;refine kpt O O<|aB<|aF O ?_;refine aH ?_;refine aA<|aA<|rgN<|kfa O O ?_);(refine kl1 O O O<|kfa O O ?_;refine kl1 O O O<|aQ O bY O dM ?_;refine bD O O (cJ (by omega)) dM<|aB<|aF O ?_;refine aH ?_;refine aA<|rgN<|kfa O O ?_;refine kl1 O O O<|kfa O O ?_;refine kl1 O O O<|aR O O bY (by omega) hio3 dM<|aY O hFX (by kernel_rfl) hFz hFc dM<|aP O dM ?_;refine aM O O O O O O dM ?_;refine aB<|aA<|aA<|rgN<|kfa O O ?_;refine kl1 O O O<|keq O O (r:=false) (cM (by omega))<|kmv O<|aC O O O<|aC O O O<|aC O O O<|aC O O O<|aC O O O<|kpf O O<|kmv O<|aN O O (dN O O) ?_;refine aO O O O (dN O O) ?_;refine bC O O (r:=true) (cP c3) (dN O O) ?_);(refine gmv O O O<|aN O O (dN O O) ?_;refine aO O O O (dN O O) ?_;refine aN O O (dN O O) ?_;refine aO O O O (dN O O) ?_;refine bK O O (cJ (by omega)) (dN O O) ?_;refine bF O O (dN O O) ?_;refine kpf O O<|aB<|aF O ?_;refine aH ?_;refine aA<|rgN<|kmv O<|kmv O<|aC O O O<|aC O O O<|aC O O O<|kpf O O<|kmv O<|gmv O O O<|aV O O (dN O O) ?_;refine gmv O O O<|aN O O (dN O O) ?_;refine aO O O O (dN O O) ?_;refine bC O O (r:=false) (cM hm) (dN O O) ?_);(refine bF O O (dN O O) ?_;refine kpf O O<|aB<|aF O ?_;refine aH ?_;refine rgN<|kmv O<|kad O O hadd<|kas O<|aB ?_))
        exact ⟨_,_,by omega,Le.of (by exact ⟨O,O,O,O,O,trivial⟩) (by exact ⟨O,O,trivial⟩) (by exact O) (by exact O) (by repeat' (first|refine bR ?_ ?_|rfl|exact bT|exact bS|exact bU O)),i+1,by omega,O,next hE,O⟩
theorem ruE_at {fs gs:List Fl} {r:Rl} (h0:r.old≠0) (h:r.ex.length=gs.length):ruE fs gs r=seqE (fun q:Fl×List Ins=>fmE fs q.1 q.2) (gs.zip r.ex):=by unfold ruE;rw [if_neg h0,if_pos h]
theorem zip_two {α β:Type} {l:List α} {m:List β} {i:Nat} {x:α} {y:β} (hx:l[i]? = some x) (hy:m[i]? = some y):(l.zip m)[i]? = some (x,y):=by
  rw [List.getElem?_zip_eq_some];exact ⟨hx,hy⟩
set_option maxHeartbeats 6400000 in
theorem rRule13 (a b:Cp) (r:Rl) (aad bad ead:Option Addr) (acap bcap ecap:Nat) (hA:FieldsIn X aad a.fs) (hB:FieldsIn X bad b.fs) (hE:CodesIn X ead r.ex) (hal:a.fs.length<4611686018427387904) (hbl:b.fs.length<4611686018427387904) (hcl:∀ c∈r.ex,c.length<4611686018427387904):
    PSpec Tryz.prog X 10 [Cx a aad acap,Cx b bad bcap,.sv (.agg [.val (.int .i64 r.nw),.val (.int .i64 r.old),.val (.slice ead r.ex.length ecap)])] (Ln .i64 (ruE a.fs b.fs r)):=by
  refine cB Tryz.func10 rfl (by kernel_rfl) rfl rfl ?_
  intro C
  by_cases h0:r.old=0
  · rw [show ruE a.fs b.fs r=0 from if_pos h0]
    (refine aA<|rgN<|aL O O O dM<|aL O O O dM<|aL O O O dM<|kas O<|aB<|aA<|aA<|rgN<|kfa O O ?_;refine kl1 O O O<|keq O O (r:=true) (cP h0)<|aB<|aE O ?_;refine aA<|rgN<|kas O<|aB<|aI ?_)
    exact ⟨[_],⟨O,trivial⟩,O⟩
  by_cases hl:r.ex.length=b.fs.length
  case neg =>
    rw [show ruE a.fs b.fs r=4 by unfold ruE;rw [if_neg h0,if_neg hl]]
    (refine aA<|rgN<|aL O O O dM<|aL O O O dM<|aL O O O dM<|kas O<|aB<|aA<|aA<|rgN<|kfa O O ?_;refine kl1 O O O<|keq O O (r:=false) (cM h0)<|aB<|aF O ?_;refine aH ?_;refine aA<|aA<|rgN<|kfa O O ?_;refine kl1 O O O<|aQ O bY O dM ?_;refine kfa O O ?_;refine kl1 O O O<|aQ O bY O dM ?_;refine kne O O (r:=true) (cO (by omega))<|aB<|aE O ?_;refine aA<|rgN<|kas O<|aB<|aI ?_)
    exact ⟨[_],⟨O,trivial⟩,O⟩
  rw [ruE_at h0 hl]
  have hzl:(b.fs.zip r.ex).length=b.fs.length:=by rw [List.length_zip];omega
  (refine aA<|rgN<|aL O O O dM<|aL O O O dM<|aL O O O dM<|kas O<|aB<|aA<|aA<|rgN<|kfa O O ?_;refine kl1 O O O<|keq O O (r:=false) (cM h0)<|aB<|aF O ?_;refine aH ?_;refine aA<|aA<|rgN<|kfa O O ?_;refine kl1 O O O<|aQ O bY O dM ?_;refine kfa O O ?_;refine kl1 O O O<|aQ O bY O dM ?_;refine kne O O (r:=false) (cN (by omega))<|aB<|aF O ?_;refine aH ?_;refine aA<|aA<|rgN<|kas O<|aB<|aG ?_)
  refine cF (fun m σ=>∃ i:Nat,i≤b.fs.length∧m=b.fs.length-i∧(∀ j,0≤j→j<i→atE (fun q:Fl×List Ins=>fmE a.fs q.1 q.2) (b.fs.zip r.ex) j=0)∧σ=⟨[(3,Lp 3),(4,Lp 4),(5,Lp 5),(7,Ln .i64 (i:Nat))],[v3B 38 5 r.nw r.old ead r.ex.length ecap,cpB 4 b bad bcap,cpB 3 a aad acap],X⟩) b.fs.length
    ⟨_,Le.of (by exact ⟨rfl,rfl,rfl,rfl,trivial⟩) (by exact ⟨rfl,rfl,rfl,trivial⟩) (by exact rfl) (by exact rfl) (by repeat' (first|refine bR ?_ ?_|rfl|exact bT|exact bS|exact bU rfl)),0,by omega,by omega,fun j _ hj=>absurd hj (by omega),rfl⟩ ?_
  rintro m σ ⟨i,hi,rfl,hpre,rfl⟩
  by_cases hlt:i<b.fs.length
  case neg =>
    rw [show seqE (fun q:Fl×List Ins=>fmE a.fs q.1 q.2) (b.fs.zip r.ex)=0 from firstE_none fun j h1 h2=>hpre j h1 (by omega)]
    (refine aA<|aA<|rgN<|kmv O<|kfa O O ?_;refine kl1 O O O<|aQ O bY O dM ?_;refine klt O O (cJ (by omega))<|aB<|aF O ?_;refine aJ<|aA<|rgN<|kas O<|aB<|aI ?_)
    exact ⟨[_],⟨O,trivial⟩,O⟩
  obtain ⟨f,hf⟩:∃ f,b.fs[i]? = some f:=⟨_,cS hlt⟩
  obtain ⟨c,hc⟩:∃ c,r.ex[i]? = some c:=⟨_,cS (by omega)⟩
  obtain ⟨fb,fo,farr,fel,ffr,rfl,hFX,hFz,hFc,_⟩:=hB.cells hf
  obtain ⟨eb,eo,earr,eel,efr,vad,vcap,rfl,hEX,hec,hI⟩:=hE.get hc
  have hio3:fo+Int.toNat (i:Int)*3=fo+i*3:=by simp
  have hio1:eo+Int.toNat (i:Int)*1=eo+i*1:=by simp
  have hadd:IntKind.i64.wrap ((i:Int)+1)=((i+1:Nat):Int):=by rw [cD (by omega)];omega
  have hq:=rFormula13 X a f c aad vad acap vcap hA hI (hcl c (cX hc)) hal
  have hat:atE (fun q:Fl×List Ins=>fmE a.fs q.1 q.2) (b.fs.zip r.ex) i=fmE a.fs f c:=atE_at (zip_two hf hc)
  by_cases he:fmE a.fs f c=0
  · rw [he] at hq
    (refine aA<|aA<|rgN<|kmv O<|kfa O O ?_;refine kl1 O O O<|aQ O bY O dM ?_;refine klt O O (cK (by omega))<|aB<|aE O ?_;refine aH ?_;refine aA<|aG<|aA<|rgD mixed<|aK O O O dM ?_;refine kfa O O ?_;refine kl1 O O O<|kmv O<|aR O O bY (by omega) hio3 dM<|aY O hFX (by kernel_rfl) hFz hFc dM<|kfa O O ?_;refine kl1 O O O<|kmv O<|aR O O bY (by omega) hio1 dM<|aW O hEX O hec dM<|kca O O (hq)<|kas O<|aB<|rgA ?_;refine aA<|rgN<|kmv O<|kne O O (r:=false) O<|aB<|aF O ?_;refine aH ?_;refine rgN<|kmv O<|kad O O hadd<|kas O<|aB ?_)
    exact ⟨_,_,by omega,Le.of (by exact ⟨O,O,O,O,trivial⟩) (by exact ⟨O,O,O,trivial⟩) (by exact O) (by exact O) (by repeat' (first|refine bR ?_ ?_|rfl|exact bT|exact bS|exact bU O)),i+1,by omega,O,(fun j h0 hj=>by
      by_cases e:j=i
      · rw [e,hat];exact he
      · exact hpre j h0 (by omega)),rfl⟩
  · rw [show seqE (fun q:Fl×List Ins=>fmE a.fs q.1 q.2) (b.fs.zip r.ex)=fmE a.fs f c from firstE_some hpre (Nat.zero_le _) (by omega) hat he]
    generalize fmE a.fs f c=e at *
    (refine aA<|aA<|rgN<|kmv O<|kfa O O ?_;refine kl1 O O O<|aQ O bY O dM ?_;refine klt O O (cK (by omega))<|aB<|aE O ?_;refine aH ?_;refine aA<|aG<|aA<|rgD mixed<|aK O O O dM ?_;refine kfa O O ?_;refine kl1 O O O<|kmv O<|aR O O bY (by omega) hio3 dM<|aY O hFX (by kernel_rfl) hFz hFc dM<|kfa O O ?_;refine kl1 O O O<|kmv O<|aR O O bY (by omega) hio1 dM<|aW O hEX O hec dM<|kca O O (hq)<|kas O<|aB<|rgA ?_;refine aA<|rgN<|kmv O<|kne O O (r:=true) (cO he)<|aB<|aE O ?_;refine aA<|rgN<|kmv O<|kas O<|aB<|aI ?_)
    exact ⟨[_],⟨O,trivial⟩,O⟩
end Go.Proofs.YtnfbccfghgmfiaaGreat
end
section
namespace Go.Proofs.YtnfbccfghgmfiaaGreat
open Go Go.Lg Go.Lg.Fml Go.Lg.Fld Go.Lg.Arith
set_option maxRecDepth 100000
variable (X:Nat→Option Obj)
set_option maxHeartbeats 6400000 in
theorem ins13_spec (l:List Ins) (ad:Option Addr) (cap:Nat) (hin:InsIn X ad l) (hl:l.length≤1000):MSpec Tryz.prog X 18 [Lx ad l.length cap] [] (.sv (.one (.slc 1000001 0 l.length 6))) [(1000001,some ⟨79,(inssV l).map .val,Nat.blt 0 l.length⟩)]:=by
  refine cC Tryz.func18 rfl (by kernel_rfl) rfl rfl (by exact (by repeat' (first|refine bR ?_ ?_|rfl|exact bT|exact bS|exact bU rfl))) rfl rfl ?_
  intro C
  (refine aA<|rgN<|kas O<|aB<|aA<|rgN<|aZ (zs:=[]) (sz:=6) (e:=79) (by kernel_rfl) O O O O O O dM<|kas O<|aB<|aA<|aA<|rgN<|kas O<|aB ?_;refine aG ?_)
  refine cF (fun m σ=>∃ n:Nat,n≤l.length∧m=l.length-n∧σ=⟨[(0,Lx ad l.length cap),(3,.sv (.one (.slc 500 0 n 6))),(4,Ln .i64 (n:Nat))],[(500,some ⟨79,(inssV (l.take n)).map .val,Nat.blt 0 n⟩)],X⟩) l.length
    ⟨⟨[(0,Lx ad l.length cap),(3,.sv (.one (.slc 500 0 0 6))),(4,Ln .i64 (0:Nat))],[(500,some ⟨79,(inssV (l.take 0)).map .val,Nat.blt 0 0⟩)],X⟩,Le.ofR [(500,5)] (by exact ⟨rfl,rfl,rfl,trivial⟩) (by repeat' (first|exact trivial|refine cL ⟨_,rfl,?_⟩ ?_|refine cL ⟨_,rfl⟩ ?_|rfl|exact bV _ _ _ _|exact bW _ _ _ _|exact bX rfl)) (by exact rfl) (by exact rfl) (by repeat' (first|refine bR ?_ ?_|rfl|exact bT|exact bS|exact bU rfl)) (by exact rfl) (by exact rfl),0,by omega,by omega,rfl⟩ ?_
  rintro m σ ⟨n,hn,rfl,rfl⟩
  by_cases hnl:n<l.length
  case neg =>
    have e:n=l.length:=by omega
    subst e
    rw [cZ]
    (refine aA<|aA<|rgN<|kmv O<|kmv O<|aQ O bY O dM ?_;refine klt O O (cJ (by omega))<|aB<|aF O ?_;refine aJ<|aA<|rgN<|kmv O<|kas O<|aB<|aI ?_)
    exact ⟨[(1000001,500)],⟨[_],⟨rfl,trivial⟩,rfl⟩,(by repeat' (first|exact trivial|refine cL ⟨_,rfl,?_⟩ ?_|refine cL ⟨_,rfl⟩ ?_|rfl|exact bV _ _ _ _|exact bW _ _ _ _|exact bX rfl)),rfl,rfl⟩
  obtain ⟨x,hx⟩:∃ x,l[n]? = some x:=⟨_,cS hnl⟩
  obtain ⟨blk,off,arr,el,fr,rfl,hX,hsz,hcs,g0,g1,g2,g3⟩:=hin.six hx
  have hsz3:off+n*6+3+3≤arr.size:=by omega
  have hio:off+Int.toNat (n:Int)*6=off+n*6:=by simp
  have hadd:IntKind.i64.wrap ((n:Int)+1)=((n+1:Nat):Int):=by rw [cD (by omega)];omega
  have hcl:=inssV_len (l.take n)
  rw [cU,Nat.min_eq_left hn] at hcl
  have hnc:=inssV_snoc (l.take n) x (cs:=[.val (.int .i64 x.op),.val (.int .i64 x.a),.val (.int .i64 x.b),.val (.bool x.k.1),.val (.int .u64 (x.k.2/18446744073709551616)),.val (.int .u64 (x.k.2%18446744073709551616))]) rfl
  rw [← take_snoc hx] at hnc
  (refine aA<|aA<|rgN<|kmv O<|kmv O<|aQ O bY O dM ?_;refine klt O O (cK (by omega))<|aB<|aE O ?_;refine aH ?_;refine aA<|aG<|rgD mixed<|kmv O<|kmv O<|kmv O<|aR O O bY (by omega) hio dM<|bH O O dM ?_;refine aW O hX O g0 dM<|kmv O<|kmv O<|aR O O bY (by omega) hio dM<|bH O O dM ?_;refine aW O hX O g1 dM<|kmv O<|kmv O<|aR O O bY (by omega) hio dM<|bH O O dM ?_;refine aW O hX O g2 dM<|kmv O<|kmv O<|aR O O bY (by omega) hio dM<|bH O O dM ?_;refine aY O hX (by kernel_rfl) hsz3 g3 dM<|aT O O (by exact O) (by exact nl6 O O O O O O O) dM ?_;refine aZ (zs:=[.int .i64 0,.int .i64 0,.int .i64 0,.bool false,.int .u64 0,.int .u64 0]) (sz:=6) (e:=79) (cs':=[.val (.int .i64 x.op),.val (.int .i64 x.a),.val (.int .i64 x.b),.val (.bool x.k.1),.val (.int .u64 (x.k.2/18446744073709551616)),.val (.int .u64 (x.k.2%18446744073709551616))]) (by kernel_rfl) O O O O O O dM<|bO (by_:=48) (e2:=79) (l2:=[.val (.int .i64 x.op),.val (.int .i64 x.a),.val (.int .i64 x.b),.val (.bool x.k.1),.val (.int .u64 (x.k.2/18446744073709551616)),.val (.int .u64 (x.k.2%18446744073709551616))]) (nl:=n+1) (nc:=(inssV (l.take (n+1))).map .val) O O hcl O O (dI _) O O (by kernel_rfl) (by kernel_rfl) (by omega) (by omega) O O hnc dM<|kas O<|aB<|rgA ?_;refine rgN<|kmv O<|kad O O hadd<|kas O<|aB ?_)
  exact ⟨_,⟨[(0,Lx (some ⟨blk,off,none⟩) l.length cap),(3,.sv (.one (.slc 500 0 (n+1) 6))),(4,Ln .i64 (n+1:Nat))],[(500,some ⟨79,(inssV (l.take (n+1))).map .val,Nat.blt 0 (n+1)⟩)],X⟩,by omega,Le.ofR [(500,35)] (by exact ⟨rfl,rfl,rfl,trivial⟩) (by repeat' (first|exact trivial|refine cL ⟨_,rfl,?_⟩ ?_|refine cL ⟨_,rfl⟩ ?_|rfl|exact bV _ _ _ _|exact bW _ _ _ _|exact bX rfl)) (by exact rfl) (by exact rfl) (by repeat' (first|refine bR ?_ ?_|rfl|exact bT|exact bS|exact bU rfl)) (by exact rfl) (by exact rfl),n+1,by omega,rfl,rfl⟩
end Go.Proofs.YtnfbccfghgmfiaaGreat
end
section
namespace Go.Proofs.YtnfbccfghgmfiaaGreat
open Go Go.Lg Go.Lg.Fml Go.Lg.Fld Go.Lg.Arith
set_option maxRecDepth 100000
def grtF (c:Cp):Bool:=decide (12<c.fs.length)
def grtN (az bz:List Cp) (rs:List Rl):Bool:=decide (30<az.length)||(decide (30<bz.length)||decide (30<rs.length))
def grt13 (az bz:List Cp) (rs:List Rl):Bool:=grtN az bz rs||(az.any grtF||(bz.any grtF||rs.any grtR))
theorem grt13_false {az bz:List Cp} {rs:List Rl} (h:grt13 az bz rs=false):(az.length≤30∧∀ c∈az,c.fs.length≤12)∧(bz.length≤30∧∀ c∈bz,c.fs.length≤12)∧rs.length≤30∧∀ r∈rs,r.ex.length≤12∧∀ c∈r.ex,c.length≤80:=by
  unfold grt13 grtN at h
  simp only [Bool.or_eq_false_iff,decide_eq_false_iff_not] at h
  obtain ⟨⟨h1,h2,h3⟩,h4,h5,h6⟩:=h
  have key:∀ l:List Cp,l.any grtF=false→∀ c∈l,c.fs.length≤12:=fun l hl c hc=>by
    have:=List.any_eq_false.1 hl c hc
    unfold grtF at this
    simpa using this
  have hp:=grtP_false (rs:=rs) (by unfold grtP;rw [Bool.or_eq_false_iff,decide_eq_false_iff_not];exact ⟨h3,h6⟩)
  exact ⟨⟨by omega,key _ h4⟩,⟨by omega,key _ h5⟩,by omega,hp.2⟩
theorem any_yes {α:Type} {p:α→Bool} {l:List α} {x:α} {i:Nat} (hx:l[i]? = some x) (h:p x=true):l.any p=true:=List.any_eq_true.2 ⟨x,cX hx,h⟩
theorem any_next {α:Type} {p:α→Bool} {l:List α} {x:α} {i:Nat} (hx:l[i]? = some x) (h0:(l.take i).any p=false) (h:p x=false):(l.take (i+1)).any p=false:=by
  rw [take_snoc hx,List.any_append,h0];simp [h]
variable (X:Nat→Option Obj)
set_option maxHeartbeats 6400000 in
theorem great13_spec (v1 v2 va vb:Int) (ad1 ad2 ad:Option Addr) (cap1 cap2 cap:Nat) (az bz:List Cp) (rs:List Rl) (h1:CompsIn X ad1 az) (h2:CompsIn X ad2 bz) (hin:RulesIn X ad rs) (hsz:sizeB rs)
    (hl1:az.length<4611686018427387904) (hl2:bz.length<4611686018427387904) (hbig:rs.length<4611686018427387904) (hf1:∀ c∈az,c.fs.length<9223372036854775808) (hf2:∀ c∈bz,c.fs.length<9223372036854775808) (r:Bool) (hr:grt13 az bz rs=r):
    PSpec Tryz.prog X 7 [Sx v1 ad1 az.length cap1,Sx v2 ad2 bz.length cap2,LPg va vb ad rs.length cap] (Lb r):=by
  subst hr
  refine cB Tryz.func7 rfl (by kernel_rfl) rfl rfl ?_
  intro C
  unfold grt13 grtN
  by_cases c1:30<az.length
  · rw [cK c1]
    simp only [Bool.true_or]
    (refine aA<|rgN<|aL O O O dM<|aL O O O dM<|aL O O O dM<|kas O<|aB<|aA<|aA<|rgN<|kfa O O ?_;refine kl1 O O O<|aQ O bY O dM ?_;refine aS O O (cK (by omega)) dM<|kmv O<|aC O O O<|aC O O O<|aC O O O<|aC O O O<|kpt O O<|kmv O<|aC O O O<|aC O O O<|aC O O O<|aC O O O<|kpt O O<|aB ?_;refine aE O ?_;refine aA<|rgN<|kas O<|aB<|aI ?_)
    exact ⟨[_],⟨O,trivial⟩,O⟩
  by_cases c2:30<bz.length
  · rw [cK c2]
    simp only [Bool.true_or,Bool.or_true]
    (refine aA<|rgN<|aL O O O dM<|aL O O O dM<|aL O O O dM<|kas O<|aB<|aA<|aA<|rgN<|kfa O O ?_;refine kl1 O O O<|aQ O bY O dM ?_;refine aS O O (cJ (by omega)) dM<|kmv O<|aN O O (dN O O) ?_;refine aO O O O (dN O O) ?_;refine aQ O bY O (dN O O) ?_;refine aS O O (cK (by omega)) (dN O O) ?_;refine kpf O O<|kmv O<|aC O O O<|aC O O O<|aC O O O<|aC O O O<|kpt O O<|aB<|aE O ?_;refine aA<|rgN<|kas O<|aB<|aI ?_)
    exact ⟨[_],⟨O,trivial⟩,O⟩
  by_cases c3:30<rs.length
  · rw [cK c3]
    simp only [Bool.true_or,Bool.or_true]
    (refine aA<|rgN<|aL O O O dM<|aL O O O dM<|aL O O O dM<|kas O<|aB<|aA<|aA<|rgN<|kfa O O ?_;refine kl1 O O O<|aQ O bY O dM ?_;refine aS O O (cJ (by omega)) dM<|kmv O<|aN O O (dN O O) ?_;refine aO O O O (dN O O) ?_;refine aQ O bY O (dN O O) ?_;refine aS O O (cJ (by omega)) (dN O O) ?_;refine kpf O O<|kmv O<|aN O O (dN O O) ?_;refine aO O O O (dN O O) ?_;refine aQ O bY O (dN O O) ?_;refine aS O O (cK (by omega)) (dN O O) ?_;refine kpf O O<|aB<|aE O ?_;refine aA<|rgN<|kas O<|aB<|aI ?_)
    exact ⟨[_],⟨O,trivial⟩,O⟩
  rw [cJ c1,cJ c2,cJ c3]
  simp only [Bool.false_or]
  (refine aA<|rgN<|aL O O O dM<|aL O O O dM<|aL O O O dM<|kas O<|aB<|aA<|aA<|rgN<|kfa O O ?_;refine kl1 O O O<|aQ O bY O dM ?_;refine aS O O (cJ (by omega)) dM<|kmv O<|aN O O (dN O O) ?_;refine aO O O O (dN O O) ?_;refine aQ O bY O (dN O O) ?_;refine aS O O (cJ (by omega)) (dN O O) ?_;refine kpf O O<|kmv O<|aN O O (dN O O) ?_;refine aO O O O (dN O O) ?_;refine aQ O bY O (dN O O) ?_;refine aS O O (cJ (by omega)) (dN O O) ?_;refine kpf O O<|aB<|aF O ?_;refine aH ?_;refine aA<|aA<|rgN<|kas O<|aB<|aG ?_)
  refine cF (fun m σ=>∃ i:Nat,i≤az.length∧m=az.length-i∧(az.take i).any grtF=false∧σ=⟨[(3,Lp 3),(4,Lp 4),(5,Lp 5),(7,Ln .i64 (i:Nat))],[v3B 35 5 va vb ad rs.length cap,sxB 4 v2 ad2 bz.length cap2,sxB 3 v1 ad1 az.length cap1],X⟩) az.length
    ⟨_,Le.of (by exact ⟨rfl,rfl,rfl,rfl,trivial⟩) (by exact ⟨rfl,rfl,rfl,trivial⟩) (by exact rfl) (by exact rfl) (by repeat' (first|refine bR ?_ ?_|rfl|exact bT|exact bS|exact bU rfl)),0,by omega,by omega,rfl,rfl⟩ ?_
  rintro m σ ⟨i,hi,rfl,hany,rfl⟩
  by_cases hlt:i<az.length
  case pos =>
    obtain ⟨c,hc⟩:∃ c,az[i]? = some c:=⟨_,cS hlt⟩
    obtain ⟨blk,off,arr,el,fr,fad,fcap,rfl,hX,hsiz,hcs,g1,g2,g3,hF⟩:=h1.get hc
    have hio:off+Int.toNat (i:Int)*3=off+i*3:=by simp
    have hcl:=hf1 c (cX hc)
    by_cases h12:12<c.fs.length
    · rw [show az.any grtF=true from any_yes hc (cK h12)]
      simp only [Bool.true_or,Bool.or_true]
      (refine aA<|aA<|rgN<|kmv O<|kfa O O ?_;refine kl1 O O O<|aQ O bY O dM ?_;refine klt O O (cK (by omega))<|aB<|aE O ?_;refine aH ?_;refine aA<|aG<|aA<|rgN<|kfa O O ?_;refine kl1 O O O<|kmv O<|aR O O bY (by omega) hio dM<|bH O O dM ?_;refine aW O hX O g3 dM<|aQ O bY O dM ?_;refine aS O O (cK (by omega)) dM<|aB<|aE O ?_;refine aA<|rgN<|kas O<|aB<|aI ?_)
      exact ⟨[_],⟨O,trivial⟩,O⟩
    · have hadd:IntKind.i64.wrap ((i:Int)+1)=((i+1:Nat):Int):=by rw [cD (by omega)];omega
      (refine aA<|aA<|rgN<|kmv O<|kfa O O ?_;refine kl1 O O O<|aQ O bY O dM ?_;refine klt O O (cK (by omega))<|aB<|aE O ?_;refine aH ?_;refine aA<|aG<|aA<|rgN<|kfa O O ?_;refine kl1 O O O<|kmv O<|aR O O bY (by omega) hio dM<|bH O O dM ?_;refine aW O hX O g3 dM<|aQ O bY O dM ?_;refine aS O O (cJ (by omega)) dM<|aB<|aF O ?_;refine aH ?_;refine rgN<|kmv O<|kad O O hadd<|kas O<|aB ?_)
      exact ⟨_,_,by omega,Le.of (by exact ⟨O,O,O,O,trivial⟩) (by exact ⟨O,O,O,trivial⟩) (by exact O) (by exact O) (by repeat' (first|refine bR ?_ ?_|rfl|exact bT|exact bS|exact bU O)),i+1,by omega,O,any_next hc hany (cJ h12),O⟩
  have e:i=az.length:=by omega
  subst e
  rw [cZ] at hany
  rw [hany,Bool.false_or]
  clear hany hi hlt
  (refine aA<|aA<|rgN<|kmv O<|kfa O O ?_;refine kl1 O O O<|aQ O bY O dM ?_;refine klt O O (cJ (by omega))<|aB<|aF O ?_;refine aJ<|aA<|aA<|rgN<|kas O<|aB<|aG ?_)
  refine cF (fun m σ=>∃ i:Nat,i≤bz.length∧m=bz.length-i∧(bz.take i).any grtF=false∧σ=⟨[(3,Lp 3),(4,Lp 4),(5,Lp 5),(8,Ln .i64 (i:Nat))],[v3B 35 5 va vb ad rs.length cap,sxB 4 v2 ad2 bz.length cap2,sxB 3 v1 ad1 az.length cap1],X⟩) bz.length
    ⟨_,Le.of (by exact ⟨rfl,rfl,rfl,rfl,trivial⟩) (by exact ⟨rfl,rfl,rfl,trivial⟩) (by exact rfl) (by exact rfl) (by repeat' (first|refine bR ?_ ?_|rfl|exact bT|exact bS|exact bU rfl)),0,by omega,by omega,rfl,rfl⟩ ?_
  rintro m σ ⟨i,hi,rfl,hany,rfl⟩
  by_cases hlt:i<bz.length
  case pos =>
    obtain ⟨c,hc⟩:∃ c,bz[i]? = some c:=⟨_,cS hlt⟩
    obtain ⟨blk,off,arr,el,fr,fad,fcap,rfl,hX,hsiz,hcs,g1,g2,g3,hF⟩:=h2.get hc
    have hio:off+Int.toNat (i:Int)*3=off+i*3:=by simp
    have hcl:=hf2 c (cX hc)
    by_cases h12:12<c.fs.length
    · rw [show bz.any grtF=true from any_yes hc (cK h12)]
      simp only [Bool.true_or,Bool.or_true]
      (refine aA<|aA<|rgN<|kmv O<|kfa O O ?_;refine kl1 O O O<|aQ O bY O dM ?_;refine klt O O (cK (by omega))<|aB<|aE O ?_;refine aH ?_;refine aA<|aG<|aA<|rgN<|kfa O O ?_;refine kl1 O O O<|kmv O<|aR O O bY (by omega) hio dM<|bH O O dM ?_;refine aW O hX O g3 dM<|aQ O bY O dM ?_;refine aS O O (cK (by omega)) dM<|aB<|aE O ?_;refine aA<|rgN<|kas O<|aB<|aI ?_)
      exact ⟨[_],⟨O,trivial⟩,O⟩
    · have hadd:IntKind.i64.wrap ((i:Int)+1)=((i+1:Nat):Int):=by rw [cD (by omega)];omega
      (refine aA<|aA<|rgN<|kmv O<|kfa O O ?_;refine kl1 O O O<|aQ O bY O dM ?_;refine klt O O (cK (by omega))<|aB<|aE O ?_;refine aH ?_;refine aA<|aG<|aA<|rgN<|kfa O O ?_;refine kl1 O O O<|kmv O<|aR O O bY (by omega) hio dM<|bH O O dM ?_;refine aW O hX O g3 dM<|aQ O bY O dM ?_;refine aS O O (cJ (by omega)) dM<|aB<|aF O ?_;refine aH ?_;refine rgN<|kmv O<|kad O O hadd<|kas O<|aB ?_)
      exact ⟨_,_,by omega,Le.of (by exact ⟨O,O,O,O,trivial⟩) (by exact ⟨O,O,O,trivial⟩) (by exact O) (by exact O) (by repeat' (first|refine bR ?_ ?_|rfl|exact bT|exact bS|exact bU O)),i+1,by omega,O,any_next hc hany (cJ h12),O⟩
  have e:i=bz.length:=by omega
  subst e
  rw [cZ] at hany
  rw [hany,Bool.false_or]
  clear hany hi hlt
  (refine aA<|aA<|rgN<|kmv O<|kfa O O ?_;refine kl1 O O O<|aQ O bY O dM ?_;refine klt O O (cJ (by omega))<|aB<|aF O ?_;refine aJ<|aA<|aA<|rgN<|kas O<|aB<|aG ?_)
  refine cF (fun m σ=>∃ i:Nat,i≤rs.length∧m=rs.length-i∧(rs.take i).any grtR=false∧σ=⟨[(3,Lp 3),(4,Lp 4),(5,Lp 5),(9,Ln .i64 (i:Nat))],[v3B 35 5 va vb ad rs.length cap,sxB 4 v2 ad2 bz.length cap2,sxB 3 v1 ad1 az.length cap1],X⟩) rs.length
    ⟨_,Le.of (by exact ⟨rfl,rfl,rfl,rfl,trivial⟩) (by exact ⟨rfl,rfl,rfl,trivial⟩) (by exact rfl) (by exact rfl) (by repeat' (first|refine bR ?_ ?_|rfl|exact bT|exact bS|exact bU rfl)),0,by omega,by omega,rfl,rfl⟩ ?_
  rintro m σ ⟨i,hi,rfl,hany,rfl⟩
  by_cases hlt:i<rs.length
  case neg =>
    have e:i=rs.length:=by omega
    subst e
    rw [cZ] at hany
    rw [hany]
    (refine aA<|aA<|rgN<|kmv O<|kfa O O ?_;refine kl1 O O O<|aQ O bY O dM ?_;refine klt O O (cJ (by omega))<|aB<|aF O ?_;refine aJ<|aA<|rgN<|kas O<|aB<|aI ?_)
    exact ⟨[_],⟨O,trivial⟩,O⟩
  obtain ⟨r,hr⟩:∃ r,rs[i]? = some r:=⟨_,cS hlt⟩
  obtain ⟨blk,off,arr,el,fr,ead,ecap,rfl,hX,hsiz,hcs,g1,g2,g3,hE⟩:=hin.get hr
  have hio:off+Int.toNat (i:Int)*3=off+i*3:=by simp
  obtain ⟨hel,hcl⟩:=hsz r (cX hr)
  have hyes:grtR r=true→rs.any grtR=true:=any_yes hr
  by_cases h12:12<r.ex.length
  · rw [hyes (by unfold grtR;rw [cK h12];rfl)]
    (refine aA<|aA<|rgN<|kmv O<|kfa O O ?_;refine kl1 O O O<|aQ O bY O dM ?_;refine klt O O (cK (by omega))<|aB<|aE O ?_;refine aH ?_;refine aA<|aG<|aA<|aA<|rgN<|kfa O O ?_;refine kl1 O O O<|kmv O<|aR O O bY (by omega) hio dM<|bH O O dM ?_;refine aW O hX O g3 dM<|aQ O bY O dM ?_;refine aS O O (cK (by omega)) dM<|aB<|aE O ?_;refine aA<|rgN<|kas O<|aB<|aI ?_)
    exact ⟨[_],⟨O,trivial⟩,O⟩
  (refine aA<|aA<|rgN<|kmv O<|kfa O O ?_;refine kl1 O O O<|aQ O bY O dM ?_;refine klt O O (cK (by omega))<|aB<|aE O ?_;refine aH ?_;refine aA<|aG<|aA<|aA<|rgN<|kfa O O ?_;refine kl1 O O O<|kmv O<|aR O O bY (by omega) hio dM<|bH O O dM ?_;refine aW O hX O g3 dM<|aQ O bY O dM ?_;refine aS O O (cJ (by omega)) dM<|aB<|aF O ?_;refine aH ?_;refine aA<|rgN<|kas O<|aB<|aG ?_)
  refine cF (fun m σ=>∃ k:Nat,k≤r.ex.length∧m=r.ex.length-k∧(r.ex.take k).any (fun c=>decide (80<c.length))=false∧σ=⟨[(3,Lp 3),(4,Lp 4),(5,Lp 5),(9,Ln .i64 (i:Nat)),(10,Ln .i64 (k:Nat))],[v3B 35 5 va vb (some ⟨blk,off,none⟩) rs.length cap,sxB 4 v2 ad2 bz.length cap2,sxB 3 v1 ad1 az.length cap1],X⟩) r.ex.length
    ⟨_,Le.of (by exact ⟨rfl,rfl,rfl,rfl,rfl,trivial⟩) (by exact ⟨rfl,rfl,rfl,trivial⟩) (by exact rfl) (by exact rfl) (by repeat' (first|refine bR ?_ ?_|rfl|exact bT|exact bS|exact bU rfl)),0,by omega,by omega,rfl,rfl⟩ ?_
  rintro m σ ⟨k,hk,rfl,hany2,rfl⟩
  by_cases hkl:k<r.ex.length
  case neg =>
    have e:k=r.ex.length:=by omega
    subst e
    rw [cZ] at hany2
    have hno:grtR r=false:=by unfold grtR;rw [cJ h12,hany2];rfl
    have hadd:IntKind.i64.wrap ((i:Int)+1)=((i+1:Nat):Int):=by rw [cD (by omega)];omega
    (refine aA<|aA<|rgN<|kmv O<|kfa O O ?_;refine kl1 O O O<|kmv O<|aR O O bY (by omega) hio dM<|bH O O dM ?_;refine aW O hX O g3 dM<|aQ O bY O dM ?_;refine klt O O (cJ (by omega))<|aB<|aF O ?_;refine aJ<|rgN<|kmv O<|kad O O hadd<|kas O<|aB ?_)
    exact ⟨_,⟨[(3,Lp 3),(4,Lp 4),(5,Lp 5),(9,Ln .i64 (i+1:Nat))],[v3B 35 5 va vb (some ⟨blk,off,none⟩) rs.length cap,sxB 4 v2 ad2 bz.length cap2,sxB 3 v1 ad1 az.length cap1],X⟩,by omega,Le.of (by exact ⟨O,O,O,O,trivial⟩) (by exact ⟨O,O,O,trivial⟩) (by exact O) (by exact O) (by repeat' (first|refine bR ?_ ?_|rfl|exact bT|exact bS|exact bU O)),i+1,by omega,O,any_next hr hany hno,O⟩
  obtain ⟨c,hc⟩:∃ c,r.ex[k]? = some c:=⟨_,cS hkl⟩
  obtain ⟨eb,eo,earr,eel,efr,vad,vcap,rfl,hEX,hec,hI⟩:=hE.get hc
  have hio3:eo+Int.toNat (k:Int)*1=eo+k*1:=by simp
  have hcc:=hcl c (cX hc)
  by_cases h80:80<c.length
  · rw [hyes (by unfold grtR;rw [cJ h12,Bool.false_or];exact any_yes hc (cK h80))]
    (refine aA<|aA<|rgN<|kmv O<|kfa O O ?_;refine kl1 O O O<|kmv O<|aR O O bY (by omega) hio dM<|bH O O dM ?_;refine aW O hX O g3 dM<|aQ O bY O dM ?_;refine klt O O (cK (by omega))<|aB<|aE O ?_;refine aH ?_;refine aA<|aG<|aA<|rgN<|kfa O O ?_;refine kl1 O O O<|kmv O<|aR O O bY (by omega) hio dM<|bH O O dM ?_;refine aW O hX O g3 dM<|kmv O<|aR O O bY (by omega) hio3 dM<|aW O hEX O hec dM<|aQ O bY O dM ?_;refine aS O O (cK (by omega)) dM<|aB<|aE O ?_;refine aA<|rgN<|kas O<|aB<|aI ?_)
    exact ⟨[_],⟨O,trivial⟩,O⟩
  · have hadd:IntKind.i64.wrap ((k:Int)+1)=((k+1:Nat):Int):=by rw [cD (by omega)];omega
    (refine aA<|aA<|rgN<|kmv O<|kfa O O ?_;refine kl1 O O O<|kmv O<|aR O O bY (by omega) hio dM<|bH O O dM ?_;refine aW O hX O g3 dM<|aQ O bY O dM ?_;refine klt O O (cK (by omega))<|aB<|aE O ?_;refine aH ?_;refine aA<|aG<|aA<|rgN<|kfa O O ?_;refine kl1 O O O<|kmv O<|aR O O bY (by omega) hio dM<|bH O O dM ?_;refine aW O hX O g3 dM<|kmv O<|aR O O bY (by omega) hio3 dM<|aW O hEX O hec dM<|aQ O bY O dM ?_;refine aS O O (cJ (by omega)) dM<|aB<|aF O ?_;refine aH ?_;refine rgN<|kmv O<|kad O O hadd<|kas O<|aB ?_)
    exact ⟨_,_,by omega,Le.of (by exact ⟨O,O,O,O,O,trivial⟩) (by exact ⟨O,O,O,trivial⟩) (by exact O) (by exact O) (by repeat' (first|refine bR ?_ ?_|rfl|exact bT|exact bS|exact bU O)),k+1,by omega,O,any_next hc hany2 (cJ h80),O⟩
end Go.Proofs.YtnfbccfghgmfiaaGreat
end
section
namespace Go.Proofs.YtnfbccfghgmfiaaGreat
open Go Go.Lg Go.Lg.Fml Go.Lg.Fld Go.Lg.Arith
set_option maxRecDepth 100000
variable (X:Nat→Option Obj)
theorem kIsVersion (n:Int):PSpec Tryz.prog X 59 [Ln .i64 n] (Lb (verOk n)):=by
  refine cB Tryz.func59 rfl (by kernel_rfl) rfl rfl ?_
  intro C
  by_cases h1:1≤n
  · by_cases h2:n≤1073741824
    · rw [show verOk n=true by unfold verOk;simp;omega]
      (refine aA<|rgN<|kas O<|aB<|aA<|rgN<|kmv O<|bD O O (cK (by omega)) dM<|kmv O<|gmv O O O<|K.leq O O (cK (by omega)) (dN O O) ?_;refine kpt O O<|kas O<|aB<|aI ?_)
      exact ⟨[_],⟨O,trivial⟩,O⟩
    · rw [show verOk n=false by unfold verOk;simp;omega]
      (refine aA<|rgN<|kas O<|aB<|aA<|rgN<|kmv O<|bD O O (cK (by omega)) dM<|kmv O<|gmv O O O<|K.leq O O (cJ (by omega)) (dN O O) ?_;refine kpt O O<|kas O<|aB<|aI ?_)
      exact ⟨[_],⟨O,trivial⟩,O⟩
  · rw [show verOk n=false by unfold verOk;simp;omega]
    (refine aA<|rgN<|kas O<|aB<|aA<|rgN<|kmv O<|bD O O (cJ (by omega)) dM<|kmv O<|aC O O O<|aC O O O<|kpf O O<|kas O<|aB ?_;refine aI ?_)
    exact ⟨[_],⟨O,trivial⟩,O⟩
set_option maxHeartbeats 3200000 in
theorem kCheckRule (r:Rl) (ead:Option Addr) (ecap:Nat) (hE:CodesIn X ead r.ex) (h1:r.ex.length<4611686018427387904) (h2:∀ c∈r.ex,c.length<1152921504606846976) (last:Int) (h0:0≤last):
    PSpec Tryz.prog X 60 [LPg r.nw r.old ead r.ex.length ecap,Ln .i64 last] (Ln .i64 (chkR r last)):=by
  refine cB Tryz.func60 rfl (by kernel_rfl) rfl rfl ?_
  intro C
  obtain ⟨nw,old,ex⟩:=r
  simp only at hE h1 h2 ⊢
  by_cases c1:nw≤last
  · rw [show chkR ⟨nw,old,ex⟩ last=1 from if_pos (by simp only;omega)]
    (refine aA<|rgN<|aL O O O dM<|kas O<|aB<|aA<|aG<|aA<|rgN<|kfa O O ?_;refine kl1 O O O<|kmv O<|K.leq O O (cK (by omega)) dM<|kmv O<|aC O O O<|aC O O O<|aC O O O<|kpt O O<|kmv O<|aC O O O<|aC O O O<|aC O O O<|kpt O O<|kmv O ?_;refine aC O O O<|aC O O O<|aC O O O<|kpt O O<|kas O<|aB<|aE O ?_;refine aA<|rgN<|kas O<|aB<|aI ?_)
    exact ⟨[_],⟨O,trivial⟩,O⟩
  by_cases c2:24<nw
  · rw [show chkR ⟨nw,old,ex⟩ last=1 from if_pos (by simp only;omega)]
    (refine aA<|rgN<|aL O O O dM<|kas O<|aB<|aA<|aG<|aA<|rgN<|kfa O O ?_;refine kl1 O O O<|kmv O<|K.leq O O (cJ (by omega)) dM<|kmv O<|aN O O (dN O O) ?_;refine aO O O O (dN O O) ?_;refine aS O O (cK (by omega)) (dN O O) ?_;refine kpf O O<|kmv O<|aC O O O<|aC O O O<|aC O O O<|kpt O O<|kmv O<|aC O O O<|aC O O O<|aC O O O<|kpt O O<|kas O<|aB<|aE O ?_;refine aA<|rgN<|kas O<|aB<|aI ?_)
    exact ⟨[_],⟨O,trivial⟩,O⟩
  by_cases c3:old<0
  · rw [show chkR ⟨nw,old,ex⟩ last=1 from if_pos (by simp only;omega)]
    (refine aA<|rgN<|aL O O O dM<|kas O<|aB<|aA<|aG<|aA<|rgN<|kfa O O ?_;refine kl1 O O O<|kmv O<|K.leq O O (cJ (by omega)) dM<|kmv O<|aN O O (dN O O) ?_;refine aO O O O (dN O O) ?_;refine aS O O (cJ (by omega)) (dN O O) ?_;refine kpf O O<|kmv O<|aN O O (dN O O) ?_;refine aO O O O (dN O O) ?_;refine bK O O (cK (by omega)) (dN O O) ?_;refine kpf O O<|kmv O<|aC O O O<|aC O O O<|aC O O O<|kpt O O<|kas O<|aB<|aE O ?_;refine aA<|rgN<|kas O<|aB<|aI ?_)
    exact ⟨[_],⟨O,trivial⟩,O⟩
  by_cases c4:24<old
  · rw [show chkR ⟨nw,old,ex⟩ last=1 from if_pos (by simp only;omega)]
    (refine aA<|rgN<|aL O O O dM<|kas O<|aB<|aA<|aG<|aA<|rgN<|kfa O O ?_;refine kl1 O O O<|kmv O<|K.leq O O (cJ (by omega)) dM<|kmv O<|aN O O (dN O O) ?_;refine aO O O O (dN O O) ?_;refine aS O O (cJ (by omega)) (dN O O) ?_;refine kpf O O<|kmv O<|aN O O (dN O O) ?_;refine aO O O O (dN O O) ?_;refine bK O O (cJ (by omega)) (dN O O) ?_;refine kpf O O<|kmv O<|aN O O (dN O O) ?_;refine aO O O O (dN O O) ?_;refine aS O O (cK (by omega)) (dN O O) ?_;refine kpf O O<|kas O<|aB<|aE O ?_;refine aA<|rgN<|kas O<|aB<|aI ?_)
    exact ⟨[_],⟨O,trivial⟩,O⟩
  have e1:chkR ⟨nw,old,ex⟩ last=if old=0∧ex≠[] then 4 else if 8<ex.length then 5 else firstX ex:=if_neg (by simp only;omega)
  rw [e1]
  have hl:ex≠[]↔0<ex.length:=by rw [List.length_pos_iff]
  by_cases c5:old=0
  · by_cases c6:0<ex.length
    · rw [if_pos ⟨c5,hl.2 c6⟩]
      (refine aA<|rgN<|aL O O O dM<|kas O<|aB<|aA<|aG<|aA<|rgN<|kfa O O ?_;refine kl1 O O O<|kmv O<|K.leq O O (cJ (by omega)) dM<|kmv O<|aN O O (dN O O) ?_;refine aO O O O (dN O O) ?_;refine aS O O (cJ (by omega)) (dN O O) ?_;refine kpf O O<|kmv O<|aN O O (dN O O) ?_;refine aO O O O (dN O O) ?_;refine bK O O (cJ (by omega)) (dN O O) ?_;refine kpf O O<|kmv O<|aN O O (dN O O) ?_;refine aO O O O (dN O O) ?_;refine aS O O (cJ (by omega)) (dN O O) ?_;refine kpf O O<|kas O<|aB<|aF O ?_;refine aA<|rgN<|kfa O O ?_;refine kl1 O O O<|keq O O (cP c5)<|kmv O<|aN O O (dN O O) ?_;refine aO O O O (dN O O) ?_;refine aQ O bY O (dN O O) ?_;refine aS O O (cK (by omega)) (dN O O) ?_;refine kpt O O<|kas O<|aB<|aE O ?_;refine aA<|rgN<|kas O<|aB<|aI ?_)
      exact ⟨[_],⟨O,trivial⟩,O⟩
    · have e0:ex=[]:=by
        by_cases h:ex=[]
        · exact h
        · exact absurd (hl.1 h) c6
      subst e0
      rw [if_neg (fun h=>h.2 rfl),if_neg (by decide)]
      ((refine aA<|rgN<|aL O O O dM<|kas O<|aB<|aA<|aG<|aA<|rgN<|kfa O O ?_;refine kl1 O O O<|kmv O<|K.leq O O (cJ (by omega)) dM<|kmv O<|aN O O (dN O O) ?_;refine aO O O O (dN O O) ?_;refine aS O O (cJ (by omega)) (dN O O) ?_;refine kpf O O<|kmv O<|aN O O (dN O O) ?_;refine aO O O O (dN O O) ?_;refine bK O O (cJ (by omega)) (dN O O) ?_;refine kpf O O<|kmv O<|aN O O (dN O O) ?_;refine aO O O O (dN O O) ?_;refine aS O O (cJ (by omega)) (dN O O) ?_;refine kpf O O<|kas O<|aB<|aF O ?_;refine aA<|rgN<|kfa O O ?_);(refine kl1 O O O<|keq O O (cP c5)<|kmv O<|aN O O (dN O O) ?_;refine aO O O O (dN O O) ?_;refine aQ O bY O (dN O O) ?_;refine aS O O (cJ (by decide)) (dN O O) ?_;refine kpt O O<|kas O<|aB<|aF O ?_;refine aA<|rgN<|kfa O O ?_;refine kl1 O O O<|aQ O bY O dM ?_;refine aS O O (cJ (by decide)) dM<|kas O<|aB<|aF O ?_;refine aH ?_;refine aA<|aA<|rgN<|kfa O O ?_;refine kl1 O O O<|aQ O bY O dM ?_;refine kmv O<|aB<|aG ?_))
      refine cF (fun m σ=>m=0∧σ=⟨[(46,Ln .i64 0),(47,Ln .i64 0)],[],X⟩) 0 ⟨⟨[(46,Ln .i64 0),(47,Ln .i64 0)],[],X⟩,Le.of (by exact ⟨O,O,trivial⟩) (by exact trivial) (by exact O) (by exact O) (by repeat' (first|refine bR ?_ ?_|rfl|exact bT|exact bS|exact bU O)),O,O⟩ ?_
      rintro m σ ⟨rfl,rfl⟩
      (refine aA<|rgN<|klt O O (r:=false) O<|aB<|aA<|aF O ?_;refine aJ<|aA<|rgN<|kas O<|aB<|aI ?_)
      exact ⟨[_],⟨O,trivial⟩,O⟩
  rw [if_neg (fun h=>c5 h.1)]
  by_cases c7:8<ex.length
  · rw [if_pos c7]
    (refine aA<|rgN<|aL O O O dM<|kas O<|aB<|aA<|aG<|aA<|rgN<|kfa O O ?_;refine kl1 O O O<|kmv O<|K.leq O O (cJ (by omega)) dM<|kmv O<|aN O O (dN O O) ?_;refine aO O O O (dN O O) ?_;refine aS O O (cJ (by omega)) (dN O O) ?_;refine kpf O O<|kmv O<|aN O O (dN O O) ?_;refine aO O O O (dN O O) ?_;refine bK O O (cJ (by omega)) (dN O O) ?_;refine kpf O O<|kmv O<|aN O O (dN O O) ?_;refine aO O O O (dN O O) ?_;refine aS O O (cJ (by omega)) (dN O O) ?_;refine kpf O O<|kas O<|aB<|aF O ?_;refine aA<|rgN<|kfa O O ?_;refine kl1 O O O<|keq O O (cM c5)<|kmv O<|aC O O O<|aC O O O<|aC O O O<|aC O O O<|kpf O O<|kas O<|aB<|aF O ?_;refine aA<|rgN<|kfa O O ?_;refine kl1 O O O<|aQ O bY O dM ?_;refine aS O O (cK (by omega)) dM<|kas O<|aB<|aE O ?_;refine aA<|rgN<|kas O<|aB<|aI ?_)
    exact ⟨[_],⟨O,trivial⟩,O⟩
  rw [if_neg c7]
  (refine aA<|rgN<|aL O O O dM<|kas O<|aB<|aA<|aG<|aA<|rgN<|kfa O O ?_;refine kl1 O O O<|kmv O<|K.leq O O (cJ (by omega)) dM<|kmv O<|aN O O (dN O O) ?_;refine aO O O O (dN O O) ?_;refine aS O O (cJ (by omega)) (dN O O) ?_;refine kpf O O<|kmv O<|aN O O (dN O O) ?_;refine aO O O O (dN O O) ?_;refine bK O O (cJ (by omega)) (dN O O) ?_;refine kpf O O<|kmv O<|aN O O (dN O O) ?_;refine aO O O O (dN O O) ?_;refine aS O O (cJ (by omega)) (dN O O) ?_;refine kpf O O<|kas O<|aB<|aF O ?_;refine aA<|rgN<|kfa O O ?_;refine kl1 O O O<|keq O O (cM c5)<|kmv O<|aC O O O<|aC O O O<|aC O O O<|aC O O O<|kpf O O<|kas O<|aB<|aF O ?_;refine aA<|rgN<|kfa O O ?_;refine kl1 O O O<|aQ O bY O dM ?_;refine aS O O (cJ (by omega)) dM<|kas O<|aB<|aF O ?_;refine aH ?_;refine aA<|aA<|rgN<|kfa O O ?_;refine kl1 O O O<|aQ O bY O dM ?_;refine kmv O<|aB<|aG ?_)
  refine cF (fun m σ=>∃ i:Nat,i≤ex.length∧m=ex.length-i∧firstX ex=firstX (ex.drop i)∧σ=⟨[(45,Lx ead ex.length ecap),(46,Ln .i64 (ex.length:Nat)),(47,Ln .i64 (i:Nat))],[],X⟩) ex.length
    ⟨⟨[(45,Lx ead ex.length ecap),(46,Ln .i64 (ex.length:Nat)),(47,Ln .i64 (0:Nat))],[],X⟩,Le.of (by exact ⟨rfl,rfl,rfl,trivial⟩) (by exact trivial) (by exact rfl) (by exact rfl) (by repeat' (first|refine bR ?_ ?_|rfl|exact bT|exact bS|exact bU rfl)),0,by omega,by omega,rfl,rfl⟩ ?_
  rintro m σ ⟨i,hi,rfl,hpre,rfl⟩
  by_cases hlt:i<ex.length
  case neg =>
    rw [hpre,List.drop_eq_nil_of_le (by omega)]
    (refine aA<|rgN<|klt O O (cJ (by omega))<|aB<|aA<|aF O ?_;refine aJ<|aA<|rgN<|kas O<|aB<|aI ?_)
    exact ⟨[_],⟨O,trivial⟩,O⟩
  obtain ⟨c,hc⟩:∃ c,ex[i]? = some c:=⟨_,cS hlt⟩
  obtain ⟨eb,eo,earr,eel,efr,vad,vcap,rfl,hEX,hec,hI⟩:=hE.get hc
  have hio:eo+Int.toNat (i:Int)*1=eo+i*1:=by simp
  have hG:=gEncode' X c vad vcap hI (h2 c (cX hc))
  rw [drop_at hc,firstX_cons] at hpre
  by_cases he:encErr c=0
  · rw [if_pos he] at hpre
    rw [he] at hG
    have hadd:IntKind.i64.wrap (((i:Nat):Int)+1)=((i+1:Nat):Int):=by rw [cD (by omega)];omega
    (refine aA<|rgN<|klt O O (cK (by omega))<|aB<|aA<|aE O ?_;refine aH ?_;refine aA<|aG<|aA<|rgN<|aR O O bY (by omega) hio dM<|aW O hEX O hec dM<|kas O<|aB<|aA<|rgN<|kmv O<|kca O O hG<|kmv O<|kex O O ?_;refine kex O O<|kas O<|kas O<|aB<|aA<|rgN<|kmv O<|kne O O (r:=false) O<|aB<|aF O ?_;refine aH ?_;refine rgN<|kad O O hadd<|kmv O<|aB ?_)
    exact ⟨_,⟨[(45,Lx (some ⟨eb,eo,none⟩) ex.length ecap),(46,Ln .i64 (ex.length:Nat)),(47,Ln .i64 (i+1:Nat))],[],X⟩,by omega,Le.of (by exact ⟨O,O,O,trivial⟩) (by exact trivial) (by exact O) (by exact O) (by repeat' (first|refine bR ?_ ?_|rfl|exact bT|exact bS|exact bU O)),i+1,by omega,O,hpre,O⟩
  · rw [if_neg he] at hpre
    rw [hpre]
    have hne:(encErr c != 0)=true:=by rw [bne_iff_ne];exact he
    generalize encErr c=ce at *
    (refine aA<|rgN<|klt O O (cK (by omega))<|aB<|aA<|aE O ?_;refine aH ?_;refine aA<|aG<|aA<|rgN<|aR O O bY (by omega) hio dM<|aW O hEX O hec dM<|kas O<|aB<|aA<|rgN<|kmv O<|kca O O hG<|kmv O<|kex O O ?_;refine kex O O<|kas O<|kas O<|aB<|aA<|rgN<|kmv O<|kne O O hne<|aB<|aE O ?_;refine aA<|rgN<|kmv O<|kas O<|aB<|aI ?_)
    exact ⟨[_],⟨O,trivial⟩,O⟩
set_option maxHeartbeats 3200000 in
theorem kCheck (p:Pg) (ad:Option Addr) (cap:Nat) (hin:RulesIn X ad p.rs) (hbig:p.rs.length<4611686018427387904) (hsz:sizeR p.rs):PSpec Tryz.prog X 44 [LPg p.va p.vb ad p.rs.length cap] (Ln .i64 (chkP p)):=by
  obtain ⟨va,vb,rs⟩:=p
  simp only at hin hbig hsz ⊢
  have v1:=kIsVersion X va
  have v2:=kIsVersion X vb
  refine cB Tryz.func44 rfl (by kernel_rfl) rfl rfl ?_
  intro C
  cases q1:verOk va with
  | false =>
    rw [q1] at v1
    rw [chkP_bad (by simp only;rw [q1,Bool.false_and];decide)]
    (refine aA<|rgN<|aL O O O dM<|kas O<|aB<|aA<|aA<|rgN<|kfa O O ?_;refine kl1 O O O<|kca O O v1<|aV O O dM<|kmv O<|aC O O O<|aC O O O<|aC O O O<|aC O O O<|kpt O O<|aB<|aE O ?_;refine aA<|rgN<|kas O<|aB<|aI ?_)
    exact ⟨[_],⟨O,trivial⟩,O⟩
  | true =>
  rw [q1] at v1
  cases q2:verOk vb with
  | false =>
    rw [q2] at v2
    rw [chkP_bad (by simp only;rw [q2,Bool.and_false];decide)]
    (refine aA<|rgN<|aL O O O dM<|kas O<|aB<|aA<|aA<|rgN<|kfa O O ?_;refine kl1 O O O<|kca O O v1<|aV O O dM<|kmv O<|aN O O (dN O O) ?_;refine aO O O O (dN O O) ?_;refine gca O O v2 O O<|aV O O (dN O O) ?_;refine kpf O O<|aB<|aE O ?_;refine aA<|rgN<|kas O<|aB<|aI ?_)
    exact ⟨[_],⟨O,trivial⟩,O⟩
  | true =>
  rw [q2] at v2
  rw [chkP_good (by simp only;rw [q1,q2];rfl)]
  (refine aA<|rgN<|aL O O O dM<|kas O<|aB<|aA<|aA<|rgN<|kfa O O ?_;refine kl1 O O O<|kca O O v1<|aV O O dM<|kmv O<|aN O O (dN O O) ?_;refine aO O O O (dN O O) ?_;refine gca O O v2 O O<|aV O O (dN O O) ?_;refine kpf O O<|aB<|aF O ?_;refine aH ?_;refine aA<|rgN<|kas O<|aB<|aA<|aA<|rgN<|kfa O O ?_;refine kl1 O O O<|aQ O bY O dM ?_;refine kmv O<|aB<|aG ?_)
  simp only
  refine cF (fun m σ=>∃ i:Nat,i≤rs.length∧m=rs.length-i∧chkRs 0 rs=chkRs (lastR rs i) (rs.drop i)∧0≤lastR rs i∧σ=⟨[(3,Ln .i64 (lastR rs i)),(18,Lx ad rs.length cap),(19,Ln .i64 (rs.length:Nat)),(20,Ln .i64 (i:Nat))],[],X⟩) rs.length
    ⟨⟨[(3,Ln .i64 (lastR rs 0)),(18,Lx ad rs.length cap),(19,Ln .i64 (rs.length:Nat)),(20,Ln .i64 (0:Nat))],[],X⟩,Le.of (by exact ⟨rfl,rfl,rfl,rfl,trivial⟩) (by exact trivial) (by exact rfl) (by exact rfl) (by repeat' (first|refine bR ?_ ?_|rfl|exact bT|exact bS|exact bU rfl)),0,by omega,by omega,rfl,Int.le_refl 0,rfl⟩ ?_
  rintro m σ ⟨i,hi,rfl,hpre,hlast,rfl⟩
  by_cases hlt:i<rs.length
  case neg =>
    rw [hpre,List.drop_eq_nil_of_le (by omega)]
    (refine aA<|rgN<|klt O O (cJ (by omega))<|aB<|aA<|aF O ?_;refine aJ<|aA<|rgN<|kas O<|aB<|aI ?_)
    exact ⟨[_],⟨O,trivial⟩,O⟩
  obtain ⟨r,hr⟩:∃ r,rs[i]? = some r:=⟨_,cS hlt⟩
  obtain ⟨blk,off,arr,el,fr,ead,ecap,rfl,hX,hsiz,hcs,g1,g2,g3,hE⟩:=hin.get hr
  have hio:off+Int.toNat (i:Int)*3=off+i*3:=by simp
  obtain ⟨hz1,hz2⟩:=hsz r (cX hr)
  have hR:=kCheckRule X r ead ecap hE (by omega) hz2 (lastR rs i) hlast
  rw [drop_at hr,chkRs_cons] at hpre
  by_cases he:chkR r (lastR rs i)=0
  · rw [if_pos he] at hpre
    have hgt:=(chkR_zero he).2.2.1
    rw [he] at hR
    have hnl:=lastR_at hr
    have hadd:IntKind.i64.wrap (((i:Nat):Int)+1)=((i+1:Nat):Int):=by rw [cD (by omega)];omega
    (refine aA<|rgN<|klt O O (cK (by omega))<|aB<|aA<|aE O ?_;refine aH ?_;refine aA<|aG<|aA<|rgN<|aR O O bY (by omega) hio dM<|aY O hX (by kernel_rfl) hsiz hcs dM<|aP O dM ?_;refine aM O O O O O O dM ?_;refine aB<|aA<|aA<|rgN<|aK O O O dM ?_;refine kmv O<|kca O O hR<|kas O<|aB<|aA<|rgN<|kmv O<|kne O O (r:=false) O<|aB<|aF O ?_;refine aH ?_;refine rgN<|kfa O O ?_;refine kl1 O O O<|kas O<|aB<|rgN<|kad O O hadd<|kmv O<|aB ?_)
    rw [← hnl] at hpre hgt ⊢
    exact ⟨_,⟨[(3,Ln .i64 (lastR rs (i+1))),(18,Lx (some ⟨blk,off,none⟩) rs.length cap),(19,Ln .i64 (rs.length:Nat)),(20,Ln .i64 (i+1:Nat))],[],X⟩,by omega,Le.of (by exact ⟨O,O,O,O,trivial⟩) (by exact trivial) (by exact O) (by exact O) (by repeat' (first|refine bR ?_ ?_|rfl|exact bT|exact bS|exact bU O)),i+1,by omega,O,hpre,by omega,O⟩
  · rw [if_neg he] at hpre
    rw [hpre]
    have hne:(chkR r (lastR rs i) != 0)=true:=by rw [bne_iff_ne];exact he
    generalize chkR r (lastR rs i)=ce at *
    (refine aA<|rgN<|klt O O (cK (by omega))<|aB<|aA<|aE O ?_;refine aH ?_;refine aA<|aG<|aA<|rgN<|aR O O bY (by omega) hio dM<|aY O hX (by kernel_rfl) hsiz hcs dM<|aP O dM ?_;refine aM O O O O O O dM ?_;refine aB<|aA<|aA<|rgN<|aK O O O dM ?_;refine kmv O<|kca O O hR<|kas O<|aB<|aA<|rgN<|kmv O<|kne O O hne<|aB<|aE O ?_;refine aA<|rgN<|kmv O<|kas O<|aB<|aI ?_)
    exact ⟨[_],⟨O,trivial⟩,O⟩
end Go.Proofs.YtnfbccfghgmfiaaGreat
end
section
namespace Go.Proofs.YtnfbccfghgmfiaaGreat
open Go Go.Lg Go.Lg.Fld
set_option maxRecDepth 100000
abbrev Ext (X Y:Nat→Option Obj):Prop := ∀ b o,X b=some o→Y b=some o
variable (X:Nat→Option Obj)
end Go.Proofs.YtnfbccfghgmfiaaGreat
end
section
namespace Go.Proofs.YtnfbccfghgmfiaaGreat
open Go Go.Lg Go.Lg.Fml Go.Lg.Fld Go.Lg.Arith
set_option maxRecDepth 100000
def RowV (Y:Nat→Option Obj) (vs:List Value) (fs:List (List Nm)):Prop:=vs.length=fs.length∧∀ (i:Nat) (r:List Nm),fs[i]? = some r→∃ (ad:Option Addr) (cap:Nat),vs[i]? = some (.slice ad r.length cap)∧NumsIn Y ad r
variable (X:Nat→Option Obj)
end Go.Proofs.YtnfbccfghgmfiaaGreat
end
section
namespace Go.Proofs.YtnfbccfghgmfiaaGreat
open Go Go.Lg Go.Lg.Fml Go.Lg.Fld Go.Lg.Arith
set_option maxRecDepth 100000
abbrev SPg (va vb:Int) (ad:Option Addr) (n cap:Nat):SV:=.agg [.val (.int .i64 va),.val (.int .i64 vb),.val (.slice ad n cap)]
def int1 (l:List Int):List Value:=l.map fun n=>.int .i64 n
def cdR (t:TypeId) (cs:List (List Ins)):Rsc:=⟨fun ρ H=>(∃ (arr:Array Value) (fr:Nat×Nat),H ρ.1=some (.cells arr t fr)∧arr.size=ρ.2)∧CodesIn H (some ⟨ρ.1,0,none⟩) cs⟩
abbrev cdB (k:Nat) (cs:List (List Ins)):Nat×Option Box:=(k,some ⟨0,[],.res (cdR 50 cs)⟩)
section
variable {n:Nat} {C:Ctx} {X:Nat→Option Obj} {s:List (Nat×LV)} {bx:List (Nat×Option Box)} {k:Nat}
theorem cd_shut {Mid:St→Prop} {t:TypeId} {cs:List (List Ins)} {H:Nat→Option Obj} {vs:List Value} (hO:OwnedM C X H) (G:FormsH H vs cs)
    (h:Leads n C Mid ⟨s,(k,some ⟨0,[],.res (cdR t cs)⟩)::bx,X⟩):Leads n C Mid ⟨s,(k,some ⟨t,vs.map .val,false⟩)::bx,joinM X H⟩:=by
  refine Leads.closeRes (vals:=vs) hO (fun ρ fr h1 h2 h3 => ?_) h
  refine ⟨⟨_,fr,cH _ _ _,by rw [h3];simp⟩,?_⟩
  exact forms_block (sp:=[]) (cH _ _ _) (by simp) (G.mono (cE h1))
end
def nilV (k:Nat):List Value:=List.replicate k (.slice none 0 0)
theorem nilV_succ (k:Nat):nilV (k+1) = .slice none 0 0::nilV k:=List.replicate_succ
theorem nilV_len (k:Nat):(nilV k).length=k:=cY
theorem nilV_splice {vs:List Value} {k i:Nat} {c:CV} (hi:vs.length=i):splice ((vs++nilV (k+1)).map CV.val) i [c]=vs.map CV.val++c::(nilV k).map CV.val:=by
  unfold splice
  rw [nilV_succ]
  simp only [dC,dH]
  have hml:(vs.map CV.val).length=i:=by rw [cR,hi]
  generalize vs.map CV.val=R at *
  rw [← hml,List.take_left,List.drop_length_add_append]
  simp
variable (X:Nat→Option Obj)
abbrev Vp' (b:Nat):LV:=.sv (.one (.val (.pointer (some ⟨b,0,none⟩))))
theorem kIndex (ad:Option Addr) (cap:Nat) (rs:List Rl) (hin:RulesIn X ad rs) (hbig:rs.length<4611686018427387904) (f:FuncId) (caps:List Value) (p:Rl→Bool)
    (hp:∀ r∈rs,∀ ead ecap,PSpec Tryz.prog X f ([LPg r.nw r.old ead r.ex.length ecap]++caps.map fun v=>.sv (.one (.val v))) (Lb (p r))):
    PSpec Tryz.prog X 61 [Lx ad rs.length cap,Lf f caps] (Ln .i64 (findI p rs)):=by
  refine cB Tryz.func61 rfl (by kernel_rfl) rfl rfl ?_
  intro C
  (refine aA<|rgN<|kas O<|aB<|aA<|aA<|rgN<|kmv O<|aQ O bY O dM ?_;refine kmv O<|aB<|aG ?_)
  refine cF (fun m σ=>∃ i:Nat,i≤rs.length∧m=rs.length-i∧(∀ (j:Nat) (y:Rl),j<i→rs[j]? = some y→p y=false)∧σ=⟨[(0,Lx ad rs.length cap),(1,Lf f caps),(7,Ln .i64 (rs.length:Nat)),(8,Ln .i64 (i:Nat))],[],X⟩) rs.length
    ⟨_,Le.of (by exact ⟨rfl,rfl,rfl,rfl,trivial⟩) (by exact trivial) (by exact rfl) (by exact rfl) (by exact rfl),0,by omega,by omega,fun j y hj=>absurd hj (by omega),rfl⟩ ?_
  rintro m σ ⟨i,hi,rfl,hpre,rfl⟩
  by_cases hlt:i<rs.length
  · obtain ⟨c,hc⟩:∃ c,rs[i]? = some c:=⟨_,cS hlt⟩
    obtain ⟨blk,off,arr,el,fr,fad,fcap,rfl,hX,hsz,hcs,_,_,_,hF⟩:=hin.get hc
    have hio:off+Int.toNat (i:Int)*3=off+i*3:=by simp
    have hP:=hp c (cX hc) fad fcap
    cases hpc:p c with
    | true =>
      rw [hpc] at hP
      rw [findI_some hpre hc hpc]
      (refine aA<|rgN<|klt O O (cK (by omega))<|aB<|aA<|aE O ?_;refine aH ?_;refine aA<|aG<|aA<|rgN<|kmv O<|kas O<|aB<|aA<|rgN<|kmv O<|kmv O<|kmv O<|aR O O bY (by omega) hio dM<|aY O hX (by kernel_rfl) hsz hcs dM ?_;refine K.callF O O O hP dM ?_;refine aB<|aE O ?_;refine aA<|rgN<|kmv O<|kas O<|aB<|aI ?_)
      exact ⟨[_],⟨O,trivial⟩,O⟩
    | false =>
      rw [hpc] at hP
      (refine aA<|rgN<|klt O O (cK (by omega))<|aB<|aA<|aE O ?_;refine aH ?_;refine aA<|aG<|aA<|rgN<|kmv O<|kas O<|aB<|aA<|rgN<|kmv O<|kmv O<|kmv O<|aR O O bY (by omega) hio dM<|aY O hX (by kernel_rfl) hsz hcs dM ?_;refine K.callF O O O hP dM ?_;refine aB<|aF O ?_;refine aH ?_;refine rgN<|kad O O (cD (by omega))<|kmv O<|aB ?_)
      exact ⟨_,_,by omega,Le.of (by exact ⟨O,O,O,O,trivial⟩) (by exact trivial) (by exact O) (by exact O) (by exact O),i+1,by omega,O,(fun j y hj hy=>by
        by_cases e:j=i
        · subst e;rw [hc] at hy;cases hy;exact hpc
        · exact hpre j y (by omega) hy),rfl⟩
  · rw [findI_none fun j y hy=>hpre j y (by have:=(List.getElem?_eq_some_iff.1 hy).1;omega) hy]
    (refine aA<|rgN<|klt O O (cJ (by omega))<|aB<|aA<|aF O ?_;refine aJ<|aA<|rgN<|kas O<|aB<|aI ?_)
    exact ⟨[_],⟨O,trivial⟩,O⟩
end Go.Proofs.YtnfbccfghgmfiaaGreat
end
section
namespace Go.Proofs.YtnfbccfghgmfiaaGreat
open Go Go.Lg Go.Lg.Fml Go.Lg.Fld Go.Lg.Arith
set_option maxRecDepth 100000
theorem firstE_shift {f:Nat→Int}:∀ n i,firstE f (i+1) n=firstE (fun j=>f (j+1)) i n
  | 0,_=>rfl
  | n+1,i=>by
    show (if f (i+1)=0 then firstE f (i+1+1) n else f (i+1))=(if f (i+1)=0 then firstE (fun j=>f (j+1)) (i+1) n else f (i+1))
    rw [firstE_shift n (i+1)]
theorem seqE_cons {α:Type} {g:α→Int} {x:α} {t:List α}:seqE g (x::t)=if g x=0 then seqE g t else g x:=by
  show (if atE g (x::t) 0=0 then firstE (atE g (x::t)) (0+1) t.length else atE g (x::t) 0)=_
  rw [firstE_shift]
  rfl
theorem seqE_uses {fs:List Fl} {f:Fl}:∀ l:List Ins,seqE (findE fs f) (usesX l)=seqE (findE fs f) l
  | []=>rfl
  | x::t=>by
    have ih:=seqE_uses (fs:=fs) (f:=f) t
    have h1:usesX (x::t)=if (x.op==2||x.op==3)=true then x::usesX t else usesX t:=List.filter_cons
    rw [h1,seqE_cons]
    by_cases h:x.op=2∨x.op=3
    · rw [if_pos (by simpa using h),seqE_cons,ih]
    · rw [if_neg (by simpa using h),findE_skip h,if_pos rfl,ih]
theorem uses_mem {l:List Ins} {x:Ins} (h:x∈usesX l):x∈l∧(x.op=2∨x.op=3):=by
  unfold usesX at h
  rw [List.mem_filter] at h
  exact ⟨h.1,by simpa using h.2⟩
def hdB:List Ins→Bool
  | [x]=>x.op==2||x.op==3||(x.op==1&&decide (x.k=(false,0)))
  | _=>false
theorem refE_hd {f:Fl} {l:List Ins} (h:chkX l=0):refE f l=if f.kind=10∧hdB l=false then 8 else 0:=by
  match l,h with
  | [],h=>exact absurd rfl (chkX_ne h)
  | [x],h =>
    have hd:=(chkX_zero h).2
    have ho:=(okI_facts (chkX_ok h x (List.mem_singleton.2 rfl))).1
    have ht:takes x.op=0:=by
      by_cases e:takes x.op=0
      · exact e
      · exfalso
        unfold dep at hd
        rw [if_neg (by omega)] at hd
        cases hd
    have h4:x.op≤4:=by
      unfold takes at ht
      by_cases e:x.op≤4
      · exact e
      · exfalso
        by_cases a1:x.op=16
        · rw [if_pos a1] at ht;cases ht
        · rw [if_neg a1] at ht
          by_cases a2:x.op=10∨x.op=15
          · rw [if_pos a2] at ht;cases ht
          · rw [if_neg a2,if_pos (by omega)] at ht;cases ht
    show (if f.kind=10∧(x.op=4∨(x.op=1∧x.k≠(false,0))) then (8:Int) else 0)=if f.kind=10∧(x.op==2||x.op==3||(x.op==1&&decide (x.k=(false,0))))=false then 8 else 0
    have hi:(x.op=4∨(x.op=1∧x.k≠(false,0)))↔(x.op==2||x.op==3||(x.op==1&&decide (x.k=(false,0))))=false:=by
      by_cases hk:x.k=(false,0)
      · simp [hk];omega
      · simp [hk];omega
    by_cases hf:f.kind=10
    · by_cases hb:x.op=4∨(x.op=1∧x.k≠(false,0))
      · rw [if_pos ⟨hf,hb⟩,if_pos ⟨hf,hi.1 hb⟩]
      · rw [if_neg (fun h=>hb h.2),if_neg (fun h=>hb (hi.2 h.2))]
    · rw [if_neg (fun h=>hf h.1),if_neg (fun h=>hf h.1)]
  | x::y::t,h =>
    show (if f.kind=10 then (8:Int) else 0)=if f.kind=10∧hdB (x::y::t)=false then 8 else 0
    by_cases hf:f.kind=10
    · rw [if_pos hf,if_pos ⟨hf,rfl⟩]
    · rw [if_neg hf,if_neg (fun h=>hf h.1)]
abbrev Ax (x:Ins):LV:=.sv (.agg ((insV x).map CV.val))
def heB (g f:Fl) (x:Ins):Bool:=if x.op=2 then decide (x.b<g.count) else decide (f.count≤g.count)
variable (X:Nat→Option Obj)
theorem yIsRef (f:Fl):PSpec Tryz.prog X 22 [Fx f] (Lb (decide (f.kind=10))):=by
  refine cB Tryz.func22 rfl (by kernel_rfl) rfl rfl ?_
  intro C
  (refine aA<|rgN<|aL O O O dM<|kas O<|aB<|aA<|rgN<|kfa O O ?_;refine kl1 O O O<|keq O O (r:=decide (f.kind=10)) (beq_dec f.kind 10)<|kas O<|aB<|aI ?_)
  exact ⟨[_],⟨O,trivial⟩,O⟩
theorem yHas (g f:Fl) (x:Ins):PSpec Tryz.prog X 38 [Fx g,Fx f,Ax x] (Lb (heB g f x)):=by
  refine cB Tryz.func38 rfl (by kernel_rfl) rfl rfl ?_
  intro C
  unfold heB
  by_cases c2:x.op=2
  · rw [if_pos c2]
    (refine aA<|rgN<|aL O O O dM<|aL O O O dM<|aL O O O dM<|kas O<|aB<|aA<|aA<|rgN<|kfa O O ?_;refine kl1 O O O<|keq O O (r:=true) (cP c2)<|aB<|aE O ?_;refine aA<|rgN<|kfa O O ?_;refine kl1 O O O<|kfa O O ?_;refine kl1 O O O<|klt O O O<|kas O<|aB<|aI ?_)
    exact ⟨[_],⟨O,trivial⟩,O⟩
  · rw [if_neg c2]
    (refine aA<|rgN<|aL O O O dM<|aL O O O dM<|aL O O O dM<|kas O<|aB<|aA<|aA<|rgN<|kfa O O ?_;refine kl1 O O O<|keq O O (r:=false) (cM c2)<|aB<|aF O ?_;refine aH ?_;refine aA<|rgN<|kfa O O ?_;refine kl1 O O O<|kfa O O ?_;refine kl1 O O O<|bD O O O dM<|kas O<|aB<|aI ?_)
    exact ⟨[_],⟨O,trivial⟩,O⟩
theorem yUse (c:Cp) (f:Fl) (x:Ins) (cad:Option Addr) (ccap:Nat) (hF:FieldsIn X cad c.fs) (hfl:c.fs.length<4611686018427387904) (h23:x.op=2∨x.op=3) (ha0:0≤x.a):
    PSpec Tryz.prog X 21 [Cx c cad ccap,Fx f,Ax x] (Ln .i64 (findE c.fs f x)):=by
  refine cB Tryz.func21 rfl (by kernel_rfl) rfl rfl ?_
  intro C
  cases hg:c.fs[x.a.toNat]? with
  | none =>
    have hge:=List.getElem?_eq_none_iff.1 hg
    rw [findE_out h23 hg]
    (refine aA<|rgN<|aL O O O dM<|aL O O O dM<|aL O O O dM<|kas O<|aB<|aA<|aA<|rgN<|kfa O O ?_;refine kl1 O O O<|kfa O O ?_;refine kl1 O O O<|aQ O bY O dM ?_;refine bD O O (cK (by omega)) dM<|aB<|aE O ?_;refine aA<|rgN<|kas O<|aB<|aI ?_)
    exact ⟨[_],⟨O,trivial⟩,O⟩
  | some g =>
  have hlg:=(List.getElem?_eq_some_iff.1 hg).1
  have hE:=findE_at (f:=f) h23 hg
  obtain ⟨fb,fo,farr,fel,ffr,rfl,hFX,hFz,hFc,_⟩:=hF.cells hg
  have hio3:fo+Int.toNat x.a*3=fo+x.a.toNat*3:=rfl
  have hH:=yHas X g f x
  cases hb:heB g f x with
  | false =>
    rw [hb] at hH
    have h3:(x.op=2∧g.count≤x.b)∨(x.op=3∧g.count<f.count):=by
      unfold heB at hb
      by_cases c2:x.op=2
      · rw [if_pos c2] at hb
        have:=of_decide_eq_false hb
        exact .inl ⟨c2,by omega⟩
      · rw [if_neg c2] at hb
        have:=of_decide_eq_false hb
        exact .inr ⟨by omega,by omega⟩
    rw [if_pos h3] at hE
    rw [hE]
    (refine aA<|rgN<|aL O O O dM<|aL O O O dM<|aL O O O dM<|kas O<|aB<|aA<|aA<|rgN<|kfa O O ?_;refine kl1 O O O<|kfa O O ?_;refine kl1 O O O<|aQ O bY O dM ?_;refine bD O O (cJ (by omega)) dM<|aB<|aF O ?_;refine aH ?_;refine aA<|rgN<|kfa O O ?_;refine kl1 O O O<|kfa O O ?_;refine kl1 O O O<|aR O O bY (by omega) hio3 dM<|aY O hFX (by kernel_rfl) hFz hFc dM<|aP O dM ?_;refine aM O O O O O O dM ?_;refine aB<|aA<|aG<|aA<|rgN<|aK O O O dM ?_;refine aK O O O dM ?_;refine aK O O O dM ?_;refine kca O O hH<|aV O O dM<|kas O<|aB<|aE O ?_;refine aA<|rgN<|kas O<|aB<|aI ?_)
    exact ⟨[_],⟨O,trivial⟩,O⟩
  | true =>
  rw [hb] at hH
  have h3:¬((x.op=2∧g.count≤x.b)∨(x.op=3∧g.count<f.count)):=by
    unfold heB at hb
    by_cases c2:x.op=2
    · rw [if_pos c2] at hb
      have:=of_decide_eq_true hb
      omega
    · rw [if_neg c2] at hb
      have:=of_decide_eq_true hb
      omega
  rw [if_neg h3] at hE
  have hg1:=yIsRef X g
  have hg2:=yIsRef X f
  by_cases hk:(g.kind=10)=(f.kind=10)
  · rw [if_pos hk] at hE
    rw [hE]
    have hn:(decide (g.kind=10) != decide (f.kind=10))=false:=by simp [hk]
    (refine aA<|rgN<|aL O O O dM<|aL O O O dM<|aL O O O dM<|kas O<|aB<|aA<|aA<|rgN<|kfa O O ?_;refine kl1 O O O<|kfa O O ?_;refine kl1 O O O<|aQ O bY O dM ?_;refine bD O O (cJ (by omega)) dM<|aB<|aF O ?_;refine aH ?_;refine aA<|rgN<|kfa O O ?_;refine kl1 O O O<|kfa O O ?_;refine kl1 O O O<|aR O O bY (by omega) hio3 dM<|aY O hFX (by kernel_rfl) hFz hFc dM<|aP O dM ?_;refine aM O O O O O O dM ?_;refine aB<|aA<|aG<|aA<|rgN<|aK O O O dM ?_;refine aK O O O dM ?_;refine aK O O O dM ?_;refine kca O O hH<|aV O O dM<|kas O<|aB<|aF O ?_;refine aA<|rgD mixed<|aK O O O dM ?_;refine kca O O hg1<|aK O O O dM ?_;refine kca O O hg2<|K.neqB O O hn dM<|kas O<|aB<|rgA ?_;refine aF O ?_;refine aH ?_;refine aA<|rgN<|kas O<|aB<|aI ?_)
    exact ⟨[_],⟨O,trivial⟩,O⟩
  · rw [if_neg hk] at hE
    rw [hE]
    have hn:(decide (g.kind=10) != decide (f.kind=10))=true:=by
      rw [bne_iff_ne]
      intro h
      exact hk (by simpa using h)
    (refine aA<|rgN<|aL O O O dM<|aL O O O dM<|aL O O O dM<|kas O<|aB<|aA<|aA<|rgN<|kfa O O ?_;refine kl1 O O O<|kfa O O ?_;refine kl1 O O O<|aQ O bY O dM ?_;refine bD O O (cJ (by omega)) dM<|aB<|aF O ?_;refine aH ?_;refine aA<|rgN<|kfa O O ?_;refine kl1 O O O<|kfa O O ?_;refine kl1 O O O<|aR O O bY (by omega) hio3 dM<|aY O hFX (by kernel_rfl) hFz hFc dM<|aP O dM ?_;refine aM O O O O O O dM ?_;refine aB<|aA<|aG<|aA<|rgN<|aK O O O dM ?_;refine aK O O O dM ?_;refine aK O O O dM ?_;refine kca O O hH<|aV O O dM<|kas O<|aB<|aF O ?_;refine aA<|rgD mixed<|aK O O O dM ?_;refine kca O O hg1<|aK O O O dM ?_;refine kca O O hg2<|K.neqB O O hn dM<|kas O<|aB<|rgA ?_;refine aE O ?_;refine aA<|rgN<|kas O<|aB<|aI ?_)
    exact ⟨[_],⟨O,trivial⟩,O⟩
theorem yIsHandle (l:List Ins) (ad:Option Addr) (cap:Nat) (hin:InsIn X ad l) (hl:l.length<4611686018427387904):
    PSpec Tryz.prog X 23 [Lx ad l.length cap] (Lb (hdB l)):=by
  refine cB Tryz.func23 rfl (by kernel_rfl) rfl rfl ?_
  intro C
  by_cases h1:l.length=1
  case neg =>
    have hr:hdB l=false:=by
      unfold hdB
      split
      · exact absurd rfl h1
      · rfl
    rw [hr]
    (refine aA<|rgN<|kas O<|aB<|aA<|aA<|rgN<|kmv O<|aQ O bY O dM ?_;refine kne O O (r:=true) (cO (by omega))<|aB<|aE O ?_;refine aA<|rgN<|kas O<|aB<|aI ?_)
    exact ⟨[_],⟨O,trivial⟩,O⟩
  obtain ⟨x,hx⟩:∃ x,l[0]? = some x:=⟨_,cS (by omega)⟩
  have hl1:l=[x]:=by
    match l,h1,hx with
    | [y],_,hx=>simp only [List.getElem?_cons_zero,Option.some.injEq] at hx;rw [hx]
  obtain ⟨blk,off,arr,el,fr,rfl,hX,hsz,hcs,g0,g1,g2,g3⟩:=hin.six hx
  obtain ⟨_,_,_,hk2⟩:=hin.small x (cX hx)
  have h00:off+Int.toNat 0*6=off+0*6:=by simp
  have hr:hdB l=(x.op==2||x.op==3||(x.op==1&&decide (x.k=(false,0)))):=by rw [hl1];rfl
  rw [hr]
  clear hr hl1
  by_cases c2:x.op=2
  · have e:(x.op==2||x.op==3||(x.op==1&&decide (x.k=(false,0))))=true:=by rw [c2];rfl
    rw [e]
    (refine aA<|rgN<|kas O<|aB<|aA<|aA<|rgN<|kmv O<|aQ O bY O dM ?_;refine kne O O (r:=false) (cN (by omega))<|aB<|aF O ?_;refine aH ?_;refine aA<|aA<|rgN<|kmv O<|aR O O bY (by omega) h00 dM<|aY O hX (by kernel_rfl) hsz hcs dM<|aP O dM ?_;refine aM O O O O O O dM ?_;refine aB<|aA<|rgN<|kfa O O ?_;refine kl1 O O O<|aB<|aG<|aA<|aA<|rgN<|keq O O (r:=true) (cP c2)<|kas O<|aB<|aE O ?_;refine aH ?_;refine aE O ?_;refine aA<|rgN<|kas O<|aB<|aI ?_)
    exact ⟨[_],⟨O,trivial⟩,O⟩
  by_cases c3:x.op=3
  · have e:(x.op==2||x.op==3||(x.op==1&&decide (x.k=(false,0))))=true:=by rw [c3];rfl
    rw [e]
    (refine aA<|rgN<|kas O<|aB<|aA<|aA<|rgN<|kmv O<|aQ O bY O dM ?_;refine kne O O (r:=false) (cN (by omega))<|aB<|aF O ?_;refine aH ?_;refine aA<|aA<|rgN<|kmv O<|aR O O bY (by omega) h00 dM<|aY O hX (by kernel_rfl) hsz hcs dM<|aP O dM ?_;refine aM O O O O O O dM ?_;refine aB<|aA<|rgN<|kfa O O ?_;refine kl1 O O O<|aB<|aG<|aA<|aA<|rgN<|keq O O (r:=false) (cM c2)<|kas O<|aB<|aF O ?_;refine rgN<|keq O O (r:=true) (cP c3)<|kas O<|aB<|aE O ?_;refine aA<|rgN<|kas O<|aB<|aI ?_)
    exact ⟨[_],⟨O,trivial⟩,O⟩
  have e:(x.op==2||x.op==3||(x.op==1&&decide (x.k=(false,0))))=(x.op==1&&decide (x.k=(false,0))):=by
    rw [cM c2,cM c3];rfl
  rw [e]
  by_cases c1:x.op=1
  · rw [cP c1,Bool.true_and]
    obtain ⟨op,a,b,kb,kN⟩:=x
    simp only at hk2 g0 g1 g2 g3 hcs c2 c3 c1 ⊢
    have q:=eqI (b:=kb) (b':=false) (h:=kN/18446744073709551616) (h':=0) (l:=kN%18446744073709551616) (l':=0) _ (eqZ hk2)
    (refine aA<|rgN<|kas O<|aB<|aA<|aA<|rgN<|kmv O<|aQ O bY O dM ?_;refine kne O O (r:=false) (cN (by omega))<|aB<|aF O ?_;refine aH ?_;refine aA<|aA<|rgN<|kmv O<|aR O O bY (by omega) h00 dM<|aY O hX (by kernel_rfl) hsz hcs dM<|aP O dM ?_;refine aM O O O O O O dM ?_;refine aB<|aA<|rgN<|kfa O O ?_;refine kl1 O O O<|aB<|aG<|aA<|aA<|rgN<|keq O O (r:=false) (cM c2)<|kas O<|aB<|aF O ?_;refine rgN<|keq O O (r:=false) (cM c3)<|kas O<|aB<|aF O ?_;refine aA<|rgN<|keq O O (r:=true) (cP c1)<|kas O<|aB<|aE O ?_;refine aA<|rgN<|kfa O O ?_;refine bJ O O O (by exact nl3 O O O O) dM ?_;refine aT O O (by exact O) (by exact nl3 O O O O) dM ?_;refine bP O O O O (by kernel_rfl) q (.inl ⟨O,O⟩) dM<|kas O<|aB<|aI ?_)
    exact ⟨[_],⟨O,trivial⟩,O⟩
  · rw [cM c1,Bool.false_and]
    (refine aA<|rgN<|kas O<|aB<|aA<|aA<|rgN<|kmv O<|aQ O bY O dM ?_;refine kne O O (r:=false) (cN (by omega))<|aB<|aF O ?_;refine aH ?_;refine aA<|aA<|rgN<|kmv O<|aR O O bY (by omega) h00 dM<|aY O hX (by kernel_rfl) hsz hcs dM<|aP O dM ?_;refine aM O O O O O O dM ?_;refine aB<|aA<|rgN<|kfa O O ?_;refine kl1 O O O<|aB<|aG<|aA<|aA<|rgN<|keq O O (r:=false) (cM c2)<|kas O<|aB<|aF O ?_;refine rgN<|keq O O (r:=false) (cM c3)<|kas O<|aB<|aF O ?_;refine aA<|rgN<|keq O O (r:=false) (cM c1)<|kas O<|aB<|aF O ?_;refine aH ?_;refine aA<|rgN<|kas O<|aB<|aI ?_)
    exact ⟨[_],⟨O,trivial⟩,O⟩
set_option maxHeartbeats 6400000 in
theorem yFormula (c:Cp) (f:Fl) (l:List Ins) (cad ad:Option Addr) (ccap cap:Nat) (hF:FieldsIn X cad c.fs) (hin:InsIn X ad l) (hbig:l.length<1152921504606846976) (hfl:c.fs.length<4611686018427387904):
    PSpec Tryz.prog X 11 [Cx c cad ccap,Fx f,Lx ad l.length cap] (Ln .i64 (fmE c.fs f l)):=by
  have hC:=gCheck X l ad cap hin hbig
  refine cB Tryz.func11 rfl (by kernel_rfl) rfl rfl ?_
  intro C
  unfold fmE
  by_cases h0:chkX l=0
  case neg =>
    rw [if_neg h0]
    generalize chkX l=e at *
    (refine aA<|rgN<|aL O O O dM<|aL O O O dM<|kas O<|aB<|aA<|aA<|rgN<|kmv O<|kca O O hC<|kas O<|aB<|aA ?_;refine rgN<|kmv O<|kne O O (cO h0)<|aB<|aE O ?_;refine aA<|rgN<|kmv O<|kas O<|aB<|aI ?_)
    exact ⟨[_],⟨O,trivial⟩,O⟩
  rw [h0] at hC
  have hchk:=chkX_ok h0
  have h64:=(chkX_zero h0).1
  have hU:=gUses' X l ad cap hin (by omega)
  have hul:=uses_le l
  rw [if_pos h0,refE_hd h0,← seqE_uses (fs:=c.fs) (f:=f) l]
  (refine aA<|rgN<|aL O O O dM<|aL O O O dM<|kas O<|aB<|aA<|aA<|rgN<|kmv O<|kca O O hC<|kas O<|aB<|aA ?_;refine rgN<|kmv O<|kne O O (r:=false) O<|aB<|aF O ?_;refine aH ?_;refine aA<|aA<|rgN<|kmv O<|bE [(1000001,601)] (.sv (.one (.slc 601 0 (usesX l).length 6))) [(601,some ⟨66,(inssV (usesX l)).map .val,true⟩)] (hU) O O (by exact trivial) O O O O O (by exact (.box O (bW _ _ _ _) .nil)) dM<|K.lenSlc O bY O dM ?_;refine kmv O<|aB<|aG ?_)
  refine LWP.le (σ':=⟨[(17,.sv (.one (.slc 601 0 (usesX l).length 6))),(2,Lx ad l.length cap),(3,Lp 3),(4,Lp 4),(18,Ln .i64 ((usesX l).length:Nat)),(19,Ln .i64 0)],[(601,some ⟨66,(inssV (usesX l)).map .val,true⟩),flB 4 f,cpB 3 c cad ccap],X⟩) (Le.of (by exact ⟨O,O,O,O,O,O,trivial⟩) (by exact ⟨O,O,O,trivial⟩) (by exact O) (by exact O) (by repeat' (first|refine bR ?_ ?_|rfl|exact bT|exact bS|exact bU O))) ?_
  refine LWP.freeze O O O fun ub uc ua uf hn _ _ _ hsp => ?_
  have hum:∀ x∈usesX l,smallI x:=fun x hx=>hin.small x (uses_mem hx).1
  have hUI:=ins_in (cH X ub (.cells ua 66 uf)) hum hsp
  have hXY:=cE (o:=.cells ua 66 uf) hn
  replace hF:=hF.mono hXY
  have hH:=yIsHandle _ l ad cap (hin.mono hXY) (by omega)
  have huse:∀ x∈usesX l,(x.op=2∨x.op=3)∧0≤x.a:=fun x hx=>⟨(uses_mem hx).2,(okI_facts (hchk x (uses_mem hx).1)).2.2.1.1⟩
  clear hin hC hU hsp hn hchk hum
  generalize withBlock X ub (.cells ua 66 uf)=Y at *
  generalize (some ⟨ub,0,none⟩:Option Addr)=uad at *
  generalize usesX l=u at *
  have hR:=yIsRef Y f
  refine cF (fun m σ=>∃ i:Nat,i≤u.length∧m=u.length-i∧(∀ j,0≤j→j<i→atE (findE c.fs f) u j=0)∧σ=⟨[(2,Lx ad l.length cap),(3,Lp 3),(4,Lp 4),(17,Lx uad u.length uc),(18,Ln .i64 (u.length:Nat)),(19,Ln .i64 (i:Nat))],[flB 4 f,cpB 3 c cad ccap],Y⟩) u.length
    ⟨_,Le.of (by exact ⟨rfl,rfl,rfl,rfl,rfl,rfl,trivial⟩) (by exact ⟨rfl,rfl,trivial⟩) (by exact rfl) (by exact rfl) (by repeat' (first|refine bR ?_ ?_|rfl|exact bT|exact bS|exact bU rfl)),0,by omega,by omega,fun j _ hj=>absurd hj (by omega),rfl⟩ ?_
  rintro m σ ⟨i,hi,rfl,hpre,rfl⟩
  by_cases hlt:i<u.length
  case neg =>
    have e:i=u.length:=by omega
    subst e
    have hs:seqE (findE c.fs f) u=0:=firstE_none fun j h1 h2=>hpre j h1 (by omega)
    rw [if_pos hs]
    by_cases hk:f.kind=10
    · rw [cK hk] at hR
      cases hd:hdB l with
      | true =>
        rw [hd] at hH
        rw [if_neg (fun h=>by cases h.2)]
        (refine aA<|rgN<|klt O O (cJ (by omega))<|aB<|aA<|aF O ?_;refine aJ<|aA<|aA<|rgN<|aK O O O dM ?_;refine kca O O hR<|kmv O<|gmv O O O<|gca O O hH O O<|aV O O (dN O O) ?_;refine kpt O O<|aB<|aF O ?_;refine aH ?_;refine aA<|rgN<|kas O<|aB<|aI ?_)
        exact ⟨[_],⟨O,trivial⟩,O⟩
      | false =>
        rw [hd] at hH
        rw [if_pos ⟨hk,rfl⟩]
        (refine aA<|rgN<|klt O O (cJ (by omega))<|aB<|aA<|aF O ?_;refine aJ<|aA<|aA<|rgN<|aK O O O dM ?_;refine kca O O hR<|kmv O<|gmv O O O<|gca O O hH O O<|aV O O (dN O O) ?_;refine kpt O O<|aB<|aE O ?_;refine aA<|rgN<|kas O<|aB<|aI ?_)
        exact ⟨[_],⟨O,trivial⟩,O⟩
    · rw [cJ hk] at hR
      rw [if_neg (fun h=>hk h.1)]
      (refine aA<|rgN<|klt O O (cJ (by omega))<|aB<|aA<|aF O ?_;refine aJ<|aA<|aA<|rgN<|aK O O O dM ?_;refine kca O O hR<|kmv O<|aC O O O<|aC O O O<|aC O O O<|kpf O O<|aB<|aF O ?_;refine aH ?_;refine aA<|rgN<|kas O<|aB<|aI ?_)
      exact ⟨[_],⟨O,trivial⟩,O⟩
  obtain ⟨x,hx⟩:∃ x,u[i]? = some x:=⟨_,cS hlt⟩
  obtain ⟨blk,off,arr,el,fr,rfl,hX,hsz,hcs,_⟩:=hUI.at hx
  have hio:off+Int.toNat (i:Int)*6=off+i*6:=by simp
  obtain ⟨h23,ha0⟩:=huse x (cX hx)
  have hadd:IntKind.i64.wrap ((i:Int)+1)=((i+1:Nat):Int):=by rw [cD (by omega)];omega
  have hq:=yUse Y c f x cad ccap hF hfl h23 ha0
  by_cases he:findE c.fs f x=0
  · rw [he] at hq
    have next:∀ j,0≤j→j<i+1→atE (findE c.fs f) u j=0:=fun j h0 hj=>by
      by_cases e:j=i
      · rw [e,atE_at hx];exact he
      · exact hpre j h0 (by omega)
    (refine aA<|rgN<|klt O O (cK (by omega))<|aB<|aA<|aE O ?_;refine aH ?_;refine aA<|aG<|aA<|rgN<|aR O O bY (by omega) hio dM<|aY O hX (by kernel_rfl) hsz hcs dM<|aP O dM ?_;refine aM O O O O O O dM ?_;refine aB<|aA<|rgN<|aK O O O dM ?_;refine aK O O O dM ?_;refine aK O O O dM ?_;refine kca O O hq<|kas O<|aB<|aA<|rgN<|kmv O<|kne O O (r:=false) O<|aB<|aF O ?_;refine aH ?_;refine rgN<|kad O O hadd<|kmv O<|aB ?_)
    exact ⟨_,_,by omega,Le.of (by exact ⟨O,O,O,O,O,O,trivial⟩) (by exact ⟨O,O,trivial⟩) (by exact O) (by exact O) (by repeat' (first|refine bR ?_ ?_|rfl|exact bT|exact bS|exact bU O)),i+1,by omega,O,next,O⟩
  · have hs:seqE (findE c.fs f) u=findE c.fs f x:=firstE_some hpre (Nat.zero_le _) (by omega) (by rw [atE_at hx]) he
    rw [hs,if_neg he]
    generalize findE c.fs f x=e at *
    (refine aA<|rgN<|klt O O (cK (by omega))<|aB<|aA<|aE O ?_;refine aH ?_;refine aA<|aG<|aA<|rgN<|aR O O bY (by omega) hio dM<|aY O hX (by kernel_rfl) hsz hcs dM<|aP O dM ?_;refine aM O O O O O O dM ?_;refine aB<|aA<|rgN<|aK O O O dM ?_;refine aK O O O dM ?_;refine aK O O O dM ?_;refine kca O O hq<|kas O<|aB<|aA<|rgN<|kmv O<|kne O O (cO he)<|aB<|aE O ?_;refine aA<|rgN<|kmv O<|kas O<|aB<|aI ?_)
    exact ⟨[_],⟨O,trivial⟩,O⟩
end Go.Proofs.YtnfbccfghgmfiaaGreat
end
section
namespace Go.Proofs.YtnfbccfghgmfiaaGreat
open Go Go.Lg Go.Lg.Fml Go.Lg.Fld Go.Lg.Arith
set_option maxRecDepth 100000
variable (X:Nat→Option Obj)
set_option maxHeartbeats 6400000 in
theorem yRule (a b:Cp) (r:Rl) (aad bad ead:Option Addr) (acap bcap ecap:Nat) (hA:FieldsIn X aad a.fs) (hB:FieldsIn X bad b.fs) (hE:CodesIn X ead r.ex) (hal:a.fs.length<4611686018427387904) (hbl:b.fs.length<4611686018427387904) (hcl:∀ c∈r.ex,c.length<1152921504606846976):
    PSpec Tryz.prog X 9 [Cx a aad acap,Cx b bad bcap,.sv (.agg [.val (.int .i64 r.nw),.val (.int .i64 r.old),.val (.slice ead r.ex.length ecap)])] (Ln .i64 (ruE a.fs b.fs r)):=by
  refine cB Tryz.func9 rfl (by kernel_rfl) rfl rfl ?_
  intro C
  by_cases h0:r.old=0
  · rw [show ruE a.fs b.fs r=0 from if_pos h0]
    (refine aA<|rgN<|aL O O O dM<|aL O O O dM<|aL O O O dM<|kas O<|aB<|aA<|aG<|aA<|rgN<|kfa O O ?_;refine kl1 O O O<|keq O O (r:=true) (cP h0)<|kas O<|aB<|aE O ?_;refine aA<|rgN<|kas O<|aB<|aI ?_)
    exact ⟨[_],⟨O,trivial⟩,O⟩
  by_cases hl:r.ex.length=b.fs.length
  case neg =>
    rw [show ruE a.fs b.fs r=4 by unfold ruE;rw [if_neg h0,if_neg hl]]
    (refine aA<|rgN<|aL O O O dM<|aL O O O dM<|aL O O O dM<|kas O<|aB<|aA<|aG<|aA<|rgN<|kfa O O ?_;refine kl1 O O O<|keq O O (r:=false) (cM h0)<|kas O<|aB<|aF O ?_;refine aA<|rgN<|kfa O O ?_;refine kl1 O O O<|aQ O bY O dM ?_;refine kfa O O ?_;refine kl1 O O O<|aQ O bY O dM ?_;refine kne O O (r:=true) (cO (by omega))<|kas O<|aB<|aE O ?_;refine aA<|rgN<|kas O<|aB<|aI ?_)
    exact ⟨[_],⟨O,trivial⟩,O⟩
  rw [ruE_at h0 hl]
  have hzl:(b.fs.zip r.ex).length=b.fs.length:=by rw [List.length_zip];omega
  (refine aA<|rgN<|aL O O O dM<|aL O O O dM<|aL O O O dM<|kas O<|aB<|aA<|aG<|aA<|rgN<|kfa O O ?_;refine kl1 O O O<|keq O O (r:=false) (cM h0)<|kas O<|aB<|aF O ?_;refine aA<|rgN<|kfa O O ?_;refine kl1 O O O<|aQ O bY O dM ?_;refine kfa O O ?_;refine kl1 O O O<|aQ O bY O dM ?_;refine kne O O (r:=false) (cN (by omega))<|kas O<|aB<|aF O ?_;refine aH ?_;refine aA<|aA<|rgN<|kfa O O ?_;refine kl1 O O O<|aQ O bY O dM ?_;refine kmv O<|aB<|aG ?_)
  refine cF (fun m σ=>∃ i:Nat,i≤r.ex.length∧m=r.ex.length-i∧(∀ j,0≤j→j<i→atE (fun q:Fl×List Ins=>fmE a.fs q.1 q.2) (b.fs.zip r.ex) j=0)∧σ=⟨[(3,Lp 3),(4,Lp 4),(23,Lx ead r.ex.length ecap),(24,Ln .i64 (r.ex.length:Nat)),(25,Ln .i64 (i:Nat))],[cpB 4 b bad bcap,cpB 3 a aad acap],X⟩) r.ex.length
    ⟨_,Le.of (by exact ⟨rfl,rfl,rfl,rfl,rfl,trivial⟩) (by exact ⟨rfl,rfl,trivial⟩) (by exact rfl) (by exact rfl) (by repeat' (first|refine bR ?_ ?_|rfl|exact bT|exact bS|exact bU rfl)),0,by omega,by omega,fun j _ hj=>absurd hj (by omega),rfl⟩ ?_
  rintro m σ ⟨i,hi,rfl,hpre,rfl⟩
  by_cases hlt:i<r.ex.length
  case neg =>
    rw [show seqE (fun q:Fl×List Ins=>fmE a.fs q.1 q.2) (b.fs.zip r.ex)=0 from firstE_none fun j h1 h2=>hpre j h1 (by omega)]
    (refine aA<|rgN<|klt O O (cJ (by omega))<|aB<|aA<|aF O ?_;refine aJ<|aA<|rgN<|kas O<|aB<|aI ?_)
    exact ⟨[_],⟨O,trivial⟩,O⟩
  obtain ⟨f,hf⟩:∃ f,b.fs[i]? = some f:=⟨_,cS (by omega)⟩
  obtain ⟨c,hc⟩:∃ c,r.ex[i]? = some c:=⟨_,cS hlt⟩
  obtain ⟨fb,fo,farr,fel,ffr,rfl,hFX,hFz,hFc,_⟩:=hB.cells hf
  obtain ⟨eb,eo,earr,eel,efr,vad,vcap,rfl,hEX,hec,hI⟩:=hE.get hc
  have hio3:fo+Int.toNat (i:Int)*3=fo+i*3:=by simp
  have hio1:eo+Int.toNat (i:Int)*1=eo+i*1:=by simp
  have hadd:IntKind.i64.wrap ((i:Int)+1)=((i+1:Nat):Int):=by rw [cD (by omega)];omega
  have hq:=yFormula X a f c aad vad acap vcap hA hI (hcl c (cX hc)) hal
  have hat:atE (fun q:Fl×List Ins=>fmE a.fs q.1 q.2) (b.fs.zip r.ex) i=fmE a.fs f c:=atE_at (zip_two hf hc)
  by_cases he:fmE a.fs f c=0
  · rw [he] at hq
    (refine aA<|rgN<|klt O O (cK (by omega))<|aB<|aA<|aE O ?_;refine aH ?_;refine aA<|aG<|aA<|rgN<|kmv O<|aR O O bY (by omega) hio1 dM<|aW O hEX O hec dM<|kas O<|kas O<|aB<|aA<|rgD mixed<|aK O O O dM ?_;refine kfa O O ?_;refine kl1 O O O<|kmv O<|aR O O bY (by omega) hio3 dM<|aY O hFX (by kernel_rfl) hFz hFc dM<|kmv O<|kca O O hq<|kas O<|aB<|rgA ?_;refine aA<|rgN<|kmv O<|kne O O (r:=false) O<|aB<|aF O ?_;refine aH ?_;refine rgN<|kad O O hadd<|kmv O<|aB ?_)
    exact ⟨_,_,by omega,Le.of (by exact ⟨O,O,O,O,O,trivial⟩) (by exact ⟨O,O,trivial⟩) (by exact O) (by exact O) (by repeat' (first|refine bR ?_ ?_|rfl|exact bT|exact bS|exact bU O)),i+1,by omega,O,(fun j h0 hj=>by
      by_cases e:j=i
      · rw [e,hat];exact he
      · exact hpre j h0 (by omega)),rfl⟩
  · rw [show seqE (fun q:Fl×List Ins=>fmE a.fs q.1 q.2) (b.fs.zip r.ex)=fmE a.fs f c from firstE_some hpre (Nat.zero_le _) (by omega) hat he]
    generalize fmE a.fs f c=e at *
    (refine aA<|rgN<|klt O O (cK (by omega))<|aB<|aA<|aE O ?_;refine aH ?_;refine aA<|aG<|aA<|rgN<|kmv O<|aR O O bY (by omega) hio1 dM<|aW O hEX O hec dM<|kas O<|kas O<|aB<|aA<|rgD mixed<|aK O O O dM ?_;refine kfa O O ?_;refine kl1 O O O<|kmv O<|aR O O bY (by omega) hio3 dM<|aY O hFX (by kernel_rfl) hFz hFc dM<|kmv O<|kca O O hq<|kas O<|aB<|rgA ?_;refine aA<|rgN<|kmv O<|kne O O (r:=true) (cO he)<|aB<|aE O ?_;refine aA<|rgN<|kmv O<|kas O<|aB<|aI ?_)
    exact ⟨[_],⟨O,trivial⟩,O⟩
end Go.Proofs.YtnfbccfghgmfiaaGreat
end
section
namespace Go.Proofs.YtnfbccfghgmfiaaGreat
open Go Go.Lg Go.Lg.Fml Go.Lg.Fld Go.Lg.Arith
set_option maxRecDepth 100000
theorem plainF_no {fs:List Fl} {f:Fl} (h:fs.findIdx? (fun g=>g.nm==f.nm)=none):plainF fs f=num0:=by unfold plainF;rw [h]
theorem plainF_at {fs:List Fl} {f g:Fl} {i:Nat} (h:fs.findIdx? (fun g=>g.nm==f.nm)=some i) (hg:fs[i]? = some g):plainF fs f=if f.count≤g.count∧((g.kind=10)=(f.kind=10)) then ⟨3,i,0,(false,0)⟩ else num0:=by
  unfold plainF;rw [h];simp only;rw [hg]
def zrl (k:Nat):List Value:=(List.replicate k [Value.int .i64 0,Value.int .i64 0,Value.slice none 0 0]).flatten
theorem zrl_succ (k:Nat):zrl (k+1)=[Value.int .i64 0,Value.int .i64 0,Value.slice none 0 0]++zrl k:=by unfold zrl;rw [List.replicate_succ,List.flatten_cons]
theorem zrl_len (k:Nat):(zrl k).length=k*3:=by
  induction k with
  | zero=>rfl
  | succ k ih=>rw [zrl_succ,cQ,ih];simp;omega
theorem nilV_flat (k:Nat):(List.replicate k [Value.slice none 0 0]).flatten=nilV k:=by
  induction k with
  | zero=>rfl
  | succ k ih=>rw [List.replicate_succ,List.flatten_cons,ih,nilV_succ];rfl
variable (X:Nat→Option Obj)
theorem yPlainIns (o:Cp) (f:Fl) (oad:Option Addr) (ocap:Nat) (hF:FieldsIn X oad o.fs) (hfl:o.fs.length<4611686018427387904):
    PSpec Tryz.prog X 41 [Cx o oad ocap,Fx f] (Ax (plainF o.fs f)):=by
  refine cB Tryz.func41 rfl (by kernel_rfl) rfl rfl ?_
  intro C
  cases hq:o.fs.findIdx? (fun g=>g.nm==f.nm) with
  | none =>
    rw [plainF_no hq]
    have hN:=pField_no X o oad ocap f.nm hF hfl (fun j y hy=>List.findIdx?_eq_none_iff.1 hq y (cX hy))
    (refine aA<|rgN<|aL O O O dM<|aL O O O dM<|aP O dM ?_;refine aB<|aA<|rgN<|aK O O O dM ?_;refine kfa O O ?_;refine kl1 O O O<|kca O O hN<|kmv O<|kex O O<|kex O O<|kas O<|kas O<|aB<|aA<|rgN<|kmv O<|aT O O (by exact O) (by exact nl6 O O O O O O O) dM ?_;refine aP O dM ?_;refine aM O O O O O O dM ?_;refine aB<|aA<|aA<|rgN<|kmv O<|aV O O dM<|kmv O<|aC O O O<|aC O O O<|aC O O O<|aC O O O<|aC O O O<|kpt O O<|aB ?_;refine aE O ?_;refine aA<|rgN<|aT O O (by exact O) (by exact nl6 O O O O O O O) dM ?_;refine aM O O O O O O dM ?_;refine aB<|aI ?_)
    exact ⟨[_],⟨⟨_,_,O,O,O,.inl ⟨AggT.h,O⟩⟩,trivial⟩,O⟩
  | some i =>
  obtain ⟨hi,h1,h2⟩:=List.findIdx?_eq_some_iff_getElem.1 hq
  have hg:=cS hi
  generalize o.fs[i]=g at *
  have hN:=pField X o oad ocap f.nm hF hfl (fun j y hj hy=>by
    have:=h2 j hj
    rw [(List.getElem?_eq_some_iff.1 hy).2] at this
    simpa using this) hg (by simpa using h1)
  have hU:=yUse X o f ⟨3,i,0,(false,0)⟩ oad ocap hF hfl (.inr rfl) (by show (0:Int)≤(i:Int);omega)
  have hE:=findE_at (fs:=o.fs) (f:=f) (x:=⟨3,i,0,(false,0)⟩) (.inr rfl) (g:=g) (by simpa using hg)
  rw [plainF_at hq hg]
  by_cases hc:f.count≤g.count∧((g.kind=10)=(f.kind=10))
  · rw [if_pos hc]
    rw [if_neg (by rintro (⟨h,_⟩|⟨_,h⟩);exact absurd (show (3:Int)=2 from h) (by decide);exact absurd h (by omega)),if_pos hc.2] at hE
    rw [hE] at hU
    (refine aA<|rgN<|aL O O O dM<|aL O O O dM<|aP O dM ?_;refine aB<|aA<|rgN<|aK O O O dM ?_;refine kfa O O ?_;refine kl1 O O O<|kca O O hN<|kmv O<|kex O O<|kex O O<|kas O<|kas O<|aB<|aA<|rgN<|kmv O<|aT O O (by exact O) (by exact nl6 O O O O O O O) dM ?_;refine aP O dM ?_;refine aM O O O O O O dM ?_;refine aB<|aA<|aA<|rgN<|kmv O<|aV O O dM<|kmv O<|aK O O O (dN O O) ?_;refine aK O O O (dN O O) ?_;refine aK O O O (dN O O) ?_;refine gca O O hU O O<|aX O O (r:=false) O (dN O O) ?_;refine kpf O O<|aB<|aF O ?_;refine aH ?_;refine aA<|rgN<|aK O O O dM ?_;refine aM O O O O O O dM ?_;refine aB<|aI ?_)
    exact ⟨[_],⟨⟨_,_,O,O,O,.inl ⟨AggT.h,O⟩⟩,trivial⟩,O⟩
  · rw [if_neg hc]
    have he:findE o.fs f ⟨3,i,0,(false,0)⟩≠0:=by
      rw [hE]
      by_cases hb:f.count≤g.count
      · rw [if_neg (by rintro (⟨h,_⟩|⟨_,h⟩);exact absurd (show (3:Int)=2 from h) (by decide);exact absurd h (by omega)),if_neg (fun h=>hc ⟨hb,h⟩)]
        decide
      · rw [if_pos (.inr ⟨rfl,by omega⟩)]
        decide
    generalize findE o.fs f ⟨3,i,0,(false,0)⟩=e at *
    (refine aA<|rgN<|aL O O O dM<|aL O O O dM<|aP O dM ?_;refine aB<|aA<|rgN<|aK O O O dM ?_;refine kfa O O ?_;refine kl1 O O O<|kca O O hN<|kmv O<|kex O O<|kex O O<|kas O<|kas O<|aB<|aA<|rgN<|kmv O<|aT O O (by exact O) (by exact nl6 O O O O O O O) dM ?_;refine aP O dM ?_;refine aM O O O O O O dM ?_;refine aB<|aA<|aA<|rgN<|kmv O<|aV O O dM<|kmv O<|aK O O O (dN O O) ?_;refine aK O O O (dN O O) ?_;refine aK O O O (dN O O) ?_;refine gca O O hU O O<|aX O O (r:=true) (cO he) (dN O O) ?_;refine kpf O O<|aB<|aE O ?_;refine aA<|rgN<|aT O O (by exact O) (by exact nl6 O O O O O O O) dM ?_;refine aM O O O O O O dM ?_;refine aB<|aI ?_)
    exact ⟨[_],⟨⟨_,_,O,O,O,.inl ⟨AggT.h,O⟩⟩,trivial⟩,O⟩
theorem plainF_small {fs:List Fl} {f:Fl} (hl:fs.length<4611686018427387904):smallI (plainF fs f):=by
  rcases plainF_cases fs f with h|⟨i,g,hi,_,_,h⟩
  · rw [h];exact ⟨by decide,by decide,by decide,by show 0≤(0:Int)∧_;decide⟩
  · rw [h]
    have:=(List.getElem?_eq_some_iff.1 hi).1
    refine ⟨(by decide : -9223372036854775808≤(3:Int)∧(3:Int)<9223372036854775808),?_,(by decide : -9223372036854775808≤(0:Int)∧(0:Int)<9223372036854775808),(by decide:(0:Int)≤0∧(0:Int)<340282366920938463463374607431768211456)⟩
    show -9223372036854775808≤(i:Int)∧(i:Int)<9223372036854775808
    omega
theorem yPlainRule_no (a:Sc) (c:Cp) (ad cad:Option Addr) (cap ccap:Nat) (ha:CompsIn X ad a.cs) (hal:a.cs.length<4611686018427387904) (hno:findC a.cs c.id=none):
    PSpec Tryz.prog X 25 [Sx a.ver ad a.cs.length cap,Cx c cad ccap] (.sv (SPg c.id 0 none 0 0)):=by
  have hN:=pFind_no X a.ver ad cap a.cs c.id ha hal (findC_no hno)
  refine cB Tryz.func25 rfl (by kernel_rfl) rfl rfl ?_
  intro C
  (refine aA<|rgN<|aL O O O dM<|aL O O O dM<|aP O dM ?_;refine aB<|aA<|rgN<|aK O O O dM ?_;refine kfa O O ?_;refine kl1 O O O<|kca O O hN<|kmv O<|kex O O<|kex O O<|aP O dM ?_;refine aM O O O O O O dM ?_;refine kas O<|aB<|aA<|aA<|rgN<|kmv O<|aV O O dM<|aB<|aE O ?_;refine aA<|rgN<|kfa O O ?_;refine kl1 O O O<|aT O O (by exact O) (by exact nl3 O O O O) dM ?_;refine aM O O O O O O dM ?_;refine aB<|aI ?_)
  exact ⟨[_],⟨⟨_,_,O,O,O,.inl ⟨AggT.h,O⟩⟩,trivial⟩,O⟩
abbrev pkSt (o c:Cp) (fad cad:Option Addr) (fcap ccap i:Nat) (vs:List Value) (Y:Nat→Option Obj):St:=
  ⟨[(3,Lp 3),(4,Lp 4),(5,Lp 5),(7,.sv (.one (.slc 25 0 c.fs.length 1))),(27,Lx cad c.fs.length ccap),(28,Ln .i64 (c.fs.length:Nat)),(29,Ln .i64 (i:Nat))],[(25,some ⟨50,(vs++nilV (c.fs.length-i)).map .val,false⟩),cpB 5 o fad fcap,cpB 3 c cad ccap,v3B 27 4 0 0 none 0 0],Y⟩
set_option maxHeartbeats 12800000 in
theorem yPlainRule (a:Sc) (c o:Cp) (ad cad:Option Addr) (cap ccap:Nat) (ha:CompsIn X ad a.cs) (hal:a.cs.length<4611686018427387904) (haf:∀ c∈a.cs,c.fs.length≤4398046511104) (hC:FieldsIn X cad c.fs) (hcl:c.fs.length≤4398046511104) (ho:findC a.cs c.id=some o):
    MSpec Tryz.prog X 25 [Sx a.ver ad a.cs.length cap,Cx c cad ccap] [] (.sv (.agg [.val (.int .i64 c.id),.val (.int .i64 c.id),.slc 1000001 0 c.fs.length 1])) [cdB 1000001 (c.fs.map fun f=>[plainF o.fs f])]:=by
  obtain ⟨k,hk,hid,hpre⟩:=findC_at ho
  have hol:=haf o (cX hk)
  have hfind:=pFind X a.ver ad cap a.cs c.id ha hal haf hpre hk hid
  obtain ⟨_,_,_,_,_,_,_,_,_,_,_,_,_,_,hoF⟩:=ha.get hk
  have hos:=hoF.small
  have hmk:MadeOf Tryz.prog 25 50 1 24 [Value.slice none 0 0]:=⟨by kernel_rfl,by kernel_rfl,rfl⟩
  refine cC Tryz.func25 rfl (by kernel_rfl) rfl rfl rfl rfl rfl ?_
  intro C
  refine LWP.ends ?_
  (refine aA<|rgN<|aL O O O dM<|aL O O O dM<|aP O dM ?_;refine aB<|aA ?_)
  repeat refine aA ?_
  refine LWP.meetL (fun σ=>∃ (Y:Nat→Option Obj) (fad:Option Addr) (fcap:Nat),(∀ b x,X b=some x→Y b=some x)∧FieldsIn Y fad o.fs∧σ=⟨[(3,Lp 3),(4,Lp 4),(5,Lp 5),(6,Lb true)],[cpB 5 o fad fcap,cpB 3 c cad ccap,v3B 27 4 0 0 none 0 0],Y⟩) ?_ ?_
  · rcases hfind with ⟨h0,hf⟩|hf
    · have hl:o.fs.length=0:=by rw [h0];rfl
      (refine rgN<|aK O O O dM ?_;refine kfa O O ?_;refine kl1 O O O<|kca O O hf<|kmv O<|kex O O<|kex O O<|aP O dM ?_;refine aM O O O O O O dM ?_;refine kas O<|aB ?_)
      exact Leads.here (σ':=⟨[(3,Lp 3),(4,Lp 4),(5,Lp 5),(6,Lb true)],[cpB 5 o none 0,cpB 3 c cad ccap,v3B 27 4 0 0 none 0 0],X⟩) (Le.of (by exact ⟨O,O,O,O,trivial⟩) (by exact ⟨O,O,O,trivial⟩) (by exact O) (by exact O) (by repeat' (first|refine bR ?_ ?_|rfl|exact bT|exact bS|exact bU O))) ⟨X,none,0,fun _ _ h=>h,fields_none h0,O⟩
    · (refine rgN<|aK O O O dM ?_;refine kfa O O ?_;refine kl1 O O O<|bE [(1000001,601)] (.tup [SCs o 601,Sb true]) [fdB 601 o.fs] (hf) O O (by exact trivial) O O O O O (by exact (.box O (bW _ _ _ _) .nil)) dM<|kmv O<|kex O O<|kex O O<|aP O dM ?_;refine aM O O O O O O dM ?_;refine kas O<|aB ?_)
      refine cA (σ':=⟨[(3,Lp 3),(4,Lp 4),(5,Lp 5),(6,Lb true)],[(5,some ⟨24,[.val (.int .i64 o.id),.val (.string ⟨o.nm.toArray⟩)] ++ .slc 601 0 o.fs.length 3::[],false⟩),fdB 601 o.fs,cpB 3 c cad ccap,v3B 27 4 0 0 none 0 0],X⟩) (Le.of (by exact ⟨O,O,O,O,trivial⟩) (by exact ⟨O,O,O,O,trivial⟩) (by exact O) (by exact O) (by repeat' (first|refine bR ?_ ?_|rfl|exact bT|exact bS|exact bU O))) ?_
      refine Leads.freezeCell O O O O O O fun blk cp arr fr hn _ _ _ hsp => ?_
      obtain ⟨sp,hsp⟩:=hsp
      exact cA (Le.of (by exact ⟨O,O,O,O,trivial⟩) (by exact ⟨O,O,O,trivial⟩) (by exact O) (by exact O) (by repeat' (first|refine bR ?_ ?_|rfl|exact bT|exact bS|exact bU O))) (bZ ⟨_,some ⟨blk,0,none⟩,cp,cE hn,fields_block (cH _ _ _) hsp hos,O⟩)
  rintro σ ⟨Y,fad,fcap,hXY,hO,rfl⟩
  clear hfind hoF hos
  replace hC:=hC.mono hXY
  clear ha hXY
  (refine aA<|aA<|rgN<|kmv O<|aV O O dM<|aB<|aF O ?_;refine aH ?_;refine aA<|rgN<|kfa O O ?_;refine kl1 O O O<|aQ O bY O dM ?_;refine K.makeBig (m:=c.fs.length) (bytes:=24) O O hmk (by omega) O O dM ?_;refine kas O<|aB<|aA<|aA<|rgN<|kfa O O ?_;refine kl1 O O O<|aQ O bY O dM ?_;refine kmv O<|aB<|aG ?_)
  refine cG (fun m σ=>∃ (i:Nat) (vs:List Value) (H:Nat→Option Obj),i≤c.fs.length∧m=c.fs.length-i∧OwnedM C Y H∧FormsH H vs ((c.fs.take i).map fun f=>[plainF o.fs f])∧σ=pkSt o c fad cad fcap ccap i vs (joinM Y H)) c.fs.length
    (cA (σ':=pkSt o c fad cad fcap ccap 0 [] Y) (by unfold pkSt;rw [nilV_flat];exact Le.of (by exact ⟨rfl,rfl,rfl,rfl,rfl,rfl,rfl,trivial⟩) (by exact ⟨rfl,rfl,rfl,rfl,trivial⟩) (by exact rfl) (by exact rfl) (by repeat' (first|refine bR ?_ ?_|rfl|exact bT|exact bS|exact bU rfl))) (bZ ⟨0,[],fun _=>none,by omega,by omega,OwnedM.nil _ _,FormsH.nil,by rw [joinM_nil]⟩)) ?_
  rintro m σ ⟨i,vs,H,hi,rfl,hOw,GF,rfl⟩
  have hvl:vs.length=i:=by rw [GF.len,cR,cU];omega
  by_cases hlt:i<c.fs.length
  case neg =>
    have e:i=c.fs.length:=by omega
    subst e
    rw [cZ] at GF
    unfold pkSt
    rw [Nat.sub_self,show nilV 0=[] from rfl,dE]
    (refine aA<|rgN<|klt O O (cJ (by omega))<|aB<|aA<|aF O ?_;refine aJ<|aA<|rgN<|kfa O O ?_;refine kl1 O O O<|kfa O O ?_;refine kl1 O O O<|kmv O<|aT O O (by exact O) (by exact nl3 O O O O) dM ?_;refine aM O O O O O O dM ?_;refine aB<|aI ?_)
    refine cA (σ':=⟨[(4,Lp 4)],[(25,some ⟨50,vs.map .val,false⟩),(4,some ⟨27,[.val (.int .i64 c.id),.val (.int .i64 o.id),.slc 25 0 c.fs.length 1],false⟩)],joinM Y H⟩) (Le.of (by exact ⟨O,trivial⟩) (by exact ⟨O,O,trivial⟩) (by exact O) (by exact O) (by repeat' (first|refine bR ?_ ?_|rfl|exact bT|exact bS|exact bU O))) ?_
    rw [hid]
    refine cd_shut hOw GF (bZ ?_)
    exact ⟨[(1000001,25)],⟨[_],⟨⟨_,_,rfl,rfl,rfl,.inl ⟨AggT.h,rfl⟩⟩,trivial⟩,rfl⟩,(by repeat' (first|exact trivial|refine cL ⟨_,rfl,?_⟩ ?_|refine cL ⟨_,rfl⟩ ?_|rfl|exact bV _ _ _ _|exact bW _ _ _ _|exact bX rfl)),rfl,rfl⟩
  obtain ⟨f,hf⟩:∃ f,c.fs[i]? = some f:=⟨_,cS hlt⟩
  obtain ⟨fb,fo,farr,fel,ffr,rfl,hFX,hFz,hFc,_⟩:=hC.cells hf
  have hFJ:=joinM_has hOw hFX
  have hq:=yPlainIns (joinM Y H) o f fad fcap (hO.mono fun b x h=>joinM_has hOw h) (by omega)
  have hsmall:=plainF_small (fs:=o.fs) (f:=f) (by omega)
  have hts:(c.fs.take (i+1)).map (fun f=>[plainF o.fs f])=(c.fs.take i).map (fun f=>[plainF o.fs f])++[[plainF o.fs f]]:=by rw [take_snoc hf,dC];rfl
  generalize plainF o.fs f=x at hq hsmall hts
  have hio:fo+Int.toNat (i:Int)*3=fo+i*3:=by simp
  have hix:0+Int.toNat (i:Int)*1=i:=by rw [dA];omega
  have hadd:IntKind.i64.wrap (((i:Nat):Int)+1)=((i+1:Nat):Int):=by rw [cD (by omega)];omega
  have hroom:i+1≤((vs++nilV (c.fs.length-i)).map CV.val).length:=by rw [cR,cQ,hvl,nilV_len];omega
  have hk2:c.fs.length-i=(c.fs.length-(i+1))+1:=by omega
  have hspl:splice ((vs++nilV (c.fs.length-i)).map CV.val) i [.slc 39 0 1 6]=vs.map CV.val ++ .slc 39 0 1 6::(nilV (c.fs.length-(i+1))).map CV.val:=by
    rw [hk2,nilV_splice hvl]
  (refine aA<|rgN<|klt O O (cK (by omega))<|aB<|aA<|aE O ?_;refine aH ?_;refine aA<|aG<|aA<|rgN<|kmv O<|aR O O bY (by omega) hio dM<|aY O hFJ (by kernel_rfl) hFz hFc dM<|aP O dM ?_;refine kas O<|aM O O O O O O dM ?_;refine aB<|rgN<|kmv O<|kmv O<|aK O O O dM ?_;refine aK O O O dM ?_;refine kca O O hq<|aZ (zs:=[Value.int .i64 0,.int .i64 0,.int .i64 0,.bool false,.int .u64 0,.int .u64 0]) (sz:=6) (e:=66) (cs':=(insV x).map .val) (by kernel_rfl) O O O O O O dM<|K.indexSlc O O (by omega) hix dM ?_;refine K.store O O O O (by kernel_rfl) hroom hspl dM<|aB<|rgN<|kad O O hadd<|kmv O<|aB ?_)
  refine cA (σ':=⟨[(3,Lp 3),(4,Lp 4),(5,Lp 5),(7,.sv (.one (.slc 25 0 c.fs.length 1))),(27,Lx (some ⟨fb,fo,none⟩) c.fs.length ccap),(28,Ln .i64 (c.fs.length:Nat)),(29,Ln .i64 (i+1:Nat))],[(25,some ⟨50,vs.map CV.val ++ .slc 39 0 1 6::(nilV (c.fs.length-(i+1))).map CV.val,false⟩),(39,some ⟨66,(inssV [x]).map .val,false⟩),cpB 5 o fad fcap,cpB 3 c (some ⟨fb,fo,none⟩) ccap,v3B 27 4 0 0 none 0 0],joinM Y H⟩) (Le.of (by exact ⟨O,O,O,O,O,O,O,trivial⟩) (by exact ⟨O,O,O,O,O,trivial⟩) (by exact O) (by exact O) (by repeat' (first|refine bR ?_ ?_|rfl|exact bT|exact bS|exact bU O))) ?_
  refine Leads.closeCell hOw O O bS bS O O O fun b ob v q1 _ hO3 hv=>bZ ⟨c.fs.length-(i+1),by omega,i+1,vs++[v],withBlock H b ob,by omega,O,hO3,?_,?_⟩
  · rw [hts]
    exact (GF.mono (cE q1)).push (ins_leads hv (fun y hy=>by rw [List.mem_singleton.1 hy];exact hsmall))
  · unfold pkSt
    simp
end Go.Proofs.YtnfbccfghgmfiaaGreat
end
section
namespace Go.Proofs.YtnfbccfghgmfiaaGreat
open Go Go.Lg Go.Lg.Fml Go.Lg.Fld Go.Lg.Arith
set_option maxRecDepth 100000
variable (X:Nat→Option Obj)
abbrev pqSt (a b:Sc) (ad1 ad2:Option Addr) (cap1 cap2 i:Nat) (cells:List Value) (Y:Nat→Option Obj):St:=
  ⟨[(2,Lp 2),(3,Lp 3),(4,Lp 4),(5,.sv (.one (.slc 11 0 b.cs.length 3))),(13,Lx ad2 b.cs.length cap2),(14,Ln .i64 (b.cs.length:Nat)),(15,Ln .i64 (i:Nat))],[(11,some ⟨27,cells.map .val,false⟩),sxB 3 b.ver ad2 b.cs.length cap2,sxB 2 a.ver ad1 a.cs.length cap1,v3B 35 4 0 0 none 0 0],Y⟩
set_option maxHeartbeats 12800000 in
theorem yPlain (a b:Sc) (ad1 ad2:Option Addr) (cap1 cap2:Nat) (ha:CompsIn X ad1 a.cs) (hb:CompsIn X ad2 b.cs) (sa:a.cs.length≤4398046511104∧∀ c∈a.cs,c.fs.length≤4398046511104) (sb:b.cs.length≤4398046511104∧∀ c∈b.cs,c.fs.length≤4398046511104):
    MSpec Tryz.prog X 13 [Sx a.ver ad1 a.cs.length cap1,Sx b.ver ad2 b.cs.length cap2] [] (.sv (.agg [.val (.int .i64 a.ver),.val (.int .i64 b.ver),.slc 1000001 0 b.cs.length 3])) [rlB 27 1000001 (plainP a b).rs]:=by
  obtain ⟨sa1,sa2⟩:=sa
  obtain ⟨sb1,sb2⟩:=sb
  have hmk:MadeOf Tryz.prog 33 27 3 40 [Value.int .i64 0,Value.int .i64 0,Value.slice none 0 0]:=⟨by kernel_rfl,by kernel_rfl,rfl⟩
  have hsm:∀ r∈(plainP a b).rs,smallR r:=fun r hr=>by
    obtain ⟨c,hc,rfl⟩:=List.mem_map.1 hr
    have h:=hb.small c hc
    unfold plainR
    split
    · exact ⟨h,by show -9223372036854775808≤(0:Int)∧(0:Int)<_;decide⟩
    · exact ⟨h,h⟩
  refine cC Tryz.func13 rfl (by kernel_rfl) rfl rfl rfl rfl rfl ?_
  intro C
  refine LWP.ends ?_
  (refine aA<|rgN<|aL O O O dM<|aL O O O dM<|aP O dM ?_;refine aB<|aA<|rgN<|kfa O O ?_;refine kl1 O O O<|aQ O bY O dM ?_;refine K.makeBig (m:=b.cs.length) (bytes:=40) O O hmk (by omega) O O dM ?_;refine kas O<|aB<|aA<|aA<|rgN<|kfa O O ?_;refine kl1 O O O<|aQ O bY O dM ?_;refine kmv O<|aB<|aG ?_)
  refine cG (fun m σ=>∃ (i:Nat) (ws:List Value) (H:Nat→Option Obj),i≤b.cs.length∧m=b.cs.length-i∧OwnedM C X H∧RulesH H ws ((b.cs.take i).map (plainR a))∧σ=pqSt a b ad1 ad2 cap1 cap2 i (rwZ ((b.cs.take i).map (plainR a)) ws++zrl (b.cs.length-i)) (joinM X H)) b.cs.length
    (cA (σ':=pqSt a b ad1 ad2 cap1 cap2 0 (zrl b.cs.length) X) (by unfold pqSt zrl;exact Le.of (by exact ⟨rfl,rfl,rfl,rfl,rfl,rfl,rfl,trivial⟩) (by exact ⟨rfl,rfl,rfl,rfl,trivial⟩) (by exact rfl) (by exact rfl) (by repeat' (first|refine bR ?_ ?_|rfl|exact bT|exact bS|exact bU rfl))) (bZ ⟨0,[],fun _=>none,by omega,by omega,OwnedM.nil _ _,RulesH.nil,by rw [joinM_nil];rfl⟩)) ?_
  rintro m σ ⟨i,ws,H,hi,rfl,hO,GR,rfl⟩
  have hwl:ws.length=i:=by rw [GR.len,cR,cU];omega
  have hwl2:ws.length=((b.cs.take i).map (plainR a)).length:=GR.len
  by_cases hlt:i<b.cs.length
  case neg =>
    have e:i=b.cs.length:=by omega
    subst e
    rw [cZ] at *
    unfold pqSt
    rw [Nat.sub_self,show zrl 0=[] from rfl]
    (refine aA<|rgN<|klt O O (cJ (by omega))<|aB<|aA<|aF O ?_;refine aJ<|aA<|rgN<|kfa O O ?_;refine kl1 O O O<|kfa O O ?_;refine kl1 O O O<|kmv O<|aT O O (by exact O) (by exact nl3 O O O O) dM ?_;refine aM O O O O O O dM ?_;refine aB<|aI ?_)
    refine cA (σ':=⟨[(4,Lp 4)],[(11,some ⟨27,(rwZ (b.cs.map (plainR a)) ws++[]).map .val,false⟩),(4,some ⟨35,[.val (.int .i64 a.ver),.val (.int .i64 b.ver),.slc 11 0 b.cs.length 3],false⟩)],joinM X H⟩) (Le.of (by exact ⟨O,trivial⟩) (by exact ⟨O,O,trivial⟩) (by exact O) (by exact O) (by repeat' (first|refine bR ?_ ?_|rfl|exact bT|exact bS|exact bU O))) ?_
    refine rl_shut hO GR hsm (bZ ?_)
    exact ⟨[(1000001,11)],⟨[_],⟨⟨_,_,rfl,rfl,rfl,.inl ⟨AggT.h,rfl⟩⟩,trivial⟩,rfl⟩,(by repeat' (first|exact trivial|refine cL ⟨_,rfl,?_⟩ ?_|refine cL ⟨_,rfl⟩ ?_|rfl|exact bV _ _ _ _|exact bW _ _ _ _|exact bX rfl)),rfl,rfl⟩
  obtain ⟨c,hc⟩:∃ c,b.cs[i]? = some c:=⟨_,cS hlt⟩
  have hcm:=cX hc
  obtain ⟨blk,off,arr,el,fr,cad,ccap,rfl,hX,hsz,hcs,_,_,_,hF⟩:=hb.get hc
  have hXJ:=joinM_has hO hX
  have haJ:=ha.mono fun b x h=>joinM_has hO h
  have hFJ:=hF.mono (Y:=joinM X H) fun b x h=>joinM_has hO h
  have hio:off+Int.toNat (i:Int)*3=off+i*3:=by simp
  have hix:0+Int.toNat (i:Int)*3=i*3:=by rw [dA];omega
  have hadd:IntKind.i64.wrap (((i:Nat):Int)+1)=((i+1:Nat):Int):=by rw [cD (by omega)];omega
  have hpl:(rwZ ((b.cs.take i).map (plainR a)) ws).length=i*3:=by rw [rwZ_len hwl2,← hwl2,hwl]
  have hroom:i*3+3≤((rwZ ((b.cs.take i).map (plainR a)) ws++zrl (b.cs.length-i)).map CV.val).length:=by rw [cR,cQ,hpl,zrl_len];omega
  have hts:(b.cs.take (i+1)).map (plainR a)=(b.cs.take i).map (plainR a)++[plainR a c]:=by rw [take_snoc hc,dC];rfl
  have hadd3:∀ v,rwZ ((b.cs.take (i+1)).map (plainR a)) (ws++[v])=rwZ ((b.cs.take i).map (plainR a)) ws++[.int .i64 (plainR a c).nw,.int .i64 (plainR a c).old,v]:=fun v=>by rw [hts,rwZ_add hwl2]
  have hspl:∀ (x y:Int) (cv:CV),splice ((rwZ ((b.cs.take i).map (plainR a)) ws++zrl (b.cs.length-i)).map CV.val) (i*3) [.val (.int .i64 x),.val (.int .i64 y),cv]=(rwZ ((b.cs.take i).map (plainR a)) ws++[Value.int .i64 x,Value.int .i64 y]).map CV.val++cv::(zrl (b.cs.length-(i+1))).map .val:=fun x y cv=>by
    unfold splice
    rw [show b.cs.length-i=(b.cs.length-(i+1))+1 by omega,zrl_succ]
    simp only [dC,dH]
    have hml:((rwZ ((b.cs.take i).map (plainR a)) ws).map CV.val).length=i*3:=by rw [cR,hpl]
    generalize (rwZ ((b.cs.take i).map (plainR a)) ws).map CV.val=R at *
    rw [← hml,List.take_left,List.drop_length_add_append]
    simp
  cases ho:findC a.cs c.id with
  | none =>
    have hq:=yPlainRule_no (joinM X H) a c ad1 cad cap1 ccap haJ (by omega) ho
    have hr:plainR a c=⟨c.id,0,[]⟩:=by unfold plainR;rw [ho]
    have hcell:(rwZ ((b.cs.take i).map (plainR a)) ws++[Value.int .i64 c.id,Value.int .i64 0]).map CV.val ++ .val (.slice none 0 0)::(zrl (b.cs.length-(i+1))).map .val=(rwZ ((b.cs.take (i+1)).map (plainR a)) (ws++[.slice none 0 0])++zrl (b.cs.length-(i+1))).map .val:=by rw [hadd3,hr];simp
    (refine aA<|rgN<|klt O O (cK (by omega))<|aB<|aA<|aE O ?_;refine aH ?_;refine aA<|aG<|aA<|rgN<|kmv O<|aR O O bY (by omega) hio dM<|aY O hXJ (by kernel_rfl) hsz hcs dM<|aP O dM ?_;refine kas O<|aM O O O O O O dM ?_;refine aB<|rgN<|kmv O<|kmv O<|aK O O O dM ?_;refine aK O O O dM ?_;refine kca O O hq<|K.indexSlc O O (by omega) hix dM ?_;refine K.store O O O O (by kernel_rfl) hroom (hspl _ _ _) dM<|aB<|rgN<|kad O O hadd<|kmv O<|aB ?_)
    refine cA (σ':=pqSt a b ad1 (some ⟨blk,off,none⟩) cap1 cap2 (i+1) (rwZ ((b.cs.take (i+1)).map (plainR a)) (ws++[.slice none 0 0])++zrl (b.cs.length-(i+1))) (joinM X H)) ?_ (bZ ⟨b.cs.length-(i+1),by omega,i+1,ws++[.slice none 0 0],H,by omega,O,hO,?_,O⟩)
    · rw [hcell]
      exact Le.of (by exact ⟨O,O,O,O,O,O,O,trivial⟩) (by exact ⟨O,O,O,O,trivial⟩) (by exact O) (by exact O) (by repeat' (first|refine bR ?_ ?_|rfl|exact bT|exact bS|exact bU O))
    · rw [hts,hr]
      exact GR.push ⟨none,0,O,CodesIn.nil⟩
  | some o =>
    have hq:=yPlainRule (joinM X H) a c o ad1 cad cap1 ccap haJ (by omega) sa2 hFJ (sb2 c hcm) ho
    have hr:plainR a c=⟨c.id,c.id,c.fs.map fun f=>[plainF o.fs f]⟩:=by unfold plainR;rw [ho]
    (refine aA<|rgN<|klt O O (cK (by omega))<|aB<|aA<|aE O ?_;refine aH ?_;refine aA<|aG<|aA<|rgN<|kmv O<|aR O O bY (by omega) hio dM<|aY O hXJ (by kernel_rfl) hsz hcs dM<|aP O dM ?_;refine kas O<|aM O O O O O O dM ?_;refine aB<|rgN<|kmv O<|kmv O<|aK O O O dM ?_;refine aK O O O dM ?_;refine bE [(1000001,601)] (.sv (.agg [.val (.int .i64 c.id),.val (.int .i64 c.id),.slc 601 0 c.fs.length 1])) [cdB 601 (c.fs.map fun f=>[plainF o.fs f])] (hq) O O (by exact trivial) O O O O O (by exact (.box O O .nil)) dM<|K.indexSlc O O (by omega) hix dM ?_;refine K.store O O O O (by kernel_rfl) hroom (hspl _ _ _) dM<|aB<|rgN<|kad O O hadd<|kmv O<|aB ?_)
    refine cA (σ':=⟨[(2,Lp 2),(3,Lp 3),(4,Lp 4),(5,.sv (.one (.slc 11 0 b.cs.length 3))),(13,Lx (some ⟨blk,off,none⟩) b.cs.length cap2),(14,Ln .i64 (b.cs.length:Nat)),(15,Ln .i64 (i+1:Nat))],[(11,some ⟨27,(rwZ ((b.cs.take i).map (plainR a)) ws++[Value.int .i64 c.id,Value.int .i64 c.id]).map CV.val ++ .slc 601 0 c.fs.length 1::(zrl (b.cs.length-(i+1))).map .val,false⟩),cdB 601 (c.fs.map fun f=>[plainF o.fs f]),sxB 3 b.ver (some ⟨blk,off,none⟩) b.cs.length cap2,sxB 2 a.ver ad1 a.cs.length cap1,v3B 35 4 0 0 none 0 0],joinM X H⟩) (Le.of (by exact ⟨O,O,O,O,O,O,O,trivial⟩) (by exact ⟨O,O,O,O,O,trivial⟩) (by exact O) (by exact O) (by repeat' (first|refine bR ?_ ?_|rfl|exact bT|exact bS|exact bU O))) ?_
    refine Leads.fixCell O bS bS O O O fun ρ H2 pc hR hO2 _ _ => ?_
    rw [joinM_join]
    refine cA (σ':=pqSt a b ad1 (some ⟨blk,off,none⟩) cap1 cap2 (i+1) (rwZ ((b.cs.take (i+1)).map (plainR a)) (ws++[.slice (some ⟨ρ.1,0,none⟩) c.fs.length pc])++zrl (b.cs.length-(i+1))) (joinM X (joinM H H2))) ?_ (bZ ⟨b.cs.length-(i+1),by omega,i+1,ws++[.slice (some ⟨ρ.1,0,none⟩) c.fs.length pc],joinM H H2,by omega,O,hO.join hO2,?_,O⟩)
    · have hcell:(rwZ ((b.cs.take i).map (plainR a)) ws++[Value.int .i64 c.id,Value.int .i64 c.id]).map CV.val ++ .val (.slice (some ⟨ρ.1,0,none⟩) c.fs.length pc)::(zrl (b.cs.length-(i+1))).map .val=(rwZ ((b.cs.take (i+1)).map (plainR a)) (ws++[.slice (some ⟨ρ.1,0,none⟩) c.fs.length pc])++zrl (b.cs.length-(i+1))).map .val:=by rw [hadd3,hr];simp
      rw [hcell]
      exact Le.of (by exact ⟨O,O,O,O,O,O,O,trivial⟩) (by exact ⟨O,O,O,O,trivial⟩) (by exact O) (by exact O) (by repeat' (first|refine bR ?_ ?_|rfl|exact bT|exact bS|exact bU O))
    · rw [hts,hr]
      exact (GR.mono (joinM_keeps hO2)).push ⟨_,pc,by rw [cR],hR.2.mono fun b x h=>joinM_in h⟩
end Go.Proofs.YtnfbccfghgmfiaaGreat
end
section
namespace Go.Proofs.YtnfbccfghgmfiaaGreat
open Go Go.Lg Go.Lg.Fml Go.Lg.Fld Go.Lg.Arith
set_option maxRecDepth 100000
structure NmsIn (X:Nat→Option Obj) (ad:Option Addr) (l:List Int):Prop where
  at_:∀ (i:Nat) (v:Int),l[i]? = some v→∃ (blk off:Nat) (arr:Array Value) (el:TypeId) (fr:Nat×Nat),ad=some ⟨blk,off,none⟩∧X blk=some (.cells arr el fr)∧arr[off+i*1]? = some (.int .i64 v)
theorem NmsIn.mono {X Y:Nat→Option Obj} (hXY:∀ b o,X b=some o→Y b=some o) {ad:Option Addr} {l:List Int} (h:NmsIn X ad l):NmsIn Y ad l:=⟨fun i v hv=>by
  obtain ⟨blk,off,arr,el,fr,h1,h2,h3⟩:=h.at_ i v hv
  exact ⟨blk,off,arr,el,fr,h1,hXY _ _ h2,h3⟩⟩
theorem nms_block {Y:Nat→Option Obj} {blk:Nat} {arr:Array Value} {el:TypeId} {fr:Nat×Nat} {l:List Int} (hY:Y blk=some (.cells arr el fr)) (h:∃ sp,arr.toList=int1 l++sp):NmsIn Y (some ⟨blk,0,none⟩) l:=⟨fun i v hv=>by
  obtain ⟨sp,h⟩:=h
  have hi:=(List.getElem?_eq_some_iff.1 hv).1
  refine ⟨blk,0,arr,el,fr,O,hY,?_⟩
  rw [← Array.getElem?_toList,h,Nat.zero_add,Nat.mul_one,dL (by unfold int1;rw [cR];exact hi)]
  unfold int1
  rw [dG,hv];rfl⟩
theorem idsV_int1 (cs:List Cp):idsV cs=int1 (cs.map Cp.id):=by unfold idsV int1;rw [List.map_map];rfl
theorem findI_any {α:Type} (p:α→Bool) (l:List α):decide (0≤findI p l)=l.any p:=by
  unfold findI
  cases hq:l.findIdx? p with
  | none =>
    simp only
    have:=List.findIdx?_eq_none_iff.1 hq
    rw [List.any_eq_false.2 (fun x hx=>by simpa using this x hx)]
    rfl
  | some i =>
    obtain ⟨hi,h1,_⟩:=List.findIdx?_eq_some_iff_getElem.1 hq
    rw [List.any_eq_true.2 ⟨l[i],List.getElem_mem hi,h1⟩]
    simp
variable (X:Nat→Option Obj)
theorem yIndex (l:List Int) (ad:Option Addr) (cap:Nat) (v:Int) (hin:NmsIn X ad l) (hbig:l.length<4611686018427387904):
    PSpec Tryz.prog X 62 [Lx ad l.length cap,Ln .i64 v] (Ln .i64 (findI (fun x=>v==x) l)):=by
  refine cB Tryz.func62 rfl (by kernel_rfl) rfl rfl ?_
  intro C
  (refine aA<|rgN<|kas O<|aB<|aA<|aA<|rgN<|kmv O<|aQ O bY O dM ?_;refine kmv O<|aB<|aG ?_)
  refine cF (fun m σ=>∃ i:Nat,i≤l.length∧m=l.length-i∧(∀ (j:Nat) (y:Int),j<i→l[j]? = some y→(v==y)=false)∧σ=⟨[(0,Lx ad l.length cap),(1,Ln .i64 v),(7,Ln .i64 (l.length:Nat)),(8,Ln .i64 (i:Nat))],[],X⟩) l.length
    ⟨_,Le.of (by exact ⟨rfl,rfl,rfl,rfl,trivial⟩) (by exact trivial) (by exact rfl) (by exact rfl) (by exact rfl),0,by omega,by omega,fun j y hj=>absurd hj (by omega),rfl⟩ ?_
  rintro m σ ⟨i,hi,rfl,hpre,rfl⟩
  by_cases hlt:i<l.length
  · obtain ⟨c,hc⟩:∃ c,l[i]? = some c:=⟨_,cS hlt⟩
    obtain ⟨blk,off,arr,el,fr,rfl,hX,hcs⟩:=hin.at_ i c hc
    have hio:off+Int.toNat (i:Int)*1=off+i*1:=by simp
    have hadd:IntKind.i64.wrap (((i:Nat):Int)+1)=((i+1:Nat):Int):=by rw [cD (by omega)];omega
    cases hpc:(v==c) with
    | true =>
      rw [findI_some hpre hc hpc]
      (refine aA<|rgN<|klt O O (cK (by omega))<|aB<|aA<|aE O ?_;refine aH ?_;refine aA<|aG<|aA<|rgN<|kmv O<|kas O<|aB<|aA<|rgN<|kmv O<|kmv O<|kmv O<|aR O O bY (by omega) hio dM<|aW O hX O hcs dM ?_;refine keq O O hpc<|aB<|aE O ?_;refine aA<|rgN<|kmv O<|kas O<|aB<|aI ?_)
      exact ⟨[_],⟨O,trivial⟩,O⟩
    | false =>
      (refine aA<|rgN<|klt O O (cK (by omega))<|aB<|aA<|aE O ?_;refine aH ?_;refine aA<|aG<|aA<|rgN<|kmv O<|kas O<|aB<|aA<|rgN<|kmv O<|kmv O<|kmv O<|aR O O bY (by omega) hio dM<|aW O hX O hcs dM ?_;refine keq O O hpc<|aB<|aF O ?_;refine aH ?_;refine rgN<|kad O O hadd<|kmv O<|aB ?_)
      exact ⟨_,_,by omega,Le.of (by exact ⟨O,O,O,O,trivial⟩) (by exact trivial) (by exact O) (by exact O) (by exact O),i+1,by omega,O,(fun j y hj hy=>by
        by_cases e:j=i
        · subst e;rw [hc] at hy;cases hy;exact hpc
        · exact hpre j y (by omega) hy),rfl⟩
  · rw [findI_none fun j y hy=>hpre j y (by have:=(List.getElem?_eq_some_iff.1 hy).1;omega) hy]
    (refine aA<|rgN<|klt O O (cJ (by omega))<|aB<|aA<|aF O ?_;refine aJ<|aA<|rgN<|kas O<|aB<|aI ?_)
    exact ⟨[_],⟨O,trivial⟩,O⟩
theorem yContains (l:List Int) (ad:Option Addr) (cap:Nat) (v:Int) (hin:NmsIn X ad l) (hbig:l.length<4611686018427387904):
    PSpec Tryz.prog X 47 [Lx ad l.length cap,Ln .i64 v] (Lb (l.any fun x=>v==x)):=by
  have hI:=yIndex X l ad cap v hin hbig
  refine cB Tryz.func47 rfl (by kernel_rfl) rfl rfl ?_
  intro C
  (refine aA<|rgN<|kas O<|aB<|aA<|rgN<|kmv O<|kmv O<|kca O O hI<|bD O O (findI_any _ _) dM<|kas O<|aB<|aI ?_)
  exact ⟨[_],⟨O,trivial⟩,O⟩
theorem yEqual (l m:List Int) (ad ad2:Option Addr) (cap cap2:Nat) (ha:NmsIn X ad l) (hb:NmsIn X ad2 m) (hbig:l.length<4611686018427387904) (r:Bool) (hr:decide (l=m)=r):
    PSpec Tryz.prog X 29 [Lx ad l.length cap,Lx ad2 m.length cap2] (Lb r):=by
  subst hr
  refine cB Tryz.func29 rfl (by kernel_rfl) rfl rfl ?_
  intro C
  by_cases hl:l.length=m.length
  · (refine aA<|rgN<|kas O<|aB<|aA<|aA<|rgN<|kmv O<|aQ O bY O dM ?_;refine kmv O<|aQ O bY O dM ?_;refine kne O O (r:=false) (by rw [hl];simp)<|aB<|aF O ?_;refine aH ?_;refine aA<|aA<|rgN<|kmv O<|aQ O bY O dM ?_;refine kmv O<|aB<|aG ?_)
    refine cF (fun q σ=>∃ i:Nat,i≤l.length∧q=l.length-i∧l.take i=m.take i∧σ=⟨[(0,Lx ad l.length cap),(1,Lx ad2 m.length cap2),(12,Ln .i64 (l.length:Nat)),(13,Ln .i64 (i:Nat))],[],X⟩) l.length
      ⟨_,Le.of (by exact ⟨rfl,rfl,rfl,rfl,trivial⟩) (by exact trivial) (by exact rfl) (by exact rfl) (by exact rfl),0,by omega,rfl,rfl,rfl⟩ ?_
    rintro q σ ⟨i,hi,rfl,hpre,rfl⟩
    by_cases hlt:i<l.length
    · obtain ⟨f,hf⟩:∃ v,l[i]? = some v:=⟨_,cS hlt⟩
      obtain ⟨f',hf'⟩:∃ v,m[i]? = some v:=⟨_,cS (by omega)⟩
      obtain ⟨blk,off,arr,el,fr,rfl,hX,hcells⟩:=ha.at_ i f hf
      obtain ⟨blk',off',arr',el',fr',rfl,hX',hcells'⟩:=hb.at_ i f' hf'
      have hio:off+Int.toNat (i:Int)*1=off+i*1:=by simp
      have hio':off'+Int.toNat (i:Int)*1=off'+i*1:=by simp
      have hadd:IntKind.i64.wrap (((i:Nat):Int)+1)=((i+1:Nat):Int):=by rw [cD (by omega)];omega
      by_cases hq:f=f'
      · (refine aA<|rgN<|klt O O (cK (by omega))<|aB<|aA<|aE O ?_;refine aH ?_;refine aA<|aG<|aA<|rgN<|kmv O<|kas O<|aB<|aA<|rgD mixed<|kmv O<|kmv O<|aR O O bY (by omega) hio dM<|aW O hX O hcells dM<|kmv O ?_;refine kmv O<|aR O O bY (by omega) hio' dM<|aW O hX' O hcells' dM<|kne O O (r:=false) (cN hq)<|aB<|rgA ?_;refine aF O ?_;refine aH ?_;refine rgN<|kad O O hadd<|kmv O<|aB ?_)
        exact ⟨_,_,by omega,Le.of (by exact ⟨rfl,rfl,rfl,rfl,trivial⟩) (by exact trivial) (by exact rfl) (by exact rfl) (by exact rfl),i+1,by omega,rfl,by rw [take_snoc hf,take_snoc hf',hpre,hq],rfl⟩
      · rw [cJ (show ¬l=m from fun e=>hq (by rw [e,hf'] at hf;exact (Option.some.inj hf).symm))]
        (refine aA<|rgN<|klt O O (cK (by omega))<|aB<|aA<|aE O ?_;refine aH ?_;refine aA<|aG<|aA<|rgN<|kmv O<|kas O<|aB<|aA<|rgD mixed<|kmv O<|kmv O<|aR O O bY (by omega) hio dM<|aW O hX O hcells dM<|kmv O ?_;refine kmv O<|aR O O bY (by omega) hio' dM<|aW O hX' O hcells' dM<|kne O O (r:=true) (cO hq)<|aB<|rgA ?_;refine aE O ?_;refine aA<|rgN<|kas O<|aB<|aI ?_)
        exact ⟨[_],⟨O,trivial⟩,O⟩
    · have e:i=l.length:=by omega
      subst e
      rw [cZ,List.take_of_length_le (by omega)] at hpre
      rw [cK hpre]
      (refine aA<|rgN<|klt O O (cJ (by omega))<|aB<|aA<|aF O ?_;refine aJ<|aA<|rgN<|kas O<|aB<|aI ?_)
      exact ⟨[_],⟨O,trivial⟩,O⟩
  · rw [cJ (show ¬l=m from fun e=>hl (by rw [e]))]
    (refine aA<|rgN<|kas O<|aB<|aA<|aA<|rgN<|kmv O<|aQ O bY O dM ?_;refine kmv O<|aQ O bY O dM ?_;refine kne O O (r:=true) (by rw [bne_iff_ne];omega)<|aB<|aE O ?_;refine aA<|rgN<|kas O<|aB<|aI ?_)
    exact ⟨[_],⟨O,trivial⟩,O⟩
theorem equal_lent {S:Nat→Option (Option Box)} {l m:List Int} {j k n1 n2:Nat} {e1 e2:TypeId} {row1 row2:Bool} {r:Bool} (hbig:l.length<4611686018427387904) (hr:decide (l=m)=r) (h1:n1=l.length) (h2:n2=m.length) (hj:S j=some (some ⟨e1,(int1 l).map .val,row1⟩)) (hk:S k=some (some ⟨e2,(int1 m).map .val,row2⟩)):
    ∀ (Y:Nat→Option Obj) (us:List Value),(∀ b o,X b=some o→Y b=some o)→LentLs S Y [.sv (.one (.slc j 0 n1)),.sv (.one (.slc k 0 n2))] us→PSpec Tryz.prog Y 29 (us.map toLV) (Lb r):=by
  subst h1 h2
  intro Y us hY hL
  obtain ⟨u1,us1,rfl,g1,u2,us2,rfl,g2,rfl⟩:=hL
  obtain ⟨b1,blk1,cap1,m1,hq1,rfl,hc1,hf1,hB1⟩:=g1
  obtain ⟨b2,blk2,cap2,m2,hq2,rfl,hc2,hf2,hB2⟩:=g2
  rw [hj] at hq1
  rw [hk] at hq2
  simp only [Option.some.injEq] at hq1 hq2
  subst hq1 hq2
  obtain ⟨arr1,fr1,us1',sp1,hY1,hsz1,harr1,hv1⟩:=hB1
  obtain ⟨arr2,fr2,us2',sp2,hY2,hsz2,harr2,hv2⟩:=hB2
  have:=hv1 (int1 l) rfl
  subst this
  have:=hv2 (int1 m) rfl
  subst this
  exact yEqual Y l m (some ⟨blk1,0,none⟩) (some ⟨blk2,0,none⟩) cap1 cap2 (nms_block hY1 ⟨sp1,harr1⟩) (nms_block hY2 ⟨sp2,harr2⟩) hbig r hr
theorem yNewIds (va vb:Int) (rs:List Rl) (ad:Option Addr) (cap:Nat) (hin:RulesIn X ad rs) (hS:rs.length≤65536):
    MSpec Tryz.prog X 30 [LPg va vb ad rs.length cap] [] (.sv (.one (.slc 1000001 0 rs.length))) [(1000001,some ⟨3,(int1 (rs.map Rl.nw)).map .val,false⟩)]:=by
  refine cC Tryz.func30 rfl (by kernel_rfl) rfl rfl (by exact (by repeat' (first|refine bR ?_ ?_|rfl|exact bT|exact bS|exact bU rfl))) rfl rfl ?_
  intro C
  have hmk:slcBuild Tryz.prog 86 rs.length=some (List.replicate rs.length (.int .i64 0),1,3):=slcBuild_one (by kernel_rfl) (by kernel_rfl) (by omega)
  (refine aA<|rgN<|aL O O O dM<|kas O<|aB<|aA<|rgN<|kfa O O ?_;refine kl1 O O O<|aQ O bY O dM ?_;refine K.makeSlc (m:=rs.length) (bytes:=8) O O hmk (by kernel_rfl) (by omega) O O dM<|kas O<|aB<|aA<|aA<|rgN<|kfa O O ?_;refine kl1 O O O<|aQ O bY O dM ?_;refine kmv O<|aB<|aG ?_)
  refine cF (fun m σ=>∃ i:Nat,i≤rs.length∧m=rs.length-i∧σ=⟨[(3,.sv (.one (.slc 9 0 rs.length))),(11,Lx ad rs.length cap),(12,Ln .i64 (rs.length:Nat)),(13,Ln .i64 (i:Nat))],[(9,some ⟨3,(int1 ((rs.take i).map Rl.nw)++List.replicate (rs.length-i) (Value.int .i64 0)).map .val,false⟩)],X⟩) rs.length
    ⟨_,Le.of (by exact ⟨rfl,rfl,rfl,rfl,trivial⟩) (by exact ⟨rfl,trivial⟩) (by exact rfl) (by exact rfl) (by repeat' (first|refine bR ?_ ?_|rfl|exact bT|exact bS|exact bU rfl)),0,by omega,by omega,rfl⟩ ?_
  rintro m σ ⟨i,hi,rfl,rfl⟩
  by_cases hlt:i<rs.length
  · obtain ⟨c,hc⟩:∃ c,rs[i]? = some c:=⟨_,cS hlt⟩
    obtain ⟨blk,off,arr,el,fr,fad,fcap,rfl,hX,hsz,hcs,_,_,_,hF⟩:=hin.get hc
    have hio:off+Int.toNat (i:Int)*3=off+i*3:=by simp
    have hix:0+Int.toNat (i:Int)*1=i:=by rw [dA];omega
    have hadd:IntKind.i64.wrap (((i:Nat):Int)+1)=((i+1:Nat):Int):=by rw [cD (by omega)];omega
    have hil:(int1 ((rs.take i).map Rl.nw)).length=i:=by unfold int1;rw [cR,cR,cU];omega
    have hroom:i+1≤((int1 ((rs.take i).map Rl.nw)++List.replicate (rs.length-i) (Value.int .i64 0)).map CV.val).length:=by rw [cR,cQ,hil,cY];omega
    have hspl:splice ((int1 ((rs.take i).map Rl.nw)++List.replicate (rs.length-i) (Value.int .i64 0)).map CV.val) i [.val (.int .i64 c.nw)]=(int1 ((rs.take (i+1)).map Rl.nw)++List.replicate (rs.length-(i+1)) (Value.int .i64 0)).map CV.val:=by
      unfold splice
      rw [show rs.length-i=(rs.length-(i+1))+1 by omega,List.replicate_succ,take_snoc hc]
      have e:int1 ((rs.take i++[c]).map Rl.nw)=int1 ((rs.take i).map Rl.nw)++[.int .i64 c.nw]:=by unfold int1;rw [dC,dC];rfl
      rw [e]
      simp only [dC,dH]
      have hml:((int1 ((rs.take i).map Rl.nw)).map CV.val).length=i:=by rw [cR,hil]
      generalize (int1 ((rs.take i).map Rl.nw)).map CV.val=R at *
      rw [← hml,List.take_left,List.drop_length_add_append]
      simp
    (refine aA<|rgN<|klt O O (cK (by omega))<|aB<|aA<|aE O ?_;refine aH ?_;refine aA<|aG<|aA<|rgN<|kmv O<|aR O O bY (by omega) hio dM<|aY O hX (by kernel_rfl) hsz hcs dM<|aP O dM ?_;refine kas O<|aM O O O O O O dM ?_;refine aB<|rgN<|kmv O<|kmv O<|kfa O O ?_;refine kl1 O O O<|K.indexSlc O O (by omega) hix dM ?_;refine K.store O O O O (by kernel_rfl) hroom hspl dM<|aB<|rgN<|kad O O hadd<|kmv O<|aB ?_)
    exact ⟨_,_,by omega,Le.of (by exact ⟨O,O,O,O,trivial⟩) (by exact ⟨O,trivial⟩) (by exact O) (by exact O) (by repeat' (first|refine bR ?_ ?_|rfl|exact bT|exact bS|exact bU O)),i+1,by omega,O,O⟩
  · have e:i=rs.length:=by omega
    subst e
    rw [cZ,Nat.sub_self,List.replicate_zero,dE]
    (refine aA<|rgN<|klt O O (cJ (by omega))<|aB<|aA<|aF O ?_;refine aJ<|aA<|rgN<|kmv O<|kas O<|aB<|aI ?_)
    exact ⟨[(1000001,9)],⟨[_],⟨rfl,trivial⟩,rfl⟩,(by repeat' (first|exact trivial|refine cL ⟨_,rfl,?_⟩ ?_|refine cL ⟨_,rfl⟩ ?_|rfl|exact bV _ _ _ _|exact bW _ _ _ _|exact bX rfl)),rfl,rfl⟩
def oldB (ids:List Int) (r:Rl):Bool:=r.old != 0 && !(ids.any fun x=>r.old==x)
theorem yOld1 (r:Rl) (ead:Option Addr) (ecap:Nat) (ids:List Int) (iad:Option Addr) (icap:Nat) {b:Nat} {arr:Array Value} {el:TypeId} {fr:Nat×Nat} (hX:X b=some (.cells arr el fr)) (h0:arr[0]? = some (.slice iad ids.length icap)) (hin:NmsIn X iad ids) (hbig:ids.length<4611686018427387904):
    PSpec Tryz.prog X 46 [LPg r.nw r.old ead r.ex.length ecap,Vp' b] (Lb (oldB ids r)):=by
  have hC:=yContains X ids iad icap r.old hin hbig
  refine cB Tryz.func46 rfl (by kernel_rfl) rfl rfl ?_
  intro C
  by_cases h:r.old=0
  · rw [show oldB ids r=false by unfold oldB;rw [h];rfl]
    (refine aA<|rgN<|aL O O O dM<|kas O<|aB<|aA<|rgN<|kfa O O ?_;refine kl1 O O O<|kne O O (r:=false) (cN h)<|kmv O<|aC O O O<|aC O O O<|aC O O O<|aC O O O<|aC O O O<|kpf O O<|kas O<|aB<|aI ?_)
    exact ⟨[_],⟨O,trivial⟩,O⟩
  · rw [show oldB ids r = !(ids.any fun x=>r.old==x) by unfold oldB;rw [cO h];rfl]
    (refine aA<|rgN<|aL O O O dM<|kas O<|aB<|aA<|rgN<|kfa O O ?_;refine kl1 O O O<|kne O O (r:=true) (cO h)<|kmv O<|aW O hX O h0 (dN O O) ?_;refine aN O O (dN O O) ?_;refine aO O O O (dN O O) ?_;refine gca O O hC O O<|aV O O (dN O O) ?_;refine kpt O O<|kas O<|aB<|aI ?_)
    exact ⟨[_],⟨O,trivial⟩,O⟩
theorem yContainsFunc (ad:Option Addr) (cap:Nat) (rs:List Rl) (hin:RulesIn X ad rs) (hbig:rs.length<4611686018427387904) (f:FuncId) (caps:List Value) (p:Rl→Bool)
    (hp:∀ r∈rs,∀ ead ecap,PSpec Tryz.prog X f ([LPg r.nw r.old ead r.ex.length ecap]++caps.map fun v=>.sv (.one (.val v))) (Lb (p r))):
    PSpec Tryz.prog X 45 [Lx ad rs.length cap,Lf f caps] (Lb (rs.any p)):=by
  have hI:=kIndex X ad cap rs hin hbig f caps p hp
  refine cB Tryz.func45 rfl (by kernel_rfl) rfl rfl ?_
  intro C
  (refine aA<|rgN<|kas O<|aB<|aA<|rgN<|kmv O<|kmv O<|kca O O hI<|bD O O (findI_any _ _) dM<|kas O<|aB<|aI ?_)
  exact ⟨[_],⟨O,trivial⟩,O⟩
theorem yHasOlds (a:Sc) (p:Pg) (ad1 ad:Option Addr) (cap1 cap:Nat) (ha:CompsIn X ad1 a.cs) (hp:RulesIn X ad p.rs) (hal:a.cs.length≤65536) (hpl:p.rs.length<4611686018427387904):
    PSpec Tryz.prog X 32 [Sx a.ver ad1 a.cs.length cap1,LPg p.va p.vb ad p.rs.length cap] (Lb (!(p.rs.any (oldB (a.cs.map Cp.id))))):=by
  obtain ⟨va,vb,rs⟩:=p
  simp only at hp hpl ⊢
  have hI:=pIds X a.ver ad1 cap1 a.cs ha hal
  rw [idsV_int1] at hI
  refine cB Tryz.func32 rfl (by kernel_rfl) rfl rfl ?_
  intro C
  (refine aA<|rgN<|aL O O O dM<|aL O O O dM<|kas O<|aB<|aA<|rgN<|aK O O O dM ?_;refine bE [(1000001,601)] (.sv (.one (.slc 601 0 a.cs.length))) [(601,some ⟨3,(int1 (a.cs.map Cp.id)).map .val,false⟩)] (hI) O O (by exact trivial) O O O O O (by exact (.box O (bW _ _ _ _) .nil)) dM<|aP O dM ?_;refine bG O O O O O (nl1 O O) dM<|aB<|aA ?_)
  refine LWP.le (σ':=⟨[(5,Lp 5),(3,Lp 3)],[(5,some ⟨86,[] ++ .slc 601 0 a.cs.length 1::[],false⟩),(601,some ⟨3,(int1 (a.cs.map Cp.id)).map .val,false⟩),v3B 35 3 va vb ad rs.length cap],X⟩) (Le.of (by exact ⟨O,O,trivial⟩) (by exact ⟨O,O,O,trivial⟩) (by exact O) (by exact O) (by repeat' (first|refine bR ?_ ?_|rfl|exact bT|exact bS|exact bU O))) ?_
  refine LWP.freezeCell O O O O O O fun b1 c1 a1 f1 hn1 _ _ _ hs1 => ?_
  have hM:=nms_block (cH X b1 (.cells a1 3 f1)) hs1
  have hXY:=cE (o:=.cells a1 3 f1) hn1
  replace hp:=hp.mono hXY
  clear ha hI hs1 hn1 hXY
  generalize withBlock X b1 (.cells a1 3 f1)=Y at *
  generalize (some ⟨b1,0,none⟩:Option Addr)=iad at *
  refine LWP.le (σ':=⟨[(5,Lp 5),(3,Lp 3)],[(5,some ⟨86,[Value.slice iad a.cs.length c1].map .val,false⟩),v3B 35 3 va vb ad rs.length cap],Y⟩) (Le.of (by exact ⟨O,O,trivial⟩) (by exact ⟨O,O,trivial⟩) (by exact O) (by exact O) (by repeat' (first|refine bR ?_ ?_|rfl|exact bT|exact bS|exact bU O))) ?_
  refine LWP.freezePtr (by rfl) (by rfl) (by rfl) fun b arr0 fr0 hn _ h0 => ?_
  have hl:(a.cs.map Cp.id).length=a.cs.length:=cR ..
  have hq:=yContainsFunc _ ad cap rs (hp.mono (cE (o:=.cells arr0 86 fr0) hn)) hpl 46 [.pointer (some ⟨b,0,none⟩)] (oldB (a.cs.map Cp.id)) (fun r _ ead ecap=>yOld1 _ r ead ecap (a.cs.map Cp.id) iad c1 (cH Y b (.cells arr0 86 fr0)) (by rw [hl];exact at_zero h0) (hM.mono (cE hn)) (by omega))
  (refine rgN<|kfa O O ?_;refine kl1 O O O<|K.makeFunc O O dM ?_;refine kca O O hq<|aV O O dM<|kas O<|aB<|aI ?_)
  exact ⟨[_],⟨O,trivial⟩,O⟩
end Go.Proofs.YtnfbccfghgmfiaaGreat
end
section
namespace Go.Proofs.YtnfbccfghgmfiaaGreat
open Go Go.Lg Go.Lg.Fml Go.Lg.Fld Go.Lg.Arith
set_option maxRecDepth 100000
def e4:List UInt8×Bool→Nat×List UInt8×Bool
  | (l,b)=>if b=false∧4≤l.length then (le (l.take 4),l.drop 4,false) else (0,l,true)
structure KE (l:List UInt8) (b:Bool) (c:List Ins) (l':List UInt8) (b':Bool):Prop where
  less:l'.length≤l.length
  bad:b=true→b'=true
  ok:c.length<256∧∀ x∈c,smallI x
  get:(b=false∧b'=false∧getE l=some (c,l'))∨((b=true∨getE l=none)∧(b'=true∨c=[]))
structure KEs (l:List UInt8) (b:Bool) (i:Nat) (cs:List (List Ins)) (l':List UInt8) (b':Bool):Prop where
  len:cs.length=i
  less:l'.length≤l.length
  bad:b=true→b'=true
  ok:∀ c∈cs,c.length<256∧∀ x∈c,smallI x
  get:(b=false∧b'=false∧getEs i l=some (cs,l'))∨((b=true∨∀ k,getEs (i+k) l=none)∧(b'=true∨[]∈cs))
def okK (r:Rl):Prop:=(0≤r.nw∧r.nw<256)∧(0≤r.old∧r.old<256)∧r.ex.length<256∧∀ c∈r.ex,c.length<256∧∀ x∈c,smallI x
structure KR (l:List UInt8) (b:Bool) (r:Rl) (l':List UInt8) (b':Bool):Prop where
  less:l'.length≤l.length
  bad:b=true→b'=true
  ok:okK r
  get:(b=false∧b'=false∧getRl l=some (r,l'))∨((b=true∨getRl l=none)∧(b'=true∨[]∈r.ex))
structure KRs (l:List UInt8) (b:Bool) (i:Nat) (rs:List Rl) (l':List UInt8) (b':Bool):Prop where
  len:rs.length=i
  less:l'.length≤l.length
  bad:b=true→b'=true
  ok:∀ r∈rs,okK r
  get:(b=false∧b'=false∧getRls i l=some (rs,l'))∨((b=true∨∀ k,getRls (i+k) l=none)∧(b'=true∨∃ r∈rs,[]∈r.ex))
variable (X:Nat→Option Obj)
end Go.Proofs.YtnfbccfghgmfiaaGreat
end
section
namespace Go.Proofs.YtnfbccfghgmfiaaGreat
open Go Go.Lg Go.Lg.Fml Go.Lg.Fld Go.Lg.Arith
set_option maxRecDepth 100000
def pgOk (p:Pg):Prop:=p.rs.length≤30∧∀ r∈p.rs,r.ex.length≤12∧∀ c∈r.ex,c.length≤80
theorem pgOk.size {p:Pg} (h:pgOk p):sizeR p.rs:=fun r hr=>by
  obtain ⟨h1,h2⟩:=h.2 r hr
  exact ⟨by omega,fun c hc=>by have:=h2 c hc;omega⟩
theorem pgOk.big {p:Pg} (h:pgOk p):p.rs.length<4611686018427387904:=by have:=h.1;omega
variable (X:Nat→Option Obj)
section
variable (p:Pg) (ad:Option Addr) (cap:Nat) (hin:RulesIn X ad p.rs) (hs:pgOk p)
include hin hs
theorem hCheck:PSpec Tryz.prog X 44 [LPg p.va p.vb ad p.rs.length cap] (Ln .i64 (chkP p)):=kCheck X p ad cap hin hs.big hs.size
end
end Go.Proofs.YtnfbccfghgmfiaaGreat
end
section
namespace Go.Proofs.YtnfbccfghgmfiaaGreat
open Go Go.Lg Go.Lg.Fml Go.Lg.Fld Go.Lg.Arith
set_option maxRecDepth 100000
theorem oldB_false {cs:List Cp} {r:Rl}:oldB (cs.map Cp.id) r=false↔(r.old=0∨(findC cs r.old).isSome=true):=by
  unfold oldB
  by_cases h:r.old=0
  · simp [h]
  · have e:((cs.map Cp.id).any fun x=>r.old==x)=(findC cs r.old).isSome:=by
      unfold findC
      rw [List.any_map]
      cases hf:cs.find? (fun c=>c.id==r.old) with
      | none =>
        rw [List.any_eq_false.2 (fun x hx=>by
          have:=List.find?_eq_none.1 hf x hx
          simp only [beq_iff_eq,Function.comp_apply] at this ⊢
          exact fun e=>this e.symm)]
        rfl
      | some c =>
        obtain ⟨hm,hi⟩:=findC_some hf
        rw [List.any_eq_true.2 ⟨c,hm,by simp [hi]⟩]
        rfl
    rw [e]
    simp [h]
theorem news_iff {a b:Sc} {p:Pg}:(p.rs.map Rl.nw=b.cs.map Cp.id∧p.rs.any (oldB (a.cs.map Cp.id))=false)↔(p.rs.length=b.cs.length∧seqE (nwE a) (p.rs.zip b.cs)=0):=by
  constructor
  · rintro ⟨h1,h2⟩
    refine ⟨by have:=congrArg List.length h1;simpa using this,seqE_none fun q hq => ?_⟩
    obtain ⟨i,hi⟩:=List.mem_iff_getElem?.1 hq
    obtain ⟨g1,g2⟩:=List.getElem?_zip_eq_some.1 hi
    unfold nwE
    rw [if_pos]
    refine ⟨?_,oldB_false.1 (by simpa using List.any_eq_false.1 h2 q.1 (cX g1))⟩
    have:=congrArg (fun l=>l[i]?) h1
    simp only [dG,g1,g2,Option.map_some,Option.some.injEq] at this
    exact this
  · rintro ⟨h1,h2⟩
    have hz:=seqE_zero h2
    have key:∀ (i:Nat) (r:Rl) (c:Cp),p.rs[i]? = some r→b.cs[i]? = some c→r.nw=c.id∧(r.old=0∨(findC a.cs r.old).isSome=true):=fun i r c hr hc=>by
      have:=hz (r,c) (cX (zip_two hr hc))
      unfold nwE at this
      split at this
      · rename_i h;exact h
      · cases this
    refine ⟨?_,List.any_eq_false.2 fun r hr => ?_⟩
    · apply List.ext_getElem?
      intro i
      rw [dG,dG]
      by_cases hi:i<p.rs.length
      · obtain ⟨r,hr⟩:∃ r,p.rs[i]? = some r:=⟨_,cS hi⟩
        obtain ⟨c,hc⟩:∃ c,b.cs[i]? = some c:=⟨_,cS (by omega)⟩
        rw [hr,hc]
        exact congrArg some (key i r c hr hc).1
      · rw [List.getElem?_eq_none (by omega),List.getElem?_eq_none (by omega)];rfl
    · obtain ⟨i,hi⟩:=List.mem_iff_getElem?.1 hr
      have hlt:=(List.getElem?_eq_some_iff.1 hi).1
      obtain ⟨c,hc⟩:∃ c,b.cs[i]? = some c:=⟨_,cS (by omega)⟩
      rw [oldB_false.2 (key i r c hi hc).2]
      decide
def eaE (a b:Sc) (p:Pg):Int:=if chkE a=0 then (if chkE b=0 then chkP p else chkE b) else chkE a
theorem ckE_each {a b:Sc} {p:Pg} (h:eaE a b p≠0):ckE a b p=eaE a b p:=by
  unfold eaE at h ⊢
  unfold ckE
  by_cases h1:chkE a=0
  · rw [if_pos h1] at h ⊢
    by_cases h2:chkE b=0
    · rw [if_pos h2] at h ⊢
      rw [if_pos h1,if_pos h2,if_neg h]
    · rw [if_neg h2] at h ⊢
      rw [if_pos h1,if_neg h2]
  · rw [if_neg h1,if_neg h1]
theorem eaE_zero {a b:Sc} {p:Pg} (h:eaE a b p=0):chkE a=0∧chkE b=0∧chkP p=0:=by
  unfold eaE at h
  by_cases h1:chkE a=0
  · rw [if_pos h1] at h
    by_cases h2:chkE b=0
    · rw [if_pos h2] at h;exact ⟨h1,h2,h⟩
    · rw [if_neg h2] at h;exact absurd h h2
  · rw [if_neg h1] at h;exact absurd h h1
theorem ckE_go {a b:Sc} {p:Pg} (h:eaE a b p=0):ckE a b p=if p.va=a.ver∧p.vb=b.ver∧p.va<p.vb then (if p.rs.length=b.cs.length then (if seqE (nwE a) (p.rs.zip b.cs)=0 then seqE (ruC a) (p.rs.zip b.cs) else 6) else 6) else 7:=by
  obtain ⟨h1,h2,h3⟩:=eaE_zero h
  unfold ckE
  rw [if_pos h1,if_pos h2,if_pos h3]
variable (X:Nat→Option Obj)
theorem yEach (a b:Sc) (p:Pg) (ad1 ad2 ad:Option Addr) (cap1 cap2 cap:Nat) (ha:CompsIn X ad1 a.cs) (hb:CompsIn X ad2 b.cs) (hp:RulesIn X ad p.rs) (na:NamesC a.cs) (nb:NamesC b.cs) (hal:a.cs.length<4611686018427387904) (hbl:b.cs.length<4611686018427387904) (sp:pgOk p):
    PSpec Tryz.prog X 28 [Sx a.ver ad1 a.cs.length cap1,Sx b.ver ad2 b.cs.length cap2,LPg p.va p.vb ad p.rs.length cap] (Ln .i64 (eaE a b p)):=by
  have hA:=pCheckBig X a ad1 cap1 ha hal na _ rfl
  have hB:=pCheckBig X b ad2 cap2 hb hbl nb _ rfl
  have hP:=hCheck X p ad cap hp sp
  refine cB Tryz.func28 rfl (by kernel_rfl) rfl rfl ?_
  intro C
  unfold eaE
  by_cases h1:chkE a=0
  case neg =>
    rw [if_neg h1]
    generalize chkE a=e at *
    (refine aA<|rgN<|aL O O O dM<|aL O O O dM<|aL O O O dM<|kas O<|aB<|aA<|aA<|rgN<|aK O O O dM ?_;refine kca O O hA<|kas O<|aB<|aA<|rgN<|kmv O<|kne O O (r:=true) (cO h1)<|aB<|aE O ?_;refine aA<|rgN<|kmv O<|kas O<|aB<|aI ?_)
    exact ⟨[_],⟨O,trivial⟩,O⟩
  rw [if_pos h1]
  rw [h1] at hA
  by_cases h2:chkE b=0
  case neg =>
    rw [if_neg h2]
    generalize chkE b=e at *
    (refine aA<|rgN<|aL O O O dM<|aL O O O dM<|aL O O O dM<|kas O<|aB<|aA<|aA<|rgN<|aK O O O dM ?_;refine kca O O hA<|kas O<|aB<|aA<|rgN<|kmv O<|kne O O (r:=false) O<|aB<|aF O ?_;refine aH ?_;refine aA<|aA<|rgN<|aK O O O dM ?_;refine kca O O hB<|kas O<|aB<|aA<|rgN<|kmv O<|kne O O (r:=true) (cO h2)<|aB<|aE O ?_;refine aA<|rgN<|kmv O<|kas O<|aB<|aI ?_)
    exact ⟨[_],⟨O,trivial⟩,O⟩
  rw [if_pos h2]
  rw [h2] at hB
  generalize chkP p=e at *
  (refine aA<|rgN<|aL O O O dM<|aL O O O dM<|aL O O O dM<|kas O<|aB<|aA<|aA<|rgN<|aK O O O dM ?_;refine kca O O hA<|kas O<|aB<|aA<|rgN<|kmv O<|kne O O (r:=false) O<|aB<|aF O ?_;refine aH ?_;refine aA<|aA<|rgN<|aK O O O dM ?_;refine kca O O hB<|kas O<|aB<|aA<|rgN<|kmv O<|kne O O (r:=false) O<|aB<|aF O ?_;refine aH ?_;refine aA<|rgN<|aK O O O dM ?_;refine kca O O hP<|kas O<|aB<|aI ?_)
  exact ⟨[_],⟨O,trivial⟩,O⟩
abbrev ycSt (a b:Sc) (p:Pg) (ad1 ad2 ad:Option Addr) (cap1 cap2 cap i:Nat) (Y:Nat→Option Obj):St:=
  ⟨[(3,Lp 3),(4,Lp 4),(54,Lx ad p.rs.length cap),(55,Ln .i64 (p.rs.length:Nat)),(56,Ln .i64 (i:Nat))],[sxB 4 b.ver ad2 b.cs.length cap2,sxB 3 a.ver ad1 a.cs.length cap1],Y⟩
set_option maxHeartbeats 12800000 in
theorem yCheck (a b:Sc) (p:Pg) (ad1 ad2 ad:Option Addr) (cap1 cap2 cap:Nat) (ha:CompsIn X ad1 a.cs) (hb:CompsIn X ad2 b.cs) (hp:RulesIn X ad p.rs) (na:NamesC a.cs) (nb:NamesC b.cs) (sa:a.cs.length≤30∧∀ c∈a.cs,c.fs.length≤12) (sb:b.cs.length≤30∧∀ c∈b.cs,c.fs.length≤12) (sp:pgOk p):
    PSpec Tryz.prog X 15 [Sx a.ver ad1 a.cs.length cap1,Sx b.ver ad2 b.cs.length cap2,LPg p.va p.vb ad p.rs.length cap] (Ln .i64 (ckE a b p)):=by
  obtain ⟨sa1,sa2⟩:=sa
  obtain ⟨sb1,sb2⟩:=sb
  have sp1:=sp.1
  have hE:=yEach X a b p ad1 ad2 ad cap1 cap2 cap ha hb hp na nb (by omega) (by omega) sp
  refine cB Tryz.func15 rfl (by kernel_rfl) rfl rfl ?_
  intro C
  by_cases h0:eaE a b p=0
  case neg =>
    rw [ckE_each h0]
    generalize eaE a b p=e at *
    (refine aA<|rgN<|aL O O O dM<|aL O O O dM<|aL O O O dM<|kas O<|aB<|aA<|aA<|rgN<|aK O O O dM ?_;refine aK O O O dM ?_;refine aK O O O dM ?_;refine kca O O hE<|kas O<|aB<|aA<|rgN<|kmv O<|kne O O (r:=true) (cO h0)<|aB<|aE O ?_;refine aA<|rgN<|kmv O<|kas O<|aB<|aI ?_)
    exact ⟨[_],⟨O,trivial⟩,O⟩
  rw [ckE_go h0]
  rw [h0] at hE
  by_cases c1:p.va=a.ver
  case neg =>
    rw [if_neg (fun h=>c1 h.1)]
    (refine aA<|rgN<|aL O O O dM<|aL O O O dM<|aL O O O dM<|kas O<|aB<|aA<|aA<|rgN<|aK O O O dM ?_;refine aK O O O dM ?_;refine aK O O O dM ?_;refine kca O O hE<|kas O<|aB<|aA<|rgN<|kmv O<|kne O O (r:=false) O<|aB<|aF O ?_;refine aH ?_;refine aA<|aG<|aA<|rgN<|kfa O O ?_;refine kl1 O O O<|kfa O O ?_;refine kl1 O O O<|kne O O (r:=true) (cO c1)<|kmv O<|aC O O O<|aC O O O<|aC O O O<|aC O O O<|aC O O O<|kpt O O<|kmv O<|aC O O O<|aC O O O<|aC O O O<|aC O O O ?_;refine aC O O O<|kpt O O<|kas O<|aB<|aE O ?_;refine aA<|rgN<|kas O<|aB<|aI ?_)
    exact ⟨[_],⟨O,trivial⟩,O⟩
  by_cases c2:p.vb=b.ver
  case neg =>
    rw [if_neg (fun h=>c2 h.2.1)]
    (refine aA<|rgN<|aL O O O dM<|aL O O O dM<|aL O O O dM<|kas O<|aB<|aA<|aA<|rgN<|aK O O O dM ?_;refine aK O O O dM ?_;refine aK O O O dM ?_;refine kca O O hE<|kas O<|aB<|aA<|rgN<|kmv O<|kne O O (r:=false) O<|aB<|aF O ?_;refine aH ?_;refine aA<|aG<|aA<|rgN<|kfa O O ?_;refine kl1 O O O<|kfa O O ?_;refine kl1 O O O<|kne O O (r:=false) (cN c1)<|kmv O<|aN O O (dN O O) ?_;refine aO O O O (dN O O) ?_;refine aN O O (dN O O) ?_;refine aO O O O (dN O O) ?_;refine aX O O (r:=true) (cO c2) (dN O O) ?_;refine kpf O O<|kmv O<|aC O O O<|aC O O O<|aC O O O<|aC O O O<|aC O O O<|kpt O O<|kas O<|aB<|aE O ?_;refine aA<|rgN<|kas O<|aB<|aI ?_)
    exact ⟨[_],⟨O,trivial⟩,O⟩
  by_cases c3:p.va<p.vb
  case neg =>
    rw [if_neg (fun h=>c3 h.2.2)]
    (refine aA<|rgN<|aL O O O dM<|aL O O O dM<|aL O O O dM<|kas O<|aB<|aA<|aA<|rgN<|aK O O O dM ?_;refine aK O O O dM ?_;refine aK O O O dM ?_;refine kca O O hE<|kas O<|aB<|aA<|rgN<|kmv O<|kne O O (r:=false) O<|aB<|aF O ?_;refine aH ?_;refine aA<|aG<|aA<|rgN<|kfa O O ?_;refine kl1 O O O<|kfa O O ?_;refine kl1 O O O<|kne O O (r:=false) (cN c1)<|kmv O<|aN O O (dN O O) ?_;refine aO O O O (dN O O) ?_;refine aN O O (dN O O) ?_;refine aO O O O (dN O O) ?_;refine aX O O (r:=false) (cN c2) (dN O O) ?_;refine kpf O O<|kmv O<|aN O O (dN O O) ?_;refine aO O O O (dN O O) ?_;refine aN O O (dN O O) ?_;refine aO O O O (dN O O) ?_;refine bD O O (cK (by omega)) (dN O O) ?_;refine kpf O O<|kas O<|aB<|aE O ?_;refine aA<|rgN<|kas O<|aB<|aI ?_)
    exact ⟨[_],⟨O,trivial⟩,O⟩
  rw [if_pos ⟨c1,c2,c3⟩]
  have hN:=yNewIds X p.va p.vb p.rs ad cap hp (by omega)
  have hI:=pIds X b.ver ad2 cap2 b.cs hb (by omega)
  rw [idsV_int1] at hI
  have hO:=yHasOlds X a p ad1 ad cap1 cap ha hp (by omega) (by omega)
  by_cases d1:p.rs.map Rl.nw=b.cs.map Cp.id
  case neg =>
    have hr:(if p.rs.length=b.cs.length then (if seqE (nwE a) (p.rs.zip b.cs)=0 then seqE (ruC a) (p.rs.zip b.cs) else 6) else (6:Int))=6:=by
      by_cases e1:p.rs.length=b.cs.length
      · rw [if_pos e1]
        by_cases e2:seqE (nwE a) (p.rs.zip b.cs)=0
        · exact absurd (news_iff.2 ⟨e1,e2⟩).1 d1
        · rw [if_neg e2]
      · rw [if_neg e1]
    rw [hr]
    have hQ:=fun (S:Nat→Option (Option Box)) h1 h2=>equal_lent X (S:=S) (l:=p.rs.map Rl.nw) (m:=b.cs.map Cp.id) (j:=601) (k:=602) (n1:=p.rs.length) (n2:=b.cs.length) (e1:=3) (e2:=3) (row1:=false) (row2:=false) (by rw [cR];omega) (cJ d1) (cR ..).symm (cR ..).symm h1 h2
    ((refine aA<|rgN<|aL O O O dM<|aL O O O dM<|aL O O O dM<|kas O<|aB<|aA<|aA<|rgN<|aK O O O dM ?_;refine aK O O O dM ?_;refine aK O O O dM ?_;refine kca O O hE<|kas O<|aB<|aA<|rgN<|kmv O<|kne O O (r:=false) O<|aB<|aF O ?_;refine aH ?_;refine aA<|aG<|aA<|rgN<|kfa O O ?_;refine kl1 O O O<|kfa O O ?_;refine kl1 O O O<|kne O O (r:=false) (cN c1)<|kmv O<|aN O O (dN O O) ?_;refine aO O O O (dN O O) ?_;refine aN O O (dN O O) ?_;refine aO O O O (dN O O) ?_;refine aX O O (r:=false) (cN c2) (dN O O) ?_);(refine kpf O O<|kmv O<|aN O O (dN O O) ?_;refine aO O O O (dN O O) ?_;refine aN O O (dN O O) ?_;refine aO O O O (dN O O) ?_;refine bD O O (cJ (by omega)) (dN O O) ?_;refine kpf O O<|kas O<|aB<|aF O ?_;refine aA<|rgD mixed<|aK O O O dM ?_;refine bE [(1000001,601)] (.sv (.one (.slc 601 0 p.rs.length))) [(601,some ⟨3,(int1 (p.rs.map Rl.nw)).map .val,false⟩)] (hN) O O (by exact trivial) O O O O O (by exact (.box O (bW _ _ _ _) .nil)) dM<|aK O O O dM ?_;refine bE [(1000001,602)] (.sv (.one (.slc 602 0 b.cs.length))) [(602,some ⟨3,(int1 (b.cs.map Cp.id)).map .val,false⟩)] (hI) O O (by exact trivial) O O O O O (by exact (.box O (bW _ _ _ _) .nil)) dM<|K.callL [601,602] O O O (hQ _ O O) dM ?_;refine aV O O dM<|kmv O<|aC O O O<|aC O O O<|aC O O O<|aC O O O<|kpt O O<|kas O<|aB<|rgA ?_;refine aE O ?_;refine aA<|rgN<|kas O<|aB<|aI ?_))
    exact ⟨[_],⟨O,trivial⟩,O⟩
  have hQ:=fun (S:Nat→Option (Option Box)) h1 h2=>equal_lent X (S:=S) (l:=p.rs.map Rl.nw) (m:=b.cs.map Cp.id) (j:=601) (k:=602) (n1:=p.rs.length) (n2:=b.cs.length) (e1:=3) (e2:=3) (row1:=false) (row2:=false) (by rw [cR];omega) (cK d1) (cR ..).symm (cR ..).symm h1 h2
  cases d2:p.rs.any (oldB (a.cs.map Cp.id)) with
  | true =>
    have hr:(if p.rs.length=b.cs.length then (if seqE (nwE a) (p.rs.zip b.cs)=0 then seqE (ruC a) (p.rs.zip b.cs) else 6) else (6:Int))=6:=by
      by_cases e1:p.rs.length=b.cs.length
      · rw [if_pos e1]
        by_cases e2:seqE (nwE a) (p.rs.zip b.cs)=0
        · exact absurd (news_iff.2 ⟨e1,e2⟩).2 (by rw [d2];decide)
        · rw [if_neg e2]
      · rw [if_neg e1]
    rw [hr]
    rw [d2] at hO
    ((refine aA<|rgN<|aL O O O dM<|aL O O O dM<|aL O O O dM<|kas O<|aB<|aA<|aA<|rgN<|aK O O O dM ?_;refine aK O O O dM ?_;refine aK O O O dM ?_;refine kca O O hE<|kas O<|aB<|aA<|rgN<|kmv O<|kne O O (r:=false) O<|aB<|aF O ?_;refine aH ?_;refine aA<|aG<|aA<|rgN<|kfa O O ?_;refine kl1 O O O<|kfa O O ?_;refine kl1 O O O<|kne O O (r:=false) (cN c1)<|kmv O<|aN O O (dN O O) ?_;refine aO O O O (dN O O) ?_;refine aN O O (dN O O) ?_;refine aO O O O (dN O O) ?_;refine aX O O (r:=false) (cN c2) (dN O O) ?_);(refine kpf O O<|kmv O<|aN O O (dN O O) ?_;refine aO O O O (dN O O) ?_;refine aN O O (dN O O) ?_;refine aO O O O (dN O O) ?_;refine bD O O (cJ (by omega)) (dN O O) ?_;refine kpf O O<|kas O<|aB<|aF O ?_;refine aA<|rgD mixed<|aK O O O dM ?_;refine bE [(1000001,601)] (.sv (.one (.slc 601 0 p.rs.length))) [(601,some ⟨3,(int1 (p.rs.map Rl.nw)).map .val,false⟩)] (hN) O O (by exact trivial) O O O O O (by exact (.box O (bW _ _ _ _) .nil)) dM<|aK O O O dM ?_;refine bE [(1000001,602)] (.sv (.one (.slc 602 0 b.cs.length))) [(602,some ⟨3,(int1 (b.cs.map Cp.id)).map .val,false⟩)] (hI) O O (by exact trivial) O O O O O (by exact (.box O (bW _ _ _ _) .nil)) dM<|K.callL [601,602] O O O (hQ _ O O) dM ?_;refine aV O O dM<|kmv O<|aK O O O (dN O O) ?_;refine aK O O O (dN O O) ?_;refine gca O O hO O O<|aV O O (dN O O) ?_);(refine kpf O O<|kas O<|aB<|rgA ?_;refine aE O ?_;refine aA<|rgN<|kas O<|aB<|aI ?_))
    exact ⟨[_],⟨O,trivial⟩,O⟩
  | false =>
  obtain ⟨e1,e2⟩:=news_iff.1 ⟨d1,d2⟩
  rw [if_pos e1,if_pos e2]
  rw [d2] at hO
  ((refine aA<|rgN<|aL O O O dM<|aL O O O dM<|aL O O O dM<|kas O<|aB<|aA<|aA<|rgN<|aK O O O dM ?_;refine aK O O O dM ?_;refine aK O O O dM ?_;refine kca O O hE<|kas O<|aB<|aA<|rgN<|kmv O<|kne O O (r:=false) O<|aB<|aF O ?_;refine aH ?_;refine aA<|aG<|aA<|rgN<|kfa O O ?_;refine kl1 O O O<|kfa O O ?_;refine kl1 O O O<|kne O O (r:=false) (cN c1)<|kmv O<|aN O O (dN O O) ?_;refine aO O O O (dN O O) ?_;refine aN O O (dN O O) ?_;refine aO O O O (dN O O) ?_;refine aX O O (r:=false) (cN c2) (dN O O) ?_);(refine kpf O O<|kmv O<|aN O O (dN O O) ?_;refine aO O O O (dN O O) ?_;refine aN O O (dN O O) ?_;refine aO O O O (dN O O) ?_;refine bD O O (cJ (by omega)) (dN O O) ?_;refine kpf O O<|kas O<|aB<|aF O ?_;refine aA<|rgD mixed<|aK O O O dM ?_;refine bE [(1000001,601)] (.sv (.one (.slc 601 0 p.rs.length))) [(601,some ⟨3,(int1 (p.rs.map Rl.nw)).map .val,false⟩)] (hN) O O (by exact trivial) O O O O O (by exact (.box O (bW _ _ _ _) .nil)) dM<|aK O O O dM ?_;refine bE [(1000001,602)] (.sv (.one (.slc 602 0 b.cs.length))) [(602,some ⟨3,(int1 (b.cs.map Cp.id)).map .val,false⟩)] (hI) O O (by exact trivial) O O O O O (by exact (.box O (bW _ _ _ _) .nil)) dM<|K.callL [601,602] O O O (hQ _ O O) dM ?_;refine aV O O dM<|kmv O<|aK O O O (dN O O) ?_;refine aK O O O (dN O O) ?_;refine gca O O hO O O<|aV O O (dN O O) ?_);(refine kpf O O<|kas O<|aB<|rgA ?_;refine aF O ?_;refine aH ?_;refine aA<|aA<|rgN<|kfa O O ?_;refine kl1 O O O<|aQ O bY O dM ?_;refine kmv O<|aB<|aG ?_))
  clear hE hN hI hO hQ
  have hzl:(p.rs.zip b.cs).length=p.rs.length:=by rw [List.length_zip];omega
  refine cF (fun m σ=>∃ i:Nat,i≤p.rs.length∧m=p.rs.length-i∧(∀ j,0≤j→j<i→atE (ruC a) (p.rs.zip b.cs) j=0)∧σ=ycSt a b p ad1 ad2 ad cap1 cap2 cap i X) p.rs.length
    ⟨ycSt a b p ad1 ad2 ad cap1 cap2 cap 0 X,Le.of (by exact ⟨rfl,rfl,rfl,rfl,rfl,trivial⟩) (by exact ⟨rfl,rfl,trivial⟩) (by exact rfl) (by exact rfl) (by repeat' (first|refine bR ?_ ?_|rfl|exact bT|exact bS|exact bU rfl)),0,by omega,by omega,fun j _ hj=>absurd hj (by omega),rfl⟩ ?_
  rintro m σ ⟨i,hi,rfl,hpre,rfl⟩
  by_cases hlt:i<p.rs.length
  case neg =>
    rw [show seqE (ruC a) (p.rs.zip b.cs)=0 from firstE_none fun j h1 h2=>hpre j h1 (by omega)]
    (refine aA<|rgN<|klt O O (cJ (by omega))<|aB<|aA<|aF O ?_;refine aJ<|aA<|rgN<|kas O<|aB<|aI ?_)
    exact ⟨[_],⟨O,trivial⟩,O⟩
  obtain ⟨r,hr⟩:∃ r,p.rs[i]? = some r:=⟨_,cS hlt⟩
  obtain ⟨c,hc⟩:∃ c,b.cs[i]? = some c:=⟨_,cS (by omega)⟩
  obtain ⟨rb,ro,rarr,rel,rfr,ead,ecap,rfl,hRX,hRz,hRc,_,_,_,hRE⟩:=hp.get hr
  have hior:ro+Int.toNat (i:Int)*3=ro+i*3:=by simp
  (refine aA<|rgN<|klt O O (cK (by omega))<|aB<|aA<|aE O ?_;refine aH ?_;refine aA<|aG<|aA<|rgN<|kmv O<|aR O O bY (by omega) hior dM<|aY O hRX (by kernel_rfl) hRz hRc dM<|aP O dM ?_;refine kas O<|aM O O O O O O dM ?_;refine aB<|aA ?_)
  refine LWP.le (σ':=⟨[(3,Lp 3),(4,Lp 4),(54,Lx (some ⟨rb,ro,none⟩) p.rs.length cap),(55,Ln .i64 (p.rs.length:Nat)),(56,Ln .i64 (i:Nat)),(8,Ln .i64 (i:Nat)),(9,Lp 9)],[v3B 27 9 r.nw r.old ead r.ex.length ecap,sxB 4 b.ver ad2 b.cs.length cap2,sxB 3 a.ver ad1 a.cs.length cap1],X⟩) (Le.of (by exact ⟨O,O,O,O,O,O,O,trivial⟩) (by exact ⟨O,O,O,trivial⟩) (by exact O) (by exact O) (by repeat' (first|refine bR ?_ ?_|rfl|exact bT|exact bS|exact bU O))) ?_
  repeat refine aA ?_
  refine LWP.meetL (fun σ=>∃ (Y:Nat→Option Obj) (w:Cp) (fad:Option Addr) (fcap:Nat),(∀ b x,X b=some x→Y b=some x)∧w.fs=flC a r.old∧FieldsIn Y fad w.fs∧σ=⟨[(3,Lp 3),(4,Lp 4),(54,Lx (some ⟨rb,ro,none⟩) p.rs.length cap),(55,Ln .i64 (p.rs.length:Nat)),(56,Ln .i64 (i:Nat)),(8,Ln .i64 (i:Nat)),(9,Lp 9),(10,Lp 10)],[cpB 10 w fad fcap,v3B 27 9 r.nw r.old ead r.ex.length ecap,sxB 4 b.ver ad2 b.cs.length cap2,sxB 3 a.ver ad1 a.cs.length cap1],Y⟩) ?_ ?_
  · cases ho:findC a.cs r.old with
    | none =>
      have hf:=pFind_no X a.ver ad1 cap1 a.cs r.old ha (by omega) (findC_no ho)
      (refine rgN<|aK O O O dM ?_;refine kfa O O ?_;refine kl1 O O O<|kca O O hf<|kmv O<|kex O O<|kex O O<|aP O dM ?_;refine aM O O O O O O dM ?_;refine kas O<|aB ?_)
      exact Leads.here (Le.of (by exact ⟨rfl,rfl,rfl,rfl,rfl,rfl,rfl,rfl,trivial⟩) (by exact ⟨rfl,rfl,rfl,rfl,trivial⟩) (by exact rfl) (by exact rfl) (by repeat' (first|refine bR ?_ ?_|rfl|exact bT|exact bS|exact bU rfl))) ⟨X,⟨0,[],[]⟩,none,0,fun _ _ h=>h,by unfold flC;rw [ho],fields_none rfl,rfl⟩
    | some o =>
      obtain ⟨k,hk,hid,hpr⟩:=findC_at ho
      have hw:o.fs=flC a r.old:=by unfold flC;rw [ho]
      rcases pFind X a.ver ad1 cap1 a.cs r.old ha (by omega) (fun c hc=>by have:=sa2 c hc;omega) hpr hk hid with ⟨h0,hf⟩|hf
      · have hl:o.fs.length=0:=by rw [h0];rfl
        (refine rgN<|aK O O O dM ?_;refine kfa O O ?_;refine kl1 O O O<|kca O O hf<|kmv O<|kex O O<|kex O O<|aP O dM ?_;refine aM O O O O O O dM ?_;refine kas O<|aB ?_)
        exact Leads.here (Le.of (by exact ⟨O,O,O,O,O,O,O,O,trivial⟩) (by exact ⟨O,O,O,O,trivial⟩) (by exact O) (by exact O) (by repeat' (first|refine bR ?_ ?_|rfl|exact bT|exact bS|exact bU O))) ⟨X,o,none,0,fun _ _ h=>h,hw,fields_none h0,O⟩
      · obtain ⟨_,_,_,_,_,_,_,_,_,_,_,_,_,_,hoF⟩:=ha.get hk
        (refine rgN<|aK O O O dM ?_;refine kfa O O ?_;refine kl1 O O O<|bE [(1000001,601)] (.tup [SCs o 601,Sb true]) [fdB 601 o.fs] (hf) O O (by exact trivial) O O O O O (by exact (.box O (bW _ _ _ _) .nil)) dM<|kmv O<|kex O O<|kex O O<|aP O dM ?_;refine aM O O O O O O dM ?_;refine kas O<|aB ?_)
        refine cA (σ':=⟨[(3,Lp 3),(4,Lp 4),(54,Lx (some ⟨rb,ro,none⟩) p.rs.length cap),(55,Ln .i64 (p.rs.length:Nat)),(56,Ln .i64 (i:Nat)),(8,Ln .i64 (i:Nat)),(9,Lp 9),(10,Lp 10)],[(10,some ⟨24,[.val (.int .i64 o.id),.val (.string ⟨o.nm.toArray⟩)] ++ .slc 601 0 o.fs.length 3::[],false⟩),fdB 601 o.fs,v3B 27 9 r.nw r.old ead r.ex.length ecap,sxB 4 b.ver ad2 b.cs.length cap2,sxB 3 a.ver ad1 a.cs.length cap1],X⟩) (Le.of (by exact ⟨O,O,O,O,O,O,O,O,trivial⟩) (by exact ⟨O,O,O,O,O,trivial⟩) (by exact O) (by exact O) (by repeat' (first|refine bR ?_ ?_|rfl|exact bT|exact bS|exact bU O))) ?_
        refine Leads.freezeCell O O O O O O fun blk cp arr fr hn _ _ _ hsp => ?_
        obtain ⟨sp',hsp⟩:=hsp
        exact cA (Le.of (by exact ⟨O,O,O,O,O,O,O,O,trivial⟩) (by exact ⟨O,O,O,O,trivial⟩) (by exact O) (by exact O) (by repeat' (first|refine bR ?_ ?_|rfl|exact bT|exact bS|exact bU O))) (bZ ⟨_,o,some ⟨blk,0,none⟩,cp,cE hn,hw,fields_block (cH _ _ _) hsp hoF.small,O⟩)
  rintro σ ⟨Y,w,fad,fcap,hXY,hw,hF,rfl⟩
  have hwl:w.fs.length≤12:=by
    rw [hw]
    unfold flC
    split
    · rename_i o ho;exact sa2 o (findC_some ho).1
    · exact Nat.zero_le _
  obtain ⟨cb,co,carr,cel,cfr,cad,ccap,rfl,hCX,hCz,hCc,_,_,_,hCF⟩:=hb.get hc
  have hioc:co+Int.toNat (i:Int)*3=co+i*3:=by simp
  have hCY:=hXY _ _ hCX
  have hadd:IntKind.i64.wrap ((i:Int)+1)=((i+1:Nat):Int):=by rw [cD (by omega)];omega
  have hcl:=sb2 c (cX hc)
  have hq:=yRule Y w c r fad cad ead fcap ccap ecap hF (hCF.mono hXY) (hRE.mono hXY) (by omega) (by omega) (fun q hq=>by have:=(sp.2 r (cX hr)).2 q hq;omega)
  have hat:atE (ruC a) (p.rs.zip b.cs) i=ruE w.fs c.fs r:=by rw [atE_at (zip_two hr hc),hw];rfl
  by_cases he:ruE w.fs c.fs r=0
  · rw [he] at hq
    (refine aA<|rgD mixed<|aK O O O dM ?_;refine kfa O O ?_;refine kl1 O O O<|kmv O<|aR O O bY (by omega) hioc dM<|aY O hCY (by kernel_rfl) hCz hCc dM<|aK O O O dM ?_;refine kca O O hq<|kas O<|aB<|rgA ?_;refine aA<|rgN<|kmv O<|kne O O (r:=false) O<|aB<|aF O ?_;refine aH ?_;refine rgN<|kad O O hadd<|kmv O<|aB ?_)
    exact ⟨_,ycSt a b p ad1 (some ⟨cb,co,none⟩) (some ⟨rb,ro,none⟩) cap1 cap2 cap (i+1) X,by omega,(by refine Le.trans ?_ (Le.drop hXY);exact Le.of (by exact ⟨O,O,O,O,O,trivial⟩) (by exact ⟨O,O,trivial⟩) (by exact O) (by exact O) (by repeat' (first|refine bR ?_ ?_|rfl|exact bT|exact bS|exact bU O))),i+1,by omega,O,(fun j h0 hj=>by
      by_cases e:j=i
      · rw [e,hat];exact he
      · exact hpre j h0 (by omega)),rfl⟩
  · rw [show seqE (ruC a) (p.rs.zip b.cs)=ruE w.fs c.fs r from firstE_some hpre (Nat.zero_le _) (by omega) hat he]
    generalize ruE w.fs c.fs r=e at *
    (refine aA<|rgD mixed<|aK O O O dM ?_;refine kfa O O ?_;refine kl1 O O O<|kmv O<|aR O O bY (by omega) hioc dM<|aY O hCY (by kernel_rfl) hCz hCc dM<|aK O O O dM ?_;refine kca O O hq<|kas O<|aB<|rgA ?_;refine aA<|rgN<|kmv O<|kne O O (r:=true) (cO he)<|aB<|aE O ?_;refine aA<|rgN<|kmv O<|kas O<|aB<|aI ?_)
    exact ⟨[_],⟨O,trivial⟩,O⟩
end Go.Proofs.YtnfbccfghgmfiaaGreat
end
section
namespace Go.Proofs.YtnfbccfghgmfiaaGreat
open Go Go.Lg Go.Lg.Fml Go.Lg.Fld Go.Lg.Arith
set_option maxRecDepth 100000
def scOk (cs:List Cp):Prop:=cs.length≤30∧∀ c∈cs,c.fs.length≤12
def scBig (cs:List Cp):Prop:=cs.length≤4398046511104∧∀ c∈cs,c.fs.length≤4398046511104
theorem scOk.big {cs:List Cp} (h:scOk cs):scBig cs:=⟨by have:=h.1;omega,fun c hc=>by have:=h.2 c hc;omega⟩
theorem scOk.names {cs:List Cp} (h:scOk cs) (hn:NamesIn cs):NamesC cs:=fun c hc=>⟨by have:=h.2 c hc;omega,hn c hc⟩
variable (X:Nat→Option Obj)
theorem cFormula (c:Cp) (f:Fl) (l:List Ins) (cad ad:Option Addr) (ccap cap:Nat) (hF:FieldsIn X cad c.fs) (hin:InsIn X ad l) (hbig:l.length<1152921504606846976) (hfl:c.fs.length<4611686018427387904):
    PSpec Tryz.prog X 11 [Cx c cad ccap,Fx f,Lx ad l.length cap] (Ln .i64 (fmE c.fs f l)):=yFormula X c f l cad ad ccap cap hF hin hbig hfl
theorem cRule (a b:Cp) (r:Rl) (aad bad ead:Option Addr) (acap bcap ecap:Nat) (hA:FieldsIn X aad a.fs) (hB:FieldsIn X bad b.fs) (hE:CodesIn X ead r.ex) (hal:a.fs.length<4611686018427387904) (hbl:b.fs.length<4611686018427387904) (hcl:∀ c∈r.ex,c.length<1152921504606846976):
    PSpec Tryz.prog X 9 [Cx a aad acap,Cx b bad bcap,.sv (.agg [.val (.int .i64 r.nw),.val (.int .i64 r.old),.val (.slice ead r.ex.length ecap)])] (Ln .i64 (ruE a.fs b.fs r)):=yRule X a b r aad bad ead acap bcap ecap hA hB hE hal hbl hcl
theorem cCheck (a b:Sc) (p:Pg) (ad1 ad2 ad:Option Addr) (cap1 cap2 cap:Nat) (ha:CompsIn X ad1 a.cs) (hb:CompsIn X ad2 b.cs) (hp:RulesIn X ad p.rs) (na:NamesIn a.cs) (nb:NamesIn b.cs) (sa:scOk a.cs) (sb:scOk b.cs) (sp:p.rs.length≤30∧∀ r∈p.rs,r.ex.length≤12∧∀ c∈r.ex,c.length≤80):
    PSpec Tryz.prog X 15 [Sx a.ver ad1 a.cs.length cap1,Sx b.ver ad2 b.cs.length cap2,LPg p.va p.vb ad p.rs.length cap] (Ln .i64 (ckE a b p)):=yCheck X a b p ad1 ad2 ad cap1 cap2 cap ha hb hp (sa.names na) (sb.names nb) sa sb sp
theorem cPlain (a b:Sc) (ad1 ad2:Option Addr) (cap1 cap2:Nat) (ha:CompsIn X ad1 a.cs) (hb:CompsIn X ad2 b.cs) (na:NamesIn a.cs) (nb:NamesIn b.cs) (sa:scBig a.cs) (sb:scBig b.cs):
    (b.cs=[]∧PSpec Tryz.prog X 13 [Sx a.ver ad1 a.cs.length cap1,Sx b.ver ad2 b.cs.length cap2] (.sv (SPg a.ver b.ver none 0 0))) ∨
    MSpec Tryz.prog X 13 [Sx a.ver ad1 a.cs.length cap1,Sx b.ver ad2 b.cs.length cap2] [] (.sv (.agg [.val (.int .i64 a.ver),.val (.int .i64 b.ver),.slc 1000001 0 b.cs.length 3])) [rlB 27 1000001 (plainP a b).rs]:=.inr (yPlain X a b ad1 ad2 cap1 cap2 ha hb sa sb)
theorem formula_lent {S:Nat→Option (Option Box)} {c:Cp} {f:Fl} {l:List Ins} {cad:Option Addr} {ccap k:Nat} {e:TypeId} {t:TypeId} {r:Int} {row:Bool} (hF:FieldsIn X cad c.fs) (hs:∀ x∈l,smallI x) (hbig:l.length<1152921504606846976) (hfl:c.fs.length<4611686018427387904) (he:fmE c.fs f l=r) (hk:S k=some (some ⟨e,(inssV l).map .val,row⟩)):
    ∀ (Y:Nat→Option Obj) (us:List Value),(∀ b o,X b=some o→Y b=some o)→LentLs S Y [Cx c cad ccap,Fx f,.sv (.one (.slc k 0 l.length 6))] us→PSpec Tryz.prog Y 11 (us.map toLV) (Ln .i64 r):=by
  subst he
  intro Y us hY hL
  obtain ⟨u1,us1,rfl,⟨av,rfl,a1,av1,rfl,g1,a2,av2,rfl,g2,a3,av3,rfl,g3,rfl⟩,u2,us2,rfl,⟨bv,rfl,b1,bv1,rfl,f1,b2,bv2,rfl,f2,b3,bv3,rfl,f3,rfl⟩,u3,us3,rfl,h3,rfl⟩:=hL
  have g1:a1 = .int .i64 c.id:=g1
  have g2:a2 = .string ⟨c.nm.toArray⟩:=g2
  have g3:a3 = .slice cad c.fs.length ccap:=g3
  have f1:b1 = .string ⟨f.nm.toArray⟩:=f1
  have f2:b2 = .int .i64 f.kind:=f2
  have f3:b3 = .int .i64 f.count:=f3
  subst g1 g2 g3 f1 f2 f3
  obtain ⟨bb,blk,cap2,m,hk',rfl,hc,hfit,hB⟩:=h3
  rw [hk] at hk'
  simp only [Option.some.injEq] at hk'
  subst hk'
  obtain ⟨arr,fr,us',sp,hYb,hsz,harr,hv⟩:=hB
  have:=hv (inssV l) rfl
  subst this
  exact cFormula Y c f l cad (some ⟨blk,0,none⟩) ccap cap2 (hF.mono hY) (ins_in hYb hs ⟨sp,harr⟩) hbig hfl
end Go.Proofs.YtnfbccfghgmfiaaGreat
end
section
namespace Go.Lg.Fld
open Go Go.Lg
theorem comps_lit {Y:Nat→Option Obj} {blk:Nat} {arr:Array Value} {el:TypeId} {fr:Nat×Nat} {cs:List Cp} {cells sp:List Value} (hY:Y blk=some (.cells arr el fr)) (ha:arr.toList=rowsZ cs cells++sp) (hl:cells.length=cs.length) (hb:∀ c∈cs,-9223372036854775808≤c.id∧c.id<9223372036854775808)
    (hf:∀ (i:Nat) (c:Cp) (v:Value),cs[i]? = some c→cells[i]? = some v→∃ fad fcap,v = .slice fad c.fs.length fcap∧FieldsIn Y fad c.fs):CompsIn Y (some ⟨blk,0,none⟩) cs:=by
  refine ⟨fun i c hc => ?_,hb⟩
  have hi:=(List.getElem?_eq_some_iff.1 hc).1
  obtain ⟨v,hv⟩:∃ v,cells[i]? = some v:=⟨_,cS (by omega)⟩
  obtain ⟨fad,fcap,rfl,hF⟩:=hf i c v hc hv
  have hpre:(rowsZ (cs.take i) (cells.take i)).length=i*3:=by rw [rowsZ_len (by rw [cU,cU,hl]),cU,Nat.min_eq_left (by omega)]
  refine ⟨blk,0,arr,el,fr,fad,fcap,O,hY,?_,?_,hF⟩
  · rw [← Array.length_toList,ha,cQ,rowsZ_len hl];omega
  · rw [ha,rowsZ_split hc hv,Nat.zero_add,dH,← hpre,List.drop_left];rfl
end Go.Lg.Fld
namespace Go.Proofs.YtnfbccfghgmfiaaGreat
open Go Go.Lg Go.Lg.Fml Go.Lg.Fld Go.Lg.Arith
set_option maxRecDepth 100000
def fl13a:List Fl:=[⟨[120],2,1⟩,⟨[114],10,1⟩]
def fl13b:List Fl:=[⟨[120],4,1⟩]
def sc13a:Sc:=⟨1,[⟨1,[97],fl13a⟩]⟩
def sc13b:Sc:=⟨2,[⟨1,[97],fl13b⟩,⟨2,[98],[]⟩]⟩
theorem chk13a:chkE sc13a=0:=by decide +kernel
theorem chk13b:chkE sc13b=0:=by decide +kernel
theorem plain13:plainP sc13a sc13b=⟨1,2,[⟨1,1,[[⟨3,0,0,(false,0)⟩]]⟩,⟨2,0,[]⟩]⟩:=by decide +kernel
theorem ck13:ckE sc13a sc13b (plainP sc13a sc13b)=0:=plain_ok chk13a chk13b (by decide)
theorem ck13b:ckE sc13b sc13a (plainP sc13a sc13b)=7:=by decide +kernel
theorem ck13n:ckE sc13a sc13b ⟨1,2,[]⟩=6:=by decide +kernel
theorem fm13a:fmE fl13a ⟨[120],4,1⟩ [⟨3,1,0,(false,0)⟩]=8:=by decide +kernel
theorem fm13b:fmE fl13a ⟨[120],4,1⟩ [⟨3,2,0,(false,0)⟩]=3:=by decide +kernel
variable (X:Nat→Option Obj)
abbrev c13a (c:CV):List CV:=[.val (.int .i64 1),.val (.string ⟨#[97]⟩),c]
abbrev c13b (c:CV):List CV:=[.val (.int .i64 1),.val (.string ⟨#[97]⟩),c,.val (.int .i64 2),.val (.string ⟨#[98]⟩),.val (.slice none 0 0)]
theorem two13_spec:MSpec Tryz.prog X 17 [] [] (.tup [.agg [.val (.int .i64 1),.slc 1000001 0 1 3],.agg [.val (.int .i64 2),.slc 1000003 0 2 3]])
    [(1000001,some ⟨24,c13a (.slc 1000002 0 2 3),false⟩),(1000002,some ⟨49,(flV fl13a).map .val,false⟩),(1000003,some ⟨24,c13b (.slc 1000004 0 1 3),false⟩),(1000004,some ⟨49,(flV fl13b).map .val,false⟩)]:=by
  refine cC Tryz.func17 rfl (by kernel_rfl) rfl rfl (by exact (by repeat' (first|refine bR ?_ ?_|rfl|exact bT|exact bS|exact bU rfl))) rfl rfl ?_
  intro C
  (refine aA<|rgN<|aP O dM ?_;refine aP O dM ?_;refine aB<|aA<|rgN<|aT O O (by exact O) (by exact nl3 O O O O) dM ?_;refine aT O O (by exact O) (by exact nl3 O O O O) dM ?_;refine aZ (zs:=(List.replicate 2 [Value.string ⟨#[]⟩,.int .i64 0,.int .i64 0]).flatten) (sz:=3) (e:=49) (cs':=(flV fl13a).map .val) (by kernel_rfl) O O O O O O dM<|aT O O (by exact O) (by exact nl3 O O O O) dM ?_;refine aZ (zs:=(List.replicate 1 [Value.int .i64 0,.string ⟨#[]⟩,.slice none 0 0]).flatten) (sz:=3) (e:=24) (cs':=c13a (.slc 6 0 2 3)) (by kernel_rfl) O O O O O O dM<|aT O O (by exact O) (by exact nl2 O O O) dM ?_;refine aP O dM ?_;refine aM O O O O O O dM ?_;refine aB<|aA<|rgN<|aT O O (by exact O) (by exact nl3 O O O O) dM ?_;refine aZ (zs:=(List.replicate 1 [Value.string ⟨#[]⟩,.int .i64 0,.int .i64 0]).flatten) (sz:=3) (e:=49) (cs':=(flV fl13b).map .val) (by kernel_rfl) O O O O O O dM<|aT O O (by exact O) (by exact nl3 O O O O) dM ?_;refine aT O O (by exact O) (by exact nl3 O O O O) dM ?_;refine aZ (zs:=(List.replicate 2 [Value.int .i64 0,.string ⟨#[]⟩,.slice none 0 0]).flatten) (sz:=3) (e:=24) (cs':=c13b (.slc 11 0 1 3)) (by kernel_rfl) O O O O O O dM<|aT O O (by exact O) (by exact nl2 O O O) dM ?_;refine aP O dM ?_;refine aM O O O O O O dM ?_;refine aB<|aA<|rgD mixed<|aK O O O dM ?_;refine aK O O O dM ?_;refine aM O O O O O O dM ?_;refine aM O O O O O O dM ?_;refine aB<|rgA ?_;refine aI ?_)
  exact ⟨[(1000001,8),(1000002,6),(1000003,14),(1000004,11)],⟨[_,_],⟨⟨_,_,rfl,rfl,rfl,.inl ⟨AggT.h,rfl⟩⟩,⟨_,_,rfl,rfl,rfl,.inl ⟨AggT.h,rfl⟩⟩,trivial⟩,rfl⟩,(by repeat' (first|exact trivial|refine cL ⟨_,rfl,?_⟩ ?_|refine cL ⟨_,rfl⟩ ?_|rfl|exact bV _ _ _ _|exact bW _ _ _ _|exact bX rfl)),rfl,rfl⟩
end Go.Proofs.YtnfbccfghgmfiaaGreat
end
