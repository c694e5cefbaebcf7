/- A piece of a proof over this program: contracts of its functions, and a logic to prove them by. -/
import Derived.Test.YtopiioklkkiedaaGreatDoorW3
import Derived.Test.YtopiioklkkiedaaGreatDoorW4
import Derived.Test.YtopiioklkkiedaaGreatDoorW5
import Derived.Test.YtopiioklkkiedaaGreatDoorW6
import Derived.Lib.ItoaLen
import Derived.Laws.BitsAllLaws
import Derived.Lib.Join
import Derived.Lib.IndexLaws
section
set_option maxHeartbeats 12800000
set_option maxRecDepth 100000
namespace Go.Proofs.YtopiioklkkiedaaGreatDoor
open Go Go.Lg Go.Lg.Fml Go.Lg.Fld Go.RowKit Go.ChangeShapes Go.WideShapes Go.Joins
set_option maxRecDepth 100000
section
variable {H:Type} {enc:TypeId×Value→H} {w:World}
theorem cellsPg:Tryz.prog.cellsOf 36=3:=by kernel_rfl
end
end Go.Proofs.YtopiioklkkiedaaGreatDoor
end
section
set_option maxHeartbeats 12800000
set_option maxRecDepth 100000
namespace Go.Proofs.YtopiioklkkiedaaGreatDoor
open Go Go.Lg Go.Lg.Fml Go.Lg.Fld Go.RowKit Go.ChangeShapes Go.WideShapes Go.Joins
set_option maxRecDepth 100000
section
variable {H:Type} {enc:TypeId×Value→H} {w:World}
theorem open_fields_w {fuel:Nat} {l:List Value} {x:DataW H×List MemPlace} (h:DataW.trod enc Tryz.prog w 0 (fun _=>true) true fuel 22 l=some x) (hw:Light Tryz.prog 22 x.1):
  ∃ (ad:Option Addr) (cap:Nat) (fs:List Fl),l=[.slice ad fs.length cap]∧(fs.length≤4398046511104∧fs.length≤cap)∧FieldsIn (fun b=>w.heap[b]?) ad fs∧∀ f∈fs,f.nm.length≤9223372036854775807:=by
 obtain ⟨ad,cap,rows,rfl,hb,hroom,_,h3,h4⟩:=open_rows_w (e:=83) (sz:=3) V5 V5 VA h hw
 obtain ⟨fs,rfl,h5⟩:=map_of (f:=Fl.vals) (q:=fun f=>((-9223372036854775808≤f.kind∧f.kind<9223372036854775808)∧(-9223372036854775808≤f.count∧f.count<9223372036854775808))∧f.nm.length≤9223372036854775807) (vs:=rows) (fun u hu=>by
  obtain ⟨hlen,n,x,hx,_⟩:=h4 u hu
  obtain ⟨y0,y1,y2,n',_,_,g0,g1,g2⟩:=Deep.trod_struct3 (t:=83) Tryz.underlying83 hx
  obtain ⟨e0',e1',e2',rfl⟩:∃ c0 c1 c2,u=[c0,c1,c2]:=by
   match u,hlen with
   | [c0,c1,c2],_=>exact ⟨c0,c1,c2,rfl⟩
  obtain ⟨s,e0,_,hsz⟩:=DataW.trod_string V5 g0
  obtain ⟨k,e1,_,wa1⟩:=DataW.trod_int (k:=.i64) V5 g1
  obtain ⟨c,e2,_,wa2⟩:=DataW.trod_int (k:=.i64) V5 g2
  have q0:e0' = .string s:=by simpa using (show ([e0',e1',e2'].drop 0).take 1=[.string s] from e0)
  have q1:e1' = .int .i64 k:=by simpa using (show ([e0',e1',e2'].drop 1).take 1=[.int .i64 k] from e1)
  have q2:e2' = .int .i64 c:=by simpa using (show ([e0',e1',e2'].drop 2).take 1=[.int .i64 c] from e2)
  subst q0 q1 q2
  have b1:=bounds_i64 wa1
  have b2:=bounds_i64 wa2
  exact ⟨⟨s.data.toList,k,c⟩,rfl,(show (-9223372036854775808≤k∧k<9223372036854775808)∧(-9223372036854775808≤c∧c<9223372036854775808) by omega),(show s.data.toList.length≤_ from (by unfold maxLen at hsz;rw [Array.length_toList];exact hsz))⟩)
 exact ⟨ad,cap,fs,by rw [cX],⟨by rw [cX,show Tryz.prog.bytesOf 83=32 by kernel_rfl,show reachBytes=140737488351232 by decide] at hb;omega,by rw [cX] at hroom;exact hroom⟩,⟨h3,fun f hf=>(h5 f hf).1⟩,fun f hf=>(h5 f hf).2⟩
theorem open_comps_w {fuel:Nat} {l:List Value} {x:DataW H×List MemPlace} (h:DataW.trod enc Tryz.prog w 0 (fun _=>true) true fuel 31 l=some x) (hw:Light Tryz.prog 31 x.1):
  ∃ (ad:Option Addr) (cap:Nat) (cs:List Cp),l=[.slice ad cs.length cap]∧cs.length≤4398046511104∧CompsIn (fun b=>w.heap[b]?) ad cs∧NamesIn cs∧∀ c∈cs,c.fs.length≤4398046511104:=by
 obtain ⟨ad,cap,rows,rfl,hb,h1,_,h3,h4⟩:=open_rows_w (e:=24) (sz:=3) V5 V5 VA h hw
 obtain ⟨ts,rfl,h5⟩:=map_of (f:=fun t:Cp×Option Addr×Nat=>[.int .i64 t.1.id,.string ⟨t.1.nm.toArray⟩,.slice t.2.1 t.1.fs.length t.2.2]) (q:=fun t=>(FieldsIn (fun b=>w.heap[b]?) t.2.1 t.1.fs∧((-9223372036854775808≤t.1.id∧t.1.id<9223372036854775808)∧t.1.fs.length≤4398046511104))∧t.1.nm.length≤9223372036854775807∧∀ f∈t.1.fs,f.nm.length≤9223372036854775807) (vs:=rows) (fun u hu=>by
  obtain ⟨hlen,n,x,hx,hxw⟩:=h4 u hu
  obtain ⟨y0,y1,y2,n',ex,_,g0,g1,g2⟩:=Deep.trod_struct3 (t:=24) Tryz.underlying24 hx
  rw [ex] at hxw
  have hF3:=(Light.struct3 Tryz.underlying24 hxw).2.2
  obtain ⟨e0',e1',e2',rfl⟩:∃ c0 c1 c2,u=[c0,c1,c2]:=by
   match u,hlen with
   | [c0,c1,c2],_=>exact ⟨c0,c1,c2,rfl⟩
  obtain ⟨k,e0,_,wa1⟩:=DataW.trod_int (k:=.i64) V5 g0
  obtain ⟨s,e1,_,hsz⟩:=DataW.trod_string V5 g1
  obtain ⟨fad,fcap,fs,e2,hFl,hF,hFn⟩:=open_fields_w g2 hF3
  have q0:e0' = .int .i64 k:=by simpa using (show ([e0',e1',e2'].drop 0).take 1=[.int .i64 k] from e0)
  have q1:e1' = .string s:=by simpa using (show ([e0',e1',e2'].drop 1).take 1=[.string s] from e1)
  have q2:e2' = .slice fad fs.length fcap:=by simpa using (show ([e0',e1',e2'].drop 2).take 1=[.slice fad fs.length fcap] from e2)
  subst q0 q1 q2
  have b1:=bounds_i64 wa1
  exact ⟨(⟨k,s.data.toList,fs⟩,fad,fcap),rfl,⟨hF,(show -9223372036854775808≤k∧k<9223372036854775808 by omega),hFl.1⟩,(show s.data.toList.length≤_ from (by unfold maxLen at hsz;rw [Array.length_toList];exact hsz)),hFn⟩)
 refine ⟨ad,cap,ts.map (·.1),by rw [cX,cX],by rw [cX,show Tryz.prog.bytesOf 24=48 by kernel_rfl,show reachBytes=140737488351232 by decide] at hb;rw [cX];omega,⟨fun i c hc => ?_,fun c hc => ?_⟩,fun c hc => ?_,fun c hc => ?_⟩
 ·rw [dM] at hc
  cases ht:ts[i]? with
  | none=>rw [ht] at hc;cases hc
  | some t =>
   rw [ht] at hc
   simp only [Option.map_some,Option.some.injEq] at hc
   subst hc
   obtain ⟨blk,off,arr,el,fr,g1,g2,g3,g4⟩:=h3 i _ (by rw [dM,ht];rfl)
   exact ⟨blk,off,arr,el,fr,t.2.1,t.2.2,g1,g2,g3,g4,(h5 t (dE ht)).1.1⟩
 ·obtain ⟨t,ht,rfl⟩:=List.mem_map.1 hc
  exact (h5 t ht).1.2.1
 ·obtain ⟨t,ht,rfl⟩:=List.mem_map.1 hc
  exact (h5 t ht).2
 ·obtain ⟨t,ht,rfl⟩:=List.mem_map.1 hc
  exact (h5 t ht).1.2.2
theorem open_inss_w {fuel:Nat} {lv:List Value} {xx:DataW H×List MemPlace} (h:DataW.trod enc Tryz.prog w 0 (fun _=>true) true fuel 90 lv=some xx) (hw:Light Tryz.prog 90 xx.1):
  ∃ (ad:Option Addr) (cap:Nat) (l:List Ins),lv=[.slice ad l.length cap]∧l.length≤4398046511104∧InsIn (fun b=>w.heap[b]?) ad l:=by
 obtain ⟨ad,cap,rows,rfl,hb,h1,h2,h3,h4⟩:=open_rows_w (e:=88) (sz:=6) V5 V5 VA h hw
 obtain ⟨l,rfl,h5⟩:=map_of (f:=insV) (q:=smallI) (vs:=rows) (fun u hu=>by
  obtain ⟨hlen,n,x,hx,_⟩:=h4 u hu
  obtain ⟨y0,y1,y2,y3,n',_,_,g0,g1,g2,g3⟩:=trod_struct4 (t:=88) Tryz.underlying88 hx
  obtain ⟨c0,c1,c2,c3,c4,c5,rfl⟩:∃ c0 c1 c2 c3 c4 c5,u=[c0,c1,c2,c3,c4,c5]:=by
   match u,hlen with
   | [c0,c1,c2,c3,c4,c5],_=>exact ⟨c0,c1,c2,c3,c4,c5,rfl⟩
  obtain ⟨k0,e0,_,wa0⟩:=DataW.trod_int (k:=.i64) V5 g0
  obtain ⟨k1,e1,_,wa1⟩:=DataW.trod_int (k:=.i64) V5 g1
  obtain ⟨k2,e2,_,wa2⟩:=DataW.trod_int (k:=.i64) V5 g2
  obtain ⟨z0,z1,z2,m',_,_,j0,j1,j2⟩:=Deep.trod_struct3 (t:=86) Tryz.underlying86 g3
  obtain ⟨b,e3,_⟩:=DataW.trod_bool V5 j0
  obtain ⟨x,e4,_,wa4⟩:=DataW.trod_int (k:=.u64) V5 j1
  obtain ⟨y,e5,_,wa5⟩:=DataW.trod_int (k:=.u64) V5 j2
  have q0:c0 = .int .i64 k0:=by simpa using (show ([c0,c1,c2,c3,c4,c5].drop 0).take 1=[.int .i64 k0] from e0)
  have q1:c1 = .int .i64 k1:=by simpa using (show ([c0,c1,c2,c3,c4,c5].drop 1).take 1=[.int .i64 k1] from e1)
  have q2:c2 = .int .i64 k2:=by simpa using (show ([c0,c1,c2,c3,c4,c5].drop 2).take 1=[.int .i64 k2] from e2)
  have q3:c3 = .bool b:=by simpa using (show ((([c0,c1,c2,c3,c4,c5].drop 3).take 3).drop 0).take 1=[.bool b] from e3)
  have q4:c4 = .int .u64 x:=by simpa using (show ((([c0,c1,c2,c3,c4,c5].drop 3).take 3).drop 1).take 1=[.int .u64 x] from e4)
  have q5:c5 = .int .u64 y:=by simpa using (show ((([c0,c1,c2,c3,c4,c5].drop 3).take 3).drop 2).take 1=[.int .u64 y] from e5)
  subst q0 q1 q2 q3 q4 q5
  have b0:=bounds_i64 wa0
  have b1:=bounds_i64 wa1
  have b2:=bounds_i64 wa2
  have b4:=bounds_u64 wa4
  have b5:=bounds_u64 wa5
  refine ⟨⟨k0,k1,k2,(b,x*18446744073709551616+y)⟩,?_,by show -9223372036854775808≤k0∧k0<9223372036854775808;omega,by show -9223372036854775808≤k1∧k1<9223372036854775808;omega,by show -9223372036854775808≤k2∧k2<9223372036854775808;omega,by show 0≤x*18446744073709551616+y;omega,by show x*18446744073709551616+y<_;omega⟩
  unfold insV
  show _=[Value.int .i64 k0,.int .i64 k1,.int .i64 k2,.bool b,.int .u64 ((x*18446744073709551616+y)/18446744073709551616),.int .u64 ((x*18446744073709551616+y)%18446744073709551616)]
  rw [show (x*18446744073709551616+y)/18446744073709551616=x by omega,show (x*18446744073709551616+y)%18446744073709551616=y by omega])
 exact ⟨ad,cap,l,by rw [cX],by rw [cX,show Tryz.prog.bytesOf 88=48 by kernel_rfl,show reachBytes=140737488351232 by decide] at hb;omega,⟨h3,h5⟩⟩
theorem open_schema_w {r:Reach} {b0:Nat} {v:Value} {d:DataW H} {p:List MemPlace} (hv:Value.okWide Tryz.prog w r b0 33 v) (h:DataW.Trod enc Tryz.prog w 0 (fun _=>true) true 33 v d p) (hw:Light Tryz.prog 33 d):
  ∃ (ver:Int) (ad:Option Addr) (cap:Nat) (cs:List Cp),v = .agg #[.int .i64 ver,.slice ad cs.length cap]∧(-9223372036854775808≤ver∧ver<9223372036854775808)∧cs.length≤4398046511104∧CompsIn (fun b=>w.heap[b]?) ad cs∧NamesIn cs∧∀ c∈cs,c.fs.length≤4398046511104:=by
 obtain ⟨v0,v1,y0,y1,m,rfl,rfl,rfl,hy0,hy1⟩:=open_agg2 Tryz.underlying33 V5 cellsS hv h
 have hw1:=(Light.struct2 Tryz.underlying33 hw).2
 obtain ⟨x,e0,rfl,wx⟩:=DataW.trod_int (k:=.i64) V5 hy0
 obtain ⟨ad,cap,cs,e1,h1,h2,h3,h4⟩:=open_comps_w hy1 hw1
 simp at e0 e1
 subst e0 e1
 have b0:=bounds_i64 wx
 exact ⟨x,ad,cap,cs,O,by omega,h1,h2,h3,h4⟩
end
end Go.Proofs.YtopiioklkkiedaaGreatDoor
end
section
set_option maxHeartbeats 12800000
set_option maxRecDepth 100000
namespace Go.Proofs.YtopiioklkkiedaaGreatDoor
open Go Go.Lg Go.Lg.Fml Go.Lg.Fld Go.Lg.Arith
def findE (fs:List Fl) (f:Fl) (x:Ins):Int:=
 if x.op=2∨x.op=3 then (match fs[x.a.toNat]? with
  | none=>3
  | some g=>if (x.op=2∧g.count≤x.b)∨(x.op=3∧g.count<f.count) then 3 else if (g.kind=10)=(f.kind=10) then 0 else 8)
 else 0
def atE {α:Type} (g:α→Int) (l:List α) (i:Nat):Int:=match l[i]? with|some x=>g x|none=>0
theorem atE_at {α:Type} {g:α→Int} {l:List α} {i:Nat} {x:α} (h:l[i]? = some x):atE g l i=g x:=by unfold atE;rw [h]
def seqE {α:Type} (g:α→Int) (l:List α):Int:=firstE (atE g l) 0 l.length
theorem seqE_zero {α:Type} {g:α→Int} {l:List α} (h:seqE g l=0):∀ x∈l,g x=0:=fun x hx=>by
 obtain ⟨i,hi⟩:=List.mem_iff_getElem?.1 hx
 have:=firstE_zero h i (Nat.zero_le _) (by have:=(wl hi);omega)
 rw [atE_at hi] at this;exact this
theorem seqE_none {α:Type} {g:α→Int} {l:List α} (h:∀ x∈l,g x=0):seqE g l=0:=firstE_none fun j _ _=>by
 unfold atE
 split
 ·rename_i x hx;exact h x (dE hx)
 ·rfl
def refE (f:Fl):List Ins→Int
 | [x]=>if f.kind=10∧(x.op=4∨(x.op=1∧x.k≠(false,0))) then 8 else 0
 | _=>if f.kind=10 then 8 else 0
def fmE (fs:List Fl) (f:Fl) (l:List Ins):Int:=if chkX l=0 then (if seqE (findE fs f) l=0 then refE f l else seqE (findE fs f) l) else chkX l
def ruE (fs gs:List Fl) (r:Rl):Int:=if r.old=0 then 0 else if r.ex.length=gs.length then seqE (fun q:Fl×List Ins=>fmE fs q.1 q.2) (gs.zip r.ex) else 4
def findC (cs:List Cp) (id:Int):Option Cp:=cs.find? fun c=>c.id==id
def nwE (a:Sc) (q:Rl×Cp):Int:=if q.1.nw=q.2.id∧(q.1.old=0∨(findC a.cs q.1.old).isSome) then 0 else 6
def flC (a:Sc) (id:Int):List Fl:=match findC a.cs id with|some c=>c.fs|none=>[]
def ruC (a:Sc) (q:Rl×Cp):Int:=ruE (flC a q.1.old) q.2.fs q.1
def ckE (a b:Sc) (p:Pg):Int:=
 if chkE a=0 then (if chkE b=0 then (if chkP p=0 then (if p.va=a.ver∧p.vb=b.ver∧p.va<p.vb then (if p.rs.length=b.cs.length then (if seqE (nwE a) (p.rs.zip b.cs)=0 then seqE (ruC a) (p.rs.zip b.cs) else 6) else 6) else 7) else chkP p) else chkE b) else chkE a
theorem findC_some {cs:List Cp} {id:Int} {c:Cp} (h:findC cs id=some c):c∈cs∧c.id=id:=⟨List.mem_of_find?_eq_some h,by have:=List.find?_some h;simpa using this⟩
theorem findC_at {cs:List Cp} {id:Int} {c:Cp} (h:findC cs id=some c):∃ i,cs[i]? = some c∧c.id=id∧∀ (j:Nat) (y:Cp),j<i→cs[j]? = some y→(y.id==id)=false:=by
 obtain ⟨hp,i,hi,he,hj⟩:=List.find?_eq_some_iff_getElem.1 h
 refine ⟨i,by rw [cY hi,he],by simpa using hp,fun j y hji hy => ?_⟩
 obtain ⟨hj',e⟩:=List.getElem?_eq_some_iff.1 hy
 have:=hj j hji
 rw [e] at this
 simpa using this
theorem findC_no {cs:List Cp} {id:Int} (h:findC cs id=none):∀ (j:Nat) (y:Cp),cs[j]? = some y→(y.id==id)=false:=fun j y hy=>by
 have:=List.find?_eq_none.1 h y (dE hy)
 simpa using this
theorem chkE_good {s:Sc} (h:chkE s=0):(1≤s.ver∧s.ver≤1073741824)∧Fld.Good s.cs:=by
 unfold chkE at h
 by_cases hv:s.ver<1∨1073741824<s.ver
 ·rw [if_pos hv] at h;cases h
 ·rw [if_neg hv] at h;exact ⟨by omega,good_of h⟩
end Go.Proofs.YtopiioklkkiedaaGreatDoor
end
section
set_option maxHeartbeats 12800000
set_option maxRecDepth 100000
namespace Go.Lg.Sg
open Go Go.Lg
def bl (f:Nat→Bool):List CV:=(List.range 32).map fun j=>.val (.bool (f j))
def okJ (id:Int):Bool:=decide (1≤id)&&decide (id≤24)
theorem okI_iff {id:Int}:okJ id=true↔1≤id∧id≤24:=by unfold okJ;simp
def hasB (a:Nat) (id:Int):Bool:=okJ id&&a.testBit id.toNat
theorem half_bit (a i:Nat):(a/2^i%2==1)=a.testBit i:=by
 rw [Nat.testBit_eq_decide_div_mod_eq]
 by_cases h:a/2^i%2=1
 ·rw [cP h];exact cV h
 ·rw [cO h];exact cS h
theorem half_next (a i:Nat):a/2^i/2=a/2^(i+1):=by rw [Nat.div_div_eq_div_mul,← Nat.pow_succ]
end Go.Lg.Sg
namespace Go.Proofs.YtopiioklkkiedaaGreatDoor
open Go Go.Lg Go.Lg.Fld Go.Lg.Sg
set_option maxRecDepth 100000
variable (X:Nat→Option Obj)
end Go.Proofs.YtopiioklkkiedaaGreatDoor
end
section
set_option maxHeartbeats 12800000
set_option maxRecDepth 100000
namespace Go.Lg.Sg
open Go Go.Lg
def txStep (s:List UInt8×Bool) (x:Int):List UInt8×Bool:=(s.1++(if s.2=true then [43] else [])++Lib.itoa x,true)
def txF (l:List Int):List UInt8×Bool:=l.foldl txStep ([],false)
def ofN (ids:List Int):Nat:=ids.foldl (fun n id=>n ||| 2^id.toNat) 0
end Go.Lg.Sg
namespace Go.Proofs.YtopiioklkkiedaaGreatDoor
open Go Go.Lg Go.Lg.Fld Go.Lg.Sg
set_option maxRecDepth 100000
variable (X:Nat→Option Obj)
end Go.Proofs.YtopiioklkkiedaaGreatDoor
end
section
set_option maxHeartbeats 12800000
set_option maxRecDepth 100000
namespace Go.Lg.Sg
open Go Go.Lg
def digS (n:Int) (c:UInt8):Option Int:=if c.toNat<48∨57<c.toNat∨n=0∨99<n∨(n<0∧c.toNat=48) then none else some ((if n<0 then 0 else n)*10+((c.toNat:Int)-48))
def sepS (q:List Int×Int):Option (List Int×Int):=if q.2<1∨24<q.2∨(q.1.getLast?.any fun y=>decide (q.2≤y))=true then none else some (q.1++[q.2],-1)
def chS (q:List Int×Int) (c:UInt8):Option (List Int×Int):=if c=43 then sepS q else (digS q.2 c).map fun n=>(q.1,n)
def runS (q:List Int×Int) (s:List UInt8):Option (List Int×Int):=s.foldlM chS q
def parseA (s:List UInt8):Option Nat:=if s=[45] then some 0 else ((runS ([],-1) s).bind sepS).map fun q=>ofN q.1
def rising (l:List Int):Prop:=l.Pairwise (fun x y=>x<y)
def preT (ids:List Int):List UInt8:=(txF ids).1++if ids=[] then [] else [43]
def digT (n:Int):List UInt8:=if n<0 then [] else Lib.itoa n
structure Rd (p:List UInt8) (q:List Int×Int):Prop where
 text:p=preT q.1++digT q.2
 ids:∀ y∈q.1,1≤y∧y≤24
 rise:rising q.1
 num:q.2 = -1∨(1≤q.2∧q.2≤999)
end Go.Lg.Sg
end
section
set_option maxHeartbeats 12800000
set_option maxRecDepth 100000
namespace Go.Lg.Sg
open Go Go.Lg Go.Lg.Fld
def withN (a:Nat) (id:Int):Nat:=if okJ id=true then a ||| 2^id.toNat else a
theorem or_pow {a k:Nat} (h:a.testBit k=false):a ||| 2^k=a+2^k:=by
 have hz:(BitVec.ofNat (a+k+2) a) &&& (BitVec.ofNat (a+k+2) (2^k))=0#(a+k+2):=by
  apply BitVec.eq_of_getLsbD_eq
  intro i hi
  rw [BitVec.getLsbD_and,BitVec.getLsbD_ofNat,BitVec.getLsbD_ofNat,Nat.testBit_two_pow,BitVec.getLsbD_zero]
  by_cases e:k=i
  ·rw [← e,h];simp
  ·rw [cO e];simp
 have h1:=congrArg BitVec.toNat (BitVec.add_eq_or_of_and_eq_zero _ _ hz)
 have hp:∀ n m:Nat,n≤m→n<2^m:=fun n m h=>Nat.lt_of_lt_of_le Nat.lt_two_pow_self (Nat.pow_le_pow_right VA h)
 have b1:a<2^(a+k):=hp _ _ V3
 have b2:2^k≤2^(a+k):=Nat.pow_le_pow_right VA V3
 have b3:2^(a+k+2)=4*2^(a+k):=by rw [Nat.pow_add];omega
 rw [BitVec.toNat_add,BitVec.toNat_or,BitVec.toNat_ofNat,BitVec.toNat_ofNat,Nat.mod_eq_of_lt (show a<2^(a+k+2) by omega),Nat.mod_eq_of_lt (show 2^k<2^(a+k+2) by omega),Nat.mod_eq_of_lt (by omega)] at h1
 exact h1.symm
theorem with_bit {a:Nat} {id:Int} (j:Nat):(withN a id).testBit j=(a.testBit j||(okJ id&&decide (id.toNat=j))):=by
 unfold withN
 by_cases h:okJ id=true
 ·rw [if_pos h,Nat.testBit_or,Nat.testBit_two_pow,h,Bool.true_and]
 ·rw [if_neg h,show okJ id=false by simpa using h,Bool.false_and,Bool.or_false]
theorem lt32_of_bits {a:Nat} (h:∀ j,32≤j→a.testBit j=false):a<4294967296:=Nat.lt_pow_two_of_testBit (n:=32) _ h
end Go.Lg.Sg
end
section
set_option maxHeartbeats 12800000
set_option maxRecDepth 100000
namespace Go.Proofs.YtopiioklkkiedaaGreatDoor
open Go Go.Lg Go.Lg.Fml Go.Lg.Fld Go.Lg.Arith
abbrev Sp:=Fl×List Ins×Nat
def cutN:List Fl→List Nm→List (List Nm)
 | [],_=>[]
 | f::t,ns=>ns.take f.n::cutN t (ns.drop f.n)
def fldS (f:Fl) (c:List Ins) (n:Nat):List Sp:=(List.range n).map fun k=>(f,c,k)
def stepsN:List Fl→List (List Ins)→List Sp
 | f::t,c::u=>fldS f c f.n++stepsN t u
 | _,_=>[]
def okV:Except Int Nm→Nm | .ok v=>v | .error _=>(false,0)
def erV:Except Int Nm→Int | .ok _=>0 | .error e=>e
def stepV (fs:List (List Nm)) (q:Sp):Nm:=okV (evX q.2.1 fs q.2.2)
def stepE (fs:List (List Nm)) (q:Sp):Int:=if erV (evX q.2.1 fs q.2.2)=0 then (if fitB q.1.kind (stepV fs q).1 (stepV fs q).2=true then 0 else 3) else erV (evX q.2.1 fs q.2.2)
def valE (a b:List Fl) (r:Rl) (ns:List Nm):Int:=
 if fitErr a ns=0 then (if layErr b=0 then (if r.old=0 then 7 else if ruE a b r=0 then seqE (stepE (cutN a ns)) (stepsN b r.ex) else ruE a b r) else layErr b) else fitErr a ns
def valN (a b:List Fl) (r:Rl) (ns:List Nm):List Nm:=(stepsN b r.ex).map (stepV (cutN a ns))
def rowE (a b:List Fl) (r:Rl) (s:List UInt8):Int:=if unpErr a s=0 then valE a b r ((unpZ a s).map qn) else unpErr a s
def rowN (a b:List Fl) (r:Rl) (s:List UInt8):List UInt8:=if rowE a b r s=0 then packB b (valN a b r ((unpZ a s).map qn)) else []
def sigN (rs:List Rl) (s:Nat):Nat:=rs.foldl (fun n r=>if Sg.hasB s r.old=true then Sg.withN n r.nw else n) 0
abbrev Sq:=Rl×Cp×Pt
def partsOf (r:Rl) (c:Cp) (ps:List Pt):List Sq:=(ps.filter fun p=>p.comp==r.old).map fun p=>(r,c,p)
def prS:List Rl→List Cp→List Pt→List Sq
 | r::t,c::u,ps=>partsOf r c ps++prS t u ps
 | _,_,_=>[]
def pqE (a:Sc) (q:Sq):Int:=valE (flC a q.2.2.comp) q.2.1.fs q.1 q.2.2.val
def prV (a:Sc) (q:Sq):Pt:=⟨q.1.nw,valN (flC a q.2.2.comp) q.2.1.fs q.1 q.2.2.val⟩
def psE (a b:Sc) (p:Pg) (ps:List Pt):Int:=if ckE a b p=0 then (if partsE a.cs ps=0 then seqE (pqE a) (prS p.rs b.cs ps) else partsE a.cs ps) else ckE a b p
def psV (a b:Sc) (p:Pg) (ps:List Pt):List Pt:=(prS p.rs b.cs ps).map (prV a)
theorem fldS_succ (f:Fl) (c:List Ins) (k:Nat):fldS f c (k+1)=fldS f c k++[(f,c,k)]:=by unfold fldS;rw [List.range_succ,dI];rfl
theorem fldS_zero (f:Fl) (c:List Ins):fldS f c 0=[]:=rfl
theorem fldS_len (f:Fl) (c:List Ins) (n:Nat):(fldS f c n).length=n:=by unfold fldS;rw [cX,List.length_range]
theorem fldS_split (f:Fl) (c:List Ins):∀ {n k:Nat},k<n→∃ post,fldS f c n=fldS f c k++(f,c,k)::post
 | n+1,k,h=>by
  by_cases e:k=n
  ·subst e;exact ⟨[],fldS_succ f c k⟩
  ·obtain ⟨post,hp⟩:=fldS_split f c (n:=n) (k:=k) V3
   exact ⟨post++[(f,c,n)],by rw [fldS_succ,hp];simp⟩
theorem steps_snoc:∀ {gs:List Fl} {ex:List (List Ins)} {i:Nat} {f:Fl} {c:List Ins},gs[i]? = some f→ex[i]? = some c→stepsN (gs.take (i+1)) (ex.take (i+1))=stepsN (gs.take i) (ex.take i)++fldS f c f.n
 | g::gs,d::ex,0,f,c,h1,h2=>by
  simp only [List.getElem?_cons_zero,Option.some.injEq] at h1 h2
  subst h1 h2
  simp [stepsN]
 | g::gs,d::ex,i+1,f,c,h1,h2=>by
  simp only [List.getElem?_cons_succ] at h1 h2
  simp only [List.take_succ_cons,stepsN]
  rw [steps_snoc h1 h2,dN]
 | [],_,_,_,_,h,_=>by simp at h
 | _::_,[],_,_,_,_,h=>by simp at h
theorem steps_split:∀ {gs:List Fl} {ex:List (List Ins)} {i:Nat} {f:Fl} {c:List Ins},gs[i]? = some f→ex[i]? = some c→∃ post,stepsN gs ex=stepsN (gs.take i) (ex.take i)++(fldS f c f.n++post)
 | g::gs,d::ex,0,f,c,h1,h2=>by
  simp only [List.getElem?_cons_zero,Option.some.injEq] at h1 h2
  subst h1 h2
  exact ⟨stepsN gs ex,O⟩
 | g::gs,d::ex,i+1,f,c,h1,h2=>by
  simp only [List.getElem?_cons_succ] at h1 h2
  obtain ⟨post,hp⟩:=steps_split h1 h2
  refine ⟨post,?_⟩
  simp only [List.take_succ_cons,stepsN]
  rw [hp,dN]
 | [],_,_,_,_,h,_=>by simp at h
 | _::_,[],_,_,_,_,h=>by simp at h
theorem steps_at {gs:List Fl} {ex:List (List Ins)} {i k:Nat} {f:Fl} {c:List Ins} (h1:gs[i]? = some f) (h2:ex[i]? = some c) (hk:k<f.n):∃ post,stepsN gs ex=(stepsN (gs.take i) (ex.take i)++fldS f c k)++(f,c,k)::post:=by
 obtain ⟨p1,e1⟩:=steps_split h1 h2
 obtain ⟨p2,e2⟩:=fldS_split f c hk
 exact ⟨p2++p1,by rw [e1,e2];simp⟩
theorem seqE_cons' {α:Type} {g:α→Int} {x:α} {t:List α}:seqE g (x::t)=if g x=0 then seqE g t else g x:=by
 have key:∀ (f:Nat→Int) (n i:Nat),firstE f (i+1) n=firstE (fun j=>f (j+1)) i n:=by
  intro f n
  induction n with
  | zero=>intro i;rfl
  | succ n ih =>
   intro i
   show (if f (i+1)=0 then firstE f (i+1+1) n else f (i+1))=(if f (i+1)=0 then firstE (fun j=>f (j+1)) (i+1) n else f (i+1))
   rw [ih (i+1)]
 show (if atE g (x::t) 0=0 then firstE (atE g (x::t)) (0+1) t.length else atE g (x::t) 0)=_
 rw [key]
 rfl
theorem seqE_app {α:Type} {g:α→Int}:∀ {l m:List α},seqE g (l++m)=if seqE g l=0 then seqE g m else seqE g l
 | [],m=>by rw [List.nil_append,show seqE g ([]:List α)=0 from rfl,if_pos rfl]
 | x::l,m=>by
  rw [List.cons_append,seqE_cons',seqE_cons',seqE_app]
  by_cases h:g x=0
  ·rw [if_pos h,if_pos h]
  ·rw [if_neg h,if_neg h,if_neg h]
theorem seqE_hit {α:Type} {g:α→Int} {l pre post:List α} {x:α} (h:l=pre++x::post) (h0:seqE g pre=0) (hx:g x≠0):seqE g l=g x:=by
 rw [h,seqE_app,if_pos h0,seqE_cons',if_neg hx]
theorem seqE_snoc {α:Type} {g:α→Int} {l:List α} {x:α} (h0:seqE g l=0) (hx:g x=0):seqE g (l++[x])=0:=by
 rw [seqE_app,if_pos h0,seqE_cons',if_pos hx];rfl
theorem partsOf_succ {r:Rl} {c:Cp} {ps:List Pt} {k:Nat} {x:Pt} (hx:ps[k]? = some x):partsOf r c (ps.take (k+1))=partsOf r c (ps.take k)++if x.comp=r.old then [(r,c,x)] else []:=by
 unfold partsOf
 rw [take_snoc hx,List.filter_append,dI]
 congr 1
 by_cases h:x.comp=r.old
 ·rw [if_pos h];simp [h]
 ·rw [if_neg h];simp [h]
theorem prS_snoc:∀ {rs:List Rl} {cs:List Cp} {ps:List Pt} {i:Nat} {r:Rl} {c:Cp},rs[i]? = some r→cs[i]? = some c→prS (rs.take (i+1)) (cs.take (i+1)) ps=prS (rs.take i) (cs.take i) ps++partsOf r c ps
 | g::gs,d::ex,ps,0,f,c,h1,h2=>by
  simp only [List.getElem?_cons_zero,Option.some.injEq] at h1 h2
  subst h1 h2
  simp [prS]
 | g::gs,d::ex,ps,i+1,f,c,h1,h2=>by
  simp only [List.getElem?_cons_succ] at h1 h2
  simp only [List.take_succ_cons,prS]
  rw [prS_snoc h1 h2,dN]
 | [],_,_,_,_,_,h,_=>by simp at h
 | _::_,[],_,_,_,_,_,h=>by simp at h
theorem prS_split:∀ {rs:List Rl} {cs:List Cp} {ps:List Pt} {i:Nat} {r:Rl} {c:Cp},rs[i]? = some r→cs[i]? = some c→∃ post,prS rs cs ps=prS (rs.take i) (cs.take i) ps++(partsOf r c ps++post)
 | g::gs,d::ex,ps,0,f,c,h1,h2=>by
  simp only [List.getElem?_cons_zero,Option.some.injEq] at h1 h2
  subst h1 h2
  exact ⟨prS gs ex ps,O⟩
 | g::gs,d::ex,ps,i+1,f,c,h1,h2=>by
  simp only [List.getElem?_cons_succ] at h1 h2
  obtain ⟨post,hp⟩:=prS_split (ps:=ps) h1 h2
  refine ⟨post,?_⟩
  simp only [List.take_succ_cons,prS]
  rw [hp,dN]
 | [],_,_,_,_,_,h,_=>by simp at h
 | _::_,[],_,_,_,_,_,h=>by simp at h
theorem prS_at {rs:List Rl} {cs:List Cp} {ps:List Pt} {i k:Nat} {r:Rl} {c:Cp} {x:Pt} (h1:rs[i]? = some r) (h2:cs[i]? = some c) (hx:ps[k]? = some x) (he:x.comp=r.old):∃ post,prS rs cs ps=(prS (rs.take i) (cs.take i) ps++partsOf r c (ps.take k))++(r,c,x)::post:=by
 obtain ⟨p1,e1⟩:=prS_split (ps:=ps) h1 h2
 have e2:partsOf r c ps=partsOf r c (ps.take (k+1))++partsOf r c (ps.drop (k+1)):=by
  unfold partsOf
  rw [← dI,← List.filter_append,List.take_append_drop]
 rw [partsOf_succ hx,if_pos he] at e2
 exact ⟨partsOf r c (ps.drop (k+1))++p1,by rw [e1,e2];simp⟩
theorem mem_prS:∀ {rs:List Rl} {cs:List Cp} {ps:List Pt} {q:Sq},q∈prS rs cs ps↔((q.1,q.2.1)∈rs.zip cs∧q.2.2∈ps∧q.2.2.comp=q.1.old)
 | [],_,_,q=>by simp [prS]
 | _::_,[],_,q=>by simp [prS]
 | r::rs,c::cs,ps,q=>by
  simp only [prS,List.mem_append,mem_prS (rs:=rs),List.zip_cons_cons,List.mem_cons]
  have h1:q∈partsOf r c ps↔((q.1,q.2.1)=(r,c)∧q.2.2∈ps∧q.2.2.comp=q.1.old):=by
   unfold partsOf
   simp only [List.mem_map,List.mem_filter]
   constructor
   ·rintro ⟨p,⟨h1,h2⟩,rfl⟩
    exact ⟨O,h1,beq_iff_eq.1 h2⟩
   ·rintro ⟨h1,h2,h3⟩
    obtain ⟨q1,q2,q3⟩:=q
    simp only [Prod.mk.injEq] at h1
    obtain ⟨rfl,rfl⟩:=h1
    exact ⟨q3,⟨h2,by simpa using h3⟩,O⟩
  rw [h1]
  constructor
  ·rintro (⟨h,h2⟩|⟨h,h2⟩)
   ·exact ⟨.inl h,h2⟩
   ·exact ⟨.inr h,h2⟩
  ·rintro ⟨h|h,h2⟩
   ·exact .inl ⟨h,h2⟩
   ·exact .inr ⟨h,h2⟩
end Go.Proofs.YtopiioklkkiedaaGreatDoor
end
section
set_option maxHeartbeats 12800000
set_option maxRecDepth 100000
namespace Go.Proofs.YtopiioklkkiedaaGreatDoor
open Go Go.Lg Go.Lg.Fml Go.Lg.Fld Go.Lg.Arith
theorem elems_kinds:∀ (b:List Fl) (ex:List (List Ins)) (a:Nat),ex.length=b.length→(elemsAt a b).map Prod.fst=(stepsN b ex).map fun q=>q.1.kind
 | [],[],_,_=>rfl
 | f::t,c::u,a,h=>by
  simp only [dJ] at h
  have ih:=elems_kinds t u (roundUp a f.w+f.w*f.n) V3
  simp only [elemsAt,stepsN,dI,ih]
  congr 1
  unfold fldS
  rw [List.map_map,List.map_map]
  rfl
 | [],_::_,_,h=>by simp at h
 | _::_,[],_,h=>by simp at h
theorem steps_len {b:List Fl} {ex:List (List Ins)} (h:ex.length=b.length):(stepsN b ex).length=(elemsAt 0 b).length:=by
 have:=congrArg List.length (elems_kinds b ex 0 h)
 rw [cX,cX] at this
 exact this.symm
theorem stepE_zero {fs:List (List Nm)} {q:Sp} (h:stepE fs q=0):erV (evX q.2.1 fs q.2.2)=0∧fitB q.1.kind (stepV fs q).1 (stepV fs q).2=true:=by
 unfold stepE at h
 by_cases h1:erV (evX q.2.1 fs q.2.2)=0
 ·rw [if_pos h1] at h
  by_cases h2:fitB q.1.kind (stepV fs q).1 (stepV fs q).2=true
  ·exact ⟨h1,h2⟩
  ·rw [if_neg h2] at h;cases h
 ·rw [if_neg h1] at h;exact absurd h h1
theorem val_fit {b:List Fl} {ex:List (List Ins)} {fs:List (List Nm)} (hb:layErr b=0) (hl:ex.length=b.length) (h:seqE (stepE fs) (stepsN b ex)=0):fitErr b ((stepsN b ex).map (stepV fs))=0:=by
 unfold fitErr
 rw [if_pos hb,if_pos (by rw [cX,steps_len hl]),if_pos]
 unfold fitAll
 rw [List.all_eq_true]
 intro p hp
 obtain ⟨i,hi⟩:=List.mem_iff_getElem?.1 hp
 obtain ⟨h1,h2⟩:=List.getElem?_zip_eq_some.1 hi
 rw [dM] at h2
 cases hq:(stepsN b ex)[i]? with
 | none=>rw [hq] at h2;cases h2
 | some q =>
  rw [hq] at h2
  simp only [Option.map_some,Option.some.injEq] at h2
  have hk:=congrArg (fun l=>l[i]?) (elems_kinds b ex 0 hl)
  simp only [dM,h1,hq,Option.map_some,Option.some.injEq] at hk
  have:=(stepE_zero (seqE_zero h q (dE hq))).2
  rw [h2,← hk] at this
  exact this
theorem ruE_len {a b:List Fl} {r:Rl} (h:ruE a b r=0) (h0:r.old≠0):r.ex.length=b.length:=by
 unfold ruE at h
 rw [if_neg h0] at h
 by_cases e:r.ex.length=b.length
 ·exact e
 ·rw [if_neg e] at h;cases h
theorem valE_zero {a b:List Fl} {r:Rl} {ns:List Nm} (h:valE a b r ns=0):fitErr a ns=0∧layErr b=0∧r.old≠0∧ruE a b r=0∧seqE (stepE (cutN a ns)) (stepsN b r.ex)=0:=by
 unfold valE at h
 by_cases h1:fitErr a ns=0
 ·rw [if_pos h1] at h
  by_cases h2:layErr b=0
  ·rw [if_pos h2] at h
   by_cases h3:r.old=0
   ·rw [if_pos h3] at h;cases h
   ·rw [if_neg h3] at h
    by_cases h4:ruE a b r=0
    ·rw [if_pos h4] at h;exact ⟨h1,h2,h3,h4,h⟩
    ·rw [if_neg h4] at h;exact absurd h h4
  ·rw [if_neg h2] at h;exact absurd h h2
 ·rw [if_neg h1] at h;exact absurd h h1
theorem valN_fit {a b:List Fl} {r:Rl} {ns:List Nm} (h:valE a b r ns=0):fitErr b (valN a b r ns)=0:=by
 obtain ⟨_,h2,h3,h4,h5⟩:=valE_zero h
 exact val_fit h2 (ruE_len h4 h3) h5
theorem prt_facts {cs:List Cp} {ps:List Pt} (h:partsE cs ps=0):ps.Pairwise (fun x y=>x.comp≠y.comp)∧∀ p∈ps,∃ c,cs.find? (fun c=>c.id==p.comp)=some c∧fitErr c.fs p.val=0:=by
 have key:∀ (i:Nat) (p:Pt),ps[i]? = some p→(ps.take i).any (fun g=>g.comp==p.comp)=false∧partE cs p=0:=fun i p hp=>by
  have h1:=firstE_zero h i (Nat.zero_le _) (by have:=(wl hp);omega)
  unfold ptE at h1
  rw [hp] at h1
  simp only at h1
  by_cases e:(ps.take i).any (fun g=>g.comp==p.comp)=true
  ·rw [if_pos e] at h1;cases h1
  ·rw [if_neg e] at h1;exact ⟨by simpa using e,h1⟩
 refine ⟨?_,fun p hp => ?_⟩
 ·rw [List.pairwise_iff_getElem]
  intro i j hi hj hij e
  obtain ⟨h1,_⟩:=key j _ (cY hj)
  have:=any_true (p:=fun g:Pt=>g.comp==ps[j].comp) hij (cY hi) (by rw [beq_iff_eq];exact e)
  rw [h1] at this;cases this
 ·obtain ⟨i,hi⟩:=List.mem_iff_getElem?.1 hp
  obtain ⟨_,h2⟩:=key i p hi
  unfold partE at h2
  cases hf:cs.find? (fun c=>c.id==p.comp) with
  | none=>rw [hf] at h2;cases h2
  | some c=>rw [hf] at h2;exact ⟨c,rfl,h2⟩
theorem prt_ok {cs:List Cp} {ps:List Pt} (h1:ps.Pairwise (fun x y=>x.comp≠y.comp)) (h2:∀ p∈ps,∃ c,cs.find? (fun c=>c.id==p.comp)=some c∧fitErr c.fs p.val=0):partsE cs ps=0:=by
 refine firstE_none fun i _ hi => ?_
 obtain ⟨p,hp⟩:∃ p,ps[i]? = some p:=wg V3
 unfold ptE
 rw [hp]
 simp only
 rw [any_false fun j y hj hy=>cS (by
  have:=List.pairwise_iff_getElem.1 h1 j i V2D V3 hj
  rw [(List.getElem?_eq_some_iff.1 hy).2,(List.getElem?_eq_some_iff.1 hp).2] at this
  exact this),if_neg VA]
 obtain ⟨c,hc,hf⟩:=h2 p (dE hp)
 unfold partE
 rw [hc];exact hf
theorem filter_one {ps:List Pt} (h:ps.Pairwise (fun x y=>x.comp≠y.comp)) (o:Int):(ps.filter fun p=>p.comp==o).length≤1:=by
 have hp:=h.sublist (List.filter_sublist (p:=fun p:Pt=>p.comp==o) (l:=ps))
 have hm:∀ x∈ps.filter (fun p=>p.comp==o),x.comp=o:=fun x hx=>by simpa using (List.mem_filter.1 hx).2
 generalize ps.filter (fun p=>p.comp==o)=l at *
 match l,hp,hm with
 | [],_,_=>exact Nat.zero_le _
 | [_],_,_=>exact dO _
 | x::y::t,hp,hm =>
  have:=(List.pairwise_cons.1 hp).1 y (List.mem_cons_self ..)
  exact absurd ((hm x (List.mem_cons_self ..)).trans (hm y (List.mem_cons_of_mem _ (List.mem_cons_self ..))).symm) this
theorem prS_sub:∀ {rs:List Rl} {cs:List Cp} {ps:List Pt},ps.Pairwise (fun x y=>x.comp≠y.comp)→((prS rs cs ps).map (·.1)).Sublist rs
 | [],_,_,_=>by simp [prS]
 | _::_,[],_,_=>by simp [prS]
 | r::rs,c::cs,ps,h=>by
  have ih:=prS_sub (rs:=rs) (cs:=cs) h
  have h1:=filter_one h r.old
  simp only [prS,dI]
  unfold partsOf
  rw [List.map_map]
  generalize ps.filter (fun p=>p.comp==r.old)=l at h1
  match l,h1 with
  | [],_=>exact ih.cons r
  | [x],_=>exact ih.cons_cons r
  | _::_::_,h1=>simp at h1
theorem chkRs_pair:∀ {l:List Rl} {last:Int},chkRs last l=0→l.Pairwise (fun r q=>r.nw<q.nw)∧∀ r∈l,last<r.nw∧(1≤r.nw∧r.nw≤24)∧(0≤r.old∧r.old≤24)
 | [],_,_=>⟨List.Pairwise.nil,fun r hr=>by cases hr⟩
 | r::t,last,h=>by
  unfold chkRs at h
  by_cases e:chkR r last=0
  ·rw [if_pos e] at h
   obtain ⟨g1,g2,g3,_⟩:=chkR_zero e
   obtain ⟨i1,i2⟩:=chkRs_pair h
   refine ⟨List.pairwise_cons.2 ⟨fun q hq=>(i2 q hq).1,i1⟩,fun q hq => ?_⟩
   rcases List.mem_cons.1 hq with rfl|hq
   ·exact ⟨g3,g1,g2⟩
   ·obtain ⟨j1,j2⟩:=i2 q hq
    exact ⟨by omega,j2⟩
  ·rw [if_neg e] at h;exact absurd h e
theorem ckE_facts {a b:Sc} {p:Pg} (h:ckE a b p=0):chkE a=0∧chkE b=0∧chkP p=0∧p.rs.length=b.cs.length∧∀ q∈p.rs.zip b.cs,(q.1.nw=q.2.id∧(q.1.old=0∨(findC a.cs q.1.old).isSome=true))∧ruC a q=0:=by
 unfold ckE at h
 by_cases h1:chkE a=0
 ·rw [if_pos h1] at h
  by_cases h2:chkE b=0
  ·rw [if_pos h2] at h
   by_cases h3:chkP p=0
   ·rw [if_pos h3] at h
    by_cases h4:p.va=a.ver∧p.vb=b.ver∧p.va<p.vb
    ·rw [if_pos h4] at h
     by_cases h5:p.rs.length=b.cs.length
     ·rw [if_pos h5] at h
      by_cases h6:seqE (nwE a) (p.rs.zip b.cs)=0
      ·rw [if_pos h6] at h
       refine ⟨h1,h2,h3,h5,fun q hq=>⟨?_,seqE_zero h q hq⟩⟩
       have:=seqE_zero h6 q hq
       unfold nwE at this
       split at this
       ·rename_i g;exact g
       ·cases this
      ·rw [if_neg h6] at h;cases h
     ·rw [if_neg h5] at h;cases h
    ·rw [if_neg h4] at h;cases h
   ·rw [if_neg h3] at h;exact absurd h h3
  ·rw [if_neg h2] at h;exact absurd h h2
 ·rw [if_neg h1] at h;exact absurd h h1
theorem chkP_rs {p:Pg} (h:chkP p=0):chkRs 0 p.rs=0:=by
 unfold chkP at h
 split at h
 ·exact h
 ·cases h
theorem find_good {cs:List Cp} (h:Fld.Good cs) {c:Cp} (hc:c∈cs):cs.find? (fun d=>d.id==c.id)=some c:=by
 obtain ⟨i,hi⟩:=List.mem_iff_getElem?.1 hc
 exact find_at (fun j y hj hy=>cS (by have:=(h.two j i y c hj hy hi).1;omega)) hi O
section
variable {a b:Sc} {p:Pg} {ps:List Pt} (h:psE a b p ps=0)
include h
theorem psE_facts:ckE a b p=0∧partsE a.cs ps=0∧seqE (pqE a) (prS p.rs b.cs ps)=0:=by
 unfold psE at h
 by_cases h1:ckE a b p=0
 ·rw [if_pos h1] at h
  by_cases h2:partsE a.cs ps=0
  ·rw [if_pos h2] at h;exact ⟨h1,h2,h⟩
  ·rw [if_neg h2] at h;exact absurd h h2
 ·rw [if_neg h1] at h;exact absurd h h1
theorem whole_order:(psV a b p ps).Pairwise (fun x y=>x.comp<y.comp):=by
 obtain ⟨h1,h2,_⟩:=psE_facts h
 obtain ⟨_,_,hp,_,_⟩:=ckE_facts h1
 have hr:=(chkRs_pair (chkP_rs hp)).1
 have hs:=hr.sublist (prS_sub (cs:=b.cs) (prt_facts h2).1)
 unfold psV
 rw [List.pairwise_map] at hs ⊢
 exact hs
theorem whole_fit:partsE b.cs (psV a b p ps)=0:=by
 obtain ⟨h1,h2,h3⟩:=psE_facts h
 obtain ⟨_,hb,_,_,hz⟩:=ckE_facts h1
 refine prt_ok ((whole_order h).imp fun e=>by omega) fun x hx => ?_
 obtain ⟨q,hq,rfl⟩:=List.mem_map.1 hx
 obtain ⟨g1,_,_⟩:=mem_prS.1 hq
 obtain ⟨⟨g2,_⟩,_⟩:=hz _ g1
 have hc:q.2.1∈b.cs:=(List.of_mem_zip g1).2
 refine ⟨q.2.1,?_,valN_fit (seqE_zero h3 q hq)⟩
 show b.cs.find? (fun c=>c.id==q.1.nw)=some q.2.1
 rw [show q.1.nw=q.2.1.id from g2]
 exact find_good (chkE_good hb).2 hc
end
theorem sigN_bit (rs:List Rl) (s j:Nat):(sigN rs s).testBit j=rs.any fun r=>Sg.hasB s r.old&&(Sg.okJ r.nw&&decide (r.nw.toNat=j)):=by
 unfold sigN
 suffices H:∀ (l:List Rl) (n:Nat),(l.foldl (fun n r=>if Sg.hasB s r.old=true then Sg.withN n r.nw else n) n).testBit j=(n.testBit j||l.any fun r=>Sg.hasB s r.old&&(Sg.okJ r.nw&&decide (r.nw.toNat=j))) by
  rw [H,Nat.zero_testBit,Bool.false_or]
 intro l
 induction l with
 | nil=>intro n;simp
 | cons r t ih =>
  intro n
  rw [List.foldl_cons,ih,List.any_cons,← Bool.or_assoc]
  congr 1
  cases hs:Sg.hasB s r.old with
  | true=>rw [if_pos rfl,Sg.with_bit,Bool.true_and]
  | false=>rw [if_neg VA,Bool.false_and,Bool.or_false]
end Go.Proofs.YtopiioklkkiedaaGreatDoor
end
section
set_option maxHeartbeats 12800000
set_option maxRecDepth 100000
namespace Go.Proofs.YtopiioklkkiedaaGreatDoor
open Go Go.Lg Go.Lg.Fml Go.Lg.Fld Go.Lg.Arith
theorem cutN_len:∀ {fs:List Fl} {ns:List Nm},(cutN fs ns).length=fs.length
 | [],_=>rfl
 | f::t,ns=>by show (cutN t (ns.drop f.n)).length+1=t.length+1;rw [cutN_len]
theorem cut_at:∀ {fs:List Fl} {ns:List Nm} {i:Nat} {f:Fl},fs[i]? = some f→(cutN fs ns)[i]? = some ((ns.drop (sumC (fs.take i))).take f.n)
 | g::t,ns,0,f,h=>by
  simp only [List.getElem?_cons_zero,Option.some.injEq] at h
  subst h
  rfl
 | g::t,ns,i+1,f,h=>by
  simp only [List.getElem?_cons_succ] at h
  have:=cut_at (ns:=ns.drop g.n) h
  show (cutN t (ns.drop g.n))[i]? = _
  rw [this,List.drop_drop]
  have e:sumC ((g::t).take (i+1))=g.n+sumC (t.take i):=by simp [sumC]
  rw [e]
 | [],_,_,_,h=>by simp at h
theorem cut_mem {fs:List Fl} {ns:List Nm} {l:List Nm} (h:l∈cutN fs ns):∀ u∈l,u∈ns:=fun u hu=>by
 obtain ⟨i,hi⟩:=List.mem_iff_getElem?.1 h
 have hl:=(wl hi)
 rw [cutN_len] at hl
 rw [cut_at (cY hl)] at hi
 cases hi
 exact List.mem_of_mem_drop (List.mem_of_mem_take hu)
theorem sum_take {fs:List Fl} {i:Nat} {f:Fl} (h:fs[i]? = some f):sumC (fs.take i)+f.n≤sumC fs:=by
 have e:sumC fs=sumC (fs.take (i+1))+sumC (fs.drop (i+1)):=by
  unfold sumC
  rw [← List.sum_append_nat,← dI,List.take_append_drop]
 rw [e,take_snoc h,sum_snoc]
 omega
theorem fit_all {fs:List Fl} {ns:List Nm} (h:fitErr fs ns=0):layErr fs=0∧ns.length=sumC fs∧∀ (j:Nat) (e:Int×Nat) (n:Nm),(elemsAt 0 fs)[j]? = some e→ns[j]? = some n→fitB e.1 n.1 n.2=true:=by
 unfold fitErr at h
 by_cases h1:layErr fs=0
 ·rw [if_pos h1] at h
  by_cases h2:(elemsAt 0 fs).length=ns.length
  ·rw [if_pos h2] at h
   by_cases h3:fitAll (elemsAt 0 fs) ns=true
   ·refine ⟨h1,by rw [← h2,elems_sum],fun j e n he hn => ?_⟩
    unfold fitAll at h3
    exact List.all_eq_true.1 h3 (e,n) (dE (by rw [List.getElem?_zip_eq_some];exact ⟨he,hn⟩))
   ·rw [if_neg h3] at h;cases h
  ·rw [if_neg h2] at h;cases h
 ·rw [if_neg h1] at h;exact absurd h h1
theorem mem_steps:∀ {gs:List Fl} {ex:List (List Ins)} {q:Sp},q∈stepsN gs ex→∃ i:Nat,gs[i]? = some q.1∧ex[i]? = some q.2.1∧q.2.2<q.1.n
 | f::gs,c::ex,q,h=>by
  simp only [stepsN,List.mem_append] at h
  rcases h with h|h
  ·unfold fldS at h
   obtain ⟨k,hk,rfl⟩:=List.mem_map.1 h
   exact ⟨0,O,O,List.mem_range.1 hk⟩
  ·obtain ⟨i,h1,h2,h3⟩:=mem_steps h
   exact ⟨i+1,h1,h2,h3⟩
 | [],_,_,h=>by simp [stepsN] at h
 | _::_,[],_,h=>by simp [stepsN] at h
section
variable {c:Cp} (hn:firstE (fldE c.fs) 0 c.fs.length=0) {ns:List Nm} (h:fitErr c.fs ns=0)
include hn h
end
section
variable {a b:Sc} (hc:b.cs=a.cs) (ha:chkE a=0) (hb:chkE b=0) (hv:a.ver<b.ver)
include hc ha hb hv
end
end Go.Proofs.YtopiioklkkiedaaGreatDoor
end
section
set_option maxHeartbeats 12800000
set_option maxRecDepth 100000
namespace Go.Lg.Sg
open Go Go.Lg Go.Lg.Fld
theorem nz_bit {x:Nat}:x≠0↔∃ j,x.testBit j=true:=by
 constructor
 ·intro h
  by_cases he:∃ j,x.testBit j=true
  ·exact he
  ·refine absurd (Nat.eq_of_testBit_eq fun i => ?_) h
   rw [Nat.zero_testBit]
   cases hb:x.testBit i with
   | false=>rfl
   | true=>exact absurd ⟨i,hb⟩ he
 ·rintro ⟨j,hj⟩ rfl
  rw [Nat.zero_testBit] at hj
  cases hj
theorem ne0_is {x:Nat} {b:Bool} (h:b=true↔∃ j,x.testBit j=true):((((x:Nat):Int) != 0))=b:=by
 rw [Bool.eq_iff_iff,bne_iff_ne,h,← nz_bit]
 omega
theorem andN_32 {a b:Nat} (ha:a<4294967296) (hb:b<4294967296):bits .and .u32 ((a:Nat):Int) ((b:Nat):Int)=((a &&& b:Nat):Int):=u32_and_nat _ _ ha hb
theorem orN_32 {a b:Nat} (ha:a<4294967296) (hb:b<4294967296):bits .or .u32 ((a:Nat):Int) ((b:Nat):Int)=((a ||| b:Nat):Int):=u32_or_nat _ _ ha hb
def bitN (id:Int):Nat:=if okJ id=true then 2^id.toNat else 0
theorem bitN_bit (id:Int) (j:Nat):(bitN id).testBit j=(okJ id&&decide (id.toNat=j)):=by
 unfold bitN
 by_cases h:okJ id=true
 ·rw [if_pos h,h,Nat.testBit_two_pow,Bool.true_and]
 ·rw [if_neg h,show okJ id=false by simpa using h,Nat.zero_testBit,Bool.false_and]
theorem bitN_lt (id:Int):bitN id<4294967296:=lt32_of_bits fun j hj=>by
 rw [bitN_bit]
 by_cases ho:okJ id=true
 ·have:=okI_iff.1 ho
  rw [cO (by omega),Bool.and_false]
 ·rw [show okJ id=false by simpa using ho,Bool.false_and]
theorem shl_bit {id:Int} (h:okJ id=true):IntKind.u32.wrap (1*2^(min id.toNat IntKind.u32.bits))=((bitN id:Nat):Int):=by
 have hi:=okI_iff.1 h
 have hm:min id.toNat IntKind.u32.bits=id.toNat:=by
  show min id.toNat 32=id.toNat
  omega
 have hb:=bitN_lt id
 have he:bitN id=2^id.toNat:=if_pos h
 rw [he] at hb ⊢
 rw [hm,Int.one_mul,show ((2:Int)^id.toNat)=((2^id.toNat:Nat):Int) by rw [Int.natCast_pow];rfl]
 exact wrap_u32 ⟨Int.natCast_nonneg _,by omega⟩
theorem has_bits (a:Nat) (id:Int):((((a &&& bitN id:Nat):Int)) != 0)=hasB a id:=by
 refine ne0_is ?_
 unfold hasB
 constructor
 ·intro h
  rw [Bool.and_eq_true] at h
  exact ⟨id.toNat,by rw [Nat.testBit_and,bitN_bit,h.1,h.2,cP rfl];rfl⟩
 ·rintro ⟨j,hj⟩
  rw [Nat.testBit_and,bitN_bit,Bool.and_eq_true,Bool.and_eq_true] at hj
  obtain ⟨h1,h2,h3⟩:=hj
  rw [h2,of_decide_eq_true h3,h1];rfl
theorem with_bits (a:Nat) (id:Int):a ||| bitN id=withN a id:=by
 unfold bitN withN
 by_cases h:okJ id=true
 ·rw [if_pos h,if_pos h]
 ·rw [if_neg h,if_neg h,Nat.or_zero]
def Unread (s:List UInt8) (ids:List Int) (l:List UInt8):Prop:=(runS ([],-1) s).bind sepS=(runS (ids,-1) l).bind sepS
def cutM (s:List UInt8):Bool:=decide (0≤Lib.indexByte s 43)
end Go.Lg.Sg
end
section
set_option maxHeartbeats 12800000
set_option maxRecDepth 100000
namespace Go.Lg.Sg
open Go Go.Lg Go.Lg.Fld
theorem okI_eq (id:Int):okJ id=(decide (1≤id)&&decide (id≤24)):=rfl
end Go.Lg.Sg
namespace Go.Proofs.YtopiioklkkiedaaGreatDoor
open Go Go.Lg Go.Lg.Fld Go.Lg.Sg
set_option maxRecDepth 100000
variable (X:Nat→Option Obj)
theorem zIsId (id:Int):PSpec Tryz.prog X 96 [Ln .i64 id] (Lb (okJ id)):=by
 refine cF Tryz.func96 rfl V5 rfl rfl ?_
 intro C
 by_cases h1:1≤id
 ·rw [okI_eq,cP h1,Bool.true_and]
  (refine U7 ?_;refine bD O O (cP h1) dS ?_;refine U2 ?_;refine K.leq O O (r:=decide (id≤24)) O (dT O O) ?_;refine U4 ?_)
  exact V6
 ·rw [okI_eq,cO h1,Bool.false_and]
  (refine U7 ?_;refine bD O O (cO h1) dS ?_;refine U7 ?_)
  exact V6
theorem zBit (id:Int):PSpec Tryz.prog X 63 [Ln .i64 id] (Ln .u32 (bitN id:Nat)):=by
 have hI:=zIsId X id
 refine cF Tryz.func63 rfl V5 rfl rfl ?_
 intro C
 cases h:okJ id with
 | false =>
  have hz:bitN id=0:=if_neg (by rw [h];decide)
  rw [h] at hI
  rw [hz]
  refine U17 ?_
  exact V6
 | true =>
  have hs:=shl_bit h
  have h0:=(okI_iff.1 h).1
  rw [h] at hI
  generalize bitN id=b at *
  (refine U16 ?_;refine K.shl O O V3 hs dS ?_;refine U3 ?_)
  exact V6
section
variable (a b:Nat) (ha:a<4294967296) (hb:b<4294967296) (id:Int)
include ha
theorem gHas:PSpec Tryz.prog X 28 [Ln .u32 (a:Nat),Ln .i64 id] (Lb (hasB a id)):=by
 have h1:=andN_32 ha (bitN_lt id)
 have h2:=has_bits a id
 have hB:=zBit X id
 refine cF Tryz.func28 rfl V5 rfl rfl ?_
 intro C
 generalize a &&& bitN id=c at *
 generalize bitN id=d at *
 (refine U9 ?_;refine K.bitop V21 O O h1 dS<|kne O O h2 ?_;refine U3 ?_)
 exact V6
theorem gWith:PSpec Tryz.prog X 52 [Ln .u32 (a:Nat),Ln .i64 id] (Ln .u32 (withN a id:Nat)):=by
 have h1:=orN_32 ha (bitN_lt id)
 rw [with_bits] at h1
 have hB:=zBit X id
 refine cF Tryz.func52 rfl V5 rfl rfl ?_
 intro C
 generalize withN a id=c at *
 generalize bitN id=d at *
 (refine U9 ?_;refine K.bitop V21 O O h1 dS ?_;refine U3 ?_)
 exact V6
end
end Go.Proofs.YtopiioklkkiedaaGreatDoor
end
section
set_option maxHeartbeats 12800000
set_option maxRecDepth 100000
namespace Go.Lg.Col
open Go Go.Lg Go.RowKit
abbrev Ext (X Y:Nat→Option Obj):Prop := ∀ b o,X b=some o→Y b=some o
end Go.Lg.Col
namespace Go.Proofs.YtopiioklkkiedaaGreatDoor
open Go Go.Lg Go.Lg.Col
set_option maxRecDepth 100000
variable (X:Nat→Option Obj)
end Go.Proofs.YtopiioklkkiedaaGreatDoor
end
section
set_option maxHeartbeats 12800000
set_option maxRecDepth 100000
namespace Go.Proofs.YtopiioklkkiedaaGreatDoor
open Go Go.Lg Go.Lg.Fml Go.Lg.Fld Go.Lg.Arith
theorem sigN_lt (rs:List Rl) (s:Nat):sigN rs s<33554432:=by
 refine Nat.lt_pow_two_of_testBit (n:=25) _ fun i hi => ?_
 rw [sigN_bit,List.any_eq_false]
 intro r _ hb
 rw [Bool.and_eq_true,Bool.and_eq_true] at hb
 have:=Sg.okI_iff.1 hb.2.1
 have:=of_decide_eq_true hb.2.2
 omega
end Go.Proofs.YtopiioklkkiedaaGreatDoor
end
section
set_option maxHeartbeats 12800000
set_option maxRecDepth 100000
namespace Go.Proofs.YtopiioklkkiedaaGreatDoor
open Go Go.Lg Go.Lg.Fml Go.Lg.Fld Go.Lg.Arith
set_option maxRecDepth 100000
theorem InsIn.six {X:Nat→Option Obj} {ad:Option Addr} {l:List Ins} (h:InsIn X ad l) {i:Nat} {x:Ins} (hx:l[i]? = some x):
  ∃ (blk off:Nat) (arr:Array Value) (el:TypeId) (fr:Nat×Nat),ad=some ⟨blk,off,none⟩∧X blk=some (.cells arr el fr)∧off+i*6+6≤arr.size∧((arr.toList.drop (off+i*6)).take 6).map CV.val=(insV x).map CV.val∧arr[off+i*6]? = some (.int .i64 x.op) ∧
   arr[off+i*6+1]? = some (.int .i64 x.a)∧arr[off+i*6+2]? = some (.int .i64 x.b)∧((arr.toList.drop (off+i*6+3)).take 3).map CV.val=[.val (.bool x.k.1),.val (.int .u64 (x.k.2/18446744073709551616)),.val (.int .u64 (x.k.2%18446744073709551616))]:=by
 obtain ⟨blk,off,arr,el,fr,h1,h2,h3,h4⟩:=h.rows i (insV x) (by rw [dM,hx];rfl)
 have key:∀ j,j<6→arr[off+i*6+j]? = (insV x)[j]? := fun j hj=>by
  rw [← h4,List.getElem?_take,if_pos hj,List.getElem?_drop,Array.getElem?_toList]
 refine ⟨blk,off,arr,el,fr,h1,h2,h3,by rw [h4],key 0 VA,key 1 VA,key 2 VA,?_⟩
 have:(arr.toList.drop (off+i*6+3)).take 3=(((arr.toList.drop (off+i*6)).take 6).drop 3).take 3:=by
  rw [List.drop_take,List.take_take,List.drop_drop];rfl
 rw [this,h4];rfl
abbrev flB (k:Nat) (f:Fl):Nat×Option Box:=(k,some ⟨83,f.vals.map .val,false⟩)
theorem _root_.Go.Lg.Fld.FieldsIn.cells {X:Nat→Option Obj} {ad:Option Addr} {fs:List Fl} (h:FieldsIn X ad fs) {i:Nat} {f:Fl} (hf:fs[i]? = some f):
  ∃ (blk off:Nat) (arr:Array Value) (el:TypeId) (fr:Nat×Nat),ad=some ⟨blk,off,none⟩∧X blk=some (.cells arr el fr)∧off+i*3+3≤arr.size∧((arr.toList.drop (off+i*3)).take 3).map CV.val=f.vals.map CV.val ∧
   arr[off+i*3]? = some (.string ⟨f.nm.toArray⟩)∧arr[off+i*3+1]? = some (.int .i64 f.kind)∧arr[off+i*3+2]? = some (.int .i64 f.count):=by
 obtain ⟨blk,off,arr,el,fr,h1,h2,h3,h4⟩:=h.rows i f.vals (by rw [dM,hf];rfl)
 obtain ⟨g1,g2,g3⟩:=three_at h4
 exact ⟨blk,off,arr,el,fr,h1,h2,h3,by rw [h4],g1,g2,g3⟩
section
variable {fs:List Fl} {f:Fl} {x:Ins}
theorem findE_skip (h:¬(x.op=2∨x.op=3)):findE fs f x=0:=if_neg h
theorem findE_out (h:x.op=2∨x.op=3) (ha:fs[x.a.toNat]? = none):findE fs f x=3:=by unfold findE;rw [if_pos h,ha]
theorem findE_at (h:x.op=2∨x.op=3) {g:Fl} (ha:fs[x.a.toNat]? = some g):findE fs f x=if (x.op=2∧g.count≤x.b)∨(x.op=3∧g.count<f.count) then 3 else if (g.kind=10)=(f.kind=10) then 0 else 8:=by unfold findE;rw [if_pos h,ha]
end
theorem beq_dec (a b:Int):(a==b)=decide (a=b):=by by_cases h:a=b<;>simp [h]
variable (X:Nat→Option Obj)
set_option maxHeartbeats 6400000 in
theorem rFormula13 (c:Cp) (f:Fl) (l:List Ins) (cad ad:Option Addr) (ccap cap:Nat) (hF:FieldsIn X cad c.fs) (hin:InsIn X ad l) (hbig:l.length<4611686018427387904) (hfl:c.fs.length<4611686018427387904):
  PSpec Tryz.prog X 72 [Cx c cad ccap,Fx f,Lx ad l.length cap] (Ln .i64 (fmE c.fs f l)):=by
 have hC:=rCheck11 X l ad cap hin hbig
 refine cF Tryz.func72 rfl V5 rfl rfl ?_
 intro C
 unfold fmE
 by_cases h0:chkX l=0
 case neg =>
  rw [if_neg h0]
  generalize chkX l=e at *
  (refine U16 ?_;refine kne rfl rfl (cU h0) ?_;refine U8 ?_)
  exact V6
 rw [h0] at hC
 have hchk:=chkX_ok h0
 rw [if_pos h0]
 have hfin:∀ e,seqE (findE c.fs f) l=e→e≠0→(if seqE (findE c.fs f) l=0 then refE f l else seqE (findE c.fs f) l)=e:=fun e h1 h2=>by rw [h1,if_neg h2]
 (refine U24 ?_;refine keq rfl rfl (r:=decide (f.kind=10)) (beq_dec f.kind 10) ?_;refine U8 ?_)
 refine cL (fun m σ=>∃ i:Nat,i≤l.length∧m=l.length-i∧(∀ j,0≤j→j<i→atE (findE c.fs f) l j=0)∧σ=⟨[(2,Lx ad l.length cap),(3,Lp 3),(4,Lp 4),(8,Lb (decide (f.kind=10))),(9,Ln .i64 (i:Nat))],[flB 4 f,cpB 3 c cad ccap],X⟩) l.length
  ⟨_,Le.of V10 VE V2 V2 V0,0,by omega,by omega,fun j _ hj=>absurd hj V3,rfl⟩ ?_
 rintro m σ ⟨i,hi,rfl,hpre,rfl⟩
 by_cases hlt:i<l.length
 case neg =>
  have e:i=l.length:=by omega
  subst e
  have hs:seqE (findE c.fs f) l=0:=firstE_none fun j h1 h2=>hpre j h1 V3
  rw [if_pos hs]
  by_cases hk:f.kind=10
  case neg =>
   have hr:refE f l=0:=by
    unfold refE
    split
    ·rw [if_neg (fun h=>hk h.1)]
    ·rw [if_neg hk]
   rw [hr]
   rw [cO hk]
   refine U49 ?_
   exact V6
  rw [cP hk]
  by_cases h1:l.length=1
  case neg =>
   have hr:refE f l=8:=by
    unfold refE
    split
    ·exact absurd rfl h1
    ·rw [if_pos hk]
   rw [hr]
   (refine U17 ?_;refine aX O O (r:=true) (cU V3) (dT O O) ?_;refine U30 ?_)
   exact V6
  obtain ⟨x,hx⟩:∃ x,l[0]? = some x:=wg V3
  have hl1:l=[x]:=by
   match l,h1,hx with
   | [y],_,hx=>simp only [List.getElem?_cons_zero,Option.some.injEq] at hx;rw [hx]
  obtain ⟨blk,off,arr,el,fr,rfl,hX,hsz,hcs,g0,g1,g2,g3⟩:=hin.six hx
  obtain ⟨_,_,_,hk2⟩:=hin.small x (dE hx)
  have hr:refE f l=if x.op=4∨(x.op=1∧x.k≠(false,0)) then 8 else 0:=by
   rw [hl1]
   show (if f.kind=10∧(x.op=4∨(x.op=1∧x.k≠(false,0))) then (8:Int) else 0)=_
   by_cases hb:x.op=4∨(x.op=1∧x.k≠(false,0))
   ·rw [if_pos hb,if_pos ⟨hk,hb⟩]
   ·rw [if_neg hb,if_neg (fun h=>hb h.2)]
  rw [hr]
  have hsz3:off+0*6+3+3≤arr.size:=by omega
  have h00:off+Int.toNat 0*6=off+0*6:=by simp
  by_cases c4:x.op=4
  ·rw [if_pos (.inl c4)]
   (refine U17 ?_;refine aX O O (r:=false) (cT V3) (dT O O) ?_;refine U5 ?_;refine bC O O (r:=true) (cV c4) (dT O O) ?_;refine U24 ?_)
   exact V6
  by_cases c1:x.op=1
  case neg =>
   rw [if_neg (fun h=>h.elim c4 fun h=>c1 h.1)]
   (refine U17 ?_;refine aX O O (r:=false) (cT V3) (dT O O) ?_;refine U5 ?_;refine bC O O (r:=false) (cS c4) (dT O O) ?_;refine U6 ?_;refine bC O O (r:=false) (cS c1) (dT O O) ?_;refine U18 ?_)
   exact V6
  obtain ⟨op,a,b,kb,kN⟩:=x
  simp only at hk2 g0 g1 g2 g3 hcs c4 c1 ⊢
  have q:=eqI (b:=kb) (b':=false) (h:=kN/18446744073709551616) (h':=0) (l:=kN%18446744073709551616) (l':=0) _ (eqZ hk2)
  by_cases hz:((kb,kN):Nm)=(false,0)
  ·rw [if_neg (fun h=>h.elim c4 fun h=>h.2 hz)]
   rw [cP hz] at q
   ((refine U17 ?_;refine aX O O (r:=false) (cT V3) (dT O O) ?_;refine U5 ?_;refine bC O O (r:=false) (cS c4) (dT O O) ?_;refine U6 ?_);(refine bC O O (r:=true) (cV c1) (dT O O) ?_;refine U6 ?_;refine bR O O O O V5 q (.inr ⟨O,O⟩) (dT O O) ?_;refine U11 ?_))
   exact V6
  ·rw [if_pos (.inr ⟨c1,hz⟩)]
   rw [cO hz] at q
   ((refine U17 ?_;refine aX O O (r:=false) (cT V3) (dT O O) ?_;refine U5 ?_;refine bC O O (r:=false) (cS c4) (dT O O) ?_;refine U6 ?_);(refine bC O O (r:=true) (cV c1) (dT O O) ?_;refine U6 ?_;refine bR O O O O V5 q (.inr ⟨O,O⟩) (dT O O) ?_;refine U10 ?_))
   exact V6
 obtain ⟨x,hx⟩:=wg hlt
 obtain ⟨blk,off,arr,el,fr,rfl,hX,hsz,hcs,_⟩:=hin.at hx
 have hio:=wo off i 6
 obtain ⟨_,_,⟨ha0,_⟩,_⟩:=okI_facts (hchk x (dE hx))
 have hadd:IntKind.i64.wrap ((i:Int)+1)=((i+1:Nat):Int):=by rw [cH V3];omega
 have fin:∀ e,findE c.fs f x=e→e≠0→(if seqE (findE c.fs f) l=0 then refE f l else seqE (findE c.fs f) l)=e:=fun e he h0=>hfin e (firstE_some hpre (Nat.zero_le _) V3 (by rw [atE_at hx];exact he) h0) h0
 have next:findE c.fs f x=0→∀ j,0≤j→j<i+1→atE (findE c.fs f) l j=0:=fun he j h0 hj=>by
  by_cases e:j=i
  ·rw [e,atE_at hx];exact he
  ·exact hpre j h0 V3
 by_cases c23:x.op=2∨x.op=3
 case neg =>
  (refine U30 ?_;refine aX O O (r:=true) (cU V3) (dT O O) ?_;refine U9 ?_)
  exact ⟨_,_,by omega,Le.of V10 VE V2 V2 V0,i+1,by omega,O,next (findE_skip c23),O⟩
 cases hg:c.fs[x.a.toNat]? with
 | none =>
  have hge:=List.getElem?_eq_none_iff.1 hg
  rw [fin 3 (findE_out c23 hg) (by decide)]
  rcases c23 with c2|c3
  ·(refine U26 ?_;refine kne rfl rfl (r:=false) (cT c2) ?_;refine U24 ?_)
   exact V6
  ·(refine U30 ?_;refine aX O O (r:=false) (cT c3) (dT O O) ?_;refine U20 ?_)
   exact V6
 | some g =>
 have hlg:=(wl hg)
 have hE:=findE_at (f:=f) c23 hg
 obtain ⟨fb,fo,farr,fel,ffr,rfl,hFX,hFz,hFc,_⟩:=hF.cells hg
 have hio3:fo+Int.toNat x.a*3=fo+x.a.toNat*3:=rfl
 rcases c23 with c2|c3
 ·by_cases hb:g.count≤x.b
  ·rw [if_pos (.inl ⟨c2,hb⟩)] at hE
   rw [fin 3 hE (by decide)]
   ((refine U26 ?_;refine kne O O (r:=false) (cT c2) ?_;refine U19 ?_);(refine U17 ?_;refine keq O O (r:=true) (cV c2) ?_;refine U5 ?_;refine bD O O (cP V3) (dT O O) ?_;refine U14 ?_);(refine U6 ?_))
   exact V6
  rw [if_neg (by omega)] at hE
  by_cases hk:f.kind=10
  ·rw [cP hk]
   by_cases hm:g.kind=10
   ·rw [if_pos (by rw [eq_iff_iff];exact ⟨fun _=>hk,fun _=>hm⟩)] at hE
    ((refine U26 ?_;refine kne O O (r:=false) (cT c2) ?_;refine U19 ?_);(refine U17 ?_;refine keq O O (r:=true) (cV c2) ?_;refine U9 ?_);(refine U1 ?_;refine bC O O (r:=false) (cS V3) (dT O O) ?_;refine U17 ?_;refine aX O O (r:=false) (cT hm) (dT O O) ?_;refine U13 ?_);(refine U5 ?_))
    exact ⟨_,_,by omega,Le.of V10 VE V2 V2 V0,i+1,by omega,O,next hE,O⟩
   ·rw [if_neg (fun h=>hm (h.mpr hk))] at hE
    rw [fin 8 hE (by decide)]
    ((refine U26 ?_;refine kne O O (r:=false) (cT c2) ?_;refine U19 ?_);(refine U17 ?_;refine keq O O (r:=true) (cV c2) ?_;refine U9 ?_);(refine U1 ?_;refine bC O O (r:=false) (cS V3) (dT O O) ?_;refine U17 ?_;refine aX O O (r:=true) (cU hm) (dT O O) ?_;refine U17 ?_))
    exact V6
  ·rw [cO hk]
   by_cases hm:g.kind=10
   ·rw [if_neg (fun h=>hk (h.mp hm))] at hE
    rw [fin 8 hE (by decide)]
    ((refine U26 ?_;refine kne O O (r:=false) (cT c2) ?_;refine U19 ?_);(refine U17 ?_;refine keq O O (r:=true) (cV c2) ?_;refine U9 ?_);(refine U1 ?_;refine bC O O (r:=false) (cS V3) (dT O O) ?_;refine U25 ?_;refine bC O O (r:=true) (cV hm) (dT O O) ?_;refine U9 ?_))
    exact V6
   ·rw [if_pos (by rw [eq_iff_iff];exact ⟨fun h=>absurd h hm,fun h=>absurd h hk⟩)] at hE
    ((refine U26 ?_;refine kne O O (r:=false) (cT c2) ?_;refine U19 ?_);(refine U17 ?_;refine keq O O (r:=true) (cV c2) ?_;refine U9 ?_);(refine U1 ?_;refine bC O O (r:=false) (cS V3) (dT O O) ?_;refine U25 ?_;refine bC O O (r:=false) (cS hm) (dT O O) ?_;refine U5 ?_);(refine U5 ?_))
    exact ⟨_,_,by omega,Le.of V10 VE V2 V2 V0,i+1,by omega,O,next hE,O⟩
 ·by_cases hb:g.count<f.count
  ·rw [if_pos (.inr ⟨c3,hb⟩)] at hE
   rw [fin 3 hE (by decide)]
   ((refine U30 ?_;refine aX O O (r:=false) (cT c3) (dT O O) ?_;refine U8 ?_);(refine U35 ?_;refine bC O O (r:=true) (cV c3) (dT O O) ?_);(refine U5 ?_;refine bK O O (cP V3) (dT O O) ?_;refine U9 ?_))
   exact V6
  rw [if_neg (by omega)] at hE
  by_cases hk:f.kind=10
  ·rw [cP hk]
   by_cases hm:g.kind=10
   ·rw [if_pos (by rw [eq_iff_iff];exact ⟨fun _=>hk,fun _=>hm⟩)] at hE
    ((refine U30 ?_;refine aX O O (r:=false) (cT c3) (dT O O) ?_;refine U8 ?_);(refine U35 ?_;refine bC O O (r:=true) (cV c3) (dT O O) ?_);(refine U17 ?_;refine aX O O (r:=false) (cT hm) (dT O O) ?_;refine U4 ?_);(refine U14 ?_))
    exact ⟨_,_,by omega,Le.of V10 VE V2 V2 V0,i+1,by omega,O,next hE,O⟩
   ·rw [if_neg (fun h=>hm (h.mpr hk))] at hE
    rw [fin 8 hE (by decide)]
    ((refine U30 ?_;refine aX O O (r:=false) (cT c3) (dT O O) ?_;refine U8 ?_);(refine U35 ?_;refine bC O O (r:=true) (cV c3) (dT O O) ?_);(refine U17 ?_;refine aX O O (r:=true) (cU hm) (dT O O) ?_;refine U12 ?_);(refine U5 ?_))
    exact V6
  ·rw [cO hk]
   by_cases hm:g.kind=10
   ·rw [if_neg (fun h=>hk (h.mp hm))] at hE
    rw [fin 8 hE (by decide)]
    ((refine U30 ?_;refine aX O O (r:=false) (cT c3) (dT O O) ?_;refine U8 ?_);(refine U35 ?_;refine bC O O (r:=true) (cV c3) (dT O O) ?_);(refine U25 ?_;refine bC O O (r:=true) (cV hm) (dT O O) ?_);(refine U9 ?_))
    exact V6
   ·rw [if_pos (by rw [eq_iff_iff];exact ⟨fun h=>absurd h hm,fun h=>absurd h hk⟩)] at hE
    ((refine U30 ?_;refine aX O O (r:=false) (cT c3) (dT O O) ?_;refine U8 ?_);(refine U35 ?_;refine bC O O (r:=true) (cV c3) (dT O O) ?_);(refine U25 ?_;refine bC O O (r:=false) (cS hm) (dT O O) ?_);(refine U10 ?_))
    exact ⟨_,_,by omega,Le.of V10 VE V2 V2 V0,i+1,by omega,O,next hE,O⟩
theorem ruE_at {fs gs:List Fl} {r:Rl} (h0:r.old≠0) (h:r.ex.length=gs.length):ruE fs gs r=seqE (fun q:Fl×List Ins=>fmE fs q.1 q.2) (gs.zip r.ex):=by unfold ruE;rw [if_neg h0,if_pos h]
theorem zip_two {α β:Type} {l:List α} {m:List β} {i:Nat} {x:α} {y:β} (hx:l[i]? = some x) (hy:m[i]? = some y):(l.zip m)[i]? = some (x,y):=by
 rw [List.getElem?_zip_eq_some];exact ⟨hx,hy⟩
set_option maxHeartbeats 6400000 in
theorem rRule13 (a b:Cp) (r:Rl) (aad bad ead:Option Addr) (acap bcap ecap:Nat) (hA:FieldsIn X aad a.fs) (hB:FieldsIn X bad b.fs) (hE:CodesIn X ead r.ex) (hal:a.fs.length<4611686018427387904) (hbl:b.fs.length<4611686018427387904) (hcl:∀ c∈r.ex,c.length<4611686018427387904):
  PSpec Tryz.prog X 38 [Cx a aad acap,Cx b bad bcap,.sv (.agg [.val (.int .i64 r.nw),.val (.int .i64 r.old),.val (.slice ead r.ex.length ecap)])] (Ln .i64 (ruE a.fs b.fs r)):=by
 refine cF Tryz.func38 rfl V5 rfl rfl ?_
 intro C
 by_cases h0:r.old=0
 ·rw [show ruE a.fs b.fs r=0 from if_pos h0]
  (refine U12 ?_;refine keq rfl rfl (r:=true) (cV h0) ?_;refine U7 ?_)
  exact V6
 by_cases hl:r.ex.length=b.fs.length
 case neg =>
  rw [show ruE a.fs b.fs r=4 by unfold ruE;rw [if_neg h0,if_neg hl]]
  (refine U12 ?_;refine keq rfl rfl (r:=false) (cS h0) ?_;refine U20 ?_)
  exact V6
 rw [ruE_at h0 hl]
 have hzl:(b.fs.zip r.ex).length=b.fs.length:=by rw [List.length_zip];omega
 (refine U12 ?_;refine keq rfl rfl (r:=false) (cS h0) ?_;refine U12 ?_;refine kne rfl rfl (r:=false) (cT V3) ?_;refine U9 ?_)
 refine cL (fun m σ=>∃ i:Nat,i≤b.fs.length∧m=b.fs.length-i∧(∀ j,0≤j→j<i→atE (fun q:Fl×List Ins=>fmE a.fs q.1 q.2) (b.fs.zip r.ex) j=0)∧σ=⟨[(3,Lp 3),(4,Lp 4),(5,Lp 5),(7,Ln .i64 (i:Nat))],[v3B 39 5 r.nw r.old ead r.ex.length ecap,cpB 4 b bad bcap,cpB 3 a aad acap],X⟩) b.fs.length
  ⟨_,Le.of V8 V9 V2 V2 V0,0,by omega,by omega,fun j _ hj=>absurd hj V3,rfl⟩ ?_
 rintro m σ ⟨i,hi,rfl,hpre,rfl⟩
 by_cases hlt:i<b.fs.length
 case neg =>
  rw [show seqE (fun q:Fl×List Ins=>fmE a.fs q.1 q.2) (b.fs.zip r.ex)=0 from firstE_none fun j h1 h2=>hpre j h1 (by omega)]
  refine U16 ?_
  exact V6
 obtain ⟨f,hf⟩:=wg hlt
 obtain ⟨c,hc⟩:∃ c,r.ex[i]? = some c:=wg V3
 obtain ⟨fb,fo,farr,fel,ffr,rfl,hFX,hFz,hFc,_⟩:=hB.cells hf
 obtain ⟨eb,eo,earr,eel,efr,vad,vcap,rfl,hEX,hec,hI⟩:=hE.get hc
 have hio3:=wo fo i 3
 have hio1:=wo eo i 1
 have hadd:IntKind.i64.wrap ((i:Int)+1)=((i+1:Nat):Int):=by rw [cH V3];omega
 have hq:=rFormula13 X a f c aad vad acap vcap hA hI (hcl c (dE hc)) hal
 have hat:atE (fun q:Fl×List Ins=>fmE a.fs q.1 q.2) (b.fs.zip r.ex) i=fmE a.fs f c:=atE_at (zip_two hf hc)
 by_cases he:fmE a.fs f c=0
 ·rw [he] at hq
  (refine U14 ?_;refine rgD mixed ?_;refine U27 ?_)
  exact ⟨_,_,by omega,Le.of V8 V9 V2 V2 V0,i+1,by omega,O,(fun j h0 hj=>by
   by_cases e:j=i
   ·rw [e,hat];exact he
   ·exact hpre j h0 V3),rfl⟩
 ·rw [show seqE (fun q:Fl×List Ins=>fmE a.fs q.1 q.2) (b.fs.zip r.ex)=fmE a.fs f c from firstE_some hpre (Nat.zero_le _) V3 hat he]
  generalize fmE a.fs f c=e at *
  (refine U14 ?_;refine rgD mixed ?_;refine U18 ?_;refine kne rfl rfl (r:=true) (cU he) ?_;refine U8 ?_)
  exact V6
end Go.Proofs.YtopiioklkkiedaaGreatDoor
end
section
set_option maxHeartbeats 12800000
set_option maxRecDepth 100000
namespace Go.Proofs.YtopiioklkkiedaaGreatDoor
open Go Go.Lg Go.Lg.Fml Go.Lg.Fld Go.Lg.Arith
set_option maxRecDepth 100000
def grtF (c:Cp):Bool:=decide (12<c.fs.length)
def grtN (az bz:List Cp) (rs:List Rl):Bool:=decide (30<az.length)||(decide (30<bz.length)||decide (30<rs.length))
def grt13 (az bz:List Cp) (rs:List Rl):Bool:=grtN az bz rs||(az.any grtF||(bz.any grtF||rs.any grtR))
theorem grt13_false {az bz:List Cp} {rs:List Rl} (h:grt13 az bz rs=false):(az.length≤30∧∀ c∈az,c.fs.length≤12)∧(bz.length≤30∧∀ c∈bz,c.fs.length≤12)∧rs.length≤30∧∀ r∈rs,r.ex.length≤12∧∀ c∈r.ex,c.length≤80:=by
 unfold grt13 grtN at h
 simp only [Bool.or_eq_false_iff,decide_eq_false_iff_not] at h
 obtain ⟨⟨h1,h2,h3⟩,h4,h5,h6⟩:=h
 have key:∀ l:List Cp,l.any grtF=false→∀ c∈l,c.fs.length≤12:=fun l hl c hc=>by
  have:=List.any_eq_false.1 hl c hc
  unfold grtF at this
  simpa using this
 have hp:=grtP_false (rs:=rs) (by unfold grtP;rw [Bool.or_eq_false_iff,decide_eq_false_iff_not];exact ⟨h3,h6⟩)
 exact ⟨⟨by omega,key _ h4⟩,⟨by omega,key _ h5⟩,by omega,hp.2⟩
theorem any_yes {α:Type} {p:α→Bool} {l:List α} {x:α} {i:Nat} (hx:l[i]? = some x) (h:p x=true):l.any p=true:=List.any_eq_true.2 ⟨x,dE hx,h⟩
theorem any_next {α:Type} {p:α→Bool} {l:List α} {x:α} {i:Nat} (hx:l[i]? = some x) (h0:(l.take i).any p=false) (h:p x=false):(l.take (i+1)).any p=false:=by
 rw [take_snoc hx,List.any_append,h0];simp [h]
variable (X:Nat→Option Obj)
end Go.Proofs.YtopiioklkkiedaaGreatDoor
end
section
set_option maxHeartbeats 12800000
set_option maxRecDepth 100000
namespace Go.Proofs.YtopiioklkkiedaaGreatDoor
open Go Go.Lg Go.Lg.Fml Go.Lg.Fld Go.Lg.Arith
set_option maxRecDepth 100000
def rwZ:List Rl→List Value→List Value
 | r::rs,v::vs=>.int .i64 r.nw :: .int .i64 r.old::v::rwZ rs vs
 | _,_=>[]
theorem rwZ_len:∀ {rs:List Rl} {ws:List Value},ws.length=rs.length→(rwZ rs ws).length=rs.length*3
 | [],[],_=>rfl
 | c::cs,v::vs,h=>by
  simp only [rwZ,dJ] at h ⊢
  rw [rwZ_len (rs:=cs) (ws:=vs) (by omega)];omega
 | [],_::_,h=>by simp at h
 | _::_,[],h=>by simp at h
theorem rwZ_add:∀ {rs:List Rl} {ws:List Value} {r:Rl} {v:Value},ws.length=rs.length→rwZ (rs++[r]) (ws++[v])=rwZ rs ws++[.int .i64 r.nw,.int .i64 r.old,v]
 | [],[],_,_,_=>rfl
 | c::cs,w::ws,r,v,h=>by
  simp only [dJ] at h
  simp only [List.cons_append,rwZ]
  rw [rwZ_add (rs:=cs) (ws:=ws) (by omega)]
 | [],_::_,_,_,h=>by simp at h
 | _::_,[],_,_,h=>by simp at h
theorem rwZ_at:∀ {i:Nat} {rs:List Rl} {ws sp:List Value} {r:Rl} {w:Value},rs[i]? = some r→ws[i]? = some w→((rwZ rs ws++sp).drop (i*3)).take 3=[.int .i64 r.nw,.int .i64 r.old,w]
 | 0,c::cs,v::vs,sp,r,w,h1,h2=>by
  simp only [List.getElem?_cons_zero,Option.some.injEq] at h1 h2
  subst h1 h2
  rfl
 | i+1,c::cs,v::vs,sp,r,w,h1,h2=>by
  simp only [List.getElem?_cons_succ] at h1 h2
  have:=rwZ_at (sp:=sp) h1 h2
  rw [show (i+1)*3=i*3+3 by omega]
  exact this
 | _,[],_,_,_,_,h,_=>by simp at h
 | _,_::_,[],_,_,_,_,h=>by simp at h
theorem snoc_get {α:Type} {l:List α} {a x:α} {i:Nat} (h:(l++[a])[i]? = some x):(i<l.length∧l[i]? = some x)∨(i=l.length∧x=a):=by
 by_cases e:i<l.length
 ·rw [dR e] at h;exact .inl ⟨e,h⟩
 ·have h1:=(wl h)
  rw [cW] at h1
  simp only [cZ] at h1
  have e2:i=l.length:=by omega
  subst e2
  rw [List.getElem?_append_right (dO _),Nat.sub_self] at h
  simp only [List.getElem?_cons_zero,Option.some.injEq] at h
  exact .inr ⟨O,h.symm⟩
structure FormsH (H:Nat→Option Obj) (vs:List Value) (cs:List (List Ins)):Prop where
 len:vs.length=cs.length
 at_:∀ (i:Nat) (v:Value) (c:List Ins),vs[i]? = some v→cs[i]? = some c→∃ (vad:Option Addr) (vcap:Nat),v = .slice vad c.length vcap∧InsIn H vad c
theorem FormsH.nil {H:Nat→Option Obj}:FormsH H [] []:=⟨rfl,fun i v c h=>by simp at h⟩
theorem FormsH.mono {H H':Nat→Option Obj} (hH:∀ b o,H b=some o→H' b=some o) {vs:List Value} {cs:List (List Ins)} (G:FormsH H vs cs):FormsH H' vs cs:=⟨G.len,fun i v c hv hc=>by
 obtain ⟨vad,vcap,h1,h2⟩:=G.at_ i v c hv hc
 exact ⟨vad,vcap,h1,h2.mono hH⟩⟩
theorem FormsH.push {H:Nat→Option Obj} {vs:List Value} {cs:List (List Ins)} (G:FormsH H vs cs) {v:Value} {c:List Ins} (hv:∃ (vad:Option Addr) (vcap:Nat),v = .slice vad c.length vcap∧InsIn H vad c):FormsH H (vs++[v]) (cs++[c]):=⟨by rw [cW,cW,G.len];rfl,fun i w d hw hd=>by
 have hl:=G.len
 rcases snoc_get hw with ⟨h1,h2⟩|⟨h1,rfl⟩
 ·rcases snoc_get hd with ⟨h3,h4⟩|⟨h3,_⟩
  ·exact G.at_ i w d h2 h4
  ·omega
 ·rcases snoc_get hd with ⟨h3,_⟩|⟨_,rfl⟩
  ·omega
  ·exact hv⟩
structure RulesH (H:Nat→Option Obj) (ws:List Value) (rs:List Rl):Prop where
 len:ws.length=rs.length
 at_:∀ (i:Nat) (w:Value) (r:Rl),ws[i]? = some w→rs[i]? = some r→∃ (ead:Option Addr) (ecap:Nat),w = .slice ead r.ex.length ecap∧CodesIn H ead r.ex
theorem RulesH.nil {H:Nat→Option Obj}:RulesH H [] []:=⟨rfl,fun i v c h=>by simp at h⟩
theorem RulesH.mono {H H':Nat→Option Obj} (hH:∀ b o,H b=some o→H' b=some o) {vs:List Value} {cs:List Rl} (G:RulesH H vs cs):RulesH H' vs cs:=⟨G.len,fun i v c hv hc=>by
 obtain ⟨vad,vcap,h1,h2⟩:=G.at_ i v c hv hc
 exact ⟨vad,vcap,h1,h2.mono hH⟩⟩
theorem RulesH.push {H:Nat→Option Obj} {vs:List Value} {cs:List Rl} (G:RulesH H vs cs) {v:Value} {c:Rl} (hv:∃ (vad:Option Addr) (vcap:Nat),v = .slice vad c.ex.length vcap∧CodesIn H vad c.ex):RulesH H (vs++[v]) (cs++[c]):=⟨by rw [cW,cW,G.len];rfl,fun i w d hw hd=>by
 have hl:=G.len
 rcases snoc_get hw with ⟨h1,h2⟩|⟨h1,rfl⟩
 ·rcases snoc_get hd with ⟨h3,h4⟩|⟨h3,_⟩
  ·exact G.at_ i w d h2 h4
  ·omega
 ·rcases snoc_get hd with ⟨h3,_⟩|⟨_,rfl⟩
  ·omega
  ·exact hv⟩
theorem forms_block {Y:Nat→Option Obj} {blk:Nat} {arr:Array Value} {el:TypeId} {fr:Nat×Nat} {vs sp:List Value} {cs:List (List Ins)} (hY:Y blk=some (.cells arr el fr)) (h:arr.toList=vs++sp) (G:FormsH Y vs cs):CodesIn Y (some ⟨blk,0,none⟩) cs:=⟨fun i c hc=>by
 have hi:=(wl hc)
 have hl:=G.len
 obtain ⟨v,hv⟩:∃ v,vs[i]? = some v:=wg V3
 obtain ⟨vad,vcap,h1,h2⟩:=G.at_ i v c hv hc
 have hsz:arr.size=vs.length+sp.length:=by rw [← Array.length_toList,h,cW]
 refine ⟨blk,0,arr,el,fr,vad,vcap,O,hY,by omega,?_,h2⟩
 rw [← Array.getElem?_toList,h,Nat.zero_add,dR (by omega),hv,h1]⟩
theorem rules_block {Y:Nat→Option Obj} {blk:Nat} {arr:Array Value} {el:TypeId} {fr:Nat×Nat} {ws sp:List Value} {rs:List Rl} (hY:Y blk=some (.cells arr el fr)) (h:arr.toList=rwZ rs ws++sp) (G:RulesH Y ws rs) (hs:∀ r∈rs,smallR r):RulesIn Y (some ⟨blk,0,none⟩) rs:=⟨fun i r hr=>by
 have hi:=(wl hr)
 have hl:=G.len
 obtain ⟨v,hv⟩:∃ v,ws[i]? = some v:=wg V3
 obtain ⟨ead,ecap,h1,h2⟩:=G.at_ i v r hv hr
 have hsz:arr.size=rs.length*3+sp.length:=by rw [← Array.length_toList,h,cW,rwZ_len hl]
 refine ⟨blk,0,arr,el,fr,ead,ecap,O,hY,by omega,?_,h2⟩
 rw [h,Nat.zero_add,rwZ_at hr hv,h1],hs⟩
def rlR (t:TypeId) (rs:List Rl):Rsc:=⟨fun ρ H=>(∃ (arr:Array Value) (fr:Nat×Nat),H ρ.1=some (.cells arr t fr)∧arr.size=ρ.2)∧RulesIn H (some ⟨ρ.1,0,none⟩) rs⟩
abbrev rlB (t:TypeId) (k:Nat) (rs:List Rl):Nat×Option Box:=(k,some ⟨0,[],.res (rlR t rs)⟩)
section
variable {n:Nat} {C:Ctx} {X:Nat→Option Obj} {s:List (Nat×LV)} {bx:List (Nat×Option Box)} {k:Nat}
theorem rl_shut {Mid:St→Prop} {t:TypeId} {rs:List Rl} {H:Nat→Option Obj} {ws sp:List Value} (hO:OwnedM C X H) (G:RulesH H ws rs) (hs:∀ r∈rs,smallR r)
  (h:Leads n C Mid ⟨s,rlB t k rs::bx,X⟩):Leads n C Mid ⟨s,(k,some ⟨t,(rwZ rs ws++sp).map .val,false⟩)::bx,joinM X H⟩:=by
 refine Leads.closeRes (vals:=rwZ rs ws++sp) hO (fun ρ fr h1 h2 h3 => ?_) h
 refine ⟨⟨_,fr,cN _ _ _,by rw [h3];simp⟩,?_⟩
 exact rules_block (cN _ _ _) (by simp;rfl) (G.mono (cJ h1)) hs
end
theorem ins_leads {H:Nat→Option Obj} {b:Nat} {v:Value} {el:TypeId} {c:List Ins} (h:LeadsTo H b v el 6 (inssV c)) (hs:∀ x∈c,smallI x):∃ (vad:Option Addr) (vcap:Nat),v = .slice vad c.length vcap∧InsIn H vad c:=by
 obtain ⟨len,cap,arr,fr,h1,h2,_,_,h5,h6⟩:=h
 have hl:=inssV_len c
 rw [cX] at hl
 have e:len=c.length:=by omega
 subst e
 exact ⟨_,cap,h1,ins_in h5 hs h6⟩
theorem codes_leads {H:Nat→Option Obj} {b:Nat} {v:Value} {el:TypeId} {vs:List Value} {cs:List (List Ins)} (h:LeadsTo H b v el 1 vs) (G:FormsH H vs cs):∃ (ead:Option Addr) (ecap:Nat),v = .slice ead cs.length ecap∧CodesIn H ead cs:=by
 obtain ⟨len,cap,arr,fr,h1,h2,_,_,h5,sp,h6⟩:=h
 have hl:=G.len
 have e:len=cs.length:=by omega
 subst e
 exact ⟨_,cap,h1,forms_block h5 h6 G⟩
theorem CodesIn.nilIn {H:Nat→Option Obj}:∃ (ead:Option Addr) (ecap:Nat),Value.slice none 0 0 = .slice ead ([]:List (List Ins)).length ecap∧CodesIn H ead []:=⟨none,0,rfl,CodesIn.nil⟩
variable (X:Nat→Option Obj)
end Go.Proofs.YtopiioklkkiedaaGreatDoor
end
section
set_option maxHeartbeats 12800000
set_option maxRecDepth 100000
namespace Go.Proofs.YtopiioklkkiedaaGreatDoor
open Go Go.Lg Go.Lg.Fml Go.Lg.Fld Go.Lg.Arith
set_option maxRecDepth 100000
variable (X:Nat→Option Obj)
theorem kIsVersion (n:Int):PSpec Tryz.prog X 61 [Ln .i64 n] (Lb (verOk n)):=by
 refine cF Tryz.func61 rfl V5 rfl rfl ?_
 intro C
 by_cases h1:1≤n
 ·by_cases h2:n≤1073741824
  ·rw [show verOk n=true by unfold verOk;simp;omega]
   (refine U10 ?_;refine K.leq O O (cP V3) (dT O O) ?_;refine U4 ?_)
   exact V6
  ·rw [show verOk n=false by unfold verOk;simp;omega]
   (refine U10 ?_;refine K.leq O O (cO V3) (dT O O) ?_;refine U4 ?_)
   exact V6
 ·rw [show verOk n=false by unfold verOk;simp;omega]
  refine U15 ?_
  exact V6
set_option maxHeartbeats 3200000 in
theorem kCheckRule (r:Rl) (ead:Option Addr) (ecap:Nat) (hE:CodesIn X ead r.ex) (h1:r.ex.length<4611686018427387904) (h2:∀ c∈r.ex,c.length<1152921504606846976) (last:Int) (h0:0≤last):
  PSpec Tryz.prog X 62 [LPg r.nw r.old ead r.ex.length ecap,Ln .i64 last] (Ln .i64 (chkR r last)):=by
 refine cF Tryz.func62 rfl V5 rfl rfl ?_
 intro C
 obtain ⟨nw,old,ex⟩:=r
 simp only at hE h1 h2 ⊢
 by_cases c1:nw≤last
 ·rw [show chkR ⟨nw,old,ex⟩ last=1 from if_pos (by simp only;omega)]
  (refine U12 ?_;refine K.leq O O (cP V3) dS ?_;refine U23 ?_)
  exact V6
 by_cases c2:24<nw
 ·rw [show chkR ⟨nw,old,ex⟩ last=1 from if_pos (by simp only;omega)]
  refine U36 ?_
  exact V6
 by_cases c3:old<0
 ·rw [show chkR ⟨nw,old,ex⟩ last=1 from if_pos (by simp only;omega)]
  (refine U21 ?_;refine bK O O (cP V3) (dT O O) ?_;refine U14 ?_)
  exact V6
 by_cases c4:24<old
 ·rw [show chkR ⟨nw,old,ex⟩ last=1 from if_pos (by simp only;omega)]
  refine U36 ?_
  exact V6
 have e1:chkR ⟨nw,old,ex⟩ last=if old=0∧ex≠[] then 4 else if 8<ex.length then 5 else firstX ex:=if_neg (by simp only;omega)
 rw [e1]
 have hl:ex≠[]↔0<ex.length:=by rw [List.length_pos_iff]
 by_cases c5:old=0
 ·by_cases c6:0<ex.length
  ·rw [if_pos ⟨c5,hl.2 c6⟩]
   (refine U35 ?_;refine keq rfl rfl (cV c5) ?_;refine U14 ?_)
   exact V6
  ·have e0:ex=[]:=by
    by_cases h:ex=[]
    ·exact h
    ·exact absurd (hl.1 h) c6
   subst e0
   rw [if_neg (fun h=>h.2 rfl),if_neg (by decide)]
   ((refine U34 ?_);(refine U1 ?_;refine keq O O (cV c5) ?_;refine U4 ?_;refine aS O O (cO VA) (dT O O) ?_;refine U9 ?_;refine aS O O (cO VA) dS ?_;refine U13 ?_))
   refine cL (fun m σ=>m=0∧σ=⟨[(46,Ln .i64 0),(47,Ln .i64 0)],[],X⟩) 0 ⟨⟨[(46,Ln .i64 0),(47,Ln .i64 0)],[],X⟩,Le.of VE VC V2 V2 V0,O,O⟩ ?_
   rintro m σ ⟨rfl,rfl⟩
   (refine U2 ?_;refine klt rfl rfl (r:=false) rfl ?_;refine U9 ?_)
   exact V6
 rw [if_neg (fun h=>c5 h.1)]
 by_cases c7:8<ex.length
 ·rw [if_pos c7]
  (refine U35 ?_;refine keq rfl rfl (cS c5) ?_;refine U23 ?_)
  exact V6
 rw [if_neg c7]
 (refine U35 ?_;refine keq rfl rfl (cS c5) ?_;refine U28 ?_)
 refine cL (fun m σ=>∃ i:Nat,i≤ex.length∧m=ex.length-i∧firstX ex=firstX (ex.drop i)∧σ=⟨[(45,Lx ead ex.length ecap),(46,Ln .i64 (ex.length:Nat)),(47,Ln .i64 (i:Nat))],[],X⟩) ex.length
  ⟨⟨[(45,Lx ead ex.length ecap),(46,Ln .i64 (ex.length:Nat)),(47,Ln .i64 (0:Nat))],[],X⟩,Le.of V9 VC V2 V2 V0,0,by omega,by omega,rfl,rfl⟩ ?_
 rintro m σ ⟨i,hi,rfl,hpre,rfl⟩
 by_cases hlt:i<ex.length
 case neg =>
  rw [hpre,List.drop_eq_nil_of_le (by omega)]
  refine U12 ?_
  exact V6
 obtain ⟨c,hc⟩:=wg hlt
 obtain ⟨eb,eo,earr,eel,efr,vad,vcap,rfl,hEX,hec,hI⟩:=hE.get hc
 have hio:=wo eo i 1
 have hG:=gEncode' X c vad vcap hI (h2 c (dE hc))
 rw [drop_at hc,firstX_cons] at hpre
 by_cases he:encErr c=0
 ·rw [if_pos he] at hpre
  rw [he] at hG
  have hadd:=wi i V3
  refine U36 ?_
  exact ⟨_,⟨[(45,Lx (some ⟨eb,eo,none⟩) ex.length ecap),(46,Ln .i64 (ex.length:Nat)),(47,Ln .i64 (i+1:Nat))],[],X⟩,by omega,Le.of V9 VC V2 V2 V0,i+1,by omega,O,hpre,O⟩
 ·rw [if_neg he] at hpre
  rw [hpre]
  have hne:(encErr c != 0)=true:=by rw [bne_iff_ne];exact he
  generalize encErr c=ce at *
  (refine U28 ?_;refine kne rfl rfl hne ?_;refine U8 ?_)
  exact V6
set_option maxHeartbeats 3200000 in
theorem kCheck (p:Pg) (ad:Option Addr) (cap:Nat) (hin:RulesIn X ad p.rs) (hbig:p.rs.length<4611686018427387904) (hsz:sizeR p.rs):PSpec Tryz.prog X 27 [LPg p.va p.vb ad p.rs.length cap] (Ln .i64 (chkP p)):=by
 obtain ⟨va,vb,rs⟩:=p
 simp only at hin hbig hsz ⊢
 have v1:=kIsVersion X va
 have v2:=kIsVersion X vb
 refine cF Tryz.func27 rfl V5 rfl rfl ?_
 intro C
 cases q1:verOk va with
 | false =>
  rw [q1] at v1
  rw [chkP_bad (by simp only;rw [q1,Bool.false_and];decide)]
  refine U25 ?_
  exact V6
 | true =>
 rw [q1] at v1
 cases q2:verOk vb with
 | false =>
  rw [q2] at v2
  rw [chkP_bad (by simp only;rw [q2,Bool.and_false];decide)]
  refine U25 ?_
  exact V6
 | true =>
 rw [q2] at v2
 rw [chkP_good (by simp only;rw [q1,q2];rfl)]
 refine U34 ?_
 simp only
 refine cL (fun m σ=>∃ i:Nat,i≤rs.length∧m=rs.length-i∧chkRs 0 rs=chkRs (lastR rs i) (rs.drop i)∧0≤lastR rs i∧σ=⟨[(3,Ln .i64 (lastR rs i)),(18,Lx ad rs.length cap),(19,Ln .i64 (rs.length:Nat)),(20,Ln .i64 (i:Nat))],[],X⟩) rs.length
  ⟨⟨[(3,Ln .i64 (lastR rs 0)),(18,Lx ad rs.length cap),(19,Ln .i64 (rs.length:Nat)),(20,Ln .i64 (0:Nat))],[],X⟩,Le.of V8 VC V2 V2 V0,0,by omega,by omega,rfl,Int.le_refl 0,rfl⟩ ?_
 rintro m σ ⟨i,hi,rfl,hpre,hlast,rfl⟩
 by_cases hlt:i<rs.length
 case neg =>
  rw [hpre,List.drop_eq_nil_of_le (by omega)]
  refine U12 ?_
  exact V6
 obtain ⟨r,hr⟩:=wg hlt
 obtain ⟨blk,off,arr,el,fr,ead,ecap,rfl,hX,hsiz,hcs,g1,g2,g3,hE⟩:=hin.get hr
 have hio:=wo off i 3
 obtain ⟨hz1,hz2⟩:=hsz r (dE hr)
 have hR:=kCheckRule X r ead ecap hE V3 hz2 (lastR rs i) hlast
 rw [drop_at hr,chkRs_cons] at hpre
 by_cases he:chkR r (lastR rs i)=0
 ·rw [if_pos he] at hpre
  have hgt:=(chkR_zero he).2.2.1
  rw [he] at hR
  have hnl:=lastR_at hr
  have hadd:=wi i V3
  refine U40 ?_
  rw [← hnl] at hpre hgt ⊢
  exact ⟨_,⟨[(3,Ln .i64 (lastR rs (i+1))),(18,Lx (some ⟨blk,off,none⟩) rs.length cap),(19,Ln .i64 (rs.length:Nat)),(20,Ln .i64 (i+1:Nat))],[],X⟩,by omega,Le.of V8 VC V2 V2 V0,i+1,by omega,O,hpre,by omega,O⟩
 ·rw [if_neg he] at hpre
  rw [hpre]
  have hne:(chkR r (lastR rs i) != 0)=true:=by rw [bne_iff_ne];exact he
  generalize chkR r (lastR rs i)=ce at *
  (refine U27 ?_;refine kne rfl rfl hne ?_;refine U8 ?_)
  exact V6
end Go.Proofs.YtopiioklkkiedaaGreatDoor
end
section
set_option maxHeartbeats 12800000
set_option maxRecDepth 100000
namespace Go.Proofs.YtopiioklkkiedaaGreatDoor
open Go Go.Lg Go.Lg.Fld
set_option maxRecDepth 100000
abbrev Ext (X Y:Nat→Option Obj):Prop := ∀ b o,X b=some o→Y b=some o
variable (X:Nat→Option Obj)
end Go.Proofs.YtopiioklkkiedaaGreatDoor
end
section
set_option maxHeartbeats 12800000
set_option maxRecDepth 100000
namespace Go.Proofs.YtopiioklkkiedaaGreatDoor
open Go Go.Lg Go.Lg.Fld
set_option maxRecDepth 100000
theorem unpErr_facts {fs:List Fl} {s:List UInt8} (h:unpErr fs s=0):layErr fs=0∧s.length=rowSize fs∧readOk (elemsAt 0 fs) s=true∧packB fs ((unpZ fs s).map qn)=s:=by
 unfold unpErr at h
 split at h
 ·rename_i h0
  split at h
  ·rename_i h1
   unfold unpOk at h1
   simp only [Bool.and_eq_true,decide_eq_true_eq,beq_iff_eq] at h1
   exact ⟨h0,h1.1,h1.2.1,h1.2.2⟩
  ·cases h
 ·contradiction
theorem unp_R {fs:List Fl} {s:List UInt8} (h:unpErr fs s=0):∀ z∈unpZ fs s,R127 z:=by
 obtain ⟨hl,hn,_,_⟩:=unpErr_facts h
 obtain ⟨_,hall,_⟩:=layErr_facts hl
 intro z hz
 obtain ⟨e,he,rfl⟩:=List.mem_map.1 hz
 exact (read_R (within_row hall) hn he).2
theorem unpZ_len {fs:List Fl} {s:List UInt8} (h:unpErr fs s=0):(unpZ fs s).length≤64:=by
 obtain ⟨hl,_,_,_⟩:=unpErr_facts h
 obtain ⟨h8,hall,_⟩:=layErr_facts hl
 have:=elems_len fs 0 hall
 simp only [unpZ,cX];omega
variable (X:Nat→Option Obj)
end Go.Proofs.YtopiioklkkiedaaGreatDoor
end
section
set_option maxHeartbeats 12800000
set_option maxRecDepth 100000
namespace Go.Proofs.YtopiioklkkiedaaGreatDoor
open Go Go.Lg Go.Lg.Fml Go.Lg.Fld Go.Lg.Arith
set_option maxRecDepth 100000
def RowV (Y:Nat→Option Obj) (vs:List Value) (fs:List (List Nm)):Prop:=vs.length=fs.length∧∀ (i:Nat) (r:List Nm),fs[i]? = some r→∃ (ad:Option Addr) (cap:Nat),vs[i]? = some (.slice ad r.length cap)∧NumsIn Y ad r
variable (X:Nat→Option Obj)
end Go.Proofs.YtopiioklkkiedaaGreatDoor
end
section
set_option maxHeartbeats 12800000
set_option maxRecDepth 100000
namespace Go.Proofs.YtopiioklkkiedaaGreatDoor
open Go Go.Lg Go.Lg.Fml Go.Lg.Fld Go.Lg.Arith
set_option maxRecDepth 100000
def int1 (l:List Int):List Value:=l.map fun n=>.int .i64 n
section
variable {n:Nat} {C:Ctx} {X:Nat→Option Obj} {s:List (Nat×LV)} {bx:List (Nat×Option Box)} {k:Nat}
end
variable (X:Nat→Option Obj)
abbrev Vp' (b:Nat):LV:=.sv (.one (.val (.pointer (some ⟨b,0,none⟩))))
theorem kIndex (ad:Option Addr) (cap:Nat) (rs:List Rl) (hin:RulesIn X ad rs) (hbig:rs.length<4611686018427387904) (f:FuncId) (caps:List Value) (p:Rl→Bool)
  (hp:∀ r∈rs,∀ ead ecap,PSpec Tryz.prog X f ([LPg r.nw r.old ead r.ex.length ecap]++caps.map fun v=>.sv (.one (.val v))) (Lb (p r))):
  PSpec Tryz.prog X 171 [Lx ad rs.length cap,Lf f caps] (Ln .i64 (findI p rs)):=by
 refine cF Tryz.func171 rfl V5 rfl rfl ?_
 intro C
 refine U12 ?_
 refine cL (fun m σ=>∃ i:Nat,i≤rs.length∧m=rs.length-i∧(∀ (j:Nat) (y:Rl),j<i→rs[j]? = some y→p y=false)∧σ=⟨[(0,Lx ad rs.length cap),(1,Lf f caps),(7,Ln .i64 (rs.length:Nat)),(8,Ln .i64 (i:Nat))],[],X⟩) rs.length
  ⟨_,Le.of V8 VC V2 V2 V2,0,by omega,by omega,fun j y hj=>absurd hj V3,rfl⟩ ?_
 rintro m σ ⟨i,hi,rfl,hpre,rfl⟩
 by_cases hlt:i<rs.length
 ·obtain ⟨c,hc⟩:=wg hlt
  obtain ⟨blk,off,arr,el,fr,fad,fcap,rfl,hX,hsz,hcs,_,_,_,hF⟩:=hin.get hc
  have hio:=wo off i 3
  have hP:=hp c (dE hc) fad fcap
  cases hpc:p c with
  | true =>
   rw [hpc] at hP
   rw [findI_some hpre hc hpc]
   (refine U21 ?_;refine K.callF O O O hP dS ?_;refine U8 ?_)
   exact V6
  | false =>
   rw [hpc] at hP
   (refine U21 ?_;refine K.callF O O O hP dS ?_;refine U7 ?_)
   exact ⟨_,_,by omega,Le.of V8 VC V2 V2 V2,i+1,by omega,O,(fun j y hj hy=>by
    by_cases e:j=i
    ·subst e;rw [hc] at hy;cases hy;exact hpc
    ·exact hpre j y V3 hy),rfl⟩
 ·rw [findI_none fun j y hy=>hpre j y V2D hy]
  refine U12 ?_
  exact V6
end Go.Proofs.YtopiioklkkiedaaGreatDoor
end
section
set_option maxHeartbeats 12800000
set_option maxRecDepth 100000
namespace Go.Proofs.YtopiioklkkiedaaGreatDoor
open Go Go.Lg Go.Lg.Fml Go.Lg.Fld Go.Lg.Arith
set_option maxRecDepth 100000
theorem firstE_shift {f:Nat→Int}:∀ n i,firstE f (i+1) n=firstE (fun j=>f (j+1)) i n
 | 0,_=>rfl
 | n+1,i=>by
  show (if f (i+1)=0 then firstE f (i+1+1) n else f (i+1))=(if f (i+1)=0 then firstE (fun j=>f (j+1)) (i+1) n else f (i+1))
  rw [firstE_shift n (i+1)]
theorem seqE_cons {α:Type} {g:α→Int} {x:α} {t:List α}:seqE g (x::t)=if g x=0 then seqE g t else g x:=by
 show (if atE g (x::t) 0=0 then firstE (atE g (x::t)) (0+1) t.length else atE g (x::t) 0)=_
 rw [firstE_shift]
 rfl
theorem seqE_uses {fs:List Fl} {f:Fl}:∀ l:List Ins,seqE (findE fs f) (usesX l)=seqE (findE fs f) l
 | []=>rfl
 | x::t=>by
  have ih:=seqE_uses (fs:=fs) (f:=f) t
  have h1:usesX (x::t)=if (x.op==2||x.op==3)=true then x::usesX t else usesX t:=List.filter_cons
  rw [h1,seqE_cons]
  by_cases h:x.op=2∨x.op=3
  ·rw [if_pos V2E,seqE_cons,ih]
  ·rw [if_neg V2E,findE_skip h,if_pos rfl,ih]
theorem uses_mem {l:List Ins} {x:Ins} (h:x∈usesX l):x∈l∧(x.op=2∨x.op=3):=by
 unfold usesX at h
 rw [List.mem_filter] at h
 exact ⟨h.1,by simpa using h.2⟩
def hdB:List Ins→Bool
 | [x]=>x.op==2||x.op==3||(x.op==1&&decide (x.k=(false,0)))
 | _=>false
theorem refE_hd {f:Fl} {l:List Ins} (h:chkX l=0):refE f l=if f.kind=10∧hdB l=false then 8 else 0:=by
 match l,h with
 | [],h=>exact absurd rfl (chkX_ne h)
 | [x],h =>
  have hd:=(chkX_zero h).2
  have ho:=(okI_facts (chkX_ok h x (List.mem_singleton.2 rfl))).1
  have ht:takes x.op=0:=by
   by_cases e:takes x.op=0
   ·exact e
   ·exfalso
    unfold dep at hd
    rw [if_neg (by omega)] at hd
    cases hd
  have h4:x.op≤4:=by
   unfold takes at ht
   by_cases e:x.op≤4
   ·exact e
   ·exfalso
    by_cases a1:x.op=16
    ·rw [if_pos a1] at ht;cases ht
    ·rw [if_neg a1] at ht
     by_cases a2:x.op=10∨x.op=15
     ·rw [if_pos a2] at ht;cases ht
     ·rw [if_neg a2,if_pos V3] at ht;cases ht
  show (if f.kind=10∧(x.op=4∨(x.op=1∧x.k≠(false,0))) then (8:Int) else 0)=if f.kind=10∧(x.op==2||x.op==3||(x.op==1&&decide (x.k=(false,0))))=false then 8 else 0
  have hi:(x.op=4∨(x.op=1∧x.k≠(false,0)))↔(x.op==2||x.op==3||(x.op==1&&decide (x.k=(false,0))))=false:=by
   by_cases hk:x.k=(false,0)
   ·simp [hk];omega
   ·simp [hk];omega
  by_cases hf:f.kind=10
  ·by_cases hb:x.op=4∨(x.op=1∧x.k≠(false,0))
   ·rw [if_pos ⟨hf,hb⟩,if_pos ⟨hf,hi.1 hb⟩]
   ·rw [if_neg (fun h=>hb h.2),if_neg (fun h=>hb (hi.2 h.2))]
  ·rw [if_neg (fun h=>hf h.1),if_neg (fun h=>hf h.1)]
 | x::y::t,h =>
  show (if f.kind=10 then (8:Int) else 0)=if f.kind=10∧hdB (x::y::t)=false then 8 else 0
  by_cases hf:f.kind=10
  ·rw [if_pos hf,if_pos ⟨hf,rfl⟩]
  ·rw [if_neg hf,if_neg (fun h=>hf h.1)]
abbrev Ax (x:Ins):LV:=.sv (.agg ((insV x).map CV.val))
def heB (g f:Fl) (x:Ins):Bool:=if x.op=2 then decide (x.b<g.count) else decide (f.count≤g.count)
variable (X:Nat→Option Obj)
theorem yIsRef (f:Fl):PSpec Tryz.prog X 141 [Fx f] (Lb (decide (f.kind=10))):=by
 refine cF Tryz.func141 rfl V5 rfl rfl ?_
 intro C
 (refine U9 ?_;refine keq rfl rfl (r:=decide (f.kind=10)) (beq_dec f.kind 10) ?_;refine U3 ?_)
 exact V6
theorem yHas (g f:Fl) (x:Ins):PSpec Tryz.prog X 176 [Fx g,Fx f,Ax x] (Lb (heB g f x)):=by
 refine cF Tryz.func176 rfl V5 rfl rfl ?_
 intro C
 unfold heB
 by_cases c2:x.op=2
 ·rw [if_pos c2]
  (refine U12 ?_;refine keq rfl rfl (r:=true) (cV c2) ?_;refine U8 ?_;refine klt rfl rfl rfl ?_;refine U3 ?_)
  exact V6
 ·rw [if_neg c2]
  (refine U12 ?_;refine keq O O (r:=false) (cS c2) ?_;refine U9 ?_;refine bD O O O dS ?_;refine U3 ?_)
  exact V6
theorem yUse (c:Cp) (f:Fl) (x:Ins) (cad:Option Addr) (ccap:Nat) (hF:FieldsIn X cad c.fs) (hfl:c.fs.length<4611686018427387904) (h23:x.op=2∨x.op=3) (ha0:0≤x.a):
  PSpec Tryz.prog X 135 [Cx c cad ccap,Fx f,Ax x] (Ln .i64 (findE c.fs f x)):=by
 refine cF Tryz.func135 rfl V5 rfl rfl ?_
 intro C
 cases hg:c.fs[x.a.toNat]? with
 | none =>
  have hge:=List.getElem?_eq_none_iff.1 hg
  rw [findE_out h23 hg]
  refine U23 ?_
  exact V6
 | some g =>
 have hlg:=(wl hg)
 have hE:=findE_at (f:=f) h23 hg
 obtain ⟨fb,fo,farr,fel,ffr,rfl,hFX,hFz,hFc,_⟩:=hF.cells hg
 have hio3:fo+Int.toNat x.a*3=fo+x.a.toNat*3:=rfl
 have hH:=yHas X g f x
 cases hb:heB g f x with
 | false =>
  rw [hb] at hH
  have h3:(x.op=2∧g.count≤x.b)∨(x.op=3∧g.count<f.count):=by
   unfold heB at hb
   by_cases c2:x.op=2
   ·rw [if_pos c2] at hb
    have:=of_decide_eq_false hb
    exact .inl ⟨c2,by omega⟩
   ·rw [if_neg c2] at hb
    have:=of_decide_eq_false hb
    exact .inr ⟨by omega,by omega⟩
  rw [if_pos h3] at hE
  rw [hE]
  refine U47 ?_
  exact V6
 | true =>
 rw [hb] at hH
 have h3:¬((x.op=2∧g.count≤x.b)∨(x.op=3∧g.count<f.count)):=by
  unfold heB at hb
  by_cases c2:x.op=2
  ·rw [if_pos c2] at hb
   have:=of_decide_eq_true hb
   omega
  ·rw [if_neg c2] at hb
   have:=of_decide_eq_true hb
   omega
 rw [if_neg h3] at hE
 have hg1:=yIsRef X g
 have hg2:=yIsRef X f
 by_cases hk:(g.kind=10)=(f.kind=10)
 ·rw [if_pos hk] at hE
  rw [hE]
  have hn:(decide (g.kind=10) != decide (f.kind=10))=false:=by simp [hk]
  (refine U43 ?_;refine rgD mixed ?_;refine U4 ?_;refine K.neqB O O hn dS ?_;refine U10 ?_)
  exact V6
 ·rw [if_neg hk] at hE
  rw [hE]
  have hn:(decide (g.kind=10) != decide (f.kind=10))=true:=by
   rw [bne_iff_ne]
   intro h
   exact hk V2E
  (refine U43 ?_;refine rgD mixed ?_;refine U4 ?_;refine K.neqB O O hn dS ?_;refine U9 ?_)
  exact V6
theorem yIsHandle (l:List Ins) (ad:Option Addr) (cap:Nat) (hin:InsIn X ad l) (hl:l.length<4611686018427387904):
  PSpec Tryz.prog X 142 [Lx ad l.length cap] (Lb (hdB l)):=by
 refine cF Tryz.func142 rfl V5 rfl rfl ?_
 intro C
 by_cases h1:l.length=1
 case neg =>
  have hr:hdB l=false:=by
   unfold hdB
   split
   ·exact absurd rfl h1
   ·rfl
  rw [hr]
  refine U17 ?_
  exact V6
 obtain ⟨x,hx⟩:∃ x,l[0]? = some x:=wg V3
 have hl1:l=[x]:=by
  match l,h1,hx with
  | [y],_,hx=>simp only [List.getElem?_cons_zero,Option.some.injEq] at hx;rw [hx]
 obtain ⟨blk,off,arr,el,fr,rfl,hX,hsz,hcs,g0,g1,g2,g3⟩:=hin.six hx
 obtain ⟨_,_,_,hk2⟩:=hin.small x (dE hx)
 have h00:off+Int.toNat 0*6=off+0*6:=by simp
 have hr:hdB l=(x.op==2||x.op==3||(x.op==1&&decide (x.k=(false,0)))):=by rw [hl1];rfl
 rw [hr]
 clear hr hl1
 by_cases c2:x.op=2
 ·have e:(x.op==2||x.op==3||(x.op==1&&decide (x.k=(false,0))))=true:=by rw [c2];rfl
  rw [e]
  (refine U9 ?_;refine kne rfl rfl (r:=false) (cT V3) ?_;refine U21 ?_;refine keq rfl rfl (r:=true) (cV c2) ?_;refine U10 ?_)
  exact V6
 by_cases c3:x.op=3
 ·have e:(x.op==2||x.op==3||(x.op==1&&decide (x.k=(false,0))))=true:=by rw [c3];rfl
  rw [e]
  (refine U9 ?_;refine kne rfl rfl (r:=false) (cT V3) ?_;refine U21 ?_;refine keq rfl rfl (r:=false) (cS c2) ?_;refine U4 ?_;refine keq rfl rfl (r:=true) (cV c3) ?_;refine U8 ?_)
  exact V6
 have e:(x.op==2||x.op==3||(x.op==1&&decide (x.k=(false,0))))=(x.op==1&&decide (x.k=(false,0))):=by
  rw [cS c2,cS c3];rfl
 rw [e]
 by_cases c1:x.op=1
 ·rw [cV c1,Bool.true_and]
  obtain ⟨op,a,b,kb,kN⟩:=x
  simp only at hk2 g0 g1 g2 g3 hcs c2 c3 c1 ⊢
  have q:=eqI (b:=kb) (b':=false) (h:=kN/18446744073709551616) (h':=0) (l:=kN%18446744073709551616) (l':=0) _ (eqZ hk2)
  (refine U9 ?_;refine kne O O (r:=false) (cT V3) ?_;refine U21 ?_;refine keq O O (r:=false) (cS c2) ?_;refine U4 ?_;refine keq O O (r:=false) (cS c3) ?_;refine U5 ?_;refine keq O O (r:=true) (cV c1) ?_;refine U6 ?_;refine bJ O O O V28 dS ?_;refine U1 ?_;refine bR O O O O V5 q (.inl ⟨O,O⟩) dS ?_;refine U3 ?_)
  exact V6
 ·rw [cS c1,Bool.false_and]
  (refine U9 ?_;refine kne rfl rfl (r:=false) (cT V3) ?_;refine U21 ?_;refine keq rfl rfl (r:=false) (cS c2) ?_;refine U4 ?_;refine keq rfl rfl (r:=false) (cS c3) ?_;refine U5 ?_;refine keq rfl rfl (r:=false) (cS c1) ?_;refine U9 ?_)
  exact V6
set_option maxHeartbeats 6400000 in
theorem yFormula (c:Cp) (f:Fl) (l:List Ins) (cad ad:Option Addr) (ccap cap:Nat) (hF:FieldsIn X cad c.fs) (hin:InsIn X ad l) (hbig:l.length<1152921504606846976) (hfl:c.fs.length<4611686018427387904):
  PSpec Tryz.prog X 102 [Cx c cad ccap,Fx f,Lx ad l.length cap] (Ln .i64 (fmE c.fs f l)):=by
 have hC:=gCheck X l ad cap hin hbig
 refine cF Tryz.func102 rfl V5 rfl rfl ?_
 intro C
 unfold fmE
 by_cases h0:chkX l=0
 case neg =>
  rw [if_neg h0]
  generalize chkX l=e at *
  (refine U16 ?_;refine kne rfl rfl (cU h0) ?_;refine U8 ?_)
  exact V6
 rw [h0] at hC
 have hchk:=chkX_ok h0
 have h64:=(chkX_zero h0).1
 have hU:=gUses' X l ad cap hin V3
 have hul:=uses_le l
 rw [if_pos h0,refE_hd h0,← seqE_uses (fs:=c.fs) (f:=f) l]
 (refine U24 ?_;refine bE [(1000001,601)] (.sv (.one (.slc 601 0 (usesX l).length 6))) [(601,some ⟨88,(inssV (usesX l)).map .val,true⟩)] (hU) O O VC O O O O O V18 dS ?_;refine U4 ?_)
 refine LWP.le (σ':=⟨[(17,.sv (.one (.slc 601 0 (usesX l).length 6))),(2,Lx ad l.length cap),(3,Lp 3),(4,Lp 4),(18,Ln .i64 ((usesX l).length:Nat)),(19,Ln .i64 0)],[(601,some ⟨88,(inssV (usesX l)).map .val,true⟩),flB 4 f,cpB 3 c cad ccap],X⟩) (Le.of V11 V9 V2 V2 V0) ?_
 refine LWP.freeze O O O fun ub uc ua uf hn _ _ _ hsp => ?_
 have hum:∀ x∈usesX l,smallI x:=fun x hx=>hin.small x (uses_mem hx).1
 have hUI:=ins_in (cN X ub (.cells ua 88 uf)) hum hsp
 have hXY:=cJ (o:=.cells ua 88 uf) hn
 replace hF:=hF.mono hXY
 have hH:=yIsHandle _ l ad cap (hin.mono hXY) V3
 have huse:∀ x∈usesX l,(x.op=2∨x.op=3)∧0≤x.a:=fun x hx=>⟨(uses_mem hx).2,(okI_facts (hchk x (uses_mem hx).1)).2.2.1.1⟩
 clear hin hC hU hsp hn hchk hum
 generalize withBlock X ub (.cells ua 88 uf)=Y at *
 generalize (some ⟨ub,0,none⟩:Option Addr)=uad at *
 generalize usesX l=u at *
 have hR:=yIsRef Y f
 refine cL (fun m σ=>∃ i:Nat,i≤u.length∧m=u.length-i∧(∀ j,0≤j→j<i→atE (findE c.fs f) u j=0)∧σ=⟨[(2,Lx ad l.length cap),(3,Lp 3),(4,Lp 4),(17,Lx uad u.length uc),(18,Ln .i64 (u.length:Nat)),(19,Ln .i64 (i:Nat))],[flB 4 f,cpB 3 c cad ccap],Y⟩) u.length
  ⟨_,Le.of V11 VE V2 V2 V0,0,by omega,by omega,fun j _ hj=>absurd hj V3,rfl⟩ ?_
 rintro m σ ⟨i,hi,rfl,hpre,rfl⟩
 by_cases hlt:i<u.length
 case neg =>
  have e:i=u.length:=by omega
  subst e
  have hs:seqE (findE c.fs f) u=0:=firstE_none fun j h1 h2=>hpre j h1 V3
  rw [if_pos hs]
  by_cases hk:f.kind=10
  ·rw [cP hk] at hR
   cases hd:hdB l with
   | true =>
    rw [hd] at hH
    rw [if_neg (fun h=>by cases h.2)]
    refine U25 ?_
    exact V6
   | false =>
    rw [hd] at hH
    rw [if_pos ⟨hk,rfl⟩]
    refine U24 ?_
    exact V6
  ·rw [cO hk] at hR
   rw [if_neg (fun h=>hk h.1)]
   refine U25 ?_
   exact V6
 obtain ⟨x,hx⟩:=wg hlt
 obtain ⟨blk,off,arr,el,fr,rfl,hX,hsz,hcs,_⟩:=hUI.at hx
 have hio:=wo off i 6
 obtain ⟨h23,ha0⟩:=huse x (dE hx)
 have hadd:IntKind.i64.wrap ((i:Int)+1)=((i+1:Nat):Int):=by rw [cH V3];omega
 have hq:=yUse Y c f x cad ccap hF hfl h23 ha0
 by_cases he:findE c.fs f x=0
 ·rw [he] at hq
  have next:∀ j,0≤j→j<i+1→atE (findE c.fs f) u j=0:=fun j h0 hj=>by
   by_cases e:j=i
   ·rw [e,atE_at hx];exact he
   ·exact hpre j h0 V3
  refine U35 ?_
  exact ⟨_,_,by omega,Le.of V11 VE V2 V2 V0,i+1,by omega,O,next,O⟩
 ·have hs:seqE (findE c.fs f) u=findE c.fs f x:=firstE_some hpre (Nat.zero_le _) V3 (by rw [atE_at hx]) he
  rw [hs,if_neg he]
  generalize findE c.fs f x=e at *
  (refine U27 ?_;refine kne rfl rfl (cU he) ?_;refine U8 ?_)
  exact V6
end Go.Proofs.YtopiioklkkiedaaGreatDoor
end
section
set_option maxHeartbeats 12800000
set_option maxRecDepth 100000
namespace Go.Proofs.YtopiioklkkiedaaGreatDoor
open Go Go.Lg Go.Lg.Fml Go.Lg.Fld Go.Lg.Arith
set_option maxRecDepth 100000
variable (X:Nat→Option Obj)
set_option maxHeartbeats 6400000 in
theorem yRule (a b:Cp) (r:Rl) (aad bad ead:Option Addr) (acap bcap ecap:Nat) (hA:FieldsIn X aad a.fs) (hB:FieldsIn X bad b.fs) (hE:CodesIn X ead r.ex) (hal:a.fs.length<4611686018427387904) (hbl:b.fs.length<4611686018427387904) (hcl:∀ c∈r.ex,c.length<1152921504606846976):
  PSpec Tryz.prog X 67 [Cx a aad acap,Cx b bad bcap,.sv (.agg [.val (.int .i64 r.nw),.val (.int .i64 r.old),.val (.slice ead r.ex.length ecap)])] (Ln .i64 (ruE a.fs b.fs r)):=by
 refine cF Tryz.func67 rfl V5 rfl rfl ?_
 intro C
 by_cases h0:r.old=0
 ·rw [show ruE a.fs b.fs r=0 from if_pos h0]
  (refine U13 ?_;refine keq rfl rfl (r:=true) (cV h0) ?_;refine U8 ?_)
  exact V6
 by_cases hl:r.ex.length=b.fs.length
 case neg =>
  rw [show ruE a.fs b.fs r=4 by unfold ruE;rw [if_neg h0,if_neg hl]]
  (refine U13 ?_;refine keq rfl rfl (r:=false) (cS h0) ?_;refine U20 ?_)
  exact V6
 rw [ruE_at h0 hl]
 have hzl:(b.fs.zip r.ex).length=b.fs.length:=by rw [List.length_zip];omega
 (refine U13 ?_;refine keq rfl rfl (r:=false) (cS h0) ?_;refine U11 ?_;refine kne rfl rfl (r:=false) (cT V3) ?_;refine U13 ?_)
 refine cL (fun m σ=>∃ i:Nat,i≤r.ex.length∧m=r.ex.length-i∧(∀ j,0≤j→j<i→atE (fun q:Fl×List Ins=>fmE a.fs q.1 q.2) (b.fs.zip r.ex) j=0)∧σ=⟨[(3,Lp 3),(4,Lp 4),(23,Lx ead r.ex.length ecap),(24,Ln .i64 (r.ex.length:Nat)),(25,Ln .i64 (i:Nat))],[cpB 4 b bad bcap,cpB 3 a aad acap],X⟩) r.ex.length
  ⟨_,Le.of V10 VE V2 V2 V0,0,by omega,by omega,fun j _ hj=>absurd hj V3,rfl⟩ ?_
 rintro m σ ⟨i,hi,rfl,hpre,rfl⟩
 by_cases hlt:i<r.ex.length
 case neg =>
  rw [show seqE (fun q:Fl×List Ins=>fmE a.fs q.1 q.2) (b.fs.zip r.ex)=0 from firstE_none fun j h1 h2=>hpre j h1 (by omega)]
  refine U12 ?_
  exact V6
 obtain ⟨f,hf⟩:∃ f,b.fs[i]? = some f:=wg V3
 obtain ⟨c,hc⟩:=wg hlt
 obtain ⟨fb,fo,farr,fel,ffr,rfl,hFX,hFz,hFc,_⟩:=hB.cells hf
 obtain ⟨eb,eo,earr,eel,efr,vad,vcap,rfl,hEX,hec,hI⟩:=hE.get hc
 have hio3:=wo fo i 3
 have hio1:=wo eo i 1
 have hadd:IntKind.i64.wrap ((i:Int)+1)=((i+1:Nat):Int):=by rw [cH V3];omega
 have hq:=yFormula X a f c aad vad acap vcap hA hI (hcl c (dE hc)) hal
 have hat:atE (fun q:Fl×List Ins=>fmE a.fs q.1 q.2) (b.fs.zip r.ex) i=fmE a.fs f c:=atE_at (zip_two hf hc)
 by_cases he:fmE a.fs f c=0
 ·rw [he] at hq
  (refine U18 ?_;refine rgD mixed ?_;refine U22 ?_)
  exact ⟨_,_,by omega,Le.of V10 VE V2 V2 V0,i+1,by omega,O,(fun j h0 hj=>by
   by_cases e:j=i
   ·rw [e,hat];exact he
   ·exact hpre j h0 V3),rfl⟩
 ·rw [show seqE (fun q:Fl×List Ins=>fmE a.fs q.1 q.2) (b.fs.zip r.ex)=fmE a.fs f c from firstE_some hpre (Nat.zero_le _) V3 hat he]
  generalize fmE a.fs f c=e at *
  (refine U18 ?_;refine rgD mixed ?_;refine U14 ?_;refine kne rfl rfl (r:=true) (cU he) ?_;refine U8 ?_)
  exact V6
end Go.Proofs.YtopiioklkkiedaaGreatDoor
end
section
set_option maxHeartbeats 12800000
set_option maxRecDepth 100000
namespace Go.Proofs.YtopiioklkkiedaaGreatDoor
open Go Go.Lg Go.Lg.Fml Go.Lg.Fld Go.Lg.Arith
set_option maxRecDepth 100000
structure NmsIn (X:Nat→Option Obj) (ad:Option Addr) (l:List Int):Prop where
 at_:∀ (i:Nat) (v:Int),l[i]? = some v→∃ (blk off:Nat) (arr:Array Value) (el:TypeId) (fr:Nat×Nat),ad=some ⟨blk,off,none⟩∧X blk=some (.cells arr el fr)∧arr[off+i*1]? = some (.int .i64 v)
theorem NmsIn.mono {X Y:Nat→Option Obj} (hXY:∀ b o,X b=some o→Y b=some o) {ad:Option Addr} {l:List Int} (h:NmsIn X ad l):NmsIn Y ad l:=⟨fun i v hv=>by
 obtain ⟨blk,off,arr,el,fr,h1,h2,h3⟩:=h.at_ i v hv
 exact ⟨blk,off,arr,el,fr,h1,hXY _ _ h2,h3⟩⟩
theorem nms_block {Y:Nat→Option Obj} {blk:Nat} {arr:Array Value} {el:TypeId} {fr:Nat×Nat} {l:List Int} (hY:Y blk=some (.cells arr el fr)) (h:∃ sp,arr.toList=int1 l++sp):NmsIn Y (some ⟨blk,0,none⟩) l:=⟨fun i v hv=>by
 obtain ⟨sp,h⟩:=h
 have hi:=(wl hv)
 refine ⟨blk,0,arr,el,fr,O,hY,?_⟩
 rw [← Array.getElem?_toList,h,Nat.zero_add,Nat.mul_one,dR (by unfold int1;rw [cX];exact hi)]
 unfold int1
 rw [dM,hv];rfl⟩
theorem idsV_int1 (cs:List Cp):idsV cs=int1 (cs.map Cp.id):=by unfold idsV int1;rw [List.map_map];rfl
theorem findI_any {α:Type} (p:α→Bool) (l:List α):decide (0≤findI p l)=l.any p:=by
 unfold findI
 cases hq:l.findIdx? p with
 | none =>
  simp only
  have:=List.findIdx?_eq_none_iff.1 hq
  rw [List.any_eq_false.2 (fun x hx=>by simpa using this x hx)]
  rfl
 | some i =>
  obtain ⟨hi,h1,_⟩:=List.findIdx?_eq_some_iff_getElem.1 hq
  rw [List.any_eq_true.2 ⟨l[i],List.getElem_mem hi,h1⟩]
  simp
variable (X:Nat→Option Obj)
theorem yIndex (l:List Int) (ad:Option Addr) (cap:Nat) (v:Int) (hin:NmsIn X ad l) (hbig:l.length<4611686018427387904):
  PSpec Tryz.prog X 172 [Lx ad l.length cap,Ln .i64 v] (Ln .i64 (findI (fun x=>v==x) l)):=by
 refine cF Tryz.func172 rfl V5 rfl rfl ?_
 intro C
 refine U12 ?_
 refine cL (fun m σ=>∃ i:Nat,i≤l.length∧m=l.length-i∧(∀ (j:Nat) (y:Int),j<i→l[j]? = some y→(v==y)=false)∧σ=⟨[(0,Lx ad l.length cap),(1,Ln .i64 v),(7,Ln .i64 (l.length:Nat)),(8,Ln .i64 (i:Nat))],[],X⟩) l.length
  ⟨_,Le.of V8 VC V2 V2 V2,0,by omega,by omega,fun j y hj=>absurd hj V3,rfl⟩ ?_
 rintro m σ ⟨i,hi,rfl,hpre,rfl⟩
 by_cases hlt:i<l.length
 ·obtain ⟨c,hc⟩:=wg hlt
  obtain ⟨blk,off,arr,el,fr,rfl,hX,hcs⟩:=hin.at_ i c hc
  have hio:=wo off i 1
  have hadd:=wi i V3
  cases hpc:(v==c) with
  | true =>
   rw [findI_some hpre hc hpc]
   (refine U21 ?_;refine keq rfl rfl hpc ?_;refine U8 ?_)
   exact V6
  | false =>
   (refine U21 ?_;refine keq rfl rfl hpc ?_;refine U7 ?_)
   exact ⟨_,_,by omega,Le.of V8 VC V2 V2 V2,i+1,by omega,O,(fun j y hj hy=>by
    by_cases e:j=i
    ·subst e;rw [hc] at hy;cases hy;exact hpc
    ·exact hpre j y V3 hy),rfl⟩
 ·rw [findI_none fun j y hy=>hpre j y V2D hy]
  refine U12 ?_
  exact V6
theorem yContains (l:List Int) (ad:Option Addr) (cap:Nat) (v:Int) (hin:NmsIn X ad l) (hbig:l.length<4611686018427387904):
  PSpec Tryz.prog X 128 [Lx ad l.length cap,Ln .i64 v] (Lb (l.any fun x=>v==x)):=by
 have hI:=yIndex X l ad cap v hin hbig
 refine cF Tryz.func128 rfl V5 rfl rfl ?_
 intro C
 (refine U9 ?_;refine bD O O (findI_any _ _) dS ?_;refine U3 ?_)
 exact V6
theorem yEqual (l m:List Int) (ad ad2:Option Addr) (cap cap2:Nat) (ha:NmsIn X ad l) (hb:NmsIn X ad2 m) (hbig:l.length<4611686018427387904) (r:Bool) (hr:decide (l=m)=r):
  PSpec Tryz.prog X 85 [Lx ad l.length cap,Lx ad2 m.length cap2] (Lb r):=by
 subst hr
 refine cF Tryz.func85 rfl V5 rfl rfl ?_
 intro C
 by_cases hl:l.length=m.length
 ·(refine U11 ?_;refine kne rfl rfl (r:=false) (by rw [hl];simp) ?_;refine U11 ?_)
  refine cL (fun q σ=>∃ i:Nat,i≤l.length∧q=l.length-i∧l.take i=m.take i∧σ=⟨[(0,Lx ad l.length cap),(1,Lx ad2 m.length cap2),(12,Ln .i64 (l.length:Nat)),(13,Ln .i64 (i:Nat))],[],X⟩) l.length
   ⟨_,Le.of V8 VC V2 V2 V2,0,by omega,rfl,rfl,rfl⟩ ?_
  rintro q σ ⟨i,hi,rfl,hpre,rfl⟩
  by_cases hlt:i<l.length
  ·obtain ⟨f,hf⟩:=wg hlt
   obtain ⟨f',hf'⟩:∃ v,m[i]? = some v:=wg V3
   obtain ⟨blk,off,arr,el,fr,rfl,hX,hcells⟩:=ha.at_ i f hf
   obtain ⟨blk',off',arr',el',fr',rfl,hX',hcells'⟩:=hb.at_ i f' hf'
   have hio:=wo off i 1
   have hio':=wo off' i 1
   have hadd:=wi i V3
   by_cases hq:f=f'
   ·(refine U15 ?_;refine rgD mixed ?_;refine U8 ?_;refine kne rfl rfl (r:=false) (cT hq) ?_;refine U8 ?_)
    exact ⟨_,_,by omega,Le.of V8 VC V2 V2 V2,i+1,by omega,rfl,by rw [take_snoc hf,take_snoc hf',hpre,hq],rfl⟩
   ·rw [cO (show ¬l=m from fun e=>hq (by rw [e,hf'] at hf;exact (Option.some.inj hf).symm))]
    (refine U15 ?_;refine rgD mixed ?_;refine U8 ?_;refine kne rfl rfl (r:=true) (cU hq) ?_;refine U8 ?_)
    exact V6
  ·have e:i=l.length:=by omega
   subst e
   rw [dG,List.take_of_length_le (by omega)] at hpre
   rw [cP hpre]
   refine U12 ?_
   exact V6
 ·rw [cO (show ¬l=m from fun e=>hl (by rw [e]))]
  (refine U11 ?_;refine kne rfl rfl (r:=true) (by rw [bne_iff_ne];omega) ?_;refine U7 ?_)
  exact V6
theorem equal_lent {S:Nat→Option (Option Box)} {l m:List Int} {j k n1 n2:Nat} {e1 e2:TypeId} {row1 row2:Bool} {r:Bool} (hbig:l.length<4611686018427387904) (hr:decide (l=m)=r) (h1:n1=l.length) (h2:n2=m.length) (hj:S j=some (some ⟨e1,(int1 l).map .val,row1⟩)) (hk:S k=some (some ⟨e2,(int1 m).map .val,row2⟩)):
  ∀ (Y:Nat→Option Obj) (us:List Value),(∀ b o,X b=some o→Y b=some o)→LentLs S Y [.sv (.one (.slc j 0 n1)),.sv (.one (.slc k 0 n2))] us→PSpec Tryz.prog Y 85 (us.map toLV) (Lb r):=by
 subst h1 h2
 intro Y us hY hL
 obtain ⟨u1,us1,rfl,g1,u2,us2,rfl,g2,rfl⟩:=hL
 obtain ⟨b1,blk1,cap1,m1,hq1,rfl,hc1,hf1,hB1⟩:=g1
 obtain ⟨b2,blk2,cap2,m2,hq2,rfl,hc2,hf2,hB2⟩:=g2
 rw [hj] at hq1
 rw [hk] at hq2
 simp only [Option.some.injEq] at hq1 hq2
 subst hq1 hq2
 obtain ⟨arr1,fr1,us1',sp1,hY1,hsz1,harr1,hv1⟩:=hB1
 obtain ⟨arr2,fr2,us2',sp2,hY2,hsz2,harr2,hv2⟩:=hB2
 have:=hv1 (int1 l) rfl
 subst this
 have:=hv2 (int1 m) rfl
 subst this
 exact yEqual Y l m (some ⟨blk1,0,none⟩) (some ⟨blk2,0,none⟩) cap1 cap2 (nms_block hY1 ⟨sp1,harr1⟩) (nms_block hY2 ⟨sp2,harr2⟩) hbig r hr
theorem yNewIds (va vb:Int) (rs:List Rl) (ad:Option Addr) (cap:Nat) (hin:RulesIn X ad rs) (hS:rs.length≤65536):
  MSpec Tryz.prog X 86 [LPg va vb ad rs.length cap] [] (.sv (.one (.slc 1000001 0 rs.length))) [(1000001,some ⟨3,(int1 (rs.map Rl.nw)).map .val,false⟩)]:=by
 refine cG Tryz.func86 rfl V5 rfl rfl V7 rfl rfl ?_
 intro C
 have hmk:slcBuild Tryz.prog 103 rs.length=some (List.replicate rs.length (.int .i64 0),1,3):=slcBuild_one V5 V5 V3
 (refine U10 ?_;refine K.makeSlc (m:=rs.length) (bytes:=8) O O hmk V5 V3 O O dS ?_;refine U11 ?_)
 refine cL (fun m σ=>∃ i:Nat,i≤rs.length∧m=rs.length-i∧σ=⟨[(3,.sv (.one (.slc 9 0 rs.length))),(11,Lx ad rs.length cap),(12,Ln .i64 (rs.length:Nat)),(13,Ln .i64 (i:Nat))],[(9,some ⟨3,(int1 ((rs.take i).map Rl.nw)++List.replicate (rs.length-i) (Value.int .i64 0)).map .val,false⟩)],X⟩) rs.length
  ⟨_,Le.of V8 V13 V2 V2 V0,0,by omega,by omega,rfl⟩ ?_
 rintro m σ ⟨i,hi,rfl,rfl⟩
 by_cases hlt:i<rs.length
 ·obtain ⟨c,hc⟩:=wg hlt
  obtain ⟨blk,off,arr,el,fr,fad,fcap,rfl,hX,hsz,hcs,_,_,_,hF⟩:=hin.get hc
  have hio:=wo off i 3
  have hix:0+Int.toNat (i:Int)*1=i:=by rw [dH];omega
  have hadd:=wi i V3
  have hil:(int1 ((rs.take i).map Rl.nw)).length=i:=by unfold int1;rw [cX,cX,dA];omega
  have hroom:i+1≤((int1 ((rs.take i).map Rl.nw)++List.replicate (rs.length-i) (Value.int .i64 0)).map CV.val).length:=by rw [cX,cW,hil,dF];omega
  have hspl:splice ((int1 ((rs.take i).map Rl.nw)++List.replicate (rs.length-i) (Value.int .i64 0)).map CV.val) i [.val (.int .i64 c.nw)]=(int1 ((rs.take (i+1)).map Rl.nw)++List.replicate (rs.length-(i+1)) (Value.int .i64 0)).map CV.val:=by
   unfold splice
   rw [show rs.length-i=(rs.length-(i+1))+1 by omega,List.replicate_succ,take_snoc hc]
   have e:int1 ((rs.take i++[c]).map Rl.nw)=int1 ((rs.take i).map Rl.nw)++[.int .i64 c.nw]:=by unfold int1;rw [dI,dI];rfl
   rw [e]
   simp only [dI,dN]
   have hml:((int1 ((rs.take i).map Rl.nw)).map CV.val).length=i:=by rw [cX,hil]
   generalize (int1 ((rs.take i).map Rl.nw)).map CV.val=R at *
   rw [← hml,List.take_left,List.drop_length_add_append]
   simp
  (refine U24 ?_;refine K.store O O O O V5 hroom hspl dS ?_;refine U5 ?_)
  exact ⟨_,_,by omega,Le.of V8 V13 V2 V2 V0,i+1,by omega,O,O⟩
 ·have e:i=rs.length:=by omega
  subst e
  rw [dG,Nat.sub_self,List.replicate_zero,dK]
  refine U13 ?_
  exact ⟨[(1000001,9)],⟨[_],⟨O,trivial⟩,O⟩,V1,O,O⟩
def oldB (ids:List Int) (r:Rl):Bool:=r.old != 0 && !(ids.any fun x=>r.old==x)
theorem yOld1 (r:Rl) (ead:Option Addr) (ecap:Nat) (ids:List Int) (iad:Option Addr) (icap:Nat) {b:Nat} {arr:Array Value} {el:TypeId} {fr:Nat×Nat} (hX:X b=some (.cells arr el fr)) (h0:arr[0]? = some (.slice iad ids.length icap)) (hin:NmsIn X iad ids) (hbig:ids.length<4611686018427387904):
  PSpec Tryz.prog X 127 [LPg r.nw r.old ead r.ex.length ecap,Vp' b] (Lb (oldB ids r)):=by
 have hC:=yContains X ids iad icap r.old hin hbig
 refine cF Tryz.func127 rfl V5 rfl rfl ?_
 intro C
 by_cases h:r.old=0
 ·rw [show oldB ids r=false by unfold oldB;rw [h];rfl]
  (refine U9 ?_;refine kne rfl rfl (r:=false) (cT h) ?_;refine U10 ?_)
  exact V6
 ·rw [show oldB ids r = !(ids.any fun x=>r.old==x) by unfold oldB;rw [cU h];rfl]
  (refine U9 ?_;refine kne rfl rfl (r:=true) (cU h) ?_;refine U10 ?_)
  exact V6
theorem yContainsFunc (ad:Option Addr) (cap:Nat) (rs:List Rl) (hin:RulesIn X ad rs) (hbig:rs.length<4611686018427387904) (f:FuncId) (caps:List Value) (p:Rl→Bool)
  (hp:∀ r∈rs,∀ ead ecap,PSpec Tryz.prog X f ([LPg r.nw r.old ead r.ex.length ecap]++caps.map fun v=>.sv (.one (.val v))) (Lb (p r))):
  PSpec Tryz.prog X 126 [Lx ad rs.length cap,Lf f caps] (Lb (rs.any p)):=by
 have hI:=kIndex X ad cap rs hin hbig f caps p hp
 refine cF Tryz.func126 rfl V5 rfl rfl ?_
 intro C
 (refine U9 ?_;refine bD O O (findI_any _ _) dS ?_;refine U3 ?_)
 exact V6
theorem yHasOlds (a:Sc) (p:Pg) (ad1 ad:Option Addr) (cap1 cap:Nat) (ha:CompsIn X ad1 a.cs) (hp:RulesIn X ad p.rs) (hal:a.cs.length≤65536) (hpl:p.rs.length<4611686018427387904):
  PSpec Tryz.prog X 88 [Sx a.ver ad1 a.cs.length cap1,LPg p.va p.vb ad p.rs.length cap] (Lb (!(p.rs.any (oldB (a.cs.map Cp.id))))):=by
 obtain ⟨va,vb,rs⟩:=p
 simp only at hp hpl ⊢
 have hI:=pIds X a.ver ad1 cap1 a.cs ha hal
 rw [idsV_int1] at hI
 refine cF Tryz.func88 rfl V5 rfl rfl ?_
 intro C
 (refine U9 ?_;refine bE [(1000001,601)] (.sv (.one (.slc 601 0 a.cs.length))) [(601,some ⟨3,(int1 (a.cs.map Cp.id)).map .val,false⟩)] (hI) O O VC O O O O O V18 dS ?_;refine U1 ?_;refine bG O O O O O (nl1 O O) dS ?_;refine U2 ?_)
 refine LWP.le (σ':=⟨[(5,Lp 5),(3,Lp 3)],[(5,some ⟨103,[] ++ .slc 601 0 a.cs.length 1::[],false⟩),(601,some ⟨3,(int1 (a.cs.map Cp.id)).map .val,false⟩),v3B 36 3 va vb ad rs.length cap],X⟩) (Le.of VE V9 V2 V2 V0) ?_
 refine LWP.freezeCell O O O O O O fun b1 c1 a1 f1 hn1 _ _ _ hs1 => ?_
 have hM:=nms_block (cN X b1 (.cells a1 3 f1)) hs1
 have hXY:=cJ (o:=.cells a1 3 f1) hn1
 replace hp:=hp.mono hXY
 clear ha hI hs1 hn1 hXY
 generalize withBlock X b1 (.cells a1 3 f1)=Y at *
 generalize (some ⟨b1,0,none⟩:Option Addr)=iad at *
 refine LWP.le (σ':=⟨[(5,Lp 5),(3,Lp 3)],[(5,some ⟨103,[Value.slice iad a.cs.length c1].map .val,false⟩),v3B 36 3 va vb ad rs.length cap],Y⟩) (Le.of VE VE V2 V2 V0) ?_
 refine LWP.freezePtr V31 V31 V31 fun b arr0 fr0 hn _ h0 => ?_
 have hl:(a.cs.map Cp.id).length=a.cs.length:=cX ..
 have hq:=yContainsFunc _ ad cap rs (hp.mono (cJ (o:=.cells arr0 103 fr0) hn)) hpl 127 [.pointer (some ⟨b,0,none⟩)] (oldB (a.cs.map Cp.id)) (fun r _ ead ecap=>yOld1 _ r ead ecap (a.cs.map Cp.id) iad c1 (cN Y b (.cells arr0 103 fr0)) (by rw [hl];exact at_zero h0) (hM.mono (cJ hn)) V3)
 (refine U3 ?_;refine K.makeFunc O O dS ?_;refine U5 ?_)
 exact V6
end Go.Proofs.YtopiioklkkiedaaGreatDoor
end
section
set_option maxHeartbeats 12800000
set_option maxRecDepth 100000
namespace Go.Proofs.YtopiioklkkiedaaGreatDoor
open Go Go.Lg Go.Lg.Fml Go.Lg.Fld Go.Lg.Arith
set_option maxRecDepth 100000
def e4:List UInt8×Bool→Nat×List UInt8×Bool
 | (l,b)=>if b=false∧4≤l.length then (le (l.take 4),l.drop 4,false) else (0,l,true)
structure KE (l:List UInt8) (b:Bool) (c:List Ins) (l':List UInt8) (b':Bool):Prop where
 less:l'.length≤l.length
 bad:b=true→b'=true
 ok:c.length<256∧∀ x∈c,smallI x
 get:(b=false∧b'=false∧getE l=some (c,l'))∨((b=true∨getE l=none)∧(b'=true∨c=[]))
structure KEs (l:List UInt8) (b:Bool) (i:Nat) (cs:List (List Ins)) (l':List UInt8) (b':Bool):Prop where
 len:cs.length=i
 less:l'.length≤l.length
 bad:b=true→b'=true
 ok:∀ c∈cs,c.length<256∧∀ x∈c,smallI x
 get:(b=false∧b'=false∧getEs i l=some (cs,l'))∨((b=true∨∀ k,getEs (i+k) l=none)∧(b'=true∨[]∈cs))
def okK (r:Rl):Prop:=(0≤r.nw∧r.nw<256)∧(0≤r.old∧r.old<256)∧r.ex.length<256∧∀ c∈r.ex,c.length<256∧∀ x∈c,smallI x
structure KR (l:List UInt8) (b:Bool) (r:Rl) (l':List UInt8) (b':Bool):Prop where
 less:l'.length≤l.length
 bad:b=true→b'=true
 ok:okK r
 get:(b=false∧b'=false∧getRl l=some (r,l'))∨((b=true∨getRl l=none)∧(b'=true∨[]∈r.ex))
structure KRs (l:List UInt8) (b:Bool) (i:Nat) (rs:List Rl) (l':List UInt8) (b':Bool):Prop where
 len:rs.length=i
 less:l'.length≤l.length
 bad:b=true→b'=true
 ok:∀ r∈rs,okK r
 get:(b=false∧b'=false∧getRls i l=some (rs,l'))∨((b=true∨∀ k,getRls (i+k) l=none)∧(b'=true∨∃ r∈rs,[]∈r.ex))
variable (X:Nat→Option Obj)
end Go.Proofs.YtopiioklkkiedaaGreatDoor
end
section
set_option maxHeartbeats 12800000
set_option maxRecDepth 100000
namespace Go.Proofs.YtopiioklkkiedaaGreatDoor
open Go Go.Lg Go.Lg.Fml Go.Lg.Fld Go.Lg.Arith
set_option maxRecDepth 100000
def pgOk (p:Pg):Prop:=p.rs.length≤30∧∀ r∈p.rs,r.ex.length≤12∧∀ c∈r.ex,c.length≤80
theorem pgOk.size {p:Pg} (h:pgOk p):sizeR p.rs:=fun r hr=>by
 obtain ⟨h1,h2⟩:=h.2 r hr
 exact ⟨by omega,fun c hc=>by have:=h2 c hc;omega⟩
theorem pgOk.big {p:Pg} (h:pgOk p):p.rs.length<4611686018427387904:=by have:=h.1;omega
variable (X:Nat→Option Obj)
section
variable (p:Pg) (ad:Option Addr) (cap:Nat) (hin:RulesIn X ad p.rs) (hs:pgOk p)
include hin hs
theorem hCheck:PSpec Tryz.prog X 27 [LPg p.va p.vb ad p.rs.length cap] (Ln .i64 (chkP p)):=kCheck X p ad cap hin hs.big hs.size
end
end Go.Proofs.YtopiioklkkiedaaGreatDoor
end
section
set_option maxHeartbeats 12800000
set_option maxRecDepth 100000
namespace Go.Proofs.YtopiioklkkiedaaGreatDoor
open Go Go.Lg Go.Lg.Fml Go.Lg.Fld Go.Lg.Arith
set_option maxRecDepth 100000
theorem oldB_false {cs:List Cp} {r:Rl}:oldB (cs.map Cp.id) r=false↔(r.old=0∨(findC cs r.old).isSome=true):=by
 unfold oldB
 by_cases h:r.old=0
 ·simp [h]
 ·have e:((cs.map Cp.id).any fun x=>r.old==x)=(findC cs r.old).isSome:=by
   unfold findC
   rw [List.any_map]
   cases hf:cs.find? (fun c=>c.id==r.old) with
   | none =>
    rw [List.any_eq_false.2 (fun x hx=>by
     have:=List.find?_eq_none.1 hf x hx
     simp only [beq_iff_eq,Function.comp_apply] at this ⊢
     exact fun e=>this e.symm)]
    rfl
   | some c =>
    obtain ⟨hm,hi⟩:=findC_some hf
    rw [List.any_eq_true.2 ⟨c,hm,by simp [hi]⟩]
    rfl
  rw [e]
  simp [h]
theorem news_iff {a b:Sc} {p:Pg}:(p.rs.map Rl.nw=b.cs.map Cp.id∧p.rs.any (oldB (a.cs.map Cp.id))=false)↔(p.rs.length=b.cs.length∧seqE (nwE a) (p.rs.zip b.cs)=0):=by
 constructor
 ·rintro ⟨h1,h2⟩
  refine ⟨by have:=congrArg List.length h1;simpa using this,seqE_none fun q hq => ?_⟩
  obtain ⟨i,hi⟩:=List.mem_iff_getElem?.1 hq
  obtain ⟨g1,g2⟩:=List.getElem?_zip_eq_some.1 hi
  unfold nwE
  rw [if_pos]
  refine ⟨?_,oldB_false.1 (by simpa using List.any_eq_false.1 h2 q.1 (dE g1))⟩
  have:=congrArg (fun l=>l[i]?) h1
  simp only [dM,g1,g2,Option.map_some,Option.some.injEq] at this
  exact this
 ·rintro ⟨h1,h2⟩
  have hz:=seqE_zero h2
  have key:∀ (i:Nat) (r:Rl) (c:Cp),p.rs[i]? = some r→b.cs[i]? = some c→r.nw=c.id∧(r.old=0∨(findC a.cs r.old).isSome=true):=fun i r c hr hc=>by
   have:=hz (r,c) (dE (zip_two hr hc))
   unfold nwE at this
   split at this
   ·rename_i h;exact h
   ·cases this
  refine ⟨?_,List.any_eq_false.2 fun r hr => ?_⟩
  ·apply List.ext_getElem?
   intro i
   rw [dM,dM]
   by_cases hi:i<p.rs.length
   ·obtain ⟨r,hr⟩:=wg hi
    obtain ⟨c,hc⟩:∃ c,b.cs[i]? = some c:=wg V3
    rw [hr,hc]
    exact congrArg some (key i r c hr hc).1
   ·rw [List.getElem?_eq_none V3,List.getElem?_eq_none V3];rfl
  ·obtain ⟨i,hi⟩:=List.mem_iff_getElem?.1 hr
   have hlt:=(wl hi)
   obtain ⟨c,hc⟩:∃ c,b.cs[i]? = some c:=wg V3
   rw [oldB_false.2 (key i r c hi hc).2]
   decide
def eaE (a b:Sc) (p:Pg):Int:=if chkE a=0 then (if chkE b=0 then chkP p else chkE b) else chkE a
theorem ckE_each {a b:Sc} {p:Pg} (h:eaE a b p≠0):ckE a b p=eaE a b p:=by
 unfold eaE at h ⊢
 unfold ckE
 by_cases h1:chkE a=0
 ·rw [if_pos h1] at h ⊢
  by_cases h2:chkE b=0
  ·rw [if_pos h2] at h ⊢
   rw [if_pos h1,if_pos h2,if_neg h]
  ·rw [if_neg h2] at h ⊢
   rw [if_pos h1,if_neg h2]
 ·rw [if_neg h1,if_neg h1]
theorem eaE_zero {a b:Sc} {p:Pg} (h:eaE a b p=0):chkE a=0∧chkE b=0∧chkP p=0:=by
 unfold eaE at h
 by_cases h1:chkE a=0
 ·rw [if_pos h1] at h
  by_cases h2:chkE b=0
  ·rw [if_pos h2] at h;exact ⟨h1,h2,h⟩
  ·rw [if_neg h2] at h;exact absurd h h2
 ·rw [if_neg h1] at h;exact absurd h h1
theorem ckE_go {a b:Sc} {p:Pg} (h:eaE a b p=0):ckE a b p=if p.va=a.ver∧p.vb=b.ver∧p.va<p.vb then (if p.rs.length=b.cs.length then (if seqE (nwE a) (p.rs.zip b.cs)=0 then seqE (ruC a) (p.rs.zip b.cs) else 6) else 6) else 7:=by
 obtain ⟨h1,h2,h3⟩:=eaE_zero h
 unfold ckE
 rw [if_pos h1,if_pos h2,if_pos h3]
variable (X:Nat→Option Obj)
theorem yEach (a b:Sc) (p:Pg) (ad1 ad2 ad:Option Addr) (cap1 cap2 cap:Nat) (ha:CompsIn X ad1 a.cs) (hb:CompsIn X ad2 b.cs) (hp:RulesIn X ad p.rs) (na:NamesC a.cs) (nb:NamesC b.cs) (hal:a.cs.length<4611686018427387904) (hbl:b.cs.length<4611686018427387904) (sp:pgOk p):
  PSpec Tryz.prog X 84 [Sx a.ver ad1 a.cs.length cap1,Sx b.ver ad2 b.cs.length cap2,LPg p.va p.vb ad p.rs.length cap] (Ln .i64 (eaE a b p)):=by
 have hA:=pCheckBig X a ad1 cap1 ha hal na _ rfl
 have hB:=pCheckBig X b ad2 cap2 hb hbl nb _ rfl
 have hP:=hCheck X p ad cap hp sp
 refine cF Tryz.func84 rfl V5 rfl rfl ?_
 intro C
 unfold eaE
 by_cases h1:chkE a=0
 case neg =>
  rw [if_neg h1]
  generalize chkE a=e at *
  (refine U17 ?_;refine kne rfl rfl (r:=true) (cU h1) ?_;refine U8 ?_)
  exact V6
 rw [if_pos h1]
 rw [h1] at hA
 by_cases h2:chkE b=0
 case neg =>
  rw [if_neg h2]
  generalize chkE b=e at *
  (refine U31 ?_;refine kne rfl rfl (r:=true) (cU h2) ?_;refine U8 ?_)
  exact V6
 rw [if_pos h2]
 rw [h2] at hB
 generalize chkP p=e at *
 refine U42 ?_
 exact V6
abbrev ycSt (a b:Sc) (p:Pg) (ad1 ad2 ad:Option Addr) (cap1 cap2 cap i:Nat) (Y:Nat→Option Obj):St:=
 ⟨[(3,Lp 3),(4,Lp 4),(54,Lx ad p.rs.length cap),(55,Ln .i64 (p.rs.length:Nat)),(56,Ln .i64 (i:Nat))],[sxB 4 b.ver ad2 b.cs.length cap2,sxB 3 a.ver ad1 a.cs.length cap1],Y⟩
set_option maxHeartbeats 12800000 in
theorem yCheck (a b:Sc) (p:Pg) (ad1 ad2 ad:Option Addr) (cap1 cap2 cap:Nat) (ha:CompsIn X ad1 a.cs) (hb:CompsIn X ad2 b.cs) (hp:RulesIn X ad p.rs) (na:NamesC a.cs) (nb:NamesC b.cs) (sa:a.cs.length≤30∧∀ c∈a.cs,c.fs.length≤12) (sb:b.cs.length≤30∧∀ c∈b.cs,c.fs.length≤12) (sp:pgOk p):
  PSpec Tryz.prog X 46 [Sx a.ver ad1 a.cs.length cap1,Sx b.ver ad2 b.cs.length cap2,LPg p.va p.vb ad p.rs.length cap] (Ln .i64 (ckE a b p)):=by
 obtain ⟨sa1,sa2⟩:=sa
 obtain ⟨sb1,sb2⟩:=sb
 have sp1:=sp.1
 have hE:=yEach X a b p ad1 ad2 ad cap1 cap2 cap ha hb hp na nb V3 V3 sp
 refine cF Tryz.func46 rfl V5 rfl rfl ?_
 intro C
 by_cases h0:eaE a b p=0
 case neg =>
  rw [ckE_each h0]
  generalize eaE a b p=e at *
  (refine U19 ?_;refine kne rfl rfl (r:=true) (cU h0) ?_;refine U8 ?_)
  exact V6
 rw [ckE_go h0]
 rw [h0] at hE
 by_cases c1:p.va=a.ver
 case neg =>
  rw [if_neg (fun h=>c1 h.1)]
  (refine U31 ?_;refine kne rfl rfl (r:=true) (cU c1) ?_;refine U22 ?_)
  exact V6
 by_cases c2:p.vb=b.ver
 case neg =>
  rw [if_neg (fun h=>c2 h.2.1)]
  (refine U31 ?_;refine kne O O (r:=false) (cT c1) ?_;refine U5 ?_;refine aX O O (r:=true) (cU c2) (dT O O) ?_;refine U16 ?_)
  exact V6
 by_cases c3:p.va<p.vb
 case neg =>
  rw [if_neg (fun h=>c3 h.2.2)]
  (refine U31 ?_;refine kne O O (r:=false) (cT c1) ?_;refine U5 ?_;refine aX O O (r:=false) (cT c2) (dT O O) ?_;refine U6 ?_;refine bD O O (cP V3) (dT O O) ?_;refine U9 ?_)
  exact V6
 rw [if_pos ⟨c1,c2,c3⟩]
 have hN:=yNewIds X p.va p.vb p.rs ad cap hp V3
 have hI:=pIds X b.ver ad2 cap2 b.cs hb V3
 rw [idsV_int1] at hI
 have hO:=yHasOlds X a p ad1 ad cap1 cap ha hp V3 V3
 by_cases d1:p.rs.map Rl.nw=b.cs.map Cp.id
 case neg =>
  have hr:(if p.rs.length=b.cs.length then (if seqE (nwE a) (p.rs.zip b.cs)=0 then seqE (ruC a) (p.rs.zip b.cs) else 6) else (6:Int))=6:=by
   by_cases e1:p.rs.length=b.cs.length
   ·rw [if_pos e1]
    by_cases e2:seqE (nwE a) (p.rs.zip b.cs)=0
    ·exact absurd (news_iff.2 ⟨e1,e2⟩).1 d1
    ·rw [if_neg e2]
   ·rw [if_neg e1]
  rw [hr]
  have hQ:=fun (S:Nat→Option (Option Box)) h1 h2=>equal_lent X (S:=S) (l:=p.rs.map Rl.nw) (m:=b.cs.map Cp.id) (j:=601) (k:=602) (n1:=p.rs.length) (n2:=b.cs.length) (e1:=3) (e2:=3) (row1:=false) (row2:=false) V29 (cO d1) (cX ..).symm (cX ..).symm h1 h2
  ((refine U31 ?_;refine kne O O (r:=false) (cT c1) ?_;refine U5 ?_;refine aX O O (r:=false) (cT c2) (dT O O) ?_);(refine U12 ?_;refine rgD mixed ?_;refine U1 ?_;refine bE [(1000001,601)] (.sv (.one (.slc 601 0 p.rs.length))) [(601,some ⟨3,(int1 (p.rs.map Rl.nw)).map .val,false⟩)] (hN) O O VC O O O O O V18 dS ?_;refine U1 ?_;refine bE [(1000001,602)] (.sv (.one (.slc 602 0 b.cs.length))) [(602,some ⟨3,(int1 (b.cs.map Cp.id)).map .val,false⟩)] (hI) O O VC O O O O O V18 dS<|K.callL [601,602] O O O (hQ _ O O) dS ?_;refine U16 ?_))
  exact V6
 have hQ:=fun (S:Nat→Option (Option Box)) h1 h2=>equal_lent X (S:=S) (l:=p.rs.map Rl.nw) (m:=b.cs.map Cp.id) (j:=601) (k:=602) (n1:=p.rs.length) (n2:=b.cs.length) (e1:=3) (e2:=3) (row1:=false) (row2:=false) V29 (cP d1) (cX ..).symm (cX ..).symm h1 h2
 cases d2:p.rs.any (oldB (a.cs.map Cp.id)) with
 | true =>
  have hr:(if p.rs.length=b.cs.length then (if seqE (nwE a) (p.rs.zip b.cs)=0 then seqE (ruC a) (p.rs.zip b.cs) else 6) else (6:Int))=6:=by
   by_cases e1:p.rs.length=b.cs.length
   ·rw [if_pos e1]
    by_cases e2:seqE (nwE a) (p.rs.zip b.cs)=0
    ·exact absurd (news_iff.2 ⟨e1,e2⟩).2 (by rw [d2];decide)
    ·rw [if_neg e2]
   ·rw [if_neg e1]
  rw [hr]
  rw [d2] at hO
  ((refine U31 ?_;refine kne O O (r:=false) (cT c1) ?_;refine U5 ?_;refine aX O O (r:=false) (cT c2) (dT O O) ?_);(refine U12 ?_;refine rgD mixed ?_;refine U1 ?_;refine bE [(1000001,601)] (.sv (.one (.slc 601 0 p.rs.length))) [(601,some ⟨3,(int1 (p.rs.map Rl.nw)).map .val,false⟩)] (hN) O O VC O O O O O V18 dS ?_;refine U1 ?_;refine bE [(1000001,602)] (.sv (.one (.slc 602 0 b.cs.length))) [(602,some ⟨3,(int1 (b.cs.map Cp.id)).map .val,false⟩)] (hI) O O VC O O O O O V18 dS<|K.callL [601,602] O O O (hQ _ O O) dS ?_;refine U6 ?_);(refine U10 ?_))
  exact V6
 | false =>
 obtain ⟨e1,e2⟩:=news_iff.1 ⟨d1,d2⟩
 rw [if_pos e1,if_pos e2]
 rw [d2] at hO
 ((refine U31 ?_;refine kne O O (r:=false) (cT c1) ?_;refine U5 ?_;refine aX O O (r:=false) (cT c2) (dT O O) ?_);(refine U12 ?_;refine rgD mixed ?_;refine U1 ?_;refine bE [(1000001,601)] (.sv (.one (.slc 601 0 p.rs.length))) [(601,some ⟨3,(int1 (p.rs.map Rl.nw)).map .val,false⟩)] (hN) O O VC O O O O O V18 dS ?_;refine U1 ?_;refine bE [(1000001,602)] (.sv (.one (.slc 602 0 b.cs.length))) [(602,some ⟨3,(int1 (b.cs.map Cp.id)).map .val,false⟩)] (hI) O O VC O O O O O V18 dS<|K.callL [601,602] O O O (hQ _ O O) dS ?_;refine U6 ?_);(refine U15 ?_))
 clear hE hN hI hO hQ
 have hzl:(p.rs.zip b.cs).length=p.rs.length:=by rw [List.length_zip];omega
 refine cL (fun m σ=>∃ i:Nat,i≤p.rs.length∧m=p.rs.length-i∧(∀ j,0≤j→j<i→atE (ruC a) (p.rs.zip b.cs) j=0)∧σ=ycSt a b p ad1 ad2 ad cap1 cap2 cap i X) p.rs.length
  ⟨ycSt a b p ad1 ad2 ad cap1 cap2 cap 0 X,Le.of V10 VE V2 V2 V0,0,by omega,by omega,fun j _ hj=>absurd hj V3,rfl⟩ ?_
 rintro m σ ⟨i,hi,rfl,hpre,rfl⟩
 by_cases hlt:i<p.rs.length
 case neg =>
  rw [show seqE (ruC a) (p.rs.zip b.cs)=0 from firstE_none fun j h1 h2=>hpre j h1 (by omega)]
  refine U12 ?_
  exact V6
 obtain ⟨r,hr⟩:=wg hlt
 obtain ⟨c,hc⟩:∃ c,b.cs[i]? = some c:=wg V3
 obtain ⟨rb,ro,rarr,rel,rfr,ead,ecap,rfl,hRX,hRz,hRc,_,_,_,hRE⟩:=hp.get hr
 have hior:=wo ro i 3
 refine U19 ?_
 refine LWP.le (σ':=⟨[(3,Lp 3),(4,Lp 4),(54,Lx (some ⟨rb,ro,none⟩) p.rs.length cap),(55,Ln .i64 (p.rs.length:Nat)),(56,Ln .i64 (i:Nat)),(8,Ln .i64 (i:Nat)),(9,Lp 9)],[v3B 27 9 r.nw r.old ead r.ex.length ecap,sxB 4 b.ver ad2 b.cs.length cap2,sxB 3 a.ver ad1 a.cs.length cap1],X⟩) (Le.of V14 V9 V2 V2 V0) ?_
 repeat refine aA ?_
 refine LWP.meetL (fun σ=>∃ (Y:Nat→Option Obj) (w:Cp) (fad:Option Addr) (fcap:Nat),(∀ b x,X b=some x→Y b=some x)∧w.fs=flC a r.old∧FieldsIn Y fad w.fs∧σ=⟨[(3,Lp 3),(4,Lp 4),(54,Lx (some ⟨rb,ro,none⟩) p.rs.length cap),(55,Ln .i64 (p.rs.length:Nat)),(56,Ln .i64 (i:Nat)),(8,Ln .i64 (i:Nat)),(9,Lp 9),(10,Lp 10)],[cpB 10 w fad fcap,v3B 27 9 r.nw r.old ead r.ex.length ecap,sxB 4 b.ver ad2 b.cs.length cap2,sxB 3 a.ver ad1 a.cs.length cap1],Y⟩) ?_ ?_
 ·cases ho:findC a.cs r.old with
  | none =>
   have hf:=pFind_no X a.ver ad1 cap1 a.cs r.old ha V3 (findC_no ho)
   refine U12 ?_
   exact Leads.here (Le.of V15 V8 V2 V2 V0) ⟨X,⟨0,[],[]⟩,none,0,fun _ _ h=>h,by unfold flC;rw [ho],fields_none rfl,rfl⟩
  | some o =>
   obtain ⟨k,hk,hid,hpr⟩:=findC_at ho
   have hw:o.fs=flC a r.old:=by unfold flC;rw [ho]
   rcases pFind X a.ver ad1 cap1 a.cs r.old ha V3 (fun c hc=>by have:=sa2 c hc;omega) hpr hk hid with ⟨h0,hf⟩|hf
   ·have hl:o.fs.length=0:=by rw [h0];rfl
    refine U12 ?_
    exact Leads.here (Le.of V15 V8 V2 V2 V0) ⟨X,o,none,0,fun _ _ h=>h,hw,fields_none h0,O⟩
   ·obtain ⟨_,_,_,_,_,_,_,_,_,_,_,_,_,_,hoF⟩:=ha.get hk
    (refine U4 ?_;refine bE [(1000001,601)] (.tup [SCs o 601,Sb true]) [fdB 601 o.fs] (hf) O O VC O O O O O V18 dS ?_;refine U7 ?_)
    refine cE (σ':=⟨[(3,Lp 3),(4,Lp 4),(54,Lx (some ⟨rb,ro,none⟩) p.rs.length cap),(55,Ln .i64 (p.rs.length:Nat)),(56,Ln .i64 (i:Nat)),(8,Ln .i64 (i:Nat)),(9,Lp 9),(10,Lp 10)],[(10,some ⟨24,[.val (.int .i64 o.id),.val (.string ⟨o.nm.toArray⟩)] ++ .slc 601 0 o.fs.length 3::[],false⟩),fdB 601 o.fs,v3B 27 9 r.nw r.old ead r.ex.length ecap,sxB 4 b.ver ad2 b.cs.length cap2,sxB 3 a.ver ad1 a.cs.length cap1],X⟩) (Le.of V15 V10 V2 V2 V0) ?_
    refine Leads.freezeCell O O O O O O fun blk cp arr fr hn _ _ _ hsp => ?_
    obtain ⟨sp',hsp⟩:=hsp
    exact cE (Le.of V15 V8 V2 V2 V0) (cD ⟨_,o,some ⟨blk,0,none⟩,cp,cJ hn,hw,fields_block (cN _ _ _) hsp hoF.small,O⟩)
 rintro σ ⟨Y,w,fad,fcap,hXY,hw,hF,rfl⟩
 have hwl:w.fs.length≤12:=by
  rw [hw]
  unfold flC
  split
  ·rename_i o ho;exact sa2 o (findC_some ho).1
  ·exact Nat.zero_le _
 obtain ⟨cb,co,carr,cel,cfr,cad,ccap,rfl,hCX,hCz,hCc,_,_,_,hCF⟩:=hb.get hc
 have hioc:=wo co i 3
 have hCY:=hXY _ _ hCX
 have hadd:IntKind.i64.wrap ((i:Int)+1)=((i+1:Nat):Int):=by rw [cH V3];omega
 have hcl:=sb2 c (dE hc)
 have hq:=yRule Y w c r fad cad ead fcap ccap ecap hF (hCF.mono hXY) (hRE.mono hXY) V3 V3 (fun q hq=>by have:=(sp.2 r (dE hr)).2 q hq;omega)
 have hat:atE (ruC a) (p.rs.zip b.cs) i=ruE w.fs c.fs r:=by rw [atE_at (zip_two hr hc),hw];rfl
 by_cases he:ruE w.fs c.fs r=0
 ·rw [he] at hq
  (refine aA<|rgD mixed ?_;refine U22 ?_)
  exact ⟨_,ycSt a b p ad1 (some ⟨cb,co,none⟩) (some ⟨rb,ro,none⟩) cap1 cap2 cap (i+1) X,by omega,(by refine Le.trans ?_ (Le.drop hXY);exact Le.of V10 VE V2 V2 V0),i+1,by omega,O,(fun j h0 hj=>by
   by_cases e:j=i
   ·rw [e,hat];exact he
   ·exact hpre j h0 V3),rfl⟩
 ·rw [show seqE (ruC a) (p.rs.zip b.cs)=ruE w.fs c.fs r from firstE_some hpre (Nat.zero_le _) V3 hat he]
  generalize ruE w.fs c.fs r=e at *
  (refine aA<|rgD mixed ?_;refine U14 ?_;refine kne O O (r:=true) (cU he) ?_;refine U8 ?_)
  exact V6
end Go.Proofs.YtopiioklkkiedaaGreatDoor
end
section
set_option maxHeartbeats 12800000
set_option maxRecDepth 100000
namespace Go.Proofs.YtopiioklkkiedaaGreatDoor
open Go Go.Lg Go.Lg.Fml Go.Lg.Fld Go.Lg.Arith
set_option maxRecDepth 100000
def scOk (cs:List Cp):Prop:=cs.length≤30∧∀ c∈cs,c.fs.length≤12
def scBig (cs:List Cp):Prop:=cs.length≤4398046511104∧∀ c∈cs,c.fs.length≤4398046511104
theorem scOk.names {cs:List Cp} (h:scOk cs) (hn:NamesIn cs):NamesC cs:=fun c hc=>⟨by have:=h.2 c hc;omega,hn c hc⟩
variable (X:Nat→Option Obj)
theorem cRule (a b:Cp) (r:Rl) (aad bad ead:Option Addr) (acap bcap ecap:Nat) (hA:FieldsIn X aad a.fs) (hB:FieldsIn X bad b.fs) (hE:CodesIn X ead r.ex) (hal:a.fs.length<4611686018427387904) (hbl:b.fs.length<4611686018427387904) (hcl:∀ c∈r.ex,c.length<1152921504606846976):
  PSpec Tryz.prog X 67 [Cx a aad acap,Cx b bad bcap,.sv (.agg [.val (.int .i64 r.nw),.val (.int .i64 r.old),.val (.slice ead r.ex.length ecap)])] (Ln .i64 (ruE a.fs b.fs r)):=yRule X a b r aad bad ead acap bcap ecap hA hB hE hal hbl hcl
theorem cCheck (a b:Sc) (p:Pg) (ad1 ad2 ad:Option Addr) (cap1 cap2 cap:Nat) (ha:CompsIn X ad1 a.cs) (hb:CompsIn X ad2 b.cs) (hp:RulesIn X ad p.rs) (na:NamesIn a.cs) (nb:NamesIn b.cs) (sa:scOk a.cs) (sb:scOk b.cs) (sp:p.rs.length≤30∧∀ r∈p.rs,r.ex.length≤12∧∀ c∈r.ex,c.length≤80):
  PSpec Tryz.prog X 46 [Sx a.ver ad1 a.cs.length cap1,Sx b.ver ad2 b.cs.length cap2,LPg p.va p.vb ad p.rs.length cap] (Ln .i64 (ckE a b p)):=yCheck X a b p ad1 ad2 ad cap1 cap2 cap ha hb hp (sa.names na) (sb.names nb) sa sb sp
end Go.Proofs.YtopiioklkkiedaaGreatDoor
end
section
set_option maxHeartbeats 12800000
set_option maxRecDepth 100000
namespace Go.Proofs.YtopiioklkkiedaaGreatDoor
open Go Go.Lg Go.Lg.Fml Go.Lg.Fld Go.Lg.Arith
set_option maxRecDepth 100000
def valA (a b:List Fl) (r:Rl) (ns:List Nm):List Nm:=if valE a b r ns=0 then valN a b r ns else []
def psA (a b:Sc) (p:Pg) (ps:List Pt):List Pt:=if psE a b p ps=0 then psV a b p ps else []
def vShape (e:Int) (_:List Nm):Bool:=e==0
def vRow (_:List Nm):Bool:=true
def pShape (e:Int) (_:List Pt):Bool:=e==0
theorem vShape_nil {a b:List Fl} {r:Rl} {ns:List Nm} (h:vShape (valE a b r ns) (valA a b r ns)=false):valA a b r ns=[]:=if_neg (by unfold vShape at h;simpa using h)
theorem pShape_nil {a b:Sc} {p:Pg} {ps:List Pt} (h:pShape (psE a b p ps) (psA a b p ps)=false):psA a b p ps=[]:=if_neg (by unfold pShape at h;simpa using h)
def prtR (t:TypeId) (ps:List Pt):Rsc:=⟨fun ρ H=>(∃ (arr:Array Value) (fr:Nat×Nat),H ρ.1=some (.cells arr t fr)∧arr.size=ρ.2)∧PartsIn H (some ⟨ρ.1,0,none⟩) ps⟩
abbrev prtB (k:Nat) (ps:List Pt):Nat×Option Box:=(k,some ⟨0,[],.res (prtR 59 ps)⟩)
abbrev nmsB (k:Nat) (l:List Nm) (row:Bool):Nat×Option Box:=(k,some ⟨86,(nmsV l).map .val,row⟩)
structure PartsC (X:Nat→Option Obj) (ad:Option Addr) (ps:List Pt):Prop where
 at_:∀ (i:Nat) (p:Pt),ps[i]? = some p→∃ (blk off:Nat) (arr:Array Value) (el:TypeId) (fr:Nat×Nat) (vad:Option Addr) (vcap:Nat),ad=some ⟨blk,off,none⟩∧X blk=some (.cells arr el fr)∧off+i*2+2≤arr.size ∧
  (arr.toList.drop (off+i*2)).take 2=[.int .i64 p.comp,.slice vad p.val.length vcap]∧NumsIn X vad p.val∧p.val.length≤vcap
 small:∀ p∈ps,-9223372036854775808≤p.comp∧p.comp<9223372036854775808
theorem PartsC.parts {X:Nat→Option Obj} {ad:Option Addr} {ps:List Pt} (h:PartsC X ad ps):PartsIn X ad ps:=⟨fun i p hp=>by
 obtain ⟨blk,off,arr,el,fr,vad,vcap,h1,h2,h3,h4,h5,_⟩:=h.at_ i p hp
 exact ⟨blk,off,arr,el,fr,vad,vcap,h1,h2,h3,h4,h5⟩,h.small⟩
theorem PartsC.mono {X Y:Nat→Option Obj} (hXY:∀ b o,X b=some o→Y b=some o) {ad:Option Addr} {ps:List Pt} (h:PartsC X ad ps):PartsC Y ad ps:=⟨fun i p hp=>by
 obtain ⟨blk,off,arr,el,fr,vad,vcap,h1,h2,h3,h4,h5,h6⟩:=h.at_ i p hp
 exact ⟨blk,off,arr,el,fr,vad,vcap,h1,hXY _ _ h2,h3,h4,⟨h5.rows.mono hXY,h5.in2⟩,h6⟩,h.small⟩
theorem PartsC.get {X:Nat→Option Obj} {ad:Option Addr} {ps:List Pt} (h:PartsC X ad ps) {i:Nat} {p:Pt} (hc:ps[i]? = some p):∃ (blk off:Nat) (arr:Array Value) (el:TypeId) (fr:Nat×Nat) (vad:Option Addr) (vcap:Nat),ad=some ⟨blk,off,none⟩∧X blk=some (.cells arr el fr)∧off+i*2+2≤arr.size ∧
  ((arr.toList.drop (off+i*2)).take 2).map CV.val=[.val (.int .i64 p.comp),.val (.slice vad p.val.length vcap)]∧arr[off+i*2]? = some (.int .i64 p.comp)∧arr[off+i*2+1]? = some (.slice vad p.val.length vcap)∧NumsIn X vad p.val∧p.val.length≤vcap:=by
 obtain ⟨blk,off,arr,el,fr,vad,vcap,h1,h2,h3,h4,h5,h6⟩:=h.at_ i p hc
 obtain ⟨g1,g2⟩:=two_at h4
 exact ⟨blk,off,arr,el,fr,vad,vcap,h1,h2,h3,by rw [h4];rfl,g1,g2,h5,h6⟩
end Go.Proofs.YtopiioklkkiedaaGreatDoor
end
section
set_option maxHeartbeats 12800000
set_option maxRecDepth 100000
namespace Go.Proofs.YtopiioklkkiedaaGreatDoor
open Go Go.Lg Go.Lg.Fml Go.Lg.Fld Go.Lg.Arith
set_option maxRecDepth 100000
theorem evX_two {l:List Ins} {fs:List (List Nm)} {at_:Int} {v:Nm} (hl:∀ x∈l,In2 x.k.2) (hf:∀ r∈fs,∀ u∈r,In2 u.2) (hat:at_<9223372036854775808) (h:evX l fs at_ = .ok v):In2 v.2:=by
 by_cases hz:chkX l=0
 ·obtain ⟨t,ht,e⟩:=parse (chkX_zero hz).2
  rw [evX_tree hz ht e] at h
  cases hev:t.ev (oneX fs at_) with
  | error e'=>rw [hev] at h;cases h
  | ok u =>
   rw [hev] at h
   simp only at h
   split at h
   ·cases h;exact tree_in2 hf hat (fun x hx=>hl x (by rw [← e];exact hx)) hev
   ·cases h
 ·rw [show evX l fs at_ = .error (chkX l) from if_neg hz] at h;cases h
def subA (vad:Option Addr) (s:Nat):Option Addr:=vad.map fun a=>⟨a.block,a.off+s*3,a.spot⟩
def subV (vad:Option Addr) (vcap:Nat):Nat→List Fl→List Value
 | _,[]=>[]
 | s,f::t=>.slice (subA vad s) f.n (vcap-s)::subV vad vcap (s+f.n) t
theorem subV_snoc (vad:Option Addr) (vcap:Nat) (f:Fl):∀ (l:List Fl) (s:Nat),subV vad vcap s (l++[f])=subV vad vcap s l++[.slice (subA vad (s+sumC l)) f.n (vcap-(s+sumC l))]
 | [],s=>by simp [subV,sumC]
 | g::t,s=>by
  have e:s+sumC (g::t)=s+g.n+sumC t:=by simp [sumC];omega
  simp only [List.cons_append,subV,subV_snoc vad vcap f t,e]
theorem subV_len (vad:Option Addr) (vcap:Nat):∀ (l:List Fl) (s:Nat),(subV vad vcap s l).length=l.length
 | [],_=>rfl
 | g::t,s=>by simp only [subV,dJ,subV_len vad vcap t]
theorem subV_at (vad:Option Addr) (vcap:Nat):∀ {l:List Fl} {s i:Nat} {f:Fl},l[i]? = some f→(subV vad vcap s l)[i]? = some (.slice (subA vad (s+sumC (l.take i))) f.n (vcap-(s+sumC (l.take i))))
 | g::t,s,0,f,h=>by
  simp only [List.getElem?_cons_zero,Option.some.injEq] at h
  subst h
  simp [subV,sumC]
 | g::t,s,i+1,f,h=>by
  simp only [List.getElem?_cons_succ] at h
  have:=subV_at vad vcap (s:=s+g.n) h
  have e:s+sumC ((g::t).take (i+1))=s+g.n+sumC (t.take i):=by simp [sumC];omega
  rw [e]
  exact this
 | [],_,_,_,h=>by simp at h
theorem nums_sub {X:Nat→Option Obj} {vad:Option Addr} {ns:List Nm} (h:NumsIn X vad ns) (s n:Nat):NumsIn X (subA vad s) ((ns.drop s).take n):=⟨fun i r hr=>by
 rw [List.map_take,List.map_drop,List.getElem?_take] at hr
 split at hr
 ·rw [List.getElem?_drop] at hr
  obtain ⟨blk,off,arr,el,fr,rfl,h2,h3,h4⟩:=h.rows (s+i) r hr
  refine ⟨blk,off+s*3,arr,el,fr,O,h2,by omega,?_⟩
  rw [show off+s*3+i*3=off+(s+i)*3 by omega]
  exact h4
 ·simp at hr,fun u hu=>h.in2 u (List.mem_of_mem_drop (List.mem_of_mem_take hu))⟩
theorem fss_block {Y:Nat→Option Obj} {blk:Nat} {arr:Array Value} {el:TypeId} {fr:Nat×Nat} {vad:Option Addr} {vcap:Nat} {fs:List Fl} {ns:List Nm} (hY:Y blk=some (.cells arr el fr)) (h:∃ sp,arr.toList=subV vad vcap 0 fs++sp) (hn:NumsIn Y vad ns) (hl:ns.length=sumC fs):FssIn Y (some ⟨blk,0,none⟩) (cutN fs ns):=⟨fun i r hr=>by
 obtain ⟨sp,h⟩:=h
 have hi:=(wl hr)
 rw [cutN_len] at hi
 obtain ⟨f,hf⟩:=wg hi
 rw [cut_at hf] at hr
 cases hr
 have hs:=sum_take hf
 have hlen:((ns.drop (sumC (fs.take i))).take f.n).length=f.n:=by rw [dA,dC];omega
 have hv:=subV_at vad vcap (s:=0) hf
 rw [Nat.zero_add] at hv
 have hsz:arr.size=fs.length+sp.length:=by rw [← Array.length_toList,h,cW,subV_len]
 refine ⟨blk,0,arr,el,fr,subA vad (sumC (fs.take i)),vcap-sumC (fs.take i),O,hY,by omega,?_,nums_sub hn _ _⟩
 rw [← Array.getElem?_toList,h,Nat.zero_add,dR (by rw [subV_len];exact hi),hv,hlen]⟩
theorem sum_pos {fs:List Fl} (h:fs.all Fl.ok=true) {i:Nat} {f:Fl} (hf:fs[i]? = some f):1≤f.n∧f.n≤8∧(f.n:Int)=f.count:=(ok_w (List.all_eq_true.1 h f (dE hf))).2
def vR14 (e:Int) (L:List Nm):LV:=if e=0 then .tup [.one (.slc 1000001 0 L.length 3),Sn .i64 0] else .tup [Vnil,Sn .i64 e]
def vBx14 (e:Int) (L:List Nm):List (Nat×Option Box):=if e=0 then [nmsB 1000001 L (Nat.blt 0 L.length)] else []
def ptZ:List Pt→List Value→List Value
 | p::ps,v::vs=>.int .i64 p.comp::v::ptZ ps vs
 | _,_=>[]
theorem ptZ_len:∀ {rs:List Pt} {ws:List Value},ws.length=rs.length→(ptZ rs ws).length=rs.length*2
 | [],[],_=>rfl
 | c::cs,v::vs,h=>by
  simp only [ptZ,dJ] at h ⊢
  rw [ptZ_len (rs:=cs) (ws:=vs) (by omega)];omega
 | [],_::_,h=>by simp at h
 | _::_,[],h=>by simp at h
theorem ptZ_add:∀ {rs:List Pt} {ws:List Value} {r:Pt} {v:Value},ws.length=rs.length→ptZ (rs++[r]) (ws++[v])=ptZ rs ws++[.int .i64 r.comp,v]
 | [],[],_,_,_=>rfl
 | c::cs,w::ws,r,v,h=>by
  simp only [dJ] at h
  simp only [List.cons_append,ptZ]
  rw [ptZ_add (rs:=cs) (ws:=ws) (by omega)]
 | [],_::_,_,_,h=>by simp at h
 | _::_,[],_,_,h=>by simp at h
theorem ptZ_at:∀ {i:Nat} {rs:List Pt} {ws sp:List Value} {r:Pt} {w:Value},rs[i]? = some r→ws[i]? = some w→((ptZ rs ws++sp).drop (i*2)).take 2=[.int .i64 r.comp,w]
 | 0,c::cs,v::vs,sp,r,w,h1,h2=>by
  simp only [List.getElem?_cons_zero,Option.some.injEq] at h1 h2
  subst h1 h2
  rfl
 | i+1,c::cs,v::vs,sp,r,w,h1,h2=>by
  simp only [List.getElem?_cons_succ] at h1 h2
  have:=ptZ_at (sp:=sp) h1 h2
  rw [show (i+1)*2=i*2+2 by omega]
  exact this
 | _,[],_,_,_,_,h,_=>by simp at h
 | _,_::_,[],_,_,_,_,h=>by simp at h
structure PartsH (H:Nat→Option Obj) (ws:List Value) (ps:List Pt):Prop where
 len:ws.length=ps.length
 at_:∀ (i:Nat) (w:Value) (p:Pt),ws[i]? = some w→ps[i]? = some p→∃ (vad:Option Addr) (vcap:Nat),w = .slice vad p.val.length vcap∧NumsIn H vad p.val
theorem PartsH.nil {H:Nat→Option Obj}:PartsH H [] []:=⟨rfl,fun i v c h=>by simp at h⟩
theorem PartsH.mono {H H':Nat→Option Obj} (hH:∀ b o,H b=some o→H' b=some o) {vs:List Value} {cs:List Pt} (G:PartsH H vs cs):PartsH H' vs cs:=⟨G.len,fun i v c hv hc=>by
 obtain ⟨vad,vcap,h1,h2⟩:=G.at_ i v c hv hc
 exact ⟨vad,vcap,h1,h2.rows.mono hH,h2.in2⟩⟩
theorem PartsH.push {H:Nat→Option Obj} {vs:List Value} {cs:List Pt} (G:PartsH H vs cs) {v:Value} {c:Pt} (hv:∃ (vad:Option Addr) (vcap:Nat),v = .slice vad c.val.length vcap∧NumsIn H vad c.val):PartsH H (vs++[v]) (cs++[c]):=⟨by rw [cW,cW,G.len];rfl,fun i w d hw hd=>by
 have hl:=G.len
 rcases snoc_get hw with ⟨h1,h2⟩|⟨h1,rfl⟩
 ·rcases snoc_get hd with ⟨h3,h4⟩|⟨h3,_⟩
  ·exact G.at_ i w d h2 h4
  ·omega
 ·rcases snoc_get hd with ⟨h3,_⟩|⟨_,rfl⟩
  ·omega
  ·exact hv⟩
def smallP (p:Pt):Prop := -9223372036854775808≤p.comp∧p.comp<9223372036854775808
theorem prt_block {Y:Nat→Option Obj} {blk:Nat} {arr:Array Value} {el:TypeId} {fr:Nat×Nat} {ws sp:List Value} {rs:List Pt} (hY:Y blk=some (.cells arr el fr)) (h:arr.toList=ptZ rs ws++sp) (G:PartsH Y ws rs) (hs:∀ r∈rs,smallP r):PartsIn Y (some ⟨blk,0,none⟩) rs:=⟨fun i r hr=>by
 have hi:=(wl hr)
 have hl:=G.len
 obtain ⟨v,hv⟩:∃ v,ws[i]? = some v:=wg V3
 obtain ⟨ead,ecap,h1,h2⟩:=G.at_ i v r hv hr
 have hsz:arr.size=rs.length*2+sp.length:=by rw [← Array.length_toList,h,cW,ptZ_len hl]
 refine ⟨blk,0,arr,el,fr,ead,ecap,O,hY,by omega,?_,h2⟩
 rw [h,Nat.zero_add,ptZ_at hr hv,h1],hs⟩
section
variable {n:Nat} {C:Ctx} {X:Nat→Option Obj} {s:List (Nat×LV)} {bx:List (Nat×Option Box)} {k:Nat}
theorem prt_shut {Mid:St→Prop} {t:TypeId} {rs:List Pt} {H:Nat→Option Obj} {ws sp:List Value} (hO:OwnedM C X H) (G:PartsH H ws rs) (hs:∀ r∈rs,smallP r)
  (h:Leads n C Mid ⟨s,(k,some ⟨0,[],.res (prtR t rs)⟩)::bx,X⟩):Leads n C Mid ⟨s,(k,some ⟨t,(ptZ rs ws++sp).map .val,false⟩)::bx,joinM X H⟩:=by
 refine Leads.closeRes (vals:=ptZ rs ws++sp) hO (fun ρ fr h1 h2 h3 => ?_) h
 refine ⟨⟨_,fr,cN _ _ _,by rw [h3];simp⟩,?_⟩
 exact prt_block (cN _ _ _) (by simp;rfl) (G.mono (cJ h1)) hs
end
theorem nms_leads {H:Nat→Option Obj} {b:Nat} {v:Value} {el:TypeId} {c:List Nm} (h:LeadsTo H b v el 3 (nmsV c)) (hs:∀ x∈c,In2 x.2):∃ (vad:Option Addr) (vcap:Nat),v = .slice vad c.length vcap∧NumsIn H vad c:=by
 obtain ⟨len,cap,arr,fr,h1,h2,_,_,h5,h6⟩:=h
 have hl:=nmsV_len c
 rw [cX] at hl
 have e:len=c.length:=by omega
 subst e
 exact ⟨_,cap,h1,nms_in h5 hs h6⟩
theorem valN_two {a b:List Fl} {r:Rl} {ns:List Nm} (hI:∀ c∈r.ex,∀ x∈c,In2 x.k.2) (hN:∀ u∈ns,In2 u.2) (hk:∀ f∈b,f.count<9223372036854775808):∀ u∈valN a b r ns,In2 u.2:=fun u hu=>by
 obtain ⟨q,hq,rfl⟩:=List.mem_map.1 hu
 obtain ⟨i,h1,h2,h3⟩:=mem_steps hq
 have hc:=hk q.1 (dE h1)
 unfold Fl.n at h3
 unfold stepV
 cases he:evX q.2.1 (cutN a ns) q.2.2 with
 | error e=>show 0≤(0:Int)∧(0:Int)<_;decide
 | ok v=>exact evX_two (hI q.2.1 (dE h2)) (fun l hl u hu=>hN u (cut_mem hl u hu)) V3 he
def pR14 (e:Int) (L:List Pt):LV:=if e=0 then .tup [.one (.slc 1000001 0 L.length 2),Sn .i64 0] else .tup [Vnil,Sn .i64 e]
def pBx14 (e:Int) (L:List Pt):List (Nat×Option Box):=if e=0 then [prtB 1000001 L] else []
end Go.Proofs.YtopiioklkkiedaaGreatDoor
end
section
set_option maxHeartbeats 12800000
set_option maxRecDepth 100000
namespace Go.Proofs.YtopiioklkkiedaaGreatDoor
open Go Go.Lg Go.Lg.Fml Go.Lg.Fld Go.Lg.Arith
set_option maxRecDepth 100000
def ckV (a b:List Fl) (r:Rl) (ns:List Nm):Int:=if fitErr a ns=0 then (if layErr b=0 then (if r.old=0 then 7 else ruE a b r) else layErr b) else fitErr a ns
theorem valE_no {a b:List Fl} {r:Rl} {ns:List Nm} (h:ckV a b r ns≠0):valE a b r ns=ckV a b r ns:=by
 unfold valE
 unfold ckV at h ⊢
 by_cases z1:fitErr a ns=0
 ·rw [if_pos z1] at h ⊢
  rw [if_pos z1]
  by_cases z2:layErr b=0
  ·rw [if_pos z2] at h ⊢
   rw [if_pos z2]
   by_cases z3:r.old=0
   ·rw [if_pos z3,if_pos z3]
   ·rw [if_neg z3] at h ⊢
    rw [if_neg z3,if_neg h]
  ·rw [if_neg z2,if_neg z2]
 ·rw [if_neg z1,if_neg z1]
theorem valE_go {a b:List Fl} {r:Rl} {ns:List Nm} (h:ckV a b r ns=0):fitErr a ns=0∧layErr b=0∧r.old≠0∧ruE a b r=0∧valE a b r ns=seqE (stepE (cutN a ns)) (stepsN b r.ex):=by
 unfold valE
 unfold ckV at h
 by_cases z1:fitErr a ns=0
 ·rw [if_pos z1] at h ⊢
  by_cases z2:layErr b=0
  ·rw [if_pos z2] at h ⊢
   by_cases z3:r.old=0
   ·rw [if_pos z3] at h;cases h
   ·rw [if_neg z3] at h ⊢
    exact ⟨z1,z2,z3,h,if_pos h⟩
  ·rw [if_neg z2] at h;exact absurd h z2
 ·rw [if_neg z1] at h;exact absurd h z1
def elX (k:Int) (c:List Ins) (G:List (List Nm)) (at_:Int):Except Int Nm:=match evX c G at_ with | .error e=>.error e | .ok v=>if fitB k v.1 v.2=true then .ok v else .error 3
theorem elX_err {f:Fl} {c:List Ins} {G:List (List Nm)} {k:Nat} {e:Int} (h:elX f.kind c G k = .error e):e≠0∧stepE G (f,c,k)=e:=by
 unfold elX at h
 unfold stepE
 show _∧(if erV (evX c G (k:Nat))=0 then (if fitB f.kind (okV (evX c G (k:Nat))).1 (okV (evX c G (k:Nat))).2=true then 0 else 3) else erV (evX c G (k:Nat)))=e
 cases hev:evX c G (k:Nat) with
 | error e' =>
  rw [hev] at h
  cases h
  have hne:=evX_err hev
  exact ⟨hne,if_neg hne⟩
 | ok v =>
  rw [hev] at h
  simp only at h
  cases hq:fitB f.kind v.1 v.2 with
  | true=>rw [if_pos hq] at h;cases h
  | false =>
   rw [if_neg (by rw [hq];decide)] at h
   cases h
   refine ⟨by decide,?_⟩
   rw [show erV (Except.ok v:Except Int Nm)=0 from rfl,if_pos rfl,show okV (Except.ok v:Except Int Nm)=v from rfl,hq]
   rfl
theorem elX_ok {f:Fl} {c:List Ins} {G:List (List Nm)} {k:Nat} {v:Nm} (h:elX f.kind c G k = .ok v):stepE G (f,c,k)=0∧stepV G (f,c,k)=v:=by
 unfold elX at h
 unfold stepE stepV
 show (if erV (evX c G (k:Nat))=0 then (if fitB f.kind (okV (evX c G (k:Nat))).1 (okV (evX c G (k:Nat))).2=true then 0 else 3) else erV (evX c G (k:Nat)))=0∧okV (evX c G (k:Nat))=v
 cases hev:evX c G (k:Nat) with
 | error e'=>rw [hev] at h;cases h
 | ok w =>
  rw [hev] at h
  simp only at h
  cases hq:fitB f.kind w.1 w.2 with
  | false=>rw [if_neg (by rw [hq];decide)] at h;cases h
  | true =>
   rw [if_pos hq] at h
   cases h
   rw [show erV (Except.ok v:Except Int Nm)=0 from rfl,if_pos rfl,show okV (Except.ok v:Except Int Nm)=v from rfl,hq]
   exact V30
theorem partsOf_one {r:Rl} {c:Cp} {ps:List Pt} (h:ps.Pairwise (fun x y=>x.comp≠y.comp)) {j:Nat} {x:Pt} (hx:ps[j]? = some x) (he:x.comp=r.old):partsOf r c ps=[(r,c,x)]:=by
 have hm:x∈ps.filter fun p=>p.comp==r.old:=List.mem_filter.2 ⟨dE hx,cV he⟩
 have h1:=filter_one h r.old
 unfold partsOf
 match hq:ps.filter fun p=>p.comp==r.old with
 | []=>rw [hq] at hm;cases hm
 | [y]=>rw [hq,List.mem_singleton] at hm;rw [hm,hq];rfl
 | _::_::_=>rw [hq] at h1;simp at h1
theorem partsOf_none {r:Rl} {c:Cp} {ps:List Pt} (h:∀ (j:Nat) (x:Pt),ps[j]? = some x→(x.comp==r.old)=false):partsOf r c ps=[]:=by
 unfold partsOf
 rw [List.filter_eq_nil_iff.2 fun x hx=>by
  obtain ⟨j,hj⟩:=List.mem_iff_getElem?.1 hx
  rw [h j x hj];decide]
 rfl
theorem find_made {a b:Sc} {p:Pg} (h:ckE a b p=0) {i:Nat} {r:Rl} {c:Cp} (hr:p.rs[i]? = some r) (hc:b.cs[i]? = some c):findC b.cs r.nw=some c:=by
 obtain ⟨_,hb,_,_,hq⟩:=ckE_facts h
 have hz:(p.rs.zip b.cs)[i]? = some (r,c):=zip_two hr hc
 rw [((hq _ (dE hz)).1).1]
 exact find_good (chkE_good hb).2 (dE hc)
end Go.Proofs.YtopiioklkkiedaaGreatDoor
end
section
set_option maxHeartbeats 12800000
set_option maxRecDepth 100000
namespace Go.Proofs.YtopiioklkkiedaaGreatDoor
open Go Go.Lg Go.Lg.Fml Go.Lg.Fld Go.Lg.Arith
set_option maxRecDepth 100000
variable (X:Nat→Option Obj)
theorem eCheck (a b:Cp) (r:Rl) (ns:List Nm) (aad bad ead vad:Option Addr) (acap bcap ecap vcap:Nat) (hA:FieldsIn X aad a.fs) (hB:FieldsIn X bad b.fs) (hE:CodesIn X ead r.ex) (hN:NumsIn X vad ns) (hal:a.fs.length<4611686018427387904) (hbl:b.fs.length<4611686018427387904) (hcl:∀ c∈r.ex,c.length<1152921504606846976):
  PSpec Tryz.prog X 32 [Cx a aad acap,Cx b bad bcap,LPg r.nw r.old ead r.ex.length ecap,Lx vad ns.length vcap] (Ln .i64 (ckV a.fs b.fs r ns)):=by
 have hF:=lFit_any X aad vad acap vcap a.fs ns hA hal hN
 have hL:=Check_spec X bad bcap b.fs hB hbl
 have hR:=cRule X a b r aad bad ead acap bcap ecap hA hB hE hal hbl hcl
 refine cF Tryz.func32 rfl V5 rfl rfl ?_
 intro C
 unfold ckV
 by_cases z1:fitErr a.fs ns=0
 case neg =>
  rw [if_neg z1]
  generalize fitErr a.fs ns=e at *
  (refine U19 ?_;refine kne rfl rfl (r:=true) (cU z1) ?_;refine U8 ?_)
  exact V6
 rw [if_pos z1]
 rw [z1] at hF
 by_cases z2:layErr b.fs=0
 case neg =>
  rw [if_neg z2]
  generalize layErr b.fs=e at *
  (refine U34 ?_;refine kne rfl rfl (r:=true) (cU z2) ?_;refine U8 ?_)
  exact V6
 rw [if_pos z2]
 rw [z2] at hL
 by_cases z3:r.old=0
 ·rw [if_pos z3]
  (refine U43 ?_;refine keq rfl rfl (r:=true) (cV z3) ?_;refine U7 ?_)
  exact V6
 rw [if_neg z3]
 generalize ruE a.fs b.fs r=e at *
 (refine U43 ?_;refine keq rfl rfl (r:=false) (cS z3) ?_;refine U12 ?_)
 exact V6
theorem eElem (f:Fl) (c:List Ins) (G:List (List Nm)) (cad fad:Option Addr) (ccap fc:Nat) (at_:Int) (hI:InsIn X cad c) (hc:c.length<1152921504606846976) (hG:FssIn X fad G) (hGl:G.length<4611686018427387904) (hrl:∀ r∈G,r.length<4611686018427387904) (hf2:∀ r∈G,∀ u∈r,In2 u.2) (hat : -9223372036854775808≤at_∧at_<9223372036854775808):
  PSpec Tryz.prog X 35 [Fx f,Lx cad c.length ccap,LEnv fad G.length fc at_] (exR (elX f.kind c G at_)):=by
 have hE:=gEval X c cad ccap hI hc fad fc G hG hGl hrl hf2 at_ hat
 refine cF Tryz.func35 rfl V5 rfl (exR_closed _) ?_
 intro C
 cases hev:evX c G at_ with
 | error e =>
  have hne:=evX_err hev
  rw [show elX f.kind c G at_ = .error e by unfold elX;rw [hev]]
  rw [hev] at hE
  (refine U24 ?_;refine kne rfl rfl (r:=true) (cU hne) ?_;refine U11 ?_)
  exact V4
 | ok v =>
 have hv2:In2 v.2:=evX_two (fun x hx=>(hI.small x hx).2.2.2) hf2 hat.2 hev
 rw [hev] at hE
 cases hq:fitB f.kind v.1 v.2 with
 | false =>
  have hFt:=Fits_spec X f.kind v.1 v.2 hv2 false hq
  rw [show elX f.kind c G at_ = .error 3 by unfold elX;rw [hev];exact if_neg (by rw [hq];decide)]
  refine U45 ?_
  exact V4
 | true =>
  have hFt:=Fits_spec X f.kind v.1 v.2 hv2 true hq
  rw [show elX f.kind c G at_ = .ok v by unfold elX;rw [hev];exact if_pos hq]
  refine U46 ?_
  exact V4
theorem sigN_one {rs:List Rl} {i:Nat} {r:Rl} (hr:rs[i]? = some r) (s:Nat):sigN (rs.take (i+1)) s=if Sg.hasB s r.old=true then Sg.withN (sigN (rs.take i) s) r.nw else sigN (rs.take i) s:=by
 unfold sigN
 rw [take_snoc hr,List.foldl_append]
 rfl
theorem eSig' (va vb:Int) (rs:List Rl) (ad:Option Addr) (cap s:Nat) (hp:RulesIn X ad rs) (hl:rs.length<4611686018427387904) (hs:s<4294967296):
  PSpec Tryz.prog X 20 [LPg va vb ad rs.length cap,Ln .u32 (s:Nat)] (Ln .u32 (sigN rs s:Nat)):=by
 refine cF Tryz.func20 rfl V5 rfl rfl ?_
 intro C
 refine U18 ?_
 refine cL (fun m σ=>∃ i:Nat,i≤rs.length∧m=rs.length-i∧σ=⟨[(1,Ln .u32 (s:Nat)),(5,Ln .u32 (sigN (rs.take i) s:Nat)),(9,Lx ad rs.length cap),(10,Ln .i64 (rs.length:Nat)),(11,Ln .i64 (i:Nat))],[],X⟩) rs.length
  ⟨⟨[(1,Ln .u32 (s:Nat)),(5,Ln .u32 (0:Nat)),(9,Lx ad rs.length cap),(10,Ln .i64 (rs.length:Nat)),(11,Ln .i64 (0:Nat))],[],X⟩,Le.of V10 VC V2 V2 V0,0,by omega,by omega,rfl⟩ ?_
 rintro m σ ⟨i,hi,rfl,rfl⟩
 by_cases hlt:i<rs.length
 case neg =>
  have e:i=rs.length:=by omega
  subst e
  rw [dG]
  refine U13 ?_
  exact V6
 obtain ⟨r,hr⟩:=wg hlt
 obtain ⟨blk,off,arr,el,fr,ead,ecap,rfl,hX,hsz,hcs,_,_,_,_⟩:=hp.get hr
 have hio:=wo off i 3
 have hadd:=wi i V3
 have hn:=sigN_one hr s
 have hlt0:=sigN_lt (rs.take i) s
 generalize sigN (rs.take i) s=o at *
 have hst2:∀ q:Nat,sigN (rs.take (i+1)) s=q→(⟨[(1,Ln .u32 (s:Nat)),(5,Ln .u32 (q:Nat)),(9,Lx (some ⟨blk,off,none⟩) rs.length cap),(10,Ln .i64 (rs.length:Nat)),(11,Ln .i64 (i+1:Nat))],[],X⟩:St)=⟨[(1,Ln .u32 (s:Nat)),(5,Ln .u32 (sigN (rs.take (i+1)) s:Nat)),(9,Lx (some ⟨blk,off,none⟩) rs.length cap),(10,Ln .i64 (rs.length:Nat)),(11,Ln .i64 (i+1:Nat))],[],X⟩:=fun q h=>by rw [h]
 have hH:=gHas X s hs r.old
 cases h1:Sg.hasB s r.old with
 | false =>
  rw [h1] at hH hn
  rw [if_neg (by decide)] at hn
  refine U29 ?_
  exact ⟨_,_,by omega,Le.of V10 VC V2 V2 V0,i+1,by omega,O,hst2 _ hn⟩
 | true =>
  rw [h1] at hH hn
  rw [if_pos rfl] at hn
  have hW:=gWith X o V3 r.nw
  generalize Sg.withN o r.nw=q at *
  refine U35 ?_
  exact ⟨_,_,by omega,Le.of V10 VC V2 V2 V0,i+1,by omega,O,hst2 _ hn⟩
theorem efind1 (p:Pt) (vad:Option Addr) (vcap:Nat) (id:Int) {b:Nat} {arr:Array Value} {el:TypeId} {fr:Nat×Nat} (hX:X b=some (.cells arr el fr)) (h0:arr[0]? = some (.int .i64 id)):
  PSpec Tryz.prog X 90 [Px p vad vcap,Vp b] (Lb (p.comp==id)):=by
 refine cF Tryz.func90 rfl V5 rfl rfl ?_
 intro C
 (refine U10 ?_;refine keq rfl rfl rfl ?_;refine U3 ?_)
 exact V6
theorem idxP_spec (ad:Option Addr) (cap:Nat) (ps:List Pt) (hin:PartsC X ad ps) (hbig:ps.length<4611686018427387904) (f:FuncId) (caps:List Value) (p:Pt→Bool)
  (hp:∀ c∈ps,∀ vad vcap,PSpec Tryz.prog X f ([Px c vad vcap]++caps.map fun v=>.sv (.one (.val v))) (Lb (p c))):
  PSpec Tryz.prog X 89 [Lx ad ps.length cap,Lf f caps] (Ln .i64 (findI p ps)):=by
 refine cF Tryz.func89 rfl V5 rfl rfl ?_
 intro C
 refine U12 ?_
 refine cL (fun m σ=>∃ i:Nat,i≤ps.length∧m=ps.length-i∧(∀ (j:Nat) (y:Pt),j<i→ps[j]? = some y→p y=false)∧σ=⟨[(0,Lx ad ps.length cap),(1,Lf f caps),(7,Ln .i64 (ps.length:Nat)),(8,Ln .i64 (i:Nat))],[],X⟩) ps.length
  ⟨_,Le.of V8 VC V2 V2 V2,0,by omega,by omega,fun j y hj=>absurd hj V3,rfl⟩ ?_
 rintro m σ ⟨i,hi,rfl,hpre,rfl⟩
 by_cases hlt:i<ps.length
 ·obtain ⟨c,hc⟩:=wg hlt
  obtain ⟨blk,off,arr,el,fr,vad,vcap,rfl,hX,hsz,hcs,_,_,_,_⟩:=hin.get hc
  have hio:=wo off i 2
  have hP:=hp c (dE hc) vad vcap
  cases hpc:p c with
  | true =>
   rw [hpc] at hP
   rw [findI_some hpre hc hpc]
   (refine U21 ?_;refine K.callF O O O hP dS ?_;refine U8 ?_)
   exact V6
  | false =>
   rw [hpc] at hP
   (refine U21 ?_;refine K.callF O O O hP dS ?_;refine U7 ?_)
   exact ⟨_,_,by omega,Le.of V8 VC V2 V2 V2,i+1,by omega,O,(fun j y hj hy=>by
    by_cases e:j=i
    ·subst e;rw [hc] at hy;cases hy;exact hpc
    ·exact hpre j y V3 hy),rfl⟩
 ·rw [findI_none fun j y hy=>hpre j y V2D hy]
  refine U12 ?_
  exact V6
abbrev SP0:SV:=.agg [.val (.int .i64 0),.val (.slice none 0 0)]
abbrev SPx (p:Pt) (vad:Option Addr) (vcap:Nat):SV:=.agg [.val (.int .i64 p.comp),.val (.slice vad p.val.length vcap)]
theorem efind_no (ad:Option Addr) (cap:Nat) (ps:List Pt) (id:Int) (hin:PartsC X ad ps) (hbig:ps.length<4611686018427387904) (hno:∀ (j:Nat) (y:Pt),ps[j]? = some y→(y.comp==id)=false):
  PSpec Tryz.prog X 47 [Lx ad ps.length cap,Ln .i64 id] (.tup [SP0,Sb false]):=by
 refine cF Tryz.func47 rfl V5 rfl rfl ?_
 intro C
 refine U7 ?_
 refine LWP.le (σ':=⟨[(3,Lp 3),(0,Lx ad ps.length cap),(4,Lp 4)],[(3,some ⟨3,[Value.int .i64 id].map .val,false⟩),(4,some ⟨59,[.val (.int .i64 0),.val (.slice none 0 0)],false⟩)],X⟩) (Le.of V9 VE V2 V2 V0) ?_
 refine LWP.freezePtr V31 V31 V31 fun b arr0 fr0 hn _ h0 => ?_
 have hin':=hin.mono (cJ (o:=.cells arr0 3 fr0) hn)
 have hp:=fun (c:Pt) (_:c∈ps) (vad:Option Addr) (vcap:Nat)=>efind1 _ c vad vcap id (cN X b (.cells arr0 3 fr0)) (at_zero h0)
 have hq:=idxP_spec _ ad cap ps hin' hbig 90 [.pointer (some ⟨b,0,none⟩)] (fun c=>c.comp==id) hp
 rw [findI_none hno] at hq
 (refine U2 ?_;refine K.makeFunc O O dS ?_;refine U7 ?_;refine klt O O O ?_;refine U9 ?_)
 exact V4
theorem efind_yes (ad:Option Addr) (cap:Nat) (ps:List Pt) (id:Int) (hin:PartsC X ad ps) (hbig:ps.length<4611686018427387904) {i:Nat} {x:Pt} (hpre:∀ (j:Nat) (y:Pt),j<i→ps[j]? = some y→(y.comp==id)=false) (hx:ps[i]? = some x) (he:x.comp=id)
  {blk off:Nat} {arr:Array Value} {el:TypeId} {fr:Nat×Nat} {vad:Option Addr} {vcap:Nat} (had:ad=some ⟨blk,off,none⟩) (hX:X blk=some (.cells arr el fr)) (hsz:off+i*2+2≤arr.size) (hcs:((arr.toList.drop (off+i*2)).take 2).map CV.val=[.val (.int .i64 x.comp),.val (.slice vad x.val.length vcap)]):
  PSpec Tryz.prog X 47 [Lx ad ps.length cap,Ln .i64 id] (.tup [SPx x vad vcap,Sb true]):=by
 subst had
 have hi:=(wl hx)
 refine cF Tryz.func47 rfl V5 rfl rfl ?_
 intro C
 refine U7 ?_
 refine LWP.le (σ':=⟨[(3,Lp 3),(0,Lx (some ⟨blk,off,none⟩) ps.length cap),(4,Lp 4)],[(3,some ⟨3,[Value.int .i64 id].map .val,false⟩),(4,some ⟨59,[.val (.int .i64 0),.val (.slice none 0 0)],false⟩)],X⟩) (Le.of V9 VE V2 V2 V0) ?_
 refine LWP.freezePtr V31 V31 V31 fun b arr0 fr0 hn _ h0 => ?_
 have hin':=hin.mono (cJ (o:=.cells arr0 3 fr0) hn)
 have hp:=fun (c:Pt) (_:c∈ps) (vad:Option Addr) (vcap:Nat)=>efind1 _ c vad vcap id (cN X b (.cells arr0 3 fr0)) (at_zero h0)
 have hq:=idxP_spec _ _ cap ps hin' hbig 90 [.pointer (some ⟨b,0,none⟩)] (fun c=>c.comp==id) hp
 rw [findI_some hpre hx (cV he)] at hq
 have hio:=wo off i 2
 have hX':=cJ (o:=.cells arr0 3 fr0) hn _ _ hX
 (refine U2 ?_;refine K.makeFunc O O dS ?_;refine U21 ?_)
 exact V4
end Go.Proofs.YtopiioklkkiedaaGreatDoor
end
section
set_option maxHeartbeats 12800000
set_option maxRecDepth 100000
namespace Go.Proofs.YtopiioklkkiedaaGreatDoor
open Go Go.Lg Go.Lg.Fml Go.Lg.Fld Go.Lg.Arith
set_option maxRecDepth 100000
def evR (e:Int) (L:List Nm):LV:=if e=0 then .tup [.one (.slc 1000001 0 L.length 3),Sn .i64 0] else .tup [Vnil,Sn .i64 e]
def evBx (e:Int) (L:List Nm):List (Nat×Option Box):=if e=0 then [nmsB 1000001 L true] else []
theorem startN_nat {fs:List Fl} (h:layErr fs=0) {i:Nat} (hi:i<fs.length):startN fs (i:Nat)=sumC (fs.take i):=by
 unfold startN
 rw [if_pos ⟨h,by omega,by omega⟩,dH]
variable (X:Nat→Option Obj)
set_option maxHeartbeats 6400000 in
theorem eSplit (a:List Fl) (ns:List Nm) (aad vad:Option Addr) (acap vcap:Nat) (hA:FieldsIn X aad a) (hac:a.length≤acap) (hN:NumsIn X vad ns) (hvc:ns.length≤vcap) (la:a.length≤12) (ln:ns.length<4611686018427387904) (z1:fitErr a ns=0):
  MSpec Tryz.prog X 33 [Lx aad a.length acap,Lx vad ns.length vcap] [] (.sv (.one (.slc 1000001 0 a.length 1))) [(1000001,some ⟨28,(subV vad vcap 0 a).map .val,false⟩)]:=by
 obtain ⟨z5,hns,_⟩:=fit_all z1
 obtain ⟨_,hoka,_⟩:=layErr_facts z5
 refine cG Tryz.func33 rfl V5 rfl rfl V7 rfl rfl ?_
 intro C
 have hmk:slcBuild Tryz.prog 94 a.length=some (List.replicate a.length (.slice none 0 0),1,28):=slcBuild_one V5 V5 V3
 (refine U8 ?_;refine K.makeSlc (m:=a.length) (bytes:=24) O O hmk V5 V3 O O dS ?_;refine U10 ?_)
 refine cL (fun m σ=>∃ i:Nat,i≤a.length∧m=a.length-i∧σ=⟨[(0,Lx aad a.length acap),(1,Lx vad ns.length vcap),(5,.sv (.one (.slc 11 0 a.length 1))),(12,Lx aad a.length acap),(13,Ln .i64 (a.length:Nat)),(14,Ln .i64 (i:Nat))],[(11,some ⟨28,(subV vad vcap 0 (a.take i)++List.replicate (a.length-i) (Value.slice none 0 0)).map .val,false⟩)],X⟩) a.length
  ⟨_,Le.of V11 V13 V2 V2 V0,0,by omega,by omega,rfl⟩ ?_
 rintro m σ ⟨i,hi,rfl,rfl⟩
 by_cases hlt:i<a.length
 case neg =>
  have e:i=a.length:=by omega
  subst e
  rw [dG,Nat.sub_self,show subV vad vcap 0 a++List.replicate 0 (Value.slice none 0 0)=subV vad vcap 0 a from dK _]
  refine U13 ?_
  exact ⟨[(1000001,11)],⟨[_],⟨O,trivial⟩,O⟩,V1,O,O⟩
 obtain ⟨f,hf⟩:=wg hlt
 have hSt:=Start_spec X aad acap a hac (i:Nat) V3 hA V3
 rw [startN_nat z5 hlt] at hSt
 obtain ⟨fb,fo,farr,fel,ffr,rfl,hFX,hFz,hFc,_,_,g2⟩:=hA.cells hf
 have hio:=wo fo i 3
 obtain ⟨hn1,hn8,hnc⟩:=sum_pos hoka hf
 have hst:=sum_take hf
 obtain ⟨u,hu⟩:∃ u,ns[0]? = some u:=wg V3
 obtain ⟨vb,vo,varr,vel,vfr,rfl,_⟩:=hN.rows 0 (nmV u) (by rw [dM,hu];rfl)
 have hadd1:IntKind.i64.wrap (((sumC (a.take i):Nat):Int)+f.count)=((sumC (a.take i)+f.n:Nat):Int):=by rw [cH V3];omega
 have hadd:=wi i V3
 have hil:(subV (some ⟨vb,vo,none⟩) vcap 0 (a.take i)).length=i:=by rw [subV_len,dA];omega
 have hix:0+Int.toNat (i:Int)*1=i:=by rw [dH];omega
 have hroom:i+1≤((subV (some ⟨vb,vo,none⟩) vcap 0 (a.take i)++List.replicate (a.length-i) (Value.slice none 0 0)).map CV.val).length:=by rw [cX,cW,hil,dF];omega
 have hspl:splice ((subV (some ⟨vb,vo,none⟩) vcap 0 (a.take i)++List.replicate (a.length-i) (Value.slice none 0 0)).map CV.val) i [.val (.slice (some ⟨vb,vo+sumC (a.take i)*3,none⟩) f.n (vcap-sumC (a.take i)))]=(subV (some ⟨vb,vo,none⟩) vcap 0 (a.take (i+1))++List.replicate (a.length-(i+1)) (Value.slice none 0 0)).map CV.val:=by
  unfold splice
  rw [show a.length-i=(a.length-(i+1))+1 by omega,List.replicate_succ,take_snoc hf,subV_snoc,Nat.zero_add]
  simp only [dI,dN]
  have hml:((subV (some ⟨vb,vo,none⟩) vcap 0 (a.take i)).map CV.val).length=i:=by rw [cX,hil]
  generalize (subV (some ⟨vb,vo,none⟩) vcap 0 (a.take i)).map CV.val=R at *
  rw [← hml,List.take_left,List.drop_length_add_append]
  simp [subA]
 (refine U34 ?_;refine K.cut2X (sz:=3) O O O cC V3 V3 (.inl V3) hvc O (Nat.add_sub_cancel_left ..) O dS ?_;refine U1 ?_;refine K.store O O O O V5 hroom hspl dS ?_;refine U5 ?_)
 exact ⟨_,_,by omega,Le.of V11 V13 V2 V2 V0,i+1,by omega,O,O⟩
end Go.Proofs.YtopiioklkkiedaaGreatDoor
end
section
set_option maxHeartbeats 12800000
set_option maxRecDepth 100000
namespace Go.Proofs.YtopiioklkkiedaaGreatDoor
open Go Go.Lg Go.Lg.Fml Go.Lg.Fld Go.Lg.Arith
set_option maxRecDepth 100000
variable (X:Nat→Option Obj)
set_option maxHeartbeats 25600000 in
theorem eVal' (a b:Cp) (r:Rl) (ns:List Nm) (aad bad ead vad:Option Addr) (acap bcap ecap vcap:Nat) (hA:FieldsIn X aad a.fs) (hac:a.fs.length≤acap) (hB:FieldsIn X bad b.fs) (hE:CodesIn X ead r.ex) (hN:NumsIn X vad ns) (hvc:ns.length≤vcap) (la:a.fs.length≤12) (lb:b.fs.length≤12) (lr:r.ex.length≤12∧∀ c∈r.ex,c.length≤80) (ln:ns.length<4611686018427387904):
  MSpec Tryz.prog X 12 [Cx a aad acap,Cx b bad bcap,LPg r.nw r.old ead r.ex.length ecap,Lx vad ns.length vcap] [] (evR (valE a.fs b.fs r ns) (valN a.fs b.fs r ns)) (evBx (valE a.fs b.fs r ns) (valN a.fs b.fs r ns)):=by
 have hC:=eCheck X a b r ns aad bad ead vad acap bcap ecap vcap hA hB hE hN V3 V3 (fun c hc=>by have:=lr.2 c hc;omega)
 refine cG Tryz.func12 rfl V5 rfl (by unfold evR evBx;split<;>rfl) (by unfold evBx;split<;>exact V0) rfl rfl ?_
 intro C
 by_cases z:ckV a.fs b.fs r ns=0
 case neg =>
  rw [valE_no z]
  unfold evR evBx
  rw [if_neg z,if_neg z]
  generalize ckV a.fs b.fs r ns=e at *
  (refine U21 ?_;refine kne rfl rfl (r:=true) (cU z) ?_;refine U9 ?_)
  exact V1C
 obtain ⟨z1,z2,z3,z4,z5⟩:=valE_go z
 rw [z] at hC
 rw [z5]
 unfold valN
 have hS:=eSplit X a.fs ns aad vad acap vcap hA hac hN hvc la ln z1
 have hEl:=Elems_spec X bad bcap b.fs hB V3
 have hel:=ruE_len z4 z3
 obtain ⟨z6,hns,_⟩:=fit_all z1
 obtain ⟨_,hoka,_⟩:=layErr_facts z6
 obtain ⟨_,hokb,_⟩:=layErr_facts z2
 have hE96:elemsN b.fs≤96:=by
  unfold elemsN
  rw [if_pos z2,elems_sum]
  have:=sum_le b.fs hokb
  omega
 have hmk:slcBuild Tryz.prog 28 (elemsN b.fs)=some ((List.replicate (elemsN b.fs) [Value.bool false,.int .u64 0,.int .u64 0]).flatten,3,86):=slcBuild_many (z := #[.bool false,.int .u64 0,.int .u64 0]) V5 V5 rfl V3
 (refine U30 ?_;refine bE [(1000001,501)] (.sv (.one (.slc 501 0 a.fs.length 1))) [(501,some ⟨28,(subV vad vcap 0 a.fs).map .val,false⟩)] (hS) O O VC O O O O O V18 dS ?_;refine U3 ?_)
 clear hC hS
 refine LWP.le (σ':=⟨[(11,.sv (.one (.slc 501 0 a.fs.length 1))),(5,Lp 5),(6,Lp 6)],[(501,some ⟨28,(subV vad vcap 0 a.fs).map .val,false⟩),cpB 5 b bad bcap,v3B 27 6 r.nw r.old ead r.ex.length ecap],X⟩) (Le.of V9 V9 V2 V2 V0) ?_
 refine LWP.freeze O O O fun fb0 fc fa0 ff0 hn0 _ hfc _ hsp => ?_
 have hXY:=cJ (o:=.cells fa0 28 ff0) hn0
 have hFs:=fss_block (cN X fb0 (.cells fa0 28 ff0)) hsp ⟨hN.rows.mono hXY,hN.in2⟩ hns
 have hf2:∀ l∈cutN a.fs ns,∀ u∈l,In2 u.2:=fun l hl u hu=>hN.in2 u (cut_mem hl u hu)
 have hrl:∀ l∈cutN a.fs ns,l.length<4611686018427387904:=fun l hl=>by
  obtain ⟨i,hi⟩:=List.mem_iff_getElem?.1 hl
  have hil:=(wl hi)
  rw [cutN_len] at hil
  rw [cut_at (cY hil)] at hi
  cases hi
  rw [dA,dC];omega
 replace hB:=hB.mono hXY
 replace hE:=hE.mono hXY
 replace hEl:=Elems_spec _ bad bcap b.fs hB V3
 have hfl:a.fs.length=(cutN a.fs ns).length:=cutN_len.symm
 have hcl12:(cutN a.fs ns).length≤12:=by rw [cutN_len];exact la
 clear hA hN hsp hn0 hXY
 generalize withBlock X fb0 (.cells fa0 28 ff0)=Y at *
 generalize (some ⟨fb0,0,none⟩:Option Addr)=fad at *
 rw [hfl]
 generalize cutN a.fs ns=G at *
 (refine U4 ?_;refine K.makeSlc0 (m:=elemsN b.fs) (bytes:=24) O O hmk V5 V3 O dS ?_;refine U11 ?_)
 clear hEl hmk
 refine cM (fun m σ=>∃ (i:Nat) (L:List Nm),i≤b.fs.length∧m=b.fs.length-i∧L=(stepsN (b.fs.take i) (r.ex.take i)).map (stepV G)∧seqE (stepE G) (stepsN (b.fs.take i) (r.ex.take i))=0∧σ=⟨[(6,Lp 6),(11,Lx fad G.length fc),(12,.sv (.one (.slc 500 0 L.length 3))),(35,Lx bad b.fs.length bcap),(36,Ln .i64 (b.fs.length:Nat)),(37,Ln .i64 (i:Nat))],[nmsB 500 (L) true,v3B 27 6 r.nw r.old ead r.ex.length ecap],Y⟩) b.fs.length
  (cE (σ':=⟨[(6,Lp 6),(11,Lx fad G.length fc),(12,.sv (.one (.slc 500 0 0 3))),(35,Lx bad b.fs.length bcap),(36,Ln .i64 (b.fs.length:Nat)),(37,Ln .i64 (0:Nat))],[nmsB 500 ([]) true,v3B 27 6 r.nw r.old ead r.ex.length ecap],Y⟩) (Le.ofR [(500,33)] V11 V1 V2 V2 V0 V2 V2) (cD ⟨0,[],by omega,by omega,rfl,rfl,rfl⟩)) ?_
 rintro m σ ⟨i,L,hi,rfl,hL,hpre,rfl⟩
 by_cases hlt:i<b.fs.length
 case neg =>
  have e:i=b.fs.length:=by omega
  subst e
  rw [dG,← hel,dG] at hL hpre
  rw [hpre]
  unfold evR evBx
  rw [if_pos rfl,if_pos rfl,← hL]
  refine U14 ?_
  exact ⟨[(1000001,500)],⟨[_,_],⟨O,O,trivial⟩,O⟩,V1,O,O⟩
 obtain ⟨f,hf⟩:=wg hlt
 obtain ⟨c,hc⟩:∃ c,r.ex[i]? = some c:=wg V3
 obtain ⟨fb,fo,farr,fel,ffr,rfl,hFX,hFz,hFc,_,_,_⟩:=hB.cells hf
 obtain ⟨eb,eo,earr,eel,efr,cad,ccap,rfl,hEX,hec,hI⟩:=hE.get hc
 have hio:=wo fo i 3
 have hio1:=wo eo i 1
 obtain ⟨hn1,hn8,hnc⟩:=sum_pos hokb hf
 have hadd:=wi i V3
 have hc80:=lr.2 c (dE hc)
 have hsl:(stepsN (b.fs.take i) (r.ex.take i)).length≤96:=by
  have h1:=steps_len (b:=b.fs.take i) (ex:=r.ex.take i) (by rw [dA,dA];omega)
  rw [h1,elems_sum]
  have h2:=sum_le (b.fs.take i) (Fld.take_ok hokb i)
  rw [dA] at h2
  omega
 refine U25 ?_
 refine cM (fun m σ=>∃ (k:Nat) (L:List Nm),k≤f.n∧m=f.n-k∧L=(stepsN (b.fs.take i) (r.ex.take i)++fldS f c k).map (stepV G)∧seqE (stepE G) (stepsN (b.fs.take i) (r.ex.take i)++fldS f c k)=0∧σ=⟨[(6,Lp 6),(11,Lx fad G.length fc),(12,.sv (.one (.slc 500 0 L.length 3))),(35,Lx (some ⟨fb,fo,none⟩) b.fs.length bcap),(36,Ln .i64 (b.fs.length:Nat)),(37,Ln .i64 (i:Nat)),(13,Ln .i64 (i:Nat)),(14,Lp 14),(43,Ln .i64 f.count),(44,Ln .i64 (k:Nat))],[nmsB 500 (L) true,v3B 27 6 r.nw r.old (some ⟨eb,eo,none⟩) r.ex.length ecap,flB 14 f],Y⟩) f.n
  (cE (σ':=⟨[(6,Lp 6),(11,Lx fad G.length fc),(12,.sv (.one (.slc 500 0 L.length 3))),(35,Lx (some ⟨fb,fo,none⟩) b.fs.length bcap),(36,Ln .i64 (b.fs.length:Nat)),(37,Ln .i64 (i:Nat)),(13,Ln .i64 (i:Nat)),(14,Lp 14),(43,Ln .i64 f.count),(44,Ln .i64 (0:Nat))],[nmsB 500 (L) true,v3B 27 6 r.nw r.old (some ⟨eb,eo,none⟩) r.ex.length ecap,flB 14 f],Y⟩) (Le.ofR [(500,500)] V24 V1 V2 V2 V0 V2 V2) (cD ⟨0,L,by omega,by omega,by rw [fldS_zero,dK];exact hL,by rw [fldS_zero,dK];exact hpre,rfl⟩)) ?_
 clear hpre hL
 clear L
 rintro m σ ⟨k,L,hk,rfl,hL,hpre,rfl⟩
 have hLl:L.length≤104:=by rw [hL,cX,cW,fldS_len];omega
 by_cases hkl:k<f.n
 case neg =>
  have e:k=f.n:=by omega
  subst e
  refine U11 ?_
  exact cE (σ':=⟨[(6,Lp 6),(11,Lx fad G.length fc),(12,.sv (.one (.slc 500 0 L.length 3))),(35,Lx (some ⟨fb,fo,none⟩) b.fs.length bcap),(36,Ln .i64 (b.fs.length:Nat)),(37,Ln .i64 (i+1:Nat))],[nmsB 500 (L) true,v3B 27 6 r.nw r.old (some ⟨eb,eo,none⟩) r.ex.length ecap],Y⟩) (Le.ofR [(500,500)] V11 V1 V2 V2 V0 V2 V2) (cD ⟨b.fs.length-(i+1),by omega,i+1,L,by omega,rfl,by rw [steps_snoc hf hc];exact hL,by rw [steps_snoc hf hc];exact hpre,rfl⟩)
 obtain ⟨post,hpost⟩:=steps_at hf hc hkl
 have hEm:=eElem Y f c G cad fad ccap fc (k:Nat) hI V3 hFs V3 hrl hf2 V3
 have haddk:=wi k V3
 cases hev:elX f.kind c G (k:Nat) with
 | error e =>
  obtain ⟨hne,hse⟩:=elX_err hev
  rw [seqE_hit hpost hpre (by rw [hse];exact hne),hse]
  unfold evR evBx
  rw [if_neg hne,if_neg hne]
  rw [hev] at hEm
  (refine U15 ?_;refine rgD mixed ?_;refine U22 ?_;refine kne rfl rfl (r:=true) (cU hne) ?_;refine U9 ?_)
  exact V1C
 | ok v =>
 obtain ⟨hse,hsv⟩:=elX_ok hev
 rw [hev] at hEm
 have hcl:=nmsV_len L
 have hnc2:=nmsV_snoc L v
 have hL2:L++[v]=(stepsN (b.fs.take i) (r.ex.take i)++fldS f c (k+1)).map (stepV G):=by
  rw [fldS_succ,← dN,dI,← hL,List.map_cons,List.map_nil,hsv]
 have hpre2:seqE (stepE G) (stepsN (b.fs.take i) (r.ex.take i)++fldS f c (k+1))=0:=by
  rw [fldS_succ,← dN];exact seqE_snoc hpre hse
 have hnl:L.length+1=(L++[v]).length:=by rw [cW];rfl
 (refine U15 ?_;refine rgD mixed ?_;refine U29 ?_;refine aZ (zs:=[.bool false,.int .u64 0,.int .u64 0]) (sz:=3) (e:=86) (cs':=cI v.1 v.2) V5 O O O O O O dS<|bQ (by_:=24) (e2:=86) (l2:=cI v.1 v.2) (nl:=(L++[v]).length) (nc:=(nmsV (L++[v])).map .val) O O hcl O O (dO _) O O V5 V5 V3 V3 O hnl hnc2 dS ?_;refine U6 ?_)
 exact cE (σ':=⟨[(6,Lp 6),(11,Lx fad G.length fc),(12,.sv (.one (.slc 500 0 (L++[v]).length 3))),(35,Lx (some ⟨fb,fo,none⟩) b.fs.length bcap),(36,Ln .i64 (b.fs.length:Nat)),(37,Ln .i64 (i:Nat)),(13,Ln .i64 (i:Nat)),(14,Lp 14),(43,Ln .i64 f.count),(44,Ln .i64 (k+1:Nat))],[nmsB 500 (L++[v]) true,v3B 27 6 r.nw r.old (some ⟨eb,eo,none⟩) r.ex.length ecap,flB 14 f],Y⟩) (Le.ofR [(500,66)] V24 V1 V2 V2 V0 V2 V2) (cD ⟨f.n-(k+1),by omega,k+1,L++[v],by omega,O,hL2,hpre2,O⟩)
end Go.Proofs.YtopiioklkkiedaaGreatDoor
end
section
set_option maxHeartbeats 12800000
set_option maxRecDepth 100000
namespace Go.Proofs.YtopiioklkkiedaaGreatDoor
open Go Go.Lg Go.Lg.Fml Go.Lg.Fld Go.Lg.Arith
set_option maxRecDepth 100000
variable (X:Nat→Option Obj)
theorem eVal_nil' (a b:Cp) (r:Rl) (ns:List Nm) (aad bad ead vad:Option Addr) (acap bcap ecap vcap:Nat) (hA:FieldsIn X aad a.fs) (hac:a.fs.length≤acap) (hB:FieldsIn X bad b.fs) (hE:CodesIn X ead r.ex) (hN:NumsIn X vad ns) (hvc:ns.length≤vcap) (la:a.fs.length≤12) (lb:b.fs.length≤12) (lr:r.ex.length≤12∧∀ c∈r.ex,c.length≤80) (ln:ns.length<4611686018427387904) (h:valE a.fs b.fs r ns≠0):
  MSpec Tryz.prog X 12 [Cx a aad acap,Cx b bad bcap,LPg r.nw r.old ead r.ex.length ecap,Lx vad ns.length vcap] [] (.tup [.one (.val (.slice none 0 0)),Sn .i64 (valE a.fs b.fs r ns)]) []:=by
 have:=eVal' X a b r ns aad bad ead vad acap bcap ecap vcap hA hac hB hE hN hvc la lb lr ln
 unfold evR evBx at this
 rw [if_neg h,if_neg h] at this
 exact this
theorem eVal_box' (a b:Cp) (r:Rl) (ns:List Nm) (aad bad ead vad:Option Addr) (acap bcap ecap vcap:Nat) (hA:FieldsIn X aad a.fs) (hac:a.fs.length≤acap) (hB:FieldsIn X bad b.fs) (hE:CodesIn X ead r.ex) (hN:NumsIn X vad ns) (hvc:ns.length≤vcap) (la:a.fs.length≤12) (lb:b.fs.length≤12) (lr:r.ex.length≤12∧∀ c∈r.ex,c.length≤80) (ln:ns.length<4611686018427387904) (h:valE a.fs b.fs r ns=0):
  MSpec Tryz.prog X 12 [Cx a aad acap,Cx b bad bcap,LPg r.nw r.old ead r.ex.length ecap,Lx vad ns.length vcap] [] (.tup [.one (.slc 1000001 0 (valN a.fs b.fs r ns).length 3),Sn .i64 0]) [nmsB 1000001 (valN a.fs b.fs r ns) true]:=by
 have:=eVal' X a b r ns aad bad ead vad acap bcap ecap vcap hA hac hB hE hN hvc la lb lr ln
 unfold evR evBx at this
 rw [if_pos h,if_pos h] at this
 exact this
set_option maxHeartbeats 6400000 in
theorem eRow' (a b:Cp) (r:Rl) (s:List UInt8) (aad bad ead:Option Addr) (acap bcap ecap:Nat) (hA:FieldsIn X aad a.fs) (hac:a.fs.length≤acap) (hB:FieldsIn X bad b.fs) (hE:CodesIn X ead r.ex) (la:a.fs.length≤12) (lb:b.fs.length≤12) (lr:r.ex.length≤12∧∀ c∈r.ex,c.length≤80):
  PSpec Tryz.prog X 15 [Cx a aad acap,Cx b bad bcap,LPg r.nw r.old ead r.ex.length ecap,Ls s] (.tup [Ss (rowN a.fs b.fs r s),Sn .i64 (rowE a.fs b.fs r s)]):=by
 refine cF Tryz.func15 rfl V5 rfl rfl ?_
 intro C
 by_cases hu:unpErr a.fs s=0
 case neg =>
  have e1:rowE a.fs b.fs r s=unpErr a.fs s:=if_neg hu
  rw [show rowN a.fs b.fs r s=[] from if_neg (by rw [e1];exact hu),e1]
  have hU:=lUnpack_err X aad acap a.fs s hA V3 hu
  generalize unpErr a.fs s=e at *
  (refine U24 ?_;refine kne rfl rfl (r:=true) (cU hu) ?_;refine U9 ?_)
  exact V1E
 have e1:rowE a.fs b.fs r s=valE a.fs b.fs r ((unpZ a.fs s).map qn):=if_pos hu
 have e2:rowN a.fs b.fs r s=if rowE a.fs b.fs r s=0 then packB b.fs (valN a.fs b.fs r ((unpZ a.fs s).map qn)) else []:=rfl
 rw [e1] at e2 ⊢
 have hU:=lUnpack_ok X aad acap a.fs s hA V3 hu
 have hRz:=unp_R hu
 have hl64:=unpZ_len hu
 (refine U13 ?_;refine bE [(1000001,501)] (.tup [.one (.slc 501 0 (unpZ a.fs s).length 3),Sn .i64 0]) [(501,some ⟨86,(nsV (unpZ a.fs s)).map .val,false⟩)] (hU) O O VC O O O O O V18 dS ?_;refine U15 ?_)
 refine LWP.le (σ':=⟨[(10,.sv (.one (.slc 501 0 (unpZ a.fs s).length 3))),(4,Lp 4),(5,Lp 5),(6,Lp 6)],[(501,some ⟨86,(nsV (unpZ a.fs s)).map .val,false⟩),v3B 27 6 r.nw r.old ead r.ex.length ecap,cpB 5 b bad bcap,cpB 4 a aad acap],X⟩) (Le.of V8 V8 V2 V2 V0) ?_
 refine LWP.freeze O O O fun blk zc arr fr hn _ hzc _ hsp => ?_
 have hN:=nums_in (cN X blk (.cells arr 86 fr)) hRz hsp
 have hZ:=cJ (o:=.cells arr 86 fr) hn
 replace hA:=hA.mono hZ
 replace hB:=hB.mono hZ
 replace hE:=hE.mono hZ
 clear hsp hn hZ hU
 generalize withBlock X blk (.cells arr 86 fr)=Z at *
 generalize (some ⟨blk,0,none⟩:Option Addr)=zad at *
 have htwo:∀ u∈(valN a.fs b.fs r ((unpZ a.fs s).map qn)),In2 u.2:=valN_two (fun q hq y hy=>by
  obtain ⟨w,hw⟩:=List.mem_iff_getElem?.1 hq
  obtain ⟨_,_,_,_,_,_,_,_,_,_,hI⟩:=hE.get hw
  exact (hI.small y hy).2.2.2) hN.in2 (fun f hf=>(hB.small f hf).2.2)
 by_cases h0:valE a.fs b.fs r ((unpZ a.fs s).map qn)=0
 case neg =>
  have hV:=eVal_nil' Z a b r ((unpZ a.fs s).map qn) aad bad ead zad acap bcap ecap zc hA hac hB hE hN (by rw [cX];exact hzc) la lb lr V29 h0
  rw [cX] at hV
  rw [if_neg h0] at e2
  rw [e2]
  generalize valE a.fs b.fs r ((unpZ a.fs s).map qn)=e at *
  (refine U5 ?_;refine aU [] [] (hV) O O VC O O O O O V2B dS ?_;refine U10 ?_;refine kne O O (r:=true) (cU h0) ?_;refine U9 ?_)
  exact V1E
 have hV:=eVal_box' Z a b r ((unpZ a.fs s).map qn) aad bad ead zad acap bcap ecap zc hA hac hB hE hN (by rw [cX];exact hzc) la lb lr V29 h0
 have hfit:=valN_fit h0
 obtain ⟨hfl,hfn,_⟩:=fit_all hfit
 have hLn:(valN a.fs b.fs r ((unpZ a.fs s).map qn)).length<4611686018427387904:=by
  have:=sum_le b.fs (layErr_facts hfl).2.1
  omega
 rw [cX] at hV
 rw [if_pos h0] at e2
 rw [e2,h0]
 clear e1 e2
 generalize valN a.fs b.fs r ((unpZ a.fs s).map qn)=L at *
 (refine U5 ?_;refine bE [(1000001,701)] (.tup [.one (.slc 701 0 L.length 3),Sn .i64 0]) [nmsB 701 L true] (hV) O O VC O O O O O V18 dS ?_;refine U15 ?_)
 refine LWP.le (σ':=⟨[(12,.sv (.one (.slc 701 0 L.length 3))),(5,Lp 5)],[nmsB 701 L true,cpB 5 b bad bcap],Z⟩) (Le.of VE VE V2 V2 V0) ?_
 refine LWP.freeze O O O fun b2 c2 arr2 fr2 hn2 _ _ _ hsp2 => ?_
 have hP:=lPack_spec (withBlock Z b2 (.cells arr2 86 fr2)) bad (some ⟨b2,0,none⟩) bcap c2 b.fs L (hB.mono (cJ hn2)) V3 (nms_in (cN _ _ _) htwo hsp2) hLn
 rw [hfit,show packR b.fs L=packB b.fs L from if_pos hfit] at hP
 generalize packB b.fs L=B at *
 refine U11 ?_
 exact V1E
end Go.Proofs.YtopiioklkkiedaaGreatDoor
end
section
set_option maxHeartbeats 12800000
set_option maxRecDepth 100000
namespace Go.Proofs.YtopiioklkkiedaaGreatDoor
open Go Go.Lg Go.Lg.Fml Go.Lg.Fld Go.Lg.Arith
set_option maxRecDepth 100000
theorem part_cases (ps:List Pt) (id:Int):(∃ (i:Nat) (x:Pt),ps[i]? = some x∧x.comp=id∧∀ (j:Nat) (y:Pt),j<i→ps[j]? = some y→(y.comp==id)=false)∨∀ (j:Nat) (y:Pt),ps[j]? = some y→(y.comp==id)=false:=by
 cases hf:ps.findIdx? (fun c=>c.comp==id) with
 | some i =>
  obtain ⟨hi,h1,h2⟩:=List.findIdx?_eq_some_iff_getElem.1 hf
  refine .inl ⟨i,ps[i],cY hi,beq_iff_eq.1 h1,fun j y hj hy => ?_⟩
  obtain ⟨hjl,rfl⟩:=List.getElem?_eq_some_iff.1 hy
  simpa using h2 j hj
 | none =>
  refine .inr fun j y hy => ?_
  simpa using List.findIdx?_eq_none_iff.1 hf y (dE hy)
variable (X:Nat→Option Obj)
set_option maxHeartbeats 25600000 in
theorem eParts' (a b:Sc) (p:Pg) (ps:List Pt) (ad1 ad2 ad pad:Option Addr) (cap1 cap2 cap pcap:Nat) (ha:CompsIn X ad1 a.cs) (hb:CompsIn X ad2 b.cs) (hp:RulesIn X ad p.rs) (hP:PartsC X pad ps) (na:NamesIn a.cs) (nb:NamesIn b.cs) (sa:scOk a.cs) (sb:scOk b.cs) (sp:p.rs.length≤30∧∀ r∈p.rs,r.ex.length≤12∧∀ c∈r.ex,c.length≤80) (sl:ps.length≤12∧∀ x∈ps,x.val.length<4611686018427387904):
  MSpec Tryz.prog X 18 [Sx a.ver ad1 a.cs.length cap1,Sx b.ver ad2 b.cs.length cap2,LPg p.va p.vb ad p.rs.length cap,Lx pad ps.length pcap] [] (pR14 (psE a b p ps) (psV a b p ps)) (pBx14 (psE a b p ps) (psV a b p ps)):=by
 have hC:=cCheck X a b p ad1 ad2 ad cap1 cap2 cap ha hb hp na nb sa sb sp
 obtain ⟨sa1,sa2⟩:=sa
 obtain ⟨sb1,sb2⟩:=sb
 obtain ⟨sl1,sl2⟩:=sl
 have sp1:=sp.1
 have hS:=fun e he=>pPartsBig X a.ver ad1 pad cap1 pcap a.cs ps ha V3 (fun c hc=>by have:=sa2 c hc;omega) hP.parts V3 e he
 refine cG Tryz.func18 rfl V5 rfl (by unfold pR14 pBx14;split<;>rfl) (by unfold pBx14;split<;>exact V0) rfl rfl ?_
 intro C
 refine LWP.ends ?_
 by_cases z1:ckE a b p=0
 case neg =>
  rw [show psE a b p ps=ckE a b p by unfold psE;rw [if_neg z1]]
  unfold pR14 pBx14
  rw [if_neg z1,if_neg z1]
  generalize ckE a b p=e at *
  (refine U20 ?_;refine kne rfl rfl (r:=true) (cU z1) ?_;refine U9 ?_)
  exact cD ⟨[],⟨[_,_],⟨O,O,trivial⟩,O⟩,trivial,O,O⟩
 rw [z1] at hC
 by_cases z2:partsE a.cs ps=0
 case neg =>
  replace hS:=hS _ rfl
  rw [show psE a b p ps=partsE a.cs ps by unfold psE;rw [if_pos z1,if_neg z2]]
  unfold pR14 pBx14
  rw [if_neg z2,if_neg z2]
  generalize partsE a.cs ps=e at *
  (refine U35 ?_;refine kne rfl rfl (r:=true) (cU z2) ?_;refine U9 ?_)
  exact cD ⟨[],⟨[_,_],⟨O,O,trivial⟩,O⟩,trivial,O,O⟩
 replace hS:=hS 0 z2
 obtain ⟨_,_,_,hl,_⟩:=ckE_facts z1
 obtain ⟨hpw,hfacts⟩:=prt_facts z2
 rw [show psE a b p ps=seqE (pqE a) (prS p.rs b.cs ps) by unfold psE;rw [if_pos z1,if_pos z2]]
 unfold psV
 have hsmP:∀ x∈(prS p.rs b.cs ps).map (prV a),smallP x:=fun x hx=>by
  obtain ⟨q,hq,rfl⟩:=List.mem_map.1 hx
  exact (hp.small q.1 (List.of_mem_zip (mem_prS.1 hq).1).1).1
 (refine U41 ?_;refine aZ (zs:=[]) (sz:=2) (e:=59) V5 O O O O O O dS ?_;refine U11 ?_)
 clear hC hS
 refine cM (fun m σ=>∃ (i:Nat) (L:List Pt) (ws:List Value) (H:Nat→Option Obj),i≤p.rs.length∧m=p.rs.length-i∧OwnedM C X H∧PartsH H ws L∧L=(prS (p.rs.take i) (b.cs.take i) ps).map (prV a)∧seqE (pqE a) (prS (p.rs.take i) (b.cs.take i) ps)=0∧σ=⟨[(3,Lx pad ps.length pcap),(4,Lp 4),(5,Lp 5),(12,.sv (.one (.slc 500 0 (L).length 2))),(38,Lx ad p.rs.length cap),(39,Ln .i64 (p.rs.length:Nat)),(40,Ln .i64 (i:Nat))],[(500,some ⟨59,(ptZ (L) (ws)).map .val,(Nat.blt 0 (L).length)⟩),sxB 5 b.ver ad2 b.cs.length cap2,sxB 4 a.ver ad1 a.cs.length cap1],joinM X H⟩) p.rs.length
  (cE (σ':=⟨[(3,Lx pad ps.length pcap),(4,Lp 4),(5,Lp 5),(12,.sv (.one (.slc 500 0 ([]).length 2))),(38,Lx ad p.rs.length cap),(39,Ln .i64 (p.rs.length:Nat)),(40,Ln .i64 (0:Nat))],[(500,some ⟨59,(ptZ ([]) ([])).map .val,false⟩),sxB 5 b.ver ad2 b.cs.length cap2,sxB 4 a.ver ad1 a.cs.length cap1],X⟩) (Le.ofR [(500,36)] V14 V1 V2 V2 V0 V2 V2) (cD ⟨0,[],[],fun _=>none,by omega,by omega,OwnedM.nil C X,PartsH.nil,rfl,rfl,by rw [joinM_nil];rfl⟩)) ?_
 rintro m σ ⟨i,L,ws,H,hi,rfl,hO,G,hL,hpre,rfl⟩
 by_cases hlt:i<p.rs.length
 case neg =>
  have e:i=p.rs.length:=by omega
  subst e
  rw [dG,hl,dG] at hL hpre
  rw [hpre]
  unfold pR14 pBx14
  rw [if_pos rfl,if_pos rfl,← hL]
  rw [← hL] at hsmP
  refine U14 ?_
  refine cE (σ':=⟨[(8,.sv (.one (.slc 500 0 L.length 2))),(9,Ln .i64 0)],[(500,some ⟨59,(ptZ L ws).map .val,Nat.blt 0 L.length⟩)],joinM X H⟩) (Le.ofR [(500,500)] VE V1 V2 V2 V0 V2 V2) ?_
  refine cE Le.loose ?_
  refine Leads.spare fun sp=>prt_shut hO G hsmP (cD ?_)
  exact ⟨[(1000001,500)],⟨[_,_],⟨O,O,trivial⟩,O⟩,V1,O,O⟩
 obtain ⟨r,hr⟩:=wg hlt
 obtain ⟨c,hc⟩:∃ c,b.cs[i]? = some c:=wg V3
 obtain ⟨rb,ro,rarr,rel,rfr,ead,ecap,rfl,hRX,hRz,hRc,_,_,_,hRE⟩:=hp.get hr
 have hior:=wo ro i 3
 have hadd:=wi i V3
 have hRJ:=joinM_has hO hRX
 have hPm:PartsC (joinM X H) pad ps:=hP.mono fun _ _ h=>joinM_has hO h
 have hps:=prS_snoc (ps:=ps) hr hc
 rcases part_cases ps r.old with ⟨j,x,hx,hm,hprx⟩|hno
 case inr =>
  rw [partsOf_none hno,dK] at hps
  have hFi:=efind_no (joinM X H) pad pcap ps r.old hPm V3 hno
  refine U41 ?_
  exact cE (σ':=⟨[(3,Lx pad ps.length pcap),(4,Lp 4),(5,Lp 5),(12,.sv (.one (.slc 500 0 (L).length 2))),(38,Lx (some ⟨rb,ro,none⟩) p.rs.length cap),(39,Ln .i64 (p.rs.length:Nat)),(40,Ln .i64 (i+1:Nat))],[(500,some ⟨59,(ptZ (L) (ws)).map .val,(Nat.blt 0 (L).length)⟩),sxB 5 b.ver ad2 b.cs.length cap2,sxB 4 a.ver ad1 a.cs.length cap1],joinM X H⟩) (Le.ofR [(500,500)] V14 V1 V2 V2 V0 V2 V2) (cD ⟨p.rs.length-(i+1),by omega,i+1,L,ws,H,by omega,rfl,hO,G,by rw [hps];exact hL,by rw [hps];exact hpre,rfl⟩)
 rw [partsOf_one hpw hx hm] at hps
 obtain ⟨post,hpost⟩:∃ post,prS p.rs b.cs ps=prS (p.rs.take i) (b.cs.take i) ps++(r,c,x)::post:=by
  obtain ⟨post,h⟩:=prS_split (ps:=ps) hr hc
  rw [partsOf_one hpw hx hm] at h
  exact ⟨post,h⟩
 have hxm:=dE hx
 obtain ⟨pb,po,parr,pel,pfr,xad,xcap,rfl,hPX,hPz,hPc,_,_,hN,hNc⟩:=hP.get hx
 have hPJ:=joinM_has hO hPX
 have hFi:=efind_yes (joinM X H) _ pcap ps r.old hPm V3 hprx hx hm rfl hPJ hPz hPc
 obtain ⟨d,hd,_⟩:=hfacts x hxm
 have hfo:findC a.cs r.old=some d:=by rw [← hm];exact hd
 obtain ⟨k1,hk1,hid1,hpr1⟩:=findC_at hfo
 obtain ⟨k2,hk2,hid2,hpr2⟩:=findC_at (find_made z1 hr hc)
 obtain ⟨_,_,_,_,_,_,_,_,_,_,_,_,_,_,hdF⟩:=ha.get hk1
 obtain ⟨_,_,_,_,_,_,_,_,_,_,_,_,_,_,hcF⟩:=hb.get hk2
 have hdl:=sa2 d (dE hk1)
 have hcl:=sb2 c (dE hk2)
 refine U38 ?_
 refine LWP.le (σ':=⟨[(14,Lp 14),(15,Lp 15),(3,Lx (some ⟨pb,po,none⟩) ps.length pcap),(4,Lp 4),(5,Lp 5),(12,.sv (.one (.slc 500 0 (L).length 2))),(38,Lx (some ⟨rb,ro,none⟩) p.rs.length cap),(39,Ln .i64 (p.rs.length:Nat)),(40,Ln .i64 (i:Nat))],[v3B 27 14 r.nw r.old ead r.ex.length ecap,(15,some ⟨59,[.val (.int .i64 x.comp),.val (.slice xad x.val.length xcap)],false⟩),(500,some ⟨59,(ptZ (L) (ws)).map .val,(Nat.blt 0 (L).length)⟩),sxB 5 b.ver ad2 b.cs.length cap2,sxB 4 a.ver ad1 a.cs.length cap1],joinM X H⟩) (Le.of V1B V10 V2 V2 V0) ?_
 repeat refine aA ?_
 refine LWP.meetL (fun σ=>∃ (Y:Nat→Option Obj) (w:Cp) (fad:Option Addr) (fcap:Nat),(∀ b o,joinM X H b=some o→Y b=some o)∧w.fs=d.fs∧w.fs.length≤fcap∧FieldsIn Y fad w.fs∧σ=⟨[(17,Lp 17),(14,Lp 14),(15,Lp 15),(3,Lx (some ⟨pb,po,none⟩) ps.length pcap),(4,Lp 4),(5,Lp 5),(12,.sv (.one (.slc 500 0 (L).length 2))),(38,Lx (some ⟨rb,ro,none⟩) p.rs.length cap),(39,Ln .i64 (p.rs.length:Nat)),(40,Ln .i64 (i:Nat))],[cpB 17 w fad fcap,v3B 27 14 r.nw r.old ead r.ex.length ecap,(15,some ⟨59,[.val (.int .i64 x.comp),.val (.slice xad x.val.length xcap)],false⟩),(500,some ⟨59,(ptZ (L) (ws)).map .val,(Nat.blt 0 (L).length)⟩),sxB 5 b.ver ad2 b.cs.length cap2,sxB 4 a.ver ad1 a.cs.length cap1],Y⟩) ?_ ?_
 ·rcases pFind (joinM X H) a.ver ad1 cap1 a.cs r.old (ha.mono fun _ _ h=>joinM_has hO h) V3 (fun c hc=>by have:=sa2 c hc;omega) hpr1 hk1 hid1 with ⟨h0,hf⟩|hf
  ·have hl:d.fs.length=0:=by rw [h0];rfl
   refine U12 ?_
   exact Leads.here (Le.of V24 V11 V2 V2 V0) ⟨joinM X H,d,none,0,fun _ _ h=>h,O,by omega,fields_none h0,O⟩
  ·(refine U4 ?_;refine bE [(1000001,601)] (.tup [SCs d 601,Sb true]) [fdB 601 d.fs] (hf) O O VC O O O O O V18 dS ?_;refine U7 ?_)
   refine cE (σ':=⟨[(17,Lp 17),(14,Lp 14),(15,Lp 15),(3,Lx (some ⟨pb,po,none⟩) ps.length pcap),(4,Lp 4),(5,Lp 5),(12,.sv (.one (.slc 500 0 (L).length 2))),(38,Lx (some ⟨rb,ro,none⟩) p.rs.length cap),(39,Ln .i64 (p.rs.length:Nat)),(40,Ln .i64 (i:Nat))],[(17,some ⟨24,[.val (.int .i64 d.id),.val (.string ⟨d.nm.toArray⟩)] ++ .slc 601 0 d.fs.length 3::[],false⟩),fdB 601 d.fs,v3B 27 14 r.nw r.old ead r.ex.length ecap,(15,some ⟨59,[.val (.int .i64 x.comp),.val (.slice xad x.val.length xcap)],false⟩),(500,some ⟨59,(ptZ (L) (ws)).map .val,(Nat.blt 0 (L).length)⟩),sxB 5 b.ver ad2 b.cs.length cap2,sxB 4 a.ver ad1 a.cs.length cap1],joinM X H⟩) (Le.of V24 V14 V2 V2 V0) ?_
   refine Leads.freezeCell O O O V1F O O fun blk cp arr fr hn _ hcp _ hsp => ?_
   obtain ⟨sp',hsp⟩:=hsp
   exact cE (Le.of V24 V11 V2 V2 V0) (cD ⟨_,d,some ⟨blk,0,none⟩,cp,cJ hn,O,hcp,fields_block (cN _ _ _) hsp hdF.small,O⟩)
 rintro σ ⟨Y,u,wad,wcap,hY,huf,hul,huF,rfl⟩
 repeat refine aA ?_
 refine LWP.meetL (fun σ=>∃ (Z:Nat→Option Obj) (w:Cp) (fad:Option Addr) (fcap:Nat),(∀ b o,Y b=some o→Z b=some o)∧w.fs=c.fs∧w.fs.length≤fcap∧FieldsIn Z fad w.fs∧σ=⟨[(17,Lp 17),(19,Lp 19),(14,Lp 14),(15,Lp 15),(3,Lx (some ⟨pb,po,none⟩) ps.length pcap),(4,Lp 4),(5,Lp 5),(12,.sv (.one (.slc 500 0 (L).length 2))),(38,Lx (some ⟨rb,ro,none⟩) p.rs.length cap),(39,Ln .i64 (p.rs.length:Nat)),(40,Ln .i64 (i:Nat))],[cpB 19 w fad fcap,cpB 17 u wad wcap,v3B 27 14 r.nw r.old ead r.ex.length ecap,(15,some ⟨59,[.val (.int .i64 x.comp),.val (.slice xad x.val.length xcap)],false⟩),(500,some ⟨59,(ptZ (L) (ws)).map .val,(Nat.blt 0 (L).length)⟩),sxB 5 b.ver ad2 b.cs.length cap2,sxB 4 a.ver ad1 a.cs.length cap1],Z⟩) ?_ ?_
 ·rcases pFind (Y) b.ver ad2 cap2 b.cs r.nw (hb.mono fun _ _ h=>hY _ _ (joinM_has hO h)) V3 (fun c hc=>by have:=sb2 c hc;omega) hpr2 hk2 hid2 with ⟨h0,hf⟩|hf
  ·have hl:c.fs.length=0:=by rw [h0];rfl
   refine U12 ?_
   exact Leads.here (Le.of (by exact ⟨O,O,O,O,O,O,O,O,O,O,O,trivial⟩) V14 V2 V2 V0) ⟨Y,c,none,0,fun _ _ h=>h,O,by omega,fields_none h0,O⟩
  ·(refine U4 ?_;refine bE [(1000001,601)] (.tup [SCs c 601,Sb true]) [fdB 601 c.fs] (hf) O O VC O O O O O V18 dS ?_;refine U7 ?_)
   refine cE (σ':=⟨[(17,Lp 17),(19,Lp 19),(14,Lp 14),(15,Lp 15),(3,Lx (some ⟨pb,po,none⟩) ps.length pcap),(4,Lp 4),(5,Lp 5),(12,.sv (.one (.slc 500 0 (L).length 2))),(38,Lx (some ⟨rb,ro,none⟩) p.rs.length cap),(39,Ln .i64 (p.rs.length:Nat)),(40,Ln .i64 (i:Nat))],[(19,some ⟨24,[.val (.int .i64 c.id),.val (.string ⟨c.nm.toArray⟩)] ++ .slc 601 0 c.fs.length 3::[],false⟩),fdB 601 c.fs,cpB 17 u wad wcap,v3B 27 14 r.nw r.old ead r.ex.length ecap,(15,some ⟨59,[.val (.int .i64 x.comp),.val (.slice xad x.val.length xcap)],false⟩),(500,some ⟨59,(ptZ (L) (ws)).map .val,(Nat.blt 0 (L).length)⟩),sxB 5 b.ver ad2 b.cs.length cap2,sxB 4 a.ver ad1 a.cs.length cap1],Y⟩) (Le.of (by exact ⟨O,O,O,O,O,O,O,O,O,O,O,trivial⟩) V15 V2 V2 V0) ?_
   refine Leads.freezeCell O O O V1F O O fun blk cp arr fr hn _ hcp _ hsp => ?_
   obtain ⟨sp',hsp⟩:=hsp
   exact cE (Le.of (by exact ⟨O,O,O,O,O,O,O,O,O,O,O,trivial⟩) V14 V2 V2 V0) (cD ⟨_,c,some ⟨blk,0,none⟩,cp,cJ hn,O,hcp,fields_block (cN _ _ _) hsp hcF.small,O⟩)
 rintro σ ⟨Z,w,fad,fcap,hZ,hwf,hwl,hwF,rfl⟩
 have hXZ:∀ b o,X b=some o→Z b=some o:=fun b o h=>hZ b o (hY b o (joinM_has hO h))
 have hJZ:∀ b o,joinM X H b=some o→Z b=some o:=fun b o h=>hZ b o (hY b o h)
 have hrl:=sp.2 r (dE hr)
 have hUF:FieldsIn Z wad u.fs:=huF.mono hZ
 have hNZ:NumsIn Z xad x.val:=⟨hN.rows.mono hXZ,hN.in2⟩
 have hREZ:=hRE.mono hXZ
 have hfl:flC a x.comp=d.fs:=by unfold flC;rw [show findC a.cs x.comp=some d from hd]
 have hqE:pqE a (r,c,x)=valE u.fs w.fs r x.val:=by show valE (flC a x.comp) c.fs r x.val=_;rw [hfl,huf,hwf]
 have hqV:prV a (r,c,x)=⟨r.nw,valN u.fs w.fs r x.val⟩:=by show (⟨r.nw,valN (flC a x.comp) c.fs r x.val⟩:Pt)=_;rw [hfl,huf,hwf]
 have hv2:∀ y∈valN u.fs w.fs r x.val,In2 y.2:=valN_two (fun q hq y hy=>by
  obtain ⟨g,hg⟩:=List.mem_iff_getElem?.1 hq
  obtain ⟨_,_,_,_,_,_,_,_,_,_,hI⟩:=hREZ.get hg
  exact (hI.small y hy).2.2.2) hNZ.in2 (fun f hf=>(hwF.small f hf).2.2)
 have hu12:u.fs.length≤12:=by rw [huf];exact hdl
 have hw12:w.fs.length≤12:=by rw [hwf];exact hcl
 by_cases he:valE u.fs w.fs r x.val=0
 case neg =>
  have hV:=eVal_nil' Z u w r x.val wad fad ead xad wcap fcap ecap xcap hUF hul hwF hREZ hNZ hNc hu12 hw12 hrl (sl2 x hxm) he
  rw [seqE_hit hpost hpre (by rw [hqE];exact he),hqE]
  unfold pR14 pBx14
  rw [if_neg he,if_neg he]
  generalize valE u.fs w.fs r x.val=e at *
  (refine U7 ?_;refine aU [] [] (hV) O O VC O O O O O V2B dS ?_;refine U10 ?_;refine kne O O (r:=true) (cU he) ?_;refine U9 ?_)
  exact cD ⟨[],⟨[_,_],⟨O,O,trivial⟩,O⟩,trivial,O,O⟩
 have hV:=eVal_box' Z u w r x.val wad fad ead xad wcap fcap ecap xcap hUF hul hwF hREZ hNZ hNc hu12 hw12 hrl (sl2 x hxm) he
 have hpre2:seqE (pqE a) (prS (p.rs.take (i+1)) (b.cs.take (i+1)) ps)=0:=by
  rw [hps];exact seqE_snoc hpre (hqE.trans he)
 have hL2:L++[⟨r.nw,valN u.fs w.fs r x.val⟩]=(prS (p.rs.take (i+1)) (b.cs.take (i+1)) ps).map (prV a):=by
  rw [hps,dI,← hL,List.map_cons,List.map_nil,hqV]
 generalize valN u.fs w.fs r x.val=N at *
 have hlen:=G.len
 have hLl:L.length≤1000:=by
  rw [hL,cX]
  have h2:=(prS_sub (cs:=b.cs.take i) (rs:=p.rs.take i) hpw).length_le
  rw [cX,dA] at h2
  omega
 have hcl2:((ptZ L ws).map CV.val).length=L.length*2:=by rw [cX,ptZ_len hlen]
 have hnl:L.length+1=(L++[(⟨r.nw,N⟩:Pt)]).length:=by rw [cW];rfl
 have hrow:Nat.blt 0 (L++[(⟨r.nw,N⟩:Pt)]).length=true:=by rw [cW];simp
 (refine U7 ?_;refine bE [(1000001,601)] (.tup [.one (.slc 601 0 N.length 3),Sn .i64 0]) [nmsB 601 N true] (hV) O O VC O O O O O V18 dS ?_;refine U20 ?_;refine aZ (zs:=[.int .i64 0,.slice none 0 0]) (sz:=2) (e:=59) (cs':=[.val (.int .i64 r.nw),.slc 601 0 N.length 3]) V5 O O O O O O dS<|bQ (by_:=32) (e2:=59) (l2:=[.val (.int .i64 r.nw),.slc 601 0 N.length 3]) (nl:=(L++[(⟨r.nw,N⟩:Pt)]).length) (nc:=(ptZ L ws++[Value.int .i64 r.nw]).map .val ++ .slc 601 0 N.length 3::([]:List Value).map .val) O O hcl2 O O (dO _) O O V5 V5 V3 V3 O hnl V21 dS ?_;refine U6 ?_)
 refine cE (σ':=⟨[(3,Lx (some ⟨pb,po,none⟩) ps.length pcap),(4,Lp 4),(5,Lp 5),(12,.sv (.one (.slc 500 0 (L++[(⟨r.nw,N⟩:Pt)]).length 2))),(38,Lx (some ⟨rb,ro,none⟩) p.rs.length cap),(39,Ln .i64 (p.rs.length:Nat)),(40,Ln .i64 (i+1:Nat))],[(500,some ⟨59,(ptZ L ws++[Value.int .i64 r.nw]).map .val ++ .slc 601 0 N.length 3::([]:List Value).map .val,true⟩),nmsB 601 N true,sxB 5 b.ver ad2 b.cs.length cap2,sxB 4 a.ver ad1 a.cs.length cap1],Z⟩) (Le.ofR [(500,85),(601,601)] V14 V1 V2 V2 V0 V2 V2) ?_
 refine cE (Le.drop hJZ) ?_
 refine Leads.closeCell hO (by have:=nmsV_len N;rw [cX] at this;exact this) rfl bU rfl V1F rfl rfl fun bk ob v g1 _ hO3 hv=>cD ⟨p.rs.length-(i+1),by omega,i+1,L++[⟨r.nw,N⟩],ws++[v],withBlock H bk ob,by omega,rfl,hO3,(G.mono (cJ g1)).push (nms_leads hv hv2),hL2,hpre2,?_⟩
 rw [ptZ_add hlen,hrow]
 simp
end Go.Proofs.YtopiioklkkiedaaGreatDoor
end
section
set_option maxHeartbeats 12800000
set_option maxRecDepth 100000
namespace Go.Proofs.YtopiioklkkiedaaGreatDoor
open Go Go.Lg Go.Lg.Fml Go.Lg.Fld Go.Lg.Arith
set_option maxRecDepth 100000
variable (X:Nat→Option Obj)
theorem eVal_nil (a b:Cp) (r:Rl) (ns:List Nm) (aad bad ead vad:Option Addr) (acap bcap ecap vcap:Nat) (hA:FieldsIn X aad a.fs) (hac:a.fs.length≤acap) (hB:FieldsIn X bad b.fs) (hE:CodesIn X ead r.ex) (hN:NumsIn X vad ns) (hvc:ns.length≤vcap) (la:a.fs.length≤12) (lb:b.fs.length≤12) (lr:r.ex.length≤12∧∀ c∈r.ex,c.length≤80) (ln:ns.length<4611686018427387904) (h:vShape (valE a.fs b.fs r ns) (valA a.fs b.fs r ns)=false):
  MSpec Tryz.prog X 12 [Cx a aad acap,Cx b bad bcap,LPg r.nw r.old ead r.ex.length ecap,Lx vad ns.length vcap] [] (.tup [.one (.val (.slice none 0 0)),Sn .i64 (valE a.fs b.fs r ns)]) []:=
 eVal_nil' X a b r ns aad bad ead vad acap bcap ecap vcap hA hac hB hE hN hvc la lb lr ln fun e=>by
  unfold vShape at h
  rw [e] at h
  cases h
theorem eVal_box (a b:Cp) (r:Rl) (ns:List Nm) (aad bad ead vad:Option Addr) (acap bcap ecap vcap:Nat) (hA:FieldsIn X aad a.fs) (hac:a.fs.length≤acap) (hB:FieldsIn X bad b.fs) (hE:CodesIn X ead r.ex) (hN:NumsIn X vad ns) (hvc:ns.length≤vcap) (la:a.fs.length≤12) (lb:b.fs.length≤12) (lr:r.ex.length≤12∧∀ c∈r.ex,c.length≤80) (ln:ns.length<4611686018427387904) (h:vShape (valE a.fs b.fs r ns) (valA a.fs b.fs r ns)=true):
  MSpec Tryz.prog X 12 [Cx a aad acap,Cx b bad bcap,LPg r.nw r.old ead r.ex.length ecap,Lx vad ns.length vcap] [] (.tup [.one (.slc 1000001 0 (valA a.fs b.fs r ns).length 3),Sn .i64 (valE a.fs b.fs r ns)]) [nmsB 1000001 (valA a.fs b.fs r ns) (vRow (valA a.fs b.fs r ns))]:=by
 have e:valE a.fs b.fs r ns=0:=by
  unfold vShape at h
  exact beq_iff_eq.1 h
 rw [show valA a.fs b.fs r ns=valN a.fs b.fs r ns from if_pos e,e]
 exact eVal_box' X a b r ns aad bad ead vad acap bcap ecap vcap hA hac hB hE hN hvc la lb lr ln e
theorem eRow (a b:Cp) (r:Rl) (s:List UInt8) (aad bad ead:Option Addr) (acap bcap ecap:Nat) (hA:FieldsIn X aad a.fs) (hac:a.fs.length≤acap) (hB:FieldsIn X bad b.fs) (hE:CodesIn X ead r.ex) (la:a.fs.length≤12) (lb:b.fs.length≤12) (lr:r.ex.length≤12∧∀ c∈r.ex,c.length≤80) (ls:s.length≤1000):
  PSpec Tryz.prog X 15 [Cx a aad acap,Cx b bad bcap,LPg r.nw r.old ead r.ex.length ecap,Ls s] (.tup [Ss (rowN a.fs b.fs r s),Sn .i64 (rowE a.fs b.fs r s)]):=
 eRow' X a b r s aad bad ead acap bcap ecap hA hac hB hE la lb lr
theorem eSig (va vb:Int) (rs:List Rl) (ad:Option Addr) (cap s:Nat) (hp:RulesIn X ad rs) (hl:rs.length<4611686018427387904) (hs:s<4294967296):
  PSpec Tryz.prog X 20 [LPg va vb ad rs.length cap,Ln .u32 (s:Nat)] (Ln .u32 (sigN rs s:Nat)):=
 eSig' X va vb rs ad cap s hp hl hs
theorem eParts_nil (a b:Sc) (p:Pg) (ps:List Pt) (ad1 ad2 ad pad:Option Addr) (cap1 cap2 cap pcap:Nat) (ha:CompsIn X ad1 a.cs) (hb:CompsIn X ad2 b.cs) (hp:RulesIn X ad p.rs) (hP:PartsC X pad ps) (hpc:ps.length≤pcap) (na:NamesIn a.cs) (nb:NamesIn b.cs) (sa:scOk a.cs) (sb:scOk b.cs) (sp:p.rs.length≤30∧∀ r∈p.rs,r.ex.length≤12∧∀ c∈r.ex,c.length≤80) (sl:ps.length≤12∧∀ x∈ps,x.val.length<4611686018427387904) (h:pShape (psE a b p ps) (psA a b p ps)=false):
  MSpec Tryz.prog X 18 [Sx a.ver ad1 a.cs.length cap1,Sx b.ver ad2 b.cs.length cap2,LPg p.va p.vb ad p.rs.length cap,Lx pad ps.length pcap] [] (.tup [.one (.val (.slice none 0 0)),Sn .i64 (psE a b p ps)]) []:=by
 have e:psE a b p ps≠0:=fun e=>by
  unfold pShape at h
  rw [e] at h
  cases h
 have:=eParts' X a b p ps ad1 ad2 ad pad cap1 cap2 cap pcap ha hb hp hP na nb sa sb sp sl
 unfold pR14 pBx14 at this
 rw [if_neg e,if_neg e] at this
 exact this
theorem eParts_box (a b:Sc) (p:Pg) (ps:List Pt) (ad1 ad2 ad pad:Option Addr) (cap1 cap2 cap pcap:Nat) (ha:CompsIn X ad1 a.cs) (hb:CompsIn X ad2 b.cs) (hp:RulesIn X ad p.rs) (hP:PartsC X pad ps) (hpc:ps.length≤pcap) (na:NamesIn a.cs) (nb:NamesIn b.cs) (sa:scOk a.cs) (sb:scOk b.cs) (sp:p.rs.length≤30∧∀ r∈p.rs,r.ex.length≤12∧∀ c∈r.ex,c.length≤80) (sl:ps.length≤12∧∀ x∈ps,x.val.length<4611686018427387904) (h:pShape (psE a b p ps) (psA a b p ps)=true):
  MSpec Tryz.prog X 18 [Sx a.ver ad1 a.cs.length cap1,Sx b.ver ad2 b.cs.length cap2,LPg p.va p.vb ad p.rs.length cap,Lx pad ps.length pcap] [] (.tup [.one (.slc 1000001 0 (psA a b p ps).length 2),Sn .i64 (psE a b p ps)]) [prtB 1000001 (psA a b p ps)]:=by
 have e:psE a b p ps=0:=by
  unfold pShape at h
  exact beq_iff_eq.1 h
 rw [show psA a b p ps=psV a b p ps from if_pos e,e]
 have:=eParts' X a b p ps ad1 ad2 ad pad cap1 cap2 cap pcap ha hb hp hP na nb sa sb sp sl
 unfold pR14 pBx14 at this
 rw [if_pos e,if_pos e] at this
 exact this
end Go.Proofs.YtopiioklkkiedaaGreatDoor
end
