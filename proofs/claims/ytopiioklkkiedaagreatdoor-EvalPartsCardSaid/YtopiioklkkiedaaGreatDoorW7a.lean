/- A piece of a proof over this program: contracts of its functions, and a logic to prove them by. -/
import Derived.Test.YtopiioklkkiedaaGreatDoorW3
import Derived.Test.YtopiioklkkiedaaGreatDoorW4
import Derived.Test.YtopiioklkkiedaaGreatDoorW5
import Derived.Test.YtopiioklkkiedaaGreatDoorW6
import Derived.Lib.ItoaLen
import Derived.Laws.BitsAllLaws
import Derived.Lib.Join
import Derived.Lib.IndexLaws
section
set_option maxHeartbeats 12800000
set_option maxRecDepth 100000
namespace Go.Proofs.YtopiioklkkiedaaGreatDoor
open Go Go.Lg Go.Lg.Fml Go.Lg.Fld Go.RowKit Go.ChangeShapes Go.WideShapes Go.Joins
set_option maxRecDepth 100000
section
variable {H:Type} {enc:TypeId×Value→H} {w:World}
theorem cellsPg:Tryz.prog.cellsOf 36=3:=by kernel_rfl
end
end Go.Proofs.YtopiioklkkiedaaGreatDoor
end
section
set_option maxHeartbeats 12800000
set_option maxRecDepth 100000
namespace Go.Proofs.YtopiioklkkiedaaGreatDoor
open Go Go.Lg Go.Lg.Fml Go.Lg.Fld Go.RowKit Go.ChangeShapes Go.WideShapes Go.Joins
set_option maxRecDepth 100000
section
variable {H:Type} {enc:TypeId×Value→H} {w:World}
theorem open_fields_w {fuel:Nat} {l:List Value} {x:DataW H×List MemPlace} (h:DataW.trod enc Tryz.prog w 0 (fun _=>true) true fuel 22 l=some x) (hw:Light Tryz.prog 22 x.1):
  ∃ (ad:Option Addr) (cap:Nat) (fs:List Fl),l=[.slice ad fs.length cap]∧(fs.length≤4398046511104∧fs.length≤cap)∧FieldsIn (fun b=>w.heap[b]?) ad fs∧∀ f∈fs,f.nm.length≤9223372036854775807:=by
 obtain ⟨ad,cap,rows,rfl,hb,hroom,_,h3,h4⟩:=open_rows_w (e:=83) (sz:=3) V5 V5 VA h hw
 obtain ⟨fs,rfl,h5⟩:=map_of (f:=Fl.vals) (q:=fun f=>((-9223372036854775808≤f.kind∧f.kind<9223372036854775808)∧(-9223372036854775808≤f.count∧f.count<9223372036854775808))∧f.nm.length≤9223372036854775807) (vs:=rows) (fun u hu=>by
  obtain ⟨hlen,n,x,hx,_⟩:=h4 u hu
  obtain ⟨y0,y1,y2,n',_,_,g0,g1,g2⟩:=Deep.trod_struct3 (t:=83) Tryz.underlying83 hx
  obtain ⟨e0',e1',e2',rfl⟩:∃ c0 c1 c2,u=[c0,c1,c2]:=by
   match u,hlen with
   | [c0,c1,c2],_=>exact ⟨c0,c1,c2,rfl⟩
  obtain ⟨s,e0,_,hsz⟩:=DataW.trod_string V5 g0
  obtain ⟨k,e1,_,wa1⟩:=DataW.trod_int (k:=.i64) V5 g1
  obtain ⟨c,e2,_,wa2⟩:=DataW.trod_int (k:=.i64) V5 g2
  have q0:e0' = .string s:=by simpa using (show ([e0',e1',e2'].drop 0).take 1=[.string s] from e0)
  have q1:e1' = .int .i64 k:=by simpa using (show ([e0',e1',e2'].drop 1).take 1=[.int .i64 k] from e1)
  have q2:e2' = .int .i64 c:=by simpa using (show ([e0',e1',e2'].drop 2).take 1=[.int .i64 c] from e2)
  subst q0 q1 q2
  have b1:=bounds_i64 wa1
  have b2:=bounds_i64 wa2
  exact ⟨⟨s.data.toList,k,c⟩,rfl,(show (-9223372036854775808≤k∧k<9223372036854775808)∧(-9223372036854775808≤c∧c<9223372036854775808) by omega),(show s.data.toList.length≤_ from (by unfold maxLen at hsz;rw [Array.length_toList];exact hsz))⟩)
 exact ⟨ad,cap,fs,by rw [cX],⟨by rw [cX,show Tryz.prog.bytesOf 83=32 by kernel_rfl,show reachBytes=140737488351232 by decide] at hb;omega,by rw [cX] at hroom;exact hroom⟩,⟨h3,fun f hf=>(h5 f hf).1⟩,fun f hf=>(h5 f hf).2⟩
theorem open_comps_w {fuel:Nat} {l:List Value} {x:DataW H×List MemPlace} (h:DataW.trod enc Tryz.prog w 0 (fun _=>true) true fuel 31 l=some x) (hw:Light Tryz.prog 31 x.1):
  ∃ (ad:Option Addr) (cap:Nat) (cs:List Cp),l=[.slice ad cs.length cap]∧cs.length≤4398046511104∧CompsIn (fun b=>w.heap[b]?) ad cs∧NamesIn cs∧∀ c∈cs,c.fs.length≤4398046511104:=by
 obtain ⟨ad,cap,rows,rfl,hb,h1,_,h3,h4⟩:=open_rows_w (e:=24) (sz:=3) V5 V5 VA h hw
 obtain ⟨ts,rfl,h5⟩:=map_of (f:=fun t:Cp×Option Addr×Nat=>[.int .i64 t.1.id,.string ⟨t.1.nm.toArray⟩,.slice t.2.1 t.1.fs.length t.2.2]) (q:=fun t=>(FieldsIn (fun b=>w.heap[b]?) t.2.1 t.1.fs∧((-9223372036854775808≤t.1.id∧t.1.id<9223372036854775808)∧t.1.fs.length≤4398046511104))∧t.1.nm.length≤9223372036854775807∧∀ f∈t.1.fs,f.nm.length≤9223372036854775807) (vs:=rows) (fun u hu=>by
  obtain ⟨hlen,n,x,hx,hxw⟩:=h4 u hu
  obtain ⟨y0,y1,y2,n',ex,_,g0,g1,g2⟩:=Deep.trod_struct3 (t:=24) Tryz.underlying24 hx
  rw [ex] at hxw
  have hF3:=(Light.struct3 Tryz.underlying24 hxw).2.2
  obtain ⟨e0',e1',e2',rfl⟩:∃ c0 c1 c2,u=[c0,c1,c2]:=by
   match u,hlen with
   | [c0,c1,c2],_=>exact ⟨c0,c1,c2,rfl⟩
  obtain ⟨k,e0,_,wa1⟩:=DataW.trod_int (k:=.i64) V5 g0
  obtain ⟨s,e1,_,hsz⟩:=DataW.trod_string V5 g1
  obtain ⟨fad,fcap,fs,e2,hFl,hF,hFn⟩:=open_fields_w g2 hF3
  have q0:e0' = .int .i64 k:=by simpa using (show ([e0',e1',e2'].drop 0).take 1=[.int .i64 k] from e0)
  have q1:e1' = .string s:=by simpa using (show ([e0',e1',e2'].drop 1).take 1=[.string s] from e1)
  have q2:e2' = .slice fad fs.length fcap:=by simpa using (show ([e0',e1',e2'].drop 2).take 1=[.slice fad fs.length fcap] from e2)
  subst q0 q1 q2
  have b1:=bounds_i64 wa1
  exact ⟨(⟨k,s.data.toList,fs⟩,fad,fcap),rfl,⟨hF,(show -9223372036854775808≤k∧k<9223372036854775808 by omega),hFl.1⟩,(show s.data.toList.length≤_ from (by unfold maxLen at hsz;rw [Array.length_toList];exact hsz)),hFn⟩)
 refine ⟨ad,cap,ts.map (·.1),by rw [cX,cX],by rw [cX,show Tryz.prog.bytesOf 24=48 by kernel_rfl,show reachBytes=140737488351232 by decide] at hb;rw [cX];omega,⟨fun i c hc => ?_,fun c hc => ?_⟩,fun c hc => ?_,fun c hc => ?_⟩
 ·rw [dM] at hc
  cases ht:ts[i]? with
  | none=>rw [ht] at hc;cases hc
  | some t =>
   rw [ht] at hc
   simp only [Option.map_some,Option.some.injEq] at hc
   subst hc
   obtain ⟨blk,off,arr,el,fr,g1,g2,g3,g4⟩:=h3 i _ (by rw [dM,ht];rfl)
   exact ⟨blk,off,arr,el,fr,t.2.1,t.2.2,g1,g2,g3,g4,(h5 t (dE ht)).1.1⟩
 ·obtain ⟨t,ht,rfl⟩:=List.mem_map.1 hc
  exact (h5 t ht).1.2.1
 ·obtain ⟨t,ht,rfl⟩:=List.mem_map.1 hc
  exact (h5 t ht).2
 ·obtain ⟨t,ht,rfl⟩:=List.mem_map.1 hc
  exact (h5 t ht).1.2.2
theorem open_inss_w {fuel:Nat} {lv:List Value} {xx:DataW H×List MemPlace} (h:DataW.trod enc Tryz.prog w 0 (fun _=>true) true fuel 90 lv=some xx) (hw:Light Tryz.prog 90 xx.1):
  ∃ (ad:Option Addr) (cap:Nat) (l:List Ins),lv=[.slice ad l.length cap]∧l.length≤4398046511104∧InsIn (fun b=>w.heap[b]?) ad l:=by
 obtain ⟨ad,cap,rows,rfl,hb,h1,h2,h3,h4⟩:=open_rows_w (e:=88) (sz:=6) V5 V5 VA h hw
 obtain ⟨l,rfl,h5⟩:=map_of (f:=insV) (q:=smallI) (vs:=rows) (fun u hu=>by
  obtain ⟨hlen,n,x,hx,_⟩:=h4 u hu
  obtain ⟨y0,y1,y2,y3,n',_,_,g0,g1,g2,g3⟩:=trod_struct4 (t:=88) Tryz.underlying88 hx
  obtain ⟨c0,c1,c2,c3,c4,c5,rfl⟩:∃ c0 c1 c2 c3 c4 c5,u=[c0,c1,c2,c3,c4,c5]:=by
   match u,hlen with
   | [c0,c1,c2,c3,c4,c5],_=>exact ⟨c0,c1,c2,c3,c4,c5,rfl⟩
  obtain ⟨k0,e0,_,wa0⟩:=DataW.trod_int (k:=.i64) V5 g0
  obtain ⟨k1,e1,_,wa1⟩:=DataW.trod_int (k:=.i64) V5 g1
  obtain ⟨k2,e2,_,wa2⟩:=DataW.trod_int (k:=.i64) V5 g2
  obtain ⟨z0,z1,z2,m',_,_,j0,j1,j2⟩:=Deep.trod_struct3 (t:=86) Tryz.underlying86 g3
  obtain ⟨b,e3,_⟩:=DataW.trod_bool V5 j0
  obtain ⟨x,e4,_,wa4⟩:=DataW.trod_int (k:=.u64) V5 j1
  obtain ⟨y,e5,_,wa5⟩:=DataW.trod_int (k:=.u64) V5 j2
  have q0:c0 = .int .i64 k0:=by simpa using (show ([c0,c1,c2,c3,c4,c5].drop 0).take 1=[.int .i64 k0] from e0)
  have q1:c1 = .int .i64 k1:=by simpa using (show ([c0,c1,c2,c3,c4,c5].drop 1).take 1=[.int .i64 k1] from e1)
  have q2:c2 = .int .i64 k2:=by simpa using (show ([c0,c1,c2,c3,c4,c5].drop 2).take 1=[.int .i64 k2] from e2)
  have q3:c3 = .bool b:=by simpa using (show ((([c0,c1,c2,c3,c4,c5].drop 3).take 3).drop 0).take 1=[.bool b] from e3)
  have q4:c4 = .int .u64 x:=by simpa using (show ((([c0,c1,c2,c3,c4,c5].drop 3).take 3).drop 1).take 1=[.int .u64 x] from e4)
  have q5:c5 = .int .u64 y:=by simpa using (show ((([c0,c1,c2,c3,c4,c5].drop 3).take 3).drop 2).take 1=[.int .u64 y] from e5)
  subst q0 q1 q2 q3 q4 q5
  have b0:=bounds_i64 wa0
  have b1:=bounds_i64 wa1
  have b2:=bounds_i64 wa2
  have b4:=bounds_u64 wa4
  have b5:=bounds_u64 wa5
  refine ⟨⟨k0,k1,k2,(b,x*18446744073709551616+y)⟩,?_,by show -9223372036854775808≤k0∧k0<9223372036854775808;omega,by show -9223372036854775808≤k1∧k1<9223372036854775808;omega,by show -9223372036854775808≤k2∧k2<9223372036854775808;omega,by show 0≤x*18446744073709551616+y;omega,by show x*18446744073709551616+y<_;omega⟩
  unfold insV
  show _=[Value.int .i64 k0,.int .i64 k1,.int .i64 k2,.bool b,.int .u64 ((x*18446744073709551616+y)/18446744073709551616),.int .u64 ((x*18446744073709551616+y)%18446744073709551616)]
  rw [show (x*18446744073709551616+y)/18446744073709551616=x by omega,show (x*18446744073709551616+y)%18446744073709551616=y by omega])
 exact ⟨ad,cap,l,by rw [cX],by rw [cX,show Tryz.prog.bytesOf 88=48 by kernel_rfl,show reachBytes=140737488351232 by decide] at hb;omega,⟨h3,h5⟩⟩
theorem open_schema_w {r:Reach} {b0:Nat} {v:Value} {d:DataW H} {p:List MemPlace} (hv:Value.okWide Tryz.prog w r b0 33 v) (h:DataW.Trod enc Tryz.prog w 0 (fun _=>true) true 33 v d p) (hw:Light Tryz.prog 33 d):
  ∃ (ver:Int) (ad:Option Addr) (cap:Nat) (cs:List Cp),v = .agg #[.int .i64 ver,.slice ad cs.length cap]∧(-9223372036854775808≤ver∧ver<9223372036854775808)∧cs.length≤4398046511104∧CompsIn (fun b=>w.heap[b]?) ad cs∧NamesIn cs∧∀ c∈cs,c.fs.length≤4398046511104:=by
 obtain ⟨v0,v1,y0,y1,m,rfl,rfl,rfl,hy0,hy1⟩:=open_agg2 Tryz.underlying33 V5 cellsS hv h
 have hw1:=(Light.struct2 Tryz.underlying33 hw).2
 obtain ⟨x,e0,rfl,wx⟩:=DataW.trod_int (k:=.i64) V5 hy0
 obtain ⟨ad,cap,cs,e1,h1,h2,h3,h4⟩:=open_comps_w hy1 hw1
 simp at e0 e1
 subst e0 e1
 have b0:=bounds_i64 wx
 exact ⟨x,ad,cap,cs,O,by omega,h1,h2,h3,h4⟩
end
end Go.Proofs.YtopiioklkkiedaaGreatDoor
end
section
set_option maxHeartbeats 12800000
set_option maxRecDepth 100000
namespace Go.Proofs.YtopiioklkkiedaaGreatDoor
open Go Go.Lg Go.Lg.Fml Go.Lg.Fld Go.Lg.Arith
def findE (fs:List Fl) (f:Fl) (x:Ins):Int:=
 if x.op=2∨x.op=3 then (match fs[x.a.toNat]? with
  | none=>3
  | some g=>if (x.op=2∧g.count≤x.b)∨(x.op=3∧g.count<f.count) then 3 else if (g.kind=10)=(f.kind=10) then 0 else 8)
 else 0
def atE {α:Type} (g:α→Int) (l:List α) (i:Nat):Int:=match l[i]? with|some x=>g x|none=>0
theorem atE_at {α:Type} {g:α→Int} {l:List α} {i:Nat} {x:α} (h:l[i]? = some x):atE g l i=g x:=by unfold atE;rw [h]
def seqE {α:Type} (g:α→Int) (l:List α):Int:=firstE (atE g l) 0 l.length
theorem seqE_zero {α:Type} {g:α→Int} {l:List α} (h:seqE g l=0):∀ x∈l,g x=0:=fun x hx=>by
 obtain ⟨i,hi⟩:=List.mem_iff_getElem?.1 hx
 have:=firstE_zero h i (Nat.zero_le _) (by have:=(wl hi);omega)
 rw [atE_at hi] at this;exact this
theorem seqE_none {α:Type} {g:α→Int} {l:List α} (h:∀ x∈l,g x=0):seqE g l=0:=firstE_none fun j _ _=>by
 unfold atE
 split
 ·rename_i x hx;exact h x (dE hx)
 ·rfl
def refE (f:Fl):List Ins→Int
 | [x]=>if f.kind=10∧(x.op=4∨(x.op=1∧x.k≠(false,0))) then 8 else 0
 | _=>if f.kind=10 then 8 else 0
def fmE (fs:List Fl) (f:Fl) (l:List Ins):Int:=if chkX l=0 then (if seqE (findE fs f) l=0 then refE f l else seqE (findE fs f) l) else chkX l
def ruE (fs gs:List Fl) (r:Rl):Int:=if r.old=0 then 0 else if r.ex.length=gs.length then seqE (fun q:Fl×List Ins=>fmE fs q.1 q.2) (gs.zip r.ex) else 4
def findC (cs:List Cp) (id:Int):Option Cp:=cs.find? fun c=>c.id==id
def nwE (a:Sc) (q:Rl×Cp):Int:=if q.1.nw=q.2.id∧(q.1.old=0∨(findC a.cs q.1.old).isSome) then 0 else 6
def flC (a:Sc) (id:Int):List Fl:=match findC a.cs id with|some c=>c.fs|none=>[]
def ruC (a:Sc) (q:Rl×Cp):Int:=ruE (flC a q.1.old) q.2.fs q.1
def ckE (a b:Sc) (p:Pg):Int:=
 if chkE a=0 then (if chkE b=0 then (if chkP p=0 then (if p.va=a.ver∧p.vb=b.ver∧p.va<p.vb then (if p.rs.length=b.cs.length then (if seqE (nwE a) (p.rs.zip b.cs)=0 then seqE (ruC a) (p.rs.zip b.cs) else 6) else 6) else 7) else chkP p) else chkE b) else chkE a
theorem findC_some {cs:List Cp} {id:Int} {c:Cp} (h:findC cs id=some c):c∈cs∧c.id=id:=⟨List.mem_of_find?_eq_some h,by have:=List.find?_some h;simpa using this⟩
theorem findC_at {cs:List Cp} {id:Int} {c:Cp} (h:findC cs id=some c):∃ i,cs[i]? = some c∧c.id=id∧∀ (j:Nat) (y:Cp),j<i→cs[j]? = some y→(y.id==id)=false:=by
 obtain ⟨hp,i,hi,he,hj⟩:=List.find?_eq_some_iff_getElem.1 h
 refine ⟨i,by rw [cY hi,he],by simpa using hp,fun j y hji hy => ?_⟩
 obtain ⟨hj',e⟩:=List.getElem?_eq_some_iff.1 hy
 have:=hj j hji
 rw [e] at this
 simpa using this
theorem findC_no {cs:List Cp} {id:Int} (h:findC cs id=none):∀ (j:Nat) (y:Cp),cs[j]? = some y→(y.id==id)=false:=fun j y hy=>by
 have:=List.find?_eq_none.1 h y (dE hy)
 simpa using this
theorem chkE_good {s:Sc} (h:chkE s=0):(1≤s.ver∧s.ver≤1073741824)∧Fld.Good s.cs:=by
 unfold chkE at h
 by_cases hv:s.ver<1∨1073741824<s.ver
 ·rw [if_pos hv] at h;cases h
 ·rw [if_neg hv] at h;exact ⟨by omega,good_of h⟩
end Go.Proofs.YtopiioklkkiedaaGreatDoor
end
section
set_option maxHeartbeats 12800000
set_option maxRecDepth 100000
namespace Go.Lg.Sg
open Go Go.Lg
def bl (f:Nat→Bool):List CV:=(List.range 32).map fun j=>.val (.bool (f j))
def okJ (id:Int):Bool:=decide (1≤id)&&decide (id≤24)
theorem okI_iff {id:Int}:okJ id=true↔1≤id∧id≤24:=by unfold okJ;simp
def hasB (a:Nat) (id:Int):Bool:=okJ id&&a.testBit id.toNat
theorem half_bit (a i:Nat):(a/2^i%2==1)=a.testBit i:=by
 rw [Nat.testBit_eq_decide_div_mod_eq]
 by_cases h:a/2^i%2=1
 ·rw [cP h];exact cV h
 ·rw [cO h];exact cS h
theorem half_next (a i:Nat):a/2^i/2=a/2^(i+1):=by rw [Nat.div_div_eq_div_mul,← Nat.pow_succ]
end Go.Lg.Sg
namespace Go.Proofs.YtopiioklkkiedaaGreatDoor
open Go Go.Lg Go.Lg.Fld Go.Lg.Sg
set_option maxRecDepth 100000
variable (X:Nat→Option Obj)
end Go.Proofs.YtopiioklkkiedaaGreatDoor
end
section
set_option maxHeartbeats 12800000
set_option maxRecDepth 100000
namespace Go.Lg.Sg
open Go Go.Lg
def txStep (s:List UInt8×Bool) (x:Int):List UInt8×Bool:=(s.1++(if s.2=true then [43] else [])++Lib.itoa x,true)
def txF (l:List Int):List UInt8×Bool:=l.foldl txStep ([],false)
def ofN (ids:List Int):Nat:=ids.foldl (fun n id=>n ||| 2^id.toNat) 0
end Go.Lg.Sg
namespace Go.Proofs.YtopiioklkkiedaaGreatDoor
open Go Go.Lg Go.Lg.Fld Go.Lg.Sg
set_option maxRecDepth 100000
variable (X:Nat→Option Obj)
end Go.Proofs.YtopiioklkkiedaaGreatDoor
end
section
set_option maxHeartbeats 12800000
set_option maxRecDepth 100000
namespace Go.Lg.Sg
open Go Go.Lg
def digS (n:Int) (c:UInt8):Option Int:=if c.toNat<48∨57<c.toNat∨n=0∨99<n∨(n<0∧c.toNat=48) then none else some ((if n<0 then 0 else n)*10+((c.toNat:Int)-48))
def sepS (q:List Int×Int):Option (List Int×Int):=if q.2<1∨24<q.2∨(q.1.getLast?.any fun y=>decide (q.2≤y))=true then none else some (q.1++[q.2],-1)
def chS (q:List Int×Int) (c:UInt8):Option (List Int×Int):=if c=43 then sepS q else (digS q.2 c).map fun n=>(q.1,n)
def runS (q:List Int×Int) (s:List UInt8):Option (List Int×Int):=s.foldlM chS q
def parseA (s:List UInt8):Option Nat:=if s=[45] then some 0 else ((runS ([],-1) s).bind sepS).map fun q=>ofN q.1
def rising (l:List Int):Prop:=l.Pairwise (fun x y=>x<y)
def preT (ids:List Int):List UInt8:=(txF ids).1++if ids=[] then [] else [43]
def digT (n:Int):List UInt8:=if n<0 then [] else Lib.itoa n
structure Rd (p:List UInt8) (q:List Int×Int):Prop where
 text:p=preT q.1++digT q.2
 ids:∀ y∈q.1,1≤y∧y≤24
 rise:rising q.1
 num:q.2 = -1∨(1≤q.2∧q.2≤999)
end Go.Lg.Sg
end
section
set_option maxHeartbeats 12800000
set_option maxRecDepth 100000
namespace Go.Lg.Sg
open Go Go.Lg Go.Lg.Fld
def withN (a:Nat) (id:Int):Nat:=if okJ id=true then a ||| 2^id.toNat else a
theorem or_pow {a k:Nat} (h:a.testBit k=false):a ||| 2^k=a+2^k:=by
 have hz:(BitVec.ofNat (a+k+2) a) &&& (BitVec.ofNat (a+k+2) (2^k))=0#(a+k+2):=by
  apply BitVec.eq_of_getLsbD_eq
  intro i hi
  rw [BitVec.getLsbD_and,BitVec.getLsbD_ofNat,BitVec.getLsbD_ofNat,Nat.testBit_two_pow,BitVec.getLsbD_zero]
  by_cases e:k=i
  ·rw [← e,h];simp
  ·rw [cO e];simp
 have h1:=congrArg BitVec.toNat (BitVec.add_eq_or_of_and_eq_zero _ _ hz)
 have hp:∀ n m:Nat,n≤m→n<2^m:=fun n m h=>Nat.lt_of_lt_of_le Nat.lt_two_pow_self (Nat.pow_le_pow_right VA h)
 have b1:a<2^(a+k):=hp _ _ V3
 have b2:2^k≤2^(a+k):=Nat.pow_le_pow_right VA V3
 have b3:2^(a+k+2)=4*2^(a+k):=by rw [Nat.pow_add];omega
 rw [BitVec.toNat_add,BitVec.toNat_or,BitVec.toNat_ofNat,BitVec.toNat_ofNat,Nat.mod_eq_of_lt (show a<2^(a+k+2) by omega),Nat.mod_eq_of_lt (show 2^k<2^(a+k+2) by omega),Nat.mod_eq_of_lt (by omega)] at h1
 exact h1.symm
theorem with_bit {a:Nat} {id:Int} (j:Nat):(withN a id).testBit j=(a.testBit j||(okJ id&&decide (id.toNat=j))):=by
 unfold withN
 by_cases h:okJ id=true
 ·rw [if_pos h,Nat.testBit_or,Nat.testBit_two_pow,h,Bool.true_and]
 ·rw [if_neg h,show okJ id=false by simpa using h,Bool.false_and,Bool.or_false]
theorem lt32_of_bits {a:Nat} (h:∀ j,32≤j→a.testBit j=false):a<4294967296:=Nat.lt_pow_two_of_testBit (n:=32) _ h
end Go.Lg.Sg
end
section
set_option maxHeartbeats 12800000
set_option maxRecDepth 100000
namespace Go.Proofs.YtopiioklkkiedaaGreatDoor
open Go Go.Lg Go.Lg.Fml Go.Lg.Fld Go.Lg.Arith
abbrev Sp:=Fl×List Ins×Nat
def cutN:List Fl→List Nm→List (List Nm)
 | [],_=>[]
 | f::t,ns=>ns.take f.n::cutN t (ns.drop f.n)
def fldS (f:Fl) (c:List Ins) (n:Nat):List Sp:=(List.range n).map fun k=>(f,c,k)
def stepsN:List Fl→List (List Ins)→List Sp
 | f::t,c::u=>fldS f c f.n++stepsN t u
 | _,_=>[]
def okV:Except Int Nm→Nm | .ok v=>v | .error _=>(false,0)
def erV:Except Int Nm→Int | .ok _=>0 | .error e=>e
def stepV (fs:List (List Nm)) (q:Sp):Nm:=okV (evX q.2.1 fs q.2.2)
def stepE (fs:List (List Nm)) (q:Sp):Int:=if erV (evX q.2.1 fs q.2.2)=0 then (if fitB q.1.kind (stepV fs q).1 (stepV fs q).2=true then 0 else 3) else erV (evX q.2.1 fs q.2.2)
def valE (a b:List Fl) (r:Rl) (ns:List Nm):Int:=
 if fitErr a ns=0 then (if layErr b=0 then (if r.old=0 then 7 else if ruE a b r=0 then seqE (stepE (cutN a ns)) (stepsN b r.ex) else ruE a b r) else layErr b) else fitErr a ns
def valN (a b:List Fl) (r:Rl) (ns:List Nm):List Nm:=(stepsN b r.ex).map (stepV (cutN a ns))
def rowE (a b:List Fl) (r:Rl) (s:List UInt8):Int:=if unpErr a s=0 then valE a b r ((unpZ a s).map qn) else unpErr a s
def rowN (a b:List Fl) (r:Rl) (s:List UInt8):List UInt8:=if rowE a b r s=0 then packB b (valN a b r ((unpZ a s).map qn)) else []
def sigN (rs:List Rl) (s:Nat):Nat:=rs.foldl (fun n r=>if Sg.hasB s r.old=true then Sg.withN n r.nw else n) 0
abbrev Sq:=Rl×Cp×Pt
def partsOf (r:Rl) (c:Cp) (ps:List Pt):List Sq:=(ps.filter fun p=>p.comp==r.old).map fun p=>(r,c,p)
def prS:List Rl→List Cp→List Pt→List Sq
 | r::t,c::u,ps=>partsOf r c ps++prS t u ps
 | _,_,_=>[]
def pqE (a:Sc) (q:Sq):Int:=valE (flC a q.2.2.comp) q.2.1.fs q.1 q.2.2.val
def prV (a:Sc) (q:Sq):Pt:=⟨q.1.nw,valN (flC a q.2.2.comp) q.2.1.fs q.1 q.2.2.val⟩
def psE (a b:Sc) (p:Pg) (ps:List Pt):Int:=if ckE a b p=0 then (if partsE a.cs ps=0 then seqE (pqE a) (prS p.rs b.cs ps) else partsE a.cs ps) else ckE a b p
def psV (a b:Sc) (p:Pg) (ps:List Pt):List Pt:=(prS p.rs b.cs ps).map (prV a)
theorem fldS_succ (f:Fl) (c:List Ins) (k:Nat):fldS f c (k+1)=fldS f c k++[(f,c,k)]:=by unfold fldS;rw [List.range_succ,dI];rfl
theorem fldS_zero (f:Fl) (c:List Ins):fldS f c 0=[]:=rfl
theorem fldS_len (f:Fl) (c:List Ins) (n:Nat):(fldS f c n).length=n:=by unfold fldS;rw [cX,List.length_range]
theorem fldS_split (f:Fl) (c:List Ins):∀ {n k:Nat},k<n→∃ post,fldS f c n=fldS f c k++(f,c,k)::post
 | n+1,k,h=>by
  by_cases e:k=n
  ·subst e;exact ⟨[],fldS_succ f c k⟩
  ·obtain ⟨post,hp⟩:=fldS_split f c (n:=n) (k:=k) V3
   exact ⟨post++[(f,c,n)],by rw [fldS_succ,hp];simp⟩
theorem steps_snoc:∀ {gs:List Fl} {ex:List (List Ins)} {i:Nat} {f:Fl} {c:List Ins},gs[i]? = some f→ex[i]? = some c→stepsN (gs.take (i+1)) (ex.take (i+1))=stepsN (gs.take i) (ex.take i)++fldS f c f.n
 | g::gs,d::ex,0,f,c,h1,h2=>by
  simp only [List.getElem?_cons_zero,Option.some.injEq] at h1 h2
  subst h1 h2
  simp [stepsN]
 | g::gs,d::ex,i+1,f,c,h1,h2=>by
  simp only [List.getElem?_cons_succ] at h1 h2
  simp only [List.take_succ_cons,stepsN]
  rw [steps_snoc h1 h2,dN]
 | [],_,_,_,_,h,_=>by simp at h
 | _::_,[],_,_,_,_,h=>by simp at h
theorem steps_split:∀ {gs:List Fl} {ex:List (List Ins)} {i:Nat} {f:Fl} {c:List Ins},gs[i]? = some f→ex[i]? = some c→∃ post,stepsN gs ex=stepsN (gs.take i) (ex.take i)++(fldS f c f.n++post)
 | g::gs,d::ex,0,f,c,h1,h2=>by
  simp only [List.getElem?_cons_zero,Option.some.injEq] at h1 h2
  subst h1 h2
  exact ⟨stepsN gs ex,O⟩
 | g::gs,d::ex,i+1,f,c,h1,h2=>by
  simp only [List.getElem?_cons_succ] at h1 h2
  obtain ⟨post,hp⟩:=steps_split h1 h2
  refine ⟨post,?_⟩
  simp only [List.take_succ_cons,stepsN]
  rw [hp,dN]
 | [],_,_,_,_,h,_=>by simp at h
 | _::_,[],_,_,_,_,h=>by simp at h
theorem steps_at {gs:List Fl} {ex:List (List Ins)} {i k:Nat} {f:Fl} {c:List Ins} (h1:gs[i]? = some f) (h2:ex[i]? = some c) (hk:k<f.n):∃ post,stepsN gs ex=(stepsN (gs.take i) (ex.take i)++fldS f c k)++(f,c,k)::post:=by
 obtain ⟨p1,e1⟩:=steps_split h1 h2
 obtain ⟨p2,e2⟩:=fldS_split f c hk
 exact ⟨p2++p1,by rw [e1,e2];simp⟩
theorem seqE_cons' {α:Type} {g:α→Int} {x:α} {t:List α}:seqE g (x::t)=if g x=0 then seqE g t else g x:=by
 have key:∀ (f:Nat→Int) (n i:Nat),firstE f (i+1) n=firstE (fun j=>f (j+1)) i n:=by
  intro f n
  induction n with
  | zero=>intro i;rfl
  | succ n ih =>
   intro i
   show (if f (i+1)=0 then firstE f (i+1+1) n else f (i+1))=(if f (i+1)=0 then firstE (fun j=>f (j+1)) (i+1) n else f (i+1))
   rw [ih (i+1)]
 show (if atE g (x::t) 0=0 then firstE (atE g (x::t)) (0+1) t.length else atE g (x::t) 0)=_
 rw [key]
 rfl
theorem seqE_app {α:Type} {g:α→Int}:∀ {l m:List α},seqE g (l++m)=if seqE g l=0 then seqE g m else seqE g l
 | [],m=>by rw [List.nil_append,show seqE g ([]:List α)=0 from rfl,if_pos rfl]
 | x::l,m=>by
  rw [List.cons_append,seqE_cons',seqE_cons',seqE_app]
  by_cases h:g x=0
  ·rw [if_pos h,if_pos h]
  ·rw [if_neg h,if_neg h,if_neg h]
theorem seqE_hit {α:Type} {g:α→Int} {l pre post:List α} {x:α} (h:l=pre++x::post) (h0:seqE g pre=0) (hx:g x≠0):seqE g l=g x:=by
 rw [h,seqE_app,if_pos h0,seqE_cons',if_neg hx]
theorem seqE_snoc {α:Type} {g:α→Int} {l:List α} {x:α} (h0:seqE g l=0) (hx:g x=0):seqE g (l++[x])=0:=by
 rw [seqE_app,if_pos h0,seqE_cons',if_pos hx];rfl
theorem partsOf_succ {r:Rl} {c:Cp} {ps:List Pt} {k:Nat} {x:Pt} (hx:ps[k]? = some x):partsOf r c (ps.take (k+1))=partsOf r c (ps.take k)++if x.comp=r.old then [(r,c,x)] else []:=by
 unfold partsOf
 rw [take_snoc hx,List.filter_append,dI]
 congr 1
 by_cases h:x.comp=r.old
 ·rw [if_pos h];simp [h]
 ·rw [if_neg h];simp [h]
theorem prS_snoc:∀ {rs:List Rl} {cs:List Cp} {ps:List Pt} {i:Nat} {r:Rl} {c:Cp},rs[i]? = some r→cs[i]? = some c→prS (rs.take (i+1)) (cs.take (i+1)) ps=prS (rs.take i) (cs.take i) ps++partsOf r c ps
 | g::gs,d::ex,ps,0,f,c,h1,h2=>by
  simp only [List.getElem?_cons_zero,Option.some.injEq] at h1 h2
  subst h1 h2
  simp [prS]
 | g::gs,d::ex,ps,i+1,f,c,h1,h2=>by
  simp only [List.getElem?_cons_succ] at h1 h2
  simp only [List.take_succ_cons,prS]
  rw [prS_snoc h1 h2,dN]
 | [],_,_,_,_,_,h,_=>by simp at h
 | _::_,[],_,_,_,_,_,h=>by simp at h
theorem prS_split:∀ {rs:List Rl} {cs:List Cp} {ps:List Pt} {i:Nat} {r:Rl} {c:Cp},rs[i]? = some r→cs[i]? = some c→∃ post,prS rs cs ps=prS (rs.take i) (cs.take i) ps++(partsOf r c ps++post)
 | g::gs,d::ex,ps,0,f,c,h1,h2=>by
  simp only [List.getElem?_cons_zero,Option.some.injEq] at h1 h2
  subst h1 h2
  exact ⟨prS gs ex ps,O⟩
 | g::gs,d::ex,ps,i+1,f,c,h1,h2=>by
  simp only [List.getElem?_cons_succ] at h1 h2
  obtain ⟨post,hp⟩:=prS_split (ps:=ps) h1 h2
  refine ⟨post,?_⟩
  simp only [List.take_succ_cons,prS]
  rw [hp,dN]
 | [],_,_,_,_,_,h,_=>by simp at h
 | _::_,[],_,_,_,_,_,h=>by simp at h
theorem prS_at {rs:List Rl} {cs:List Cp} {ps:List Pt} {i k:Nat} {r:Rl} {c:Cp} {x:Pt} (h1:rs[i]? = some r) (h2:cs[i]? = some c) (hx:ps[k]? = some x) (he:x.comp=r.old):∃ post,prS rs cs ps=(prS (rs.take i) (cs.take i) ps++partsOf r c (ps.take k))++(r,c,x)::post:=by
 obtain ⟨p1,e1⟩:=prS_split (ps:=ps) h1 h2
 have e2:partsOf r c ps=partsOf r c (ps.take (k+1))++partsOf r c (ps.drop (k+1)):=by
  unfold partsOf
  rw [← dI,← List.filter_append,List.take_append_drop]
 rw [partsOf_succ hx,if_pos he] at e2
 exact ⟨partsOf r c (ps.drop (k+1))++p1,by rw [e1,e2];simp⟩
theorem mem_prS:∀ {rs:List Rl} {cs:List Cp} {ps:List Pt} {q:Sq},q∈prS rs cs ps↔((q.1,q.2.1)∈rs.zip cs∧q.2.2∈ps∧q.2.2.comp=q.1.old)
 | [],_,_,q=>by simp [prS]
 | _::_,[],_,q=>by simp [prS]
 | r::rs,c::cs,ps,q=>by
  simp only [prS,List.mem_append,mem_prS (rs:=rs),List.zip_cons_cons,List.mem_cons]
  have h1:q∈partsOf r c ps↔((q.1,q.2.1)=(r,c)∧q.2.2∈ps∧q.2.2.comp=q.1.old):=by
   unfold partsOf
   simp only [List.mem_map,List.mem_filter]
   constructor
   ·rintro ⟨p,⟨h1,h2⟩,rfl⟩
    exact ⟨O,h1,beq_iff_eq.1 h2⟩
   ·rintro ⟨h1,h2,h3⟩
    obtain ⟨q1,q2,q3⟩:=q
    simp only [Prod.mk.injEq] at h1
    obtain ⟨rfl,rfl⟩:=h1
    exact ⟨q3,⟨h2,by simpa using h3⟩,O⟩
  rw [h1]
  constructor
  ·rintro (⟨h,h2⟩|⟨h,h2⟩)
   ·exact ⟨.inl h,h2⟩
   ·exact ⟨.inr h,h2⟩
  ·rintro ⟨h|h,h2⟩
   ·exact .inl ⟨h,h2⟩
   ·exact .inr ⟨h,h2⟩
end Go.Proofs.YtopiioklkkiedaaGreatDoor
end
section
set_option maxHeartbeats 12800000
set_option maxRecDepth 100000
namespace Go.Proofs.YtopiioklkkiedaaGreatDoor
open Go Go.Lg Go.Lg.Fml Go.Lg.Fld Go.Lg.Arith
theorem elems_kinds:∀ (b:List Fl) (ex:List (List Ins)) (a:Nat),ex.length=b.length→(elemsAt a b).map Prod.fst=(stepsN b ex).map fun q=>q.1.kind
 | [],[],_,_=>rfl
 | f::t,c::u,a,h=>by
  simp only [dJ] at h
  have ih:=elems_kinds t u (roundUp a f.w+f.w*f.n) V3
  simp only [elemsAt,stepsN,dI,ih]
  congr 1
  unfold fldS
  rw [List.map_map,List.map_map]
  rfl
 | [],_::_,_,h=>by simp at h
 | _::_,[],_,h=>by simp at h
theorem steps_len {b:List Fl} {ex:List (List Ins)} (h:ex.length=b.length):(stepsN b ex).length=(elemsAt 0 b).length:=by
 have:=congrArg List.length (elems_kinds b ex 0 h)
 rw [cX,cX] at this
 exact this.symm
theorem stepE_zero {fs:List (List Nm)} {q:Sp} (h:stepE fs q=0):erV (evX q.2.1 fs q.2.2)=0∧fitB q.1.kind (stepV fs q).1 (stepV fs q).2=true:=by
 unfold stepE at h
 by_cases h1:erV (evX q.2.1 fs q.2.2)=0
 ·rw [if_pos h1] at h
  by_cases h2:fitB q.1.kind (stepV fs q).1 (stepV fs q).2=true
  ·exact ⟨h1,h2⟩
  ·rw [if_neg h2] at h;cases h
 ·rw [if_neg h1] at h;exact absurd h h1
theorem val_fit {b:List Fl} {ex:List (List Ins)} {fs:List (List Nm)} (hb:layErr b=0) (hl:ex.length=b.length) (h:seqE (stepE fs) (stepsN b ex)=0):fitErr b ((stepsN b ex).map (stepV fs))=0:=by
 unfold fitErr
 rw [if_pos hb,if_pos (by rw [cX,steps_len hl]),if_pos]
 unfold fitAll
 rw [List.all_eq_true]
 intro p hp
 obtain ⟨i,hi⟩:=List.mem_iff_getElem?.1 hp
 obtain ⟨h1,h2⟩:=List.getElem?_zip_eq_some.1 hi
 rw [dM] at h2
 cases hq:(stepsN b ex)[i]? with
 | none=>rw [hq] at h2;cases h2
 | some q =>
  rw [hq] at h2
  simp only [Option.map_some,Option.some.injEq] at h2
  have hk:=congrArg (fun l=>l[i]?) (elems_kinds b ex 0 hl)
  simp only [dM,h1,hq,Option.map_some,Option.some.injEq] at hk
  have:=(stepE_zero (seqE_zero h q (dE hq))).2
  rw [h2,← hk] at this
  exact this
theorem ruE_len {a b:List Fl} {r:Rl} (h:ruE a b r=0) (h0:r.old≠0):r.ex.length=b.length:=by
 unfold ruE at h
 rw [if_neg h0] at h
 by_cases e:r.ex.length=b.length
 ·exact e
 ·rw [if_neg e] at h;cases h
theorem valE_zero {a b:List Fl} {r:Rl} {ns:List Nm} (h:valE a b r ns=0):fitErr a ns=0∧layErr b=0∧r.old≠0∧ruE a b r=0∧seqE (stepE (cutN a ns)) (stepsN b r.ex)=0:=by
 unfold valE at h
 by_cases h1:fitErr a ns=0
 ·rw [if_pos h1] at h
  by_cases h2:layErr b=0
  ·rw [if_pos h2] at h
   by_cases h3:r.old=0
   ·rw [if_pos h3] at h;cases h
   ·rw [if_neg h3] at h
    by_cases h4:ruE a b r=0
    ·rw [if_pos h4] at h;exact ⟨h1,h2,h3,h4,h⟩
    ·rw [if_neg h4] at h;exact absurd h h4
  ·rw [if_neg h2] at h;exact absurd h h2
 ·rw [if_neg h1] at h;exact absurd h h1
theorem valN_fit {a b:List Fl} {r:Rl} {ns:List Nm} (h:valE a b r ns=0):fitErr b (valN a b r ns)=0:=by
 obtain ⟨_,h2,h3,h4,h5⟩:=valE_zero h
 exact val_fit h2 (ruE_len h4 h3) h5
theorem prt_facts {cs:List Cp} {ps:List Pt} (h:partsE cs ps=0):ps.Pairwise (fun x y=>x.comp≠y.comp)∧∀ p∈ps,∃ c,cs.find? (fun c=>c.id==p.comp)=some c∧fitErr c.fs p.val=0:=by
 have key:∀ (i:Nat) (p:Pt),ps[i]? = some p→(ps.take i).any (fun g=>g.comp==p.comp)=false∧partE cs p=0:=fun i p hp=>by
  have h1:=firstE_zero h i (Nat.zero_le _) (by have:=(wl hp);omega)
  unfold ptE at h1
  rw [hp] at h1
  simp only at h1
  by_cases e:(ps.take i).any (fun g=>g.comp==p.comp)=true
  ·rw [if_pos e] at h1;cases h1
  ·rw [if_neg e] at h1;exact ⟨by simpa using e,h1⟩
 refine ⟨?_,fun p hp => ?_⟩
 ·rw [List.pairwise_iff_getElem]
  intro i j hi hj hij e
  obtain ⟨h1,_⟩:=key j _ (cY hj)
  have:=any_true (p:=fun g:Pt=>g.comp==ps[j].comp) hij (cY hi) (by rw [beq_iff_eq];exact e)
  rw [h1] at this;cases this
 ·obtain ⟨i,hi⟩:=List.mem_iff_getElem?.1 hp
  obtain ⟨_,h2⟩:=key i p hi
  unfold partE at h2
  cases hf:cs.find? (fun c=>c.id==p.comp) with
  | none=>rw [hf] at h2;cases h2
  | some c=>rw [hf] at h2;exact ⟨c,rfl,h2⟩
theorem prt_ok {cs:List Cp} {ps:List Pt} (h1:ps.Pairwise (fun x y=>x.comp≠y.comp)) (h2:∀ p∈ps,∃ c,cs.find? (fun c=>c.id==p.comp)=some c∧fitErr c.fs p.val=0):partsE cs ps=0:=by
 refine firstE_none fun i _ hi => ?_
 obtain ⟨p,hp⟩:∃ p,ps[i]? = some p:=wg V3
 unfold ptE
 rw [hp]
 simp only
 rw [any_false fun j y hj hy=>cS (by
  have:=List.pairwise_iff_getElem.1 h1 j i V2D V3 hj
  rw [(List.getElem?_eq_some_iff.1 hy).2,(List.getElem?_eq_some_iff.1 hp).2] at this
  exact this),if_neg VA]
 obtain ⟨c,hc,hf⟩:=h2 p (dE hp)
 unfold partE
 rw [hc];exact hf
theorem filter_one {ps:List Pt} (h:ps.Pairwise (fun x y=>x.comp≠y.comp)) (o:Int):(ps.filter fun p=>p.comp==o).length≤1:=by
 have hp:=h.sublist (List.filter_sublist (p:=fun p:Pt=>p.comp==o) (l:=ps))
 have hm:∀ x∈ps.filter (fun p=>p.comp==o),x.comp=o:=fun x hx=>by simpa using (List.mem_filter.1 hx).2
 generalize ps.filter (fun p=>p.comp==o)=l at *
 match l,hp,hm with
 | [],_,_=>exact Nat.zero_le _
 | [_],_,_=>exact dO _
 | x::y::t,hp,hm =>
  have:=(List.pairwise_cons.1 hp).1 y (List.mem_cons_self ..)
  exact absurd ((hm x (List.mem_cons_self ..)).trans (hm y (List.mem_cons_of_mem _ (List.mem_cons_self ..))).symm) this
theorem prS_sub:∀ {rs:List Rl} {cs:List Cp} {ps:List Pt},ps.Pairwise (fun x y=>x.comp≠y.comp)→((prS rs cs ps).map (·.1)).Sublist rs
 | [],_,_,_=>by simp [prS]
 | _::_,[],_,_=>by simp [prS]
 | r::rs,c::cs,ps,h=>by
  have ih:=prS_sub (rs:=rs) (cs:=cs) h
  have h1:=filter_one h r.old
  simp only [prS,dI]
  unfold partsOf
  rw [List.map_map]
  generalize ps.filter (fun p=>p.comp==r.old)=l at h1
  match l,h1 with
  | [],_=>exact ih.cons r
  | [x],_=>exact ih.cons_cons r
  | _::_::_,h1=>simp at h1
theorem chkRs_pair:∀ {l:List Rl} {last:Int},chkRs last l=0→l.Pairwise (fun r q=>r.nw<q.nw)∧∀ r∈l,last<r.nw∧(1≤r.nw∧r.nw≤24)∧(0≤r.old∧r.old≤24)
 | [],_,_=>⟨List.Pairwise.nil,fun r hr=>by cases hr⟩
 | r::t,last,h=>by
  unfold chkRs at h
  by_cases e:chkR r last=0
  ·rw [if_pos e] at h
   obtain ⟨g1,g2,g3,_⟩:=chkR_zero e
   obtain ⟨i1,i2⟩:=chkRs_pair h
   refine ⟨List.pairwise_cons.2 ⟨fun q hq=>(i2 q hq).1,i1⟩,fun q hq => ?_⟩
   rcases List.mem_cons.1 hq with rfl|hq
   ·exact ⟨g3,g1,g2⟩
   ·obtain ⟨j1,j2⟩:=i2 q hq
    exact ⟨by omega,j2⟩
  ·rw [if_neg e] at h;exact absurd h e
theorem ckE_facts {a b:Sc} {p:Pg} (h:ckE a b p=0):chkE a=0∧chkE b=0∧chkP p=0∧p.rs.length=b.cs.length∧∀ q∈p.rs.zip b.cs,(q.1.nw=q.2.id∧(q.1.old=0∨(findC a.cs q.1.old).isSome=true))∧ruC a q=0:=by
 unfold ckE at h
 by_cases h1:chkE a=0
 ·rw [if_pos h1] at h
  by_cases h2:chkE b=0
  ·rw [if_pos h2] at h
   by_cases h3:chkP p=0
   ·rw [if_pos h3] at h
    by_cases h4:p.va=a.ver∧p.vb=b.ver∧p.va<p.vb
    ·rw [if_pos h4] at h
     by_cases h5:p.rs.length=b.cs.length
     ·rw [if_pos h5] at h
      by_cases h6:seqE (nwE a) (p.rs.zip b.cs)=0
      ·rw [if_pos h6] at h
       refine ⟨h1,h2,h3,h5,fun q hq=>⟨?_,seqE_zero h q hq⟩⟩
       have:=seqE_zero h6 q hq
       unfold nwE at this
       split at this
       ·rename_i g;exact g
       ·cases this
      ·rw [if_neg h6] at h;cases h
     ·rw [if_neg h5] at h;cases h
    ·rw [if_neg h4] at h;cases h
   ·rw [if_neg h3] at h;exact absurd h h3
  ·rw [if_neg h2] at h;exact absurd h h2
 ·rw [if_neg h1] at h;exact absurd h h1
theorem chkP_rs {p:Pg} (h:chkP p=0):chkRs 0 p.rs=0:=by
 unfold chkP at h
 split at h
 ·exact h
 ·cases h
theorem find_good {cs:List Cp} (h:Fld.Good cs) {c:Cp} (hc:c∈cs):cs.find? (fun d=>d.id==c.id)=some c:=by
 obtain ⟨i,hi⟩:=List.mem_iff_getElem?.1 hc
 exact find_at (fun j y hj hy=>cS (by have:=(h.two j i y c hj hy hi).1;omega)) hi O
section
variable {a b:Sc} {p:Pg} {ps:List Pt} (h:psE a b p ps=0)
include h
theorem psE_facts:ckE a b p=0∧partsE a.cs ps=0∧seqE (pqE a) (prS p.rs b.cs ps)=0:=by
 unfold psE at h
 by_cases h1:ckE a b p=0
 ·rw [if_pos h1] at h
  by_cases h2:partsE a.cs ps=0
  ·rw [if_pos h2] at h;exact ⟨h1,h2,h⟩
  ·rw [if_neg h2] at h;exact absurd h h2
 ·rw [if_neg h1] at h;exact absurd h h1
theorem whole_order:(psV a b p ps).Pairwise (fun x y=>x.comp<y.comp):=by
 obtain ⟨h1,h2,_⟩:=psE_facts h
 obtain ⟨_,_,hp,_,_⟩:=ckE_facts h1
 have hr:=(chkRs_pair (chkP_rs hp)).1
 have hs:=hr.sublist (prS_sub (cs:=b.cs) (prt_facts h2).1)
 unfold psV
 rw [List.pairwise_map] at hs ⊢
 exact hs
theorem whole_fit:partsE b.cs (psV a b p ps)=0:=by
 obtain ⟨h1,h2,h3⟩:=psE_facts h
 obtain ⟨_,hb,_,_,hz⟩:=ckE_facts h1
 refine prt_ok ((whole_order h).imp fun e=>by omega) fun x hx => ?_
 obtain ⟨q,hq,rfl⟩:=List.mem_map.1 hx
 obtain ⟨g1,_,_⟩:=mem_prS.1 hq
 obtain ⟨⟨g2,_⟩,_⟩:=hz _ g1
 have hc:q.2.1∈b.cs:=(List.of_mem_zip g1).2
 refine ⟨q.2.1,?_,valN_fit (seqE_zero h3 q hq)⟩
 show b.cs.find? (fun c=>c.id==q.1.nw)=some q.2.1
 rw [show q.1.nw=q.2.1.id from g2]
 exact find_good (chkE_good hb).2 hc
end
theorem sigN_bit (rs:List Rl) (s j:Nat):(sigN rs s).testBit j=rs.any fun r=>Sg.hasB s r.old&&(Sg.okJ r.nw&&decide (r.nw.toNat=j)):=by
 unfold sigN
 suffices H:∀ (l:List Rl) (n:Nat),(l.foldl (fun n r=>if Sg.hasB s r.old=true then Sg.withN n r.nw else n) n).testBit j=(n.testBit j||l.any fun r=>Sg.hasB s r.old&&(Sg.okJ r.nw&&decide (r.nw.toNat=j))) by
  rw [H,Nat.zero_testBit,Bool.false_or]
 intro l
 induction l with
 | nil=>intro n;simp
 | cons r t ih =>
  intro n
  rw [List.foldl_cons,ih,List.any_cons,← Bool.or_assoc]
  congr 1
  cases hs:Sg.hasB s r.old with
  | true=>rw [if_pos rfl,Sg.with_bit,Bool.true_and]
  | false=>rw [if_neg VA,Bool.false_and,Bool.or_false]
end Go.Proofs.YtopiioklkkiedaaGreatDoor
end
section
set_option maxHeartbeats 12800000
set_option maxRecDepth 100000
namespace Go.Proofs.YtopiioklkkiedaaGreatDoor
open Go Go.Lg Go.Lg.Fml Go.Lg.Fld Go.Lg.Arith
theorem cutN_len:∀ {fs:List Fl} {ns:List Nm},(cutN fs ns).length=fs.length
 | [],_=>rfl
 | f::t,ns=>by show (cutN t (ns.drop f.n)).length+1=t.length+1;rw [cutN_len]
theorem cut_at:∀ {fs:List Fl} {ns:List Nm} {i:Nat} {f:Fl},fs[i]? = some f→(cutN fs ns)[i]? = some ((ns.drop (sumC (fs.take i))).take f.n)
 | g::t,ns,0,f,h=>by
  simp only [List.getElem?_cons_zero,Option.some.injEq] at h
  subst h
  rfl
 | g::t,ns,i+1,f,h=>by
  simp only [List.getElem?_cons_succ] at h
  have:=cut_at (ns:=ns.drop g.n) h
  show (cutN t (ns.drop g.n))[i]? = _
  rw [this,List.drop_drop]
  have e:sumC ((g::t).take (i+1))=g.n+sumC (t.take i):=by simp [sumC]
  rw [e]
 | [],_,_,_,h=>by simp at h
theorem cut_mem {fs:List Fl} {ns:List Nm} {l:List Nm} (h:l∈cutN fs ns):∀ u∈l,u∈ns:=fun u hu=>by
 obtain ⟨i,hi⟩:=List.mem_iff_getElem?.1 h
 have hl:=(wl hi)
 rw [cutN_len] at hl
 rw [cut_at (cY hl)] at hi
 cases hi
 exact List.mem_of_mem_drop (List.mem_of_mem_take hu)
theorem sum_take {fs:List Fl} {i:Nat} {f:Fl} (h:fs[i]? = some f):sumC (fs.take i)+f.n≤sumC fs:=by
 have e:sumC fs=sumC (fs.take (i+1))+sumC (fs.drop (i+1)):=by
  unfold sumC
  rw [← List.sum_append_nat,← dI,List.take_append_drop]
 rw [e,take_snoc h,sum_snoc]
 omega
theorem fit_all {fs:List Fl} {ns:List Nm} (h:fitErr fs ns=0):layErr fs=0∧ns.length=sumC fs∧∀ (j:Nat) (e:Int×Nat) (n:Nm),(elemsAt 0 fs)[j]? = some e→ns[j]? = some n→fitB e.1 n.1 n.2=true:=by
 unfold fitErr at h
 by_cases h1:layErr fs=0
 ·rw [if_pos h1] at h
  by_cases h2:(elemsAt 0 fs).length=ns.length
  ·rw [if_pos h2] at h
   by_cases h3:fitAll (elemsAt 0 fs) ns=true
   ·refine ⟨h1,by rw [← h2,elems_sum],fun j e n he hn => ?_⟩
    unfold fitAll at h3
    exact List.all_eq_true.1 h3 (e,n) (dE (by rw [List.getElem?_zip_eq_some];exact ⟨he,hn⟩))
   ·rw [if_neg h3] at h;cases h
  ·rw [if_neg h2] at h;cases h
 ·rw [if_neg h1] at h;exact absurd h h1
theorem mem_steps:∀ {gs:List Fl} {ex:List (List Ins)} {q:Sp},q∈stepsN gs ex→∃ i:Nat,gs[i]? = some q.1∧ex[i]? = some q.2.1∧q.2.2<q.1.n
 | f::gs,c::ex,q,h=>by
  simp only [stepsN,List.mem_append] at h
  rcases h with h|h
  ·unfold fldS at h
   obtain ⟨k,hk,rfl⟩:=List.mem_map.1 h
   exact ⟨0,O,O,List.mem_range.1 hk⟩
  ·obtain ⟨i,h1,h2,h3⟩:=mem_steps h
   exact ⟨i+1,h1,h2,h3⟩
 | [],_,_,h=>by simp [stepsN] at h
 | _::_,[],_,h=>by simp [stepsN] at h
section
variable {c:Cp} (hn:firstE (fldE c.fs) 0 c.fs.length=0) {ns:List Nm} (h:fitErr c.fs ns=0)
include hn h
end
section
variable {a b:Sc} (hc:b.cs=a.cs) (ha:chkE a=0) (hb:chkE b=0) (hv:a.ver<b.ver)
include hc ha hb hv
end
end Go.Proofs.YtopiioklkkiedaaGreatDoor
end
section
set_option maxHeartbeats 12800000
set_option maxRecDepth 100000
namespace Go.Lg.Sg
open Go Go.Lg Go.Lg.Fld
theorem nz_bit {x:Nat}:x≠0↔∃ j,x.testBit j=true:=by
 constructor
 ·intro h
  by_cases he:∃ j,x.testBit j=true
  ·exact he
  ·refine absurd (Nat.eq_of_testBit_eq fun i => ?_) h
   rw [Nat.zero_testBit]
   cases hb:x.testBit i with
   | false=>rfl
   | true=>exact absurd ⟨i,hb⟩ he
 ·rintro ⟨j,hj⟩ rfl
  rw [Nat.zero_testBit] at hj
  cases hj
theorem ne0_is {x:Nat} {b:Bool} (h:b=true↔∃ j,x.testBit j=true):((((x:Nat):Int) != 0))=b:=by
 rw [Bool.eq_iff_iff,bne_iff_ne,h,← nz_bit]
 omega
theorem andN_32 {a b:Nat} (ha:a<4294967296) (hb:b<4294967296):bits .and .u32 ((a:Nat):Int) ((b:Nat):Int)=((a &&& b:Nat):Int):=u32_and_nat _ _ ha hb
theorem orN_32 {a b:Nat} (ha:a<4294967296) (hb:b<4294967296):bits .or .u32 ((a:Nat):Int) ((b:Nat):Int)=((a ||| b:Nat):Int):=u32_or_nat _ _ ha hb
def bitN (id:Int):Nat:=if okJ id=true then 2^id.toNat else 0
theorem bitN_bit (id:Int) (j:Nat):(bitN id).testBit j=(okJ id&&decide (id.toNat=j)):=by
 unfold bitN
 by_cases h:okJ id=true
 ·rw [if_pos h,h,Nat.testBit_two_pow,Bool.true_and]
 ·rw [if_neg h,show okJ id=false by simpa using h,Nat.zero_testBit,Bool.false_and]
theorem bitN_lt (id:Int):bitN id<4294967296:=lt32_of_bits fun j hj=>by
 rw [bitN_bit]
 by_cases ho:okJ id=true
 ·have:=okI_iff.1 ho
  rw [cO (by omega),Bool.and_false]
 ·rw [show okJ id=false by simpa using ho,Bool.false_and]
theorem shl_bit {id:Int} (h:okJ id=true):IntKind.u32.wrap (1*2^(min id.toNat IntKind.u32.bits))=((bitN id:Nat):Int):=by
 have hi:=okI_iff.1 h
 have hm:min id.toNat IntKind.u32.bits=id.toNat:=by
  show min id.toNat 32=id.toNat
  omega
 have hb:=bitN_lt id
 have he:bitN id=2^id.toNat:=if_pos h
 rw [he] at hb ⊢
 rw [hm,Int.one_mul,show ((2:Int)^id.toNat)=((2^id.toNat:Nat):Int) by rw [Int.natCast_pow];rfl]
 exact wrap_u32 ⟨Int.natCast_nonneg _,by omega⟩
theorem has_bits (a:Nat) (id:Int):((((a &&& bitN id:Nat):Int)) != 0)=hasB a id:=by
 refine ne0_is ?_
 unfold hasB
 constructor
 ·intro h
  rw [Bool.and_eq_true] at h
  exact ⟨id.toNat,by rw [Nat.testBit_and,bitN_bit,h.1,h.2,cP rfl];rfl⟩
 ·rintro ⟨j,hj⟩
  rw [Nat.testBit_and,bitN_bit,Bool.and_eq_true,Bool.and_eq_true] at hj
  obtain ⟨h1,h2,h3⟩:=hj
  rw [h2,of_decide_eq_true h3,h1];rfl
theorem with_bits (a:Nat) (id:Int):a ||| bitN id=withN a id:=by
 unfold bitN withN
 by_cases h:okJ id=true
 ·rw [if_pos h,if_pos h]
 ·rw [if_neg h,if_neg h,Nat.or_zero]
def Unread (s:List UInt8) (ids:List Int) (l:List UInt8):Prop:=(runS ([],-1) s).bind sepS=(runS (ids,-1) l).bind sepS
def cutM (s:List UInt8):Bool:=decide (0≤Lib.indexByte s 43)
end Go.Lg.Sg
end
section
set_option maxHeartbeats 12800000
set_option maxRecDepth 100000
namespace Go.Lg.Sg
open Go Go.Lg Go.Lg.Fld
theorem okI_eq (id:Int):okJ id=(decide (1≤id)&&decide (id≤24)):=rfl
end Go.Lg.Sg
namespace Go.Proofs.YtopiioklkkiedaaGreatDoor
open Go Go.Lg Go.Lg.Fld Go.Lg.Sg
set_option maxRecDepth 100000
variable (X:Nat→Option Obj)
theorem zIsId (id:Int):PSpec Tryz.prog X 96 [Ln .i64 id] (Lb (okJ id)):=by
 refine cF Tryz.func96 rfl V5 rfl rfl ?_
 intro C
 by_cases h1:1≤id
 ·rw [okI_eq,cP h1,Bool.true_and]
  (refine U7 ?_;refine bD O O (cP h1) dS ?_;refine U2 ?_;refine K.leq O O (r:=decide (id≤24)) O (dT O O) ?_;refine U4 ?_)
  exact V6
 ·rw [okI_eq,cO h1,Bool.false_and]
  (refine U7 ?_;refine bD O O (cO h1) dS ?_;refine U7 ?_)
  exact V6
theorem zBit (id:Int):PSpec Tryz.prog X 63 [Ln .i64 id] (Ln .u32 (bitN id:Nat)):=by
 have hI:=zIsId X id
 refine cF Tryz.func63 rfl V5 rfl rfl ?_
 intro C
 cases h:okJ id with
 | false =>
  have hz:bitN id=0:=if_neg (by rw [h];decide)
  rw [h] at hI
  rw [hz]
  refine U17 ?_
  exact V6
 | true =>
  have hs:=shl_bit h
  have h0:=(okI_iff.1 h).1
  rw [h] at hI
  generalize bitN id=b at *
  (refine U16 ?_;refine K.shl O O V3 hs dS ?_;refine U3 ?_)
  exact V6
section
variable (a b:Nat) (ha:a<4294967296) (hb:b<4294967296) (id:Int)
include ha
theorem gHas:PSpec Tryz.prog X 28 [Ln .u32 (a:Nat),Ln .i64 id] (Lb (hasB a id)):=by
 have h1:=andN_32 ha (bitN_lt id)
 have h2:=has_bits a id
 have hB:=zBit X id
 refine cF Tryz.func28 rfl V5 rfl rfl ?_
 intro C
 generalize a &&& bitN id=c at *
 generalize bitN id=d at *
 (refine U9 ?_;refine K.bitop V21 O O h1 dS<|kne O O h2 ?_;refine U3 ?_)
 exact V6
theorem gWith:PSpec Tryz.prog X 52 [Ln .u32 (a:Nat),Ln .i64 id] (Ln .u32 (withN a id:Nat)):=by
 have h1:=orN_32 ha (bitN_lt id)
 rw [with_bits] at h1
 have hB:=zBit X id
 refine cF Tryz.func52 rfl V5 rfl rfl ?_
 intro C
 generalize withN a id=c at *
 generalize bitN id=d at *
 (refine U9 ?_;refine K.bitop V21 O O h1 dS ?_;refine U3 ?_)
 exact V6
end
end Go.Proofs.YtopiioklkkiedaaGreatDoor
end
section
set_option maxHeartbeats 12800000
set_option maxRecDepth 100000
namespace Go.Lg.Col
open Go Go.Lg Go.RowKit
abbrev Ext (X Y:Nat→Option Obj):Prop := ∀ b o,X b=some o→Y b=some o
end Go.Lg.Col
namespace Go.Proofs.YtopiioklkkiedaaGreatDoor
open Go Go.Lg Go.Lg.Col
set_option maxRecDepth 100000
variable (X:Nat→Option Obj)
end Go.Proofs.YtopiioklkkiedaaGreatDoor
end
section
set_option maxHeartbeats 12800000
set_option maxRecDepth 100000
namespace Go.Proofs.YtopiioklkkiedaaGreatDoor
open Go Go.Lg Go.Lg.Fml Go.Lg.Fld Go.Lg.Arith
theorem sigN_lt (rs:List Rl) (s:Nat):sigN rs s<33554432:=by
 refine Nat.lt_pow_two_of_testBit (n:=25) _ fun i hi => ?_
 rw [sigN_bit,List.any_eq_false]
 intro r _ hb
 rw [Bool.and_eq_true,Bool.and_eq_true] at hb
 have:=Sg.okI_iff.1 hb.2.1
 have:=of_decide_eq_true hb.2.2
 omega
end Go.Proofs.YtopiioklkkiedaaGreatDoor
end
section
set_option maxHeartbeats 12800000
set_option maxRecDepth 100000
namespace Go.Proofs.YtopiioklkkiedaaGreatDoor
open Go Go.Lg Go.Lg.Fml Go.Lg.Fld Go.Lg.Arith
set_option maxRecDepth 100000
theorem InsIn.six {X:Nat→Option Obj} {ad:Option Addr} {l:List Ins} (h:InsIn X ad l) {i:Nat} {x:Ins} (hx:l[i]? = some x):
  ∃ (blk off:Nat) (arr:Array Value) (el:TypeId) (fr:Nat×Nat),ad=some ⟨blk,off,none⟩∧X blk=some (.cells arr el fr)∧off+i*6+6≤arr.size∧((arr.toList.drop (off+i*6)).take 6).map CV.val=(insV x).map CV.val∧arr[off+i*6]? = some (.int .i64 x.op) ∧
   arr[off+i*6+1]? = some (.int .i64 x.a)∧arr[off+i*6+2]? = some (.int .i64 x.b)∧((arr.toList.drop (off+i*6+3)).take 3).map CV.val=[.val (.bool x.k.1),.val (.int .u64 (x.k.2/18446744073709551616)),.val (.int .u64 (x.k.2%18446744073709551616))]:=by
 obtain ⟨blk,off,arr,el,fr,h1,h2,h3,h4⟩:=h.rows i (insV x) (by rw [dM,hx];rfl)
 have key:∀ j,j<6→arr[off+i*6+j]? = (insV x)[j]? := fun j hj=>by
  rw [← h4,List.getElem?_take,if_pos hj,List.getElem?_drop,Array.getElem?_toList]
 refine ⟨blk,off,arr,el,fr,h1,h2,h3,by rw [h4],key 0 VA,key 1 VA,key 2 VA,?_⟩
 have:(arr.toList.drop (off+i*6+3)).take 3=(((arr.toList.drop (off+i*6)).take 6).drop 3).take 3:=by
  rw [List.drop_take,List.take_take,List.drop_drop];rfl
 rw [this,h4];rfl
abbrev flB (k:Nat) (f:Fl):Nat×Option Box:=(k,some ⟨83,f.vals.map .val,false⟩)
theorem _root_.Go.Lg.Fld.FieldsIn.cells {X:Nat→Option Obj} {ad:Option Addr} {fs:List Fl} (h:FieldsIn X ad fs) {i:Nat} {f:Fl} (hf:fs[i]? = some f):
  ∃ (blk off:Nat) (arr:Array Value) (el:TypeId) (fr:Nat×Nat),ad=some ⟨blk,off,none⟩∧X blk=some (.cells arr el fr)∧off+i*3+3≤arr.size∧((arr.toList.drop (off+i*3)).take 3).map CV.val=f.vals.map CV.val ∧
   arr[off+i*3]? = some (.string ⟨f.nm.toArray⟩)∧arr[off+i*3+1]? = some (.int .i64 f.kind)∧arr[off+i*3+2]? = some (.int .i64 f.count):=by
 obtain ⟨blk,off,arr,el,fr,h1,h2,h3,h4⟩:=h.rows i f.vals (by rw [dM,hf];rfl)
 obtain ⟨g1,g2,g3⟩:=three_at h4
 exact ⟨blk,off,arr,el,fr,h1,h2,h3,by rw [h4],g1,g2,g3⟩
section
variable {fs:List Fl} {f:Fl} {x:Ins}
theorem findE_skip (h:¬(x.op=2∨x.op=3)):findE fs f x=0:=if_neg h
theorem findE_out (h:x.op=2∨x.op=3) (ha:fs[x.a.toNat]? = none):findE fs f x=3:=by unfold findE;rw [if_pos h,ha]
theorem findE_at (h:x.op=2∨x.op=3) {g:Fl} (ha:fs[x.a.toNat]? = some g):findE fs f x=if (x.op=2∧g.count≤x.b)∨(x.op=3∧g.count<f.count) then 3 else if (g.kind=10)=(f.kind=10) then 0 else 8:=by unfold findE;rw [if_pos h,ha]
end
theorem beq_dec (a b:Int):(a==b)=decide (a=b):=by by_cases h:a=b<;>simp [h]
variable (X:Nat→Option Obj)
set_option maxHeartbeats 6400000 in
theorem rFormula13 (c:Cp) (f:Fl) (l:List Ins) (cad ad:Option Addr) (ccap cap:Nat) (hF:FieldsIn X cad c.fs) (hin:InsIn X ad l) (hbig:l.length<4611686018427387904) (hfl:c.fs.length<4611686018427387904):
  PSpec Tryz.prog X 72 [Cx c cad ccap,Fx f,Lx ad l.length cap] (Ln .i64 (fmE c.fs f l)):=by
 have hC:=rCheck11 X l ad cap hin hbig
 refine cF Tryz.func72 rfl V5 rfl rfl ?_
 intro C
 unfold fmE
 by_cases h0:chkX l=0
 case neg =>
  rw [if_neg h0]
  generalize chkX l=e at *
  (refine U16 ?_;refine kne rfl rfl (cU h0) ?_;refine U8 ?_)
  exact V6
 rw [h0] at hC
 have hchk:=chkX_ok h0
 rw [if_pos h0]
 have hfin:∀ e,seqE (findE c.fs f) l=e→e≠0→(if seqE (findE c.fs f) l=0 then refE f l else seqE (findE c.fs f) l)=e:=fun e h1 h2=>by rw [h1,if_neg h2]
 (refine U24 ?_;refine keq rfl rfl (r:=decide (f.kind=10)) (beq_dec f.kind 10) ?_;refine U8 ?_)
 refine cL (fun m σ=>∃ i:Nat,i≤l.length∧m=l.length-i∧(∀ j,0≤j→j<i→atE (findE c.fs f) l j=0)∧σ=⟨[(2,Lx ad l.length cap),(3,Lp 3),(4,Lp 4),(8,Lb (decide (f.kind=10))),(9,Ln .i64 (i:Nat))],[flB 4 f,cpB 3 c cad ccap],X⟩) l.length
  ⟨_,Le.of V10 VE V2 V2 V0,0,by omega,by omega,fun j _ hj=>absurd hj V3,rfl⟩ ?_
 rintro m σ ⟨i,hi,rfl,hpre,rfl⟩
 by_cases hlt:i<l.length
 case neg =>
  have e:i=l.length:=by omega
  subst e
  have hs:seqE (findE c.fs f) l=0:=firstE_none fun j h1 h2=>hpre j h1 V3
  rw [if_pos hs]
  by_cases hk:f.kind=10
  case neg =>
   have hr:refE f l=0:=by
    unfold refE
    split
    ·rw [if_neg (fun h=>hk h.1)]
    ·rw [if_neg hk]
   rw [hr]
   rw [cO hk]
   refine U49 ?_
   exact V6
  rw [cP hk]
  by_cases h1:l.length=1
  case neg =>
   have hr:refE f l=8:=by
    unfold refE
    split
    ·exact absurd rfl h1
    ·rw [if_pos hk]
   rw [hr]
   (refine U17 ?_;refine aX O O (r:=true) (cU V3) (dT O O) ?_;refine U30 ?_)
   exact V6
  obtain ⟨x,hx⟩:∃ x,l[0]? = some x:=wg V3
  have hl1:l=[x]:=by
   match l,h1,hx with
   | [y],_,hx=>simp only [List.getElem?_cons_zero,Option.some.injEq] at hx;rw [hx]
  obtain ⟨blk,off,arr,el,fr,rfl,hX,hsz,hcs,g0,g1,g2,g3⟩:=hin.six hx
  obtain ⟨_,_,_,hk2⟩:=hin.small x (dE hx)
  have hr:refE f l=if x.op=4∨(x.op=1∧x.k≠(false,0)) then 8 else 0:=by
   rw [hl1]
   show (if f.kind=10∧(x.op=4∨(x.op=1∧x.k≠(false,0))) then (8:Int) else 0)=_
   by_cases hb:x.op=4∨(x.op=1∧x.k≠(false,0))
   ·rw [if_pos hb,if_pos ⟨hk,hb⟩]
   ·rw [if_neg hb,if_neg (fun h=>hb h.2)]
  rw [hr]
  have hsz3:off+0*6+3+3≤arr.size:=by omega
  have h00:off+Int.toNat 0*6=off+0*6:=by simp
  by_cases c4:x.op=4
  ·rw [if_pos (.inl c4)]
   (refine U17 ?_;refine aX O O (r:=false) (cT V3) (dT O O) ?_;refine U5 ?_;refine bC O O (r:=true) (cV c4) (dT O O) ?_;refine U24 ?_)
   exact V6
  by_cases c1:x.op=1
  case neg =>
   rw [if_neg (fun h=>h.elim c4 fun h=>c1 h.1)]
   (refine U17 ?_;refine aX O O (r:=false) (cT V3) (dT O O) ?_;refine U5 ?_;refine bC O O (r:=false) (cS c4) (dT O O) ?_;refine U6 ?_;refine bC O O (r:=false) (cS c1) (dT O O) ?_;refine U18 ?_)
   exact V6
  obtain ⟨op,a,b,kb,kN⟩:=x
  simp only at hk2 g0 g1 g2 g3 hcs c4 c1 ⊢
  have q:=eqI (b:=kb) (b':=false) (h:=kN/18446744073709551616) (h':=0) (l:=kN%18446744073709551616) (l':=0) _ (eqZ hk2)
  by_cases hz:((kb,kN):Nm)=(false,0)
  ·rw [if_neg (fun h=>h.elim c4 fun h=>h.2 hz)]
   rw [cP hz] at q
   ((refine U17 ?_;refine aX O O (r:=false) (cT V3) (dT O O) ?_;refine U5 ?_;refine bC O O (r:=false) (cS c4) (dT O O) ?_;refine U6 ?_);(refine bC O O (r:=true) (cV c1) (dT O O) ?_;refine U6 ?_;refine bR O O O O V5 q (.inr ⟨O,O⟩) (dT O O) ?_;refine U11 ?_))
   exact V6
  ·rw [if_pos (.inr ⟨c1,hz⟩)]
   rw [cO hz] at q
   ((refine U17 ?_;refine aX O O (r:=false) (cT V3) (dT O O) ?_;refine U5 ?_;refine bC O O (r:=false) (cS c4) (dT O O) ?_;refine U6 ?_);(refine bC O O (r:=true) (cV c1) (dT O O) ?_;refine U6 ?_;refine bR O O O O V5 q (.inr ⟨O,O⟩) (dT O O) ?_;refine U10 ?_))
   exact V6
 obtain ⟨x,hx⟩:=wg hlt
 obtain ⟨blk,off,arr,el,fr,rfl,hX,hsz,hcs,_⟩:=hin.at hx
 have hio:=wo off i 6
 obtain ⟨_,_,⟨ha0,_⟩,_⟩:=okI_facts (hchk x (dE hx))
 have hadd:IntKind.i64.wrap ((i:Int)+1)=((i+1:Nat):Int):=by rw [cH V3];omega
 have fin:∀ e,findE c.fs f x=e→e≠0→(if seqE (findE c.fs f) l=0 then refE f l else seqE (findE c.fs f) l)=e:=fun e he h0=>hfin e (firstE_some hpre (Nat.zero_le _) V3 (by rw [atE_at hx];exact he) h0) h0
 have next:findE c.fs f x=0→∀ j,0≤j→j<i+1→atE (findE c.fs f) l j=0:=fun he j h0 hj=>by
  by_cases e:j=i
  ·rw [e,atE_at hx];exact he
  ·exact hpre j h0 V3
 by_cases c23:x.op=2∨x.op=3
 case neg =>
  (refine U30 ?_;refine aX O O (r:=true) (cU V3) (dT O O) ?_;refine U9 ?_)
  exact ⟨_,_,by omega,Le.of V10 VE V2 V2 V0,i+1,by omega,O,next (findE_skip c23),O⟩
 cases hg:c.fs[x.a.toNat]? with
 | none =>
  have hge:=List.getElem?_eq_none_iff.1 hg
  rw [fin 3 (findE_out c23 hg) (by decide)]
  rcases c23 with c2|c3
  ·(refine U26 ?_;refine kne rfl rfl (r:=false) (cT c2) ?_;refine U24 ?_)
   exact V6
  ·(refine U30 ?_;refine aX O O (r:=false) (cT c3) (dT O O) ?_;refine U20 ?_)
   exact V6
 | some g =>
 have hlg:=(wl hg)
 have hE:=findE_at (f:=f) c23 hg
 obtain ⟨fb,fo,farr,fel,ffr,rfl,hFX,hFz,hFc,_⟩:=hF.cells hg
 have hio3:fo+Int.toNat x.a*3=fo+x.a.toNat*3:=rfl
 rcases c23 with c2|c3
 ·by_cases hb:g.count≤x.b
  ·rw [if_pos (.inl ⟨c2,hb⟩)] at hE
   rw [fin 3 hE (by decide)]
   ((refine U26 ?_;refine kne O O (r:=false) (cT c2) ?_;refine U19 ?_);(refine U17 ?_;refine keq O O (r:=true) (cV c2) ?_;refine U5 ?_;refine bD O O (cP V3) (dT O O) ?_;refine U14 ?_);(refine U6 ?_))
   exact V6
  rw [if_neg (by omega)] at hE
  by_cases hk:f.kind=10
  ·rw [cP hk]
   by_cases hm:g.kind=10
   ·rw [if_pos (by rw [eq_iff_iff];exact ⟨fun _=>hk,fun _=>hm⟩)] at hE
    ((refine U26 ?_;refine kne O O (r:=false) (cT c2) ?_;refine U19 ?_);(refine U17 ?_;refine keq O O (r:=true) (cV c2) ?_;refine U9 ?_);(refine U1 ?_;refine bC O O (r:=false) (cS V3) (dT O O) ?_;refine U17 ?_;refine aX O O (r:=false) (cT hm) (dT O O) ?_;refine U13 ?_);(refine U5 ?_))
    exact ⟨_,_,by omega,Le.of V10 VE V2 V2 V0,i+1,by omega,O,next hE,O⟩
   ·rw [if_neg (fun h=>hm (h.mpr hk))] at hE
    rw [fin 8 hE (by decide)]
    ((refine U26 ?_;refine kne O O (r:=false) (cT c2) ?_;refine U19 ?_);(refine U17 ?_;refine keq O O (r:=true) (cV c2) ?_;refine U9 ?_);(refine U1 ?_;refine bC O O (r:=false) (cS V3) (dT O O) ?_;refine U17 ?_;refine aX O O (r:=true) (cU hm) (dT O O) ?_;refine U17 ?_))
    exact V6
  ·rw [cO hk]
   by_cases hm:g.kind=10
   ·rw [if_neg (fun h=>hk (h.mp hm))] at hE
    rw [fin 8 hE (by decide)]
    ((refine U26 ?_;refine kne O O (r:=false) (cT c2) ?_;refine U19 ?_);(refine U17 ?_;refine keq O O (r:=true) (cV c2) ?_;refine U9 ?_);(refine U1 ?_;refine bC O O (r:=false) (cS V3) (dT O O) ?_;refine U25 ?_;refine bC O O (r:=true) (cV hm) (dT O O) ?_;refine U9 ?_))
    exact V6
   ·rw [if_pos (by rw [eq_iff_iff];exact ⟨fun h=>absurd h hm,fun h=>absurd h hk⟩)] at hE
    ((refine U26 ?_;refine kne O O (r:=false) (cT c2) ?_;refine U19 ?_);(refine U17 ?_;refine keq O O (r:=true) (cV c2) ?_;refine U9 ?_);(refine U1 ?_;refine bC O O (r:=false) (cS V3) (dT O O) ?_;refine U25 ?_;refine bC O O (r:=false) (cS hm) (dT O O) ?_;refine U5 ?_);(refine U5 ?_))
    exact ⟨_,_,by omega,Le.of V10 VE V2 V2 V0,i+1,by omega,O,next hE,O⟩
 ·by_cases hb:g.count<f.count
  ·rw [if_pos (.inr ⟨c3,hb⟩)] at hE
   rw [fin 3 hE (by decide)]
   ((refine U30 ?_;refine aX O O (r:=false) (cT c3) (dT O O) ?_;refine U8 ?_);(refine U35 ?_;refine bC O O (r:=true) (cV c3) (dT O O) ?_);(refine U5 ?_;refine bK O O (cP V3) (dT O O) ?_;refine U9 ?_))
   exact V6
  rw [if_neg (by omega)] at hE
  by_cases hk:f.kind=10
  ·rw [cP hk]
   by_cases hm:g.kind=10
   ·rw [if_pos (by rw [eq_iff_iff];exact ⟨fun _=>hk,fun _=>hm⟩)] at hE
    ((refine U30 ?_;refine aX O O (r:=false) (cT c3) (dT O O) ?_;refine U8 ?_);(refine U35 ?_;refine bC O O (r:=true) (cV c3) (dT O O) ?_);(refine U17 ?_;refine aX O O (r:=false) (cT hm) (dT O O) ?_;refine U4 ?_);(refine U14 ?_))
    exact ⟨_,_,by omega,Le.of V10 VE V2 V2 V0,i+1,by omega,O,next hE,O⟩
   ·rw [if_neg (fun h=>hm (h.mpr hk))] at hE
    rw [fin 8 hE (by decide)]
    ((refine U30 ?_;refine aX O O (r:=false) (cT c3) (dT O O) ?_;refine U8 ?_);(refine U35 ?_;refine bC O O (r:=true) (cV c3) (dT O O) ?_);(refine U17 ?_;refine aX O O (r:=true) (cU hm) (dT O O) ?_;refine U12 ?_);(refine U5 ?_))
    exact V6
  ·rw [cO hk]
   by_cases hm:g.kind=10
   ·rw [if_neg (fun h=>hk (h.mp hm))] at hE
    rw [fin 8 hE (by decide)]
    ((refine U30 ?_;refine aX O O (r:=false) (cT c3) (dT O O) ?_;refine U8 ?_);(refine U35 ?_;refine bC O O (r:=true) (cV c3) (dT O O) ?_);(refine U25 ?_;refine bC O O (r:=true) (cV hm) (dT O O) ?_);(refine U9 ?_))
    exact V6
   ·rw [if_pos (by rw [eq_iff_iff];exact ⟨fun h=>absurd h hm,fun h=>absurd h hk⟩)] at hE
    ((refine U30 ?_;refine aX O O (r:=false) (cT c3) (dT O O) ?_;refine U8 ?_);(refine U35 ?_;refine bC O O (r:=true) (cV c3) (dT O O) ?_);(refine U25 ?_;refine bC O O (r:=false) (cS hm) (dT O O) ?_);(refine U10 ?_))
    exact ⟨_,_,by omega,Le.of V10 VE V2 V2 V0,i+1,by omega,O,next hE,O⟩
theorem ruE_at {fs gs:List Fl} {r:Rl} (h0:r.old≠0) (h:r.ex.length=gs.length):ruE fs gs r=seqE (fun q:Fl×List Ins=>fmE fs q.1 q.2) (gs.zip r.ex):=by unfold ruE;rw [if_neg h0,if_pos h]
theorem zip_two {α β:Type} {l:List α} {m:List β} {i:Nat} {x:α} {y:β} (hx:l[i]? = some x) (hy:m[i]? = some y):(l.zip m)[i]? = some (x,y):=by
 rw [List.getElem?_zip_eq_some];exact ⟨hx,hy⟩
set_option maxHeartbeats 6400000 in
theorem rRule13 (a b:Cp) (r:Rl) (aad bad ead:Option Addr) (acap bcap ecap:Nat) (hA:FieldsIn X aad a.fs) (hB:FieldsIn X bad b.fs) (hE:CodesIn X ead r.ex) (hal:a.fs.length<4611686018427387904) (hbl:b.fs.length<4611686018427387904) (hcl:∀ c∈r.ex,c.length<4611686018427387904):
  PSpec Tryz.prog X 38 [Cx a aad acap,Cx b bad bcap,.sv (.agg [.val (.int .i64 r.nw),.val (.int .i64 r.old),.val (.slice ead r.ex.length ecap)])] (Ln .i64 (ruE a.fs b.fs r)):=by
 refine cF Tryz.func38 rfl V5 rfl rfl ?_
 intro C
 by_cases h0:r.old=0
 ·rw [show ruE a.fs b.fs r=0 from if_pos h0]
  (refine U12 ?_;refine keq rfl rfl (r:=true) (cV h0) ?_;refine U7 ?_)
  exact V6
 by_cases hl:r.ex.length=b.fs.length
 case neg =>
  rw [show ruE a.fs b.fs r=4 by unfold ruE;rw [if_neg h0,if_neg hl]]
  (refine U12 ?_;refine keq rfl rfl (r:=false) (cS h0) ?_;refine U20 ?_)
  exact V6
 rw [ruE_at h0 hl]
 have hzl:(b.fs.zip r.ex).length=b.fs.length:=by rw [List.length_zip];omega
 (refine U12 ?_;refine keq rfl rfl (r:=false) (cS h0) ?_;refine U12 ?_;refine kne rfl rfl (r:=false) (cT V3) ?_;refine U9 ?_)
 refine cL (fun m σ=>∃ i:Nat,i≤b.fs.length∧m=b.fs.length-i∧(∀ j,0≤j→j<i→atE (fun q:Fl×List Ins=>fmE a.fs q.1 q.2) (b.fs.zip r.ex) j=0)∧σ=⟨[(3,Lp 3),(4,Lp 4),(5,Lp 5),(7,Ln .i64 (i:Nat))],[v3B 39 5 r.nw r.old ead r.ex.length ecap,cpB 4 b bad bcap,cpB 3 a aad acap],X⟩) b.fs.length
  ⟨_,Le.of V8 V9 V2 V2 V0,0,by omega,by omega,fun j _ hj=>absurd hj V3,rfl⟩ ?_
 rintro m σ ⟨i,hi,rfl,hpre,rfl⟩
 by_cases hlt:i<b.fs.length
 case neg =>
  rw [show seqE (fun q:Fl×List Ins=>fmE a.fs q.1 q.2) (b.fs.zip r.ex)=0 from firstE_none fun j h1 h2=>hpre j h1 (by omega)]
  refine U16 ?_
  exact V6
 obtain ⟨f,hf⟩:=wg hlt
 obtain ⟨c,hc⟩:∃ c,r.ex[i]? = some c:=wg V3
 obtain ⟨fb,fo,farr,fel,ffr,rfl,hFX,hFz,hFc,_⟩:=hB.cells hf
 obtain ⟨eb,eo,earr,eel,efr,vad,vcap,rfl,hEX,hec,hI⟩:=hE.get hc
 have hio3:=wo fo i 3
 have hio1:=wo eo i 1
 have hadd:IntKind.i64.wrap ((i:Int)+1)=((i+1:Nat):Int):=by rw [cH V3];omega
 have hq:=rFormula13 X a f c aad vad acap vcap hA hI (hcl c (dE hc)) hal
 have hat:atE (fun q:Fl×List Ins=>fmE a.fs q.1 q.2) (b.fs.zip r.ex) i=fmE a.fs f c:=atE_at (zip_two hf hc)
 by_cases he:fmE a.fs f c=0
 ·rw [he] at hq
  (refine U14 ?_;refine rgD mixed ?_;refine U27 ?_)
  exact ⟨_,_,by omega,Le.of V8 V9 V2 V2 V0,i+1,by omega,O,(fun j h0 hj=>by
   by_cases e:j=i
   ·rw [e,hat];exact he
   ·exact hpre j h0 V3),rfl⟩
 ·rw [show seqE (fun q:Fl×List Ins=>fmE a.fs q.1 q.2) (b.fs.zip r.ex)=fmE a.fs f c from firstE_some hpre (Nat.zero_le _) V3 hat he]
  generalize fmE a.fs f c=e at *
  (refine U14 ?_;refine rgD mixed ?_;refine U18 ?_;refine kne rfl rfl (r:=true) (cU he) ?_;refine U8 ?_)
  exact V6
end Go.Proofs.YtopiioklkkiedaaGreatDoor
end
section
set_option maxHeartbeats 12800000
set_option maxRecDepth 100000
namespace Go.Proofs.YtopiioklkkiedaaGreatDoor
open Go Go.Lg Go.Lg.Fml Go.Lg.Fld Go.Lg.Arith
set_option maxRecDepth 100000
def grtF (c:Cp):Bool:=decide (12<c.fs.length)
def grtN (az bz:List Cp) (rs:List Rl):Bool:=decide (30<az.length)||(decide (30<bz.length)||decide (30<rs.length))
def grt13 (az bz:List Cp) (rs:List Rl):Bool:=grtN az bz rs||(az.any grtF||(bz.any grtF||rs.any grtR))
theorem grt13_false {az bz:List Cp} {rs:List Rl} (h:grt13 az bz rs=false):(az.length≤30∧∀ c∈az,c.fs.length≤12)∧(bz.length≤30∧∀ c∈bz,c.fs.length≤12)∧rs.length≤30∧∀ r∈rs,r.ex.length≤12∧∀ c∈r.ex,c.length≤80:=by
 unfold grt13 grtN at h
 simp only [Bool.or_eq_false_iff,decide_eq_false_iff_not] at h
 obtain ⟨⟨h1,h2,h3⟩,h4,h5,h6⟩:=h
 have key:∀ l:List Cp,l.any grtF=false→∀ c∈l,c.fs.length≤12:=fun l hl c hc=>by
  have:=List.any_eq_false.1 hl c hc
  unfold grtF at this
  simpa using this
 have hp:=grtP_false (rs:=rs) (by unfold grtP;rw [Bool.or_eq_false_iff,decide_eq_false_iff_not];exact ⟨h3,h6⟩)
 exact ⟨⟨by omega,key _ h4⟩,⟨by omega,key _ h5⟩,by omega,hp.2⟩
theorem any_yes {α:Type} {p:α→Bool} {l:List α} {x:α} {i:Nat} (hx:l[i]? = some x) (h:p x=true):l.any p=true:=List.any_eq_true.2 ⟨x,dE hx,h⟩
theorem any_next {α:Type} {p:α→Bool} {l:List α} {x:α} {i:Nat} (hx:l[i]? = some x) (h0:(l.take i).any p=false) (h:p x=false):(l.take (i+1)).any p=false:=by
 rw [take_snoc hx,List.any_append,h0];simp [h]
variable (X:Nat→Option Obj)
end Go.Proofs.YtopiioklkkiedaaGreatDoor
end
