/- A piece of a proof over this program: contracts of its functions, and a logic to prove them by. -/
import Derived.Test.YtopiioklkkiedaaGreatDoorW3
import Derived.Test.YtopiioklkkiedaaGreatDoorW4
import Derived.Test.YtopiioklkkiedaaGreatDoorW5
import Derived.Test.YtopiioklkkiedaaGreatDoorW6
import Derived.Test.YtopiioklkkiedaaGreatDoorW7
section
set_option maxHeartbeats 12800000
set_option maxRecDepth 100000
namespace Go.Proofs.YtopiioklkkiedaaGreatDoor
open Go Go.Lg Go.Lg.Fml Go.Lg.Fld Go.RowKit Go.ChangeShapes Go.WideShapes Go.Joins
set_option maxRecDepth 100000
section
variable {H:Type} {enc:TypeId×Value→H} {w:World}
theorem open_nums_w {fuel:Nat} {l:List Value} {x:DataW H×List MemPlace} (h:DataW.trod enc Tryz.prog w 0 (fun _=>true) true fuel 28 l=some x) (hw:Light Tryz.prog 28 x.1):
  ∃ (ad:Option Addr) (cap:Nat) (ns:List (Bool×Int)),l=[.slice ad ns.length cap]∧ns.length≤cap∧ns.length≤4398046511104*4∧NumsIn (fun b=>w.heap[b]?) ad ns:=by
 obtain ⟨ad,cap,rows,rfl,hb,hc,_,h3,h4⟩:=open_rows_w (e:=86) (sz:=3) V5 V5 VA h hw
 obtain ⟨ns,rfl,h5⟩:=map_of (f:=nmV) (q:=fun n=>In2 n.2) (vs:=rows) (fun u hu=>by
  obtain ⟨hlen,n,x,hx,_⟩:=h4 u hu
  obtain ⟨y0,y1,y2,n',_,_,g0,g1,g2⟩:=Deep.trod_struct3 (t:=86) Tryz.underlying86 hx
  obtain ⟨e0',e1',e2',rfl⟩:∃ c0 c1 c2,u=[c0,c1,c2]:=by
   match u,hlen with
   | [c0,c1,c2],_=>exact ⟨c0,c1,c2,rfl⟩
  obtain ⟨b,e0,_⟩:=DataW.trod_bool V5 g0
  obtain ⟨x,e1,_,wa1⟩:=DataW.trod_int (k:=.u64) V5 g1
  obtain ⟨y,e2,_,wa2⟩:=DataW.trod_int (k:=.u64) V5 g2
  have q0:e0' = .bool b:=by simpa using (show ([e0',e1',e2'].drop 0).take 1=[.bool b] from e0)
  have q1:e1' = .int .u64 x:=by simpa using (show ([e0',e1',e2'].drop 1).take 1=[.int .u64 x] from e1)
  have q2:e2' = .int .u64 y:=by simpa using (show ([e0',e1',e2'].drop 2).take 1=[.int .u64 y] from e2)
  subst q0 q1 q2
  have b1:=bounds_u64 wa1
  have b2:=bounds_u64 wa2
  refine ⟨(b,x*18446744073709551616+y),?_,by show 0≤x*18446744073709551616+y;omega,by show x*18446744073709551616+y<_;omega⟩
  unfold nmV
  rw [show (b,x*18446744073709551616+y).2/18446744073709551616=x by show (x*18446744073709551616+y)/18446744073709551616=x;omega,show (b,x*18446744073709551616+y).2%18446744073709551616=y by show (x*18446744073709551616+y)%18446744073709551616=y;omega])
 exact ⟨ad,cap,ns,by rw [cX],by rw [cX] at hc;exact hc,by rw [cX,show Tryz.prog.bytesOf 86=24 by kernel_rfl,show reachBytes=140737488351232 by decide] at hb;omega,h3,h5⟩
theorem open_parts_w {fuel:Nat} {l:List Value} {x:DataW H×List MemPlace} (h:DataW.trod enc Tryz.prog w 0 (fun _=>true) true fuel 56 l=some x) (hw:Light Tryz.prog 56 x.1):
  ∃ (ad:Option Addr) (cap:Nat) (ps:List Pt),l=[.slice ad ps.length cap]∧ps.length≤cap∧ps.length≤4398046511104*4∧PartsC (fun b=>w.heap[b]?) ad ps∧∀ x∈ps,x.val.length≤4398046511104*4:=by
 obtain ⟨ad,cap,rows,rfl,hb,h1,_,h3,h4⟩:=open_rows_w (e:=59) (sz:=2) V5 V5 VA h hw
 obtain ⟨ts,rfl,h5⟩:=map_of (f:=fun t:Pt×Option Addr×Nat=>[.int .i64 t.1.comp,.slice t.2.1 t.1.val.length t.2.2]) (q:=fun t=>(NumsIn (fun b=>w.heap[b]?) t.2.1 t.1.val∧t.1.val.length≤t.2.2∧t.1.val.length≤4398046511104*4)∧(-9223372036854775808≤t.1.comp∧t.1.comp<9223372036854775808)) (vs:=rows) (fun u hu=>by
  obtain ⟨hlen,n,x,hx,hxw⟩:=h4 u hu
  obtain ⟨y0,y1,n',ex,_,g0,g1⟩:=trod_struct2 (t:=59) Tryz.underlying59 hx
  rw [ex] at hxw
  have hF3:=(Light.struct2 Tryz.underlying59 hxw).2
  obtain ⟨e0',e1',rfl⟩:∃ c0 c1,u=[c0,c1]:=by
   match u,hlen with
   | [c0,c1],_=>exact ⟨c0,c1,rfl⟩
  obtain ⟨k,e0,_,wa1⟩:=DataW.trod_int (k:=.i64) V5 g0
  obtain ⟨vad,vcap,ns,e1,hF1,hF2,hF⟩:=open_nums_w g1 hF3
  have q0:e0' = .int .i64 k:=by simpa using (show ([e0',e1'].drop 0).take 1=[.int .i64 k] from e0)
  have q1:e1' = .slice vad ns.length vcap:=by simpa using (show ([e0',e1'].drop 1).take 1=[.slice vad ns.length vcap] from e1)
  subst q0 q1
  have b1:=bounds_i64 wa1
  exact ⟨(⟨k,ns⟩,vad,vcap),O,⟨hF,hF1,hF2⟩,(show -9223372036854775808≤k∧k<9223372036854775808 by omega)⟩)
 refine ⟨ad,cap,ts.map (·.1),by rw [cX,cX],by rw [cX] at h1 ⊢;exact h1,by rw [cX,show Tryz.prog.bytesOf 59=32 by kernel_rfl,show reachBytes=140737488351232 by decide] at hb;rw [cX];omega,⟨fun i c hc => ?_,fun c hc => ?_⟩,fun c hc => ?_⟩
 ·rw [dM] at hc
  cases ht:ts[i]? with
  | none=>rw [ht] at hc;cases hc
  | some t =>
   rw [ht] at hc
   simp only [Option.map_some,Option.some.injEq] at hc
   subst hc
   obtain ⟨blk,off,arr,el,fr,g1,g2,g3,g4⟩:=h3 i _ (by rw [dM,ht];rfl)
   exact ⟨blk,off,arr,el,fr,t.2.1,t.2.2,g1,g2,g3,g4,(h5 t (dE ht)).1.1,(h5 t (dE ht)).1.2.1⟩
 ·obtain ⟨t,ht,rfl⟩:=List.mem_map.1 hc
  exact (h5 t ht).2
 ·obtain ⟨t,ht,rfl⟩:=List.mem_map.1 hc
  exact (h5 t ht).1.2.2
theorem open_parts_s {r:Reach} {b0:Nat} {v:Value} {d:DataW H} {p:List MemPlace} (hv:Value.okWide Tryz.prog w r b0 56 v) (h:DataW.Trod enc Tryz.prog w 0 (fun _=>true) true 56 v d p) (hw:Light Tryz.prog 56 d):
  ∃ (ad:Option Addr) (cap:Nat) (ns:List Pt),v = .slice ad ns.length cap∧ns.length≤cap∧ns.length≤4398046511104*4∧PartsC (fun b=>w.heap[b]?) ad ns∧∀ x∈ns,x.val.length≤4398046511104*4:=by
 obtain ⟨a,len,cap0,rfl⟩:=okWide_slice (e:=59) V5 hv
 obtain ⟨fuel,hf⟩:=h
 obtain ⟨ad,cap,ns,e1,h1,h2,h3,h4⟩:=open_parts_w hf hw
 simp [Value.cells] at e1
 obtain ⟨rfl,rfl,rfl⟩:=e1
 exact ⟨_,_,ns,O,h1,h2,h3,h4⟩
theorem open_codes_w {fuel:Nat} {lv:List Value} {xx:DataW H×List MemPlace} (h:DataW.trod enc Tryz.prog w 0 (fun _=>true) true fuel 25 lv=some xx) (hw:Light Tryz.prog 25 xx.1):
  ∃ (ad:Option Addr) (cap:Nat) (cs:List (List Ins)),lv=[.slice ad cs.length cap]∧cs.length<1152921504606846976∧CodesIn (fun b=>w.heap[b]?) ad cs∧∀ c∈cs,c.length<1152921504606846976:=by
 obtain ⟨ad,cap,rows,rfl,hb,h1,h2,h3,h4⟩:=open_rows_w (e:=90) (sz:=1) V5 V5 VA h hw
 obtain ⟨ts,rfl,h5⟩:=map_of (f:=fun t:List Ins×Option Addr×Nat=>[Value.slice t.2.1 t.1.length t.2.2]) (q:=fun t=>InsIn (fun b=>w.heap[b]?) t.2.1 t.1∧t.1.length<1152921504606846976) (vs:=rows) (fun u hu=>by
  obtain ⟨hlen,n,x,hx,hxw⟩:=h4 u hu
  obtain ⟨vad,vcap,ns,e1,k1,hF⟩:=open_inss_w hx hxw
  exact ⟨(ns,vad,vcap),e1,hF,(show ns.length<1152921504606846976 by omega)⟩)
 refine ⟨ad,cap,ts.map (·.1),by rw [cX,cX],by rw [cX,show Tryz.prog.bytesOf 90=24 by kernel_rfl,show reachBytes=140737488351232 by decide] at hb;rw [cX];omega,⟨fun i r hr => ?_⟩,fun r hr => ?_⟩
 ·rw [dM] at hr
  cases ht:ts[i]? with
  | none=>rw [ht] at hr;cases hr
  | some t =>
   rw [ht] at hr
   simp only [Option.map_some,Option.some.injEq] at hr
   subst hr
   obtain ⟨blk,off,arr,el,fr,g1,g2,g3,g4⟩:=h3 i _ (by rw [dM,ht];rfl)
   have g5:arr[off+i]? = some (.slice t.2.1 t.1.length t.2.2):=by
    have:=congrArg (fun l:List Value=>l[0]?) g4
    simpa [List.getElem?_take,List.getElem?_drop] using this
   exact ⟨blk,off,arr,el,fr,t.2.1,t.2.2,g1,g2,g3,g5,(h5 t (dE ht)).1⟩
 ·obtain ⟨t,ht,rfl⟩:=List.mem_map.1 hr
  exact (h5 t ht).2
theorem open_rules_w {fuel:Nat} {lv:List Value} {xx:DataW H×List MemPlace} (h:DataW.trod enc Tryz.prog w 0 (fun _=>true) true fuel 34 lv=some xx) (hw:Light Tryz.prog 34 xx.1):
  ∃ (ad:Option Addr) (cap:Nat) (rs:List Rl),lv=[.slice ad rs.length cap]∧rs.length<1152921504606846976∧RulesIn (fun b=>w.heap[b]?) ad rs∧sizeR rs:=by
 obtain ⟨ad,cap,rows,rfl,hb,h1,h2,h3,h4⟩:=open_rows_w (e:=27) (sz:=3) V5 V5 VA h hw
 obtain ⟨ts,rfl,h5⟩:=map_of (f:=fun t:Rl×Option Addr×Nat=>[.int .i64 t.1.nw,.int .i64 t.1.old,.slice t.2.1 t.1.ex.length t.2.2]) (q:=fun t=>(CodesIn (fun b=>w.heap[b]?) t.2.1 t.1.ex∧smallR t.1)∧t.1.ex.length<1152921504606846976∧∀ c∈t.1.ex,c.length<1152921504606846976) (vs:=rows) (fun u hu=>by
  obtain ⟨hlen,n,x,hx,hxw⟩:=h4 u hu
  obtain ⟨y0,y1,y2,n',ex,_,g0,g1,g2⟩:=Deep.trod_struct3 (t:=27) Tryz.underlying27 hx
  rw [ex] at hxw
  have hF3:=(Light.struct3 Tryz.underlying27 hxw).2.2
  obtain ⟨e0',e1',e2',rfl⟩:∃ c0 c1 c2,u=[c0,c1,c2]:=by
   match u,hlen with
   | [c0,c1,c2],_=>exact ⟨c0,c1,c2,rfl⟩
  obtain ⟨k,e0,_,wa0⟩:=DataW.trod_int (k:=.i64) V5 g0
  obtain ⟨o,e1,_,wa1⟩:=DataW.trod_int (k:=.i64) V5 g1
  obtain ⟨ead,ecap,cs,e2,hl,hF,hFl⟩:=open_codes_w g2 hF3
  have q0:e0' = .int .i64 k:=by simpa using (show ([e0',e1',e2'].drop 0).take 1=[.int .i64 k] from e0)
  have q1:e1' = .int .i64 o:=by simpa using (show ([e0',e1',e2'].drop 1).take 1=[.int .i64 o] from e1)
  have q2:e2' = .slice ead cs.length ecap:=by simpa using (show ([e0',e1',e2'].drop 2).take 1=[.slice ead cs.length ecap] from e2)
  subst q0 q1 q2
  have b0:=bounds_i64 wa0
  have b1:=bounds_i64 wa1
  exact ⟨(⟨k,o,cs⟩,ead,ecap),O,⟨hF,(show -9223372036854775808≤k∧k<9223372036854775808 by omega),(show -9223372036854775808≤o∧o<9223372036854775808 by omega)⟩,hl,hFl⟩)
 refine ⟨ad,cap,ts.map (·.1),by rw [cX,cX],by rw [cX,show Tryz.prog.bytesOf 27=40 by kernel_rfl,show reachBytes=140737488351232 by decide] at hb;rw [cX];omega,⟨fun i c hc => ?_,fun c hc => ?_⟩,fun c hc => ?_⟩
 ·rw [dM] at hc
  cases ht:ts[i]? with
  | none=>rw [ht] at hc;cases hc
  | some t =>
   rw [ht] at hc
   simp only [Option.map_some,Option.some.injEq] at hc
   subst hc
   obtain ⟨blk,off,arr,el,fr,g1,g2,g3,g4⟩:=h3 i _ (by rw [dM,ht];rfl)
   exact ⟨blk,off,arr,el,fr,t.2.1,t.2.2,g1,g2,g3,g4,(h5 t (dE ht)).1.1⟩
 ·obtain ⟨t,ht,rfl⟩:=List.mem_map.1 hc
  exact (h5 t ht).1.2
 ·obtain ⟨t,ht,rfl⟩:=List.mem_map.1 hc
  exact (h5 t ht).2
theorem open_prog_w {r:Reach} {b0:Nat} {v:Value} {d:DataW H} {p:List MemPlace} (hv:Value.okWide Tryz.prog w r b0 36 v) (h:DataW.Trod enc Tryz.prog w 0 (fun _=>true) true 36 v d p) (hw:Light Tryz.prog 36 d):
  ∃ (va vb:Int) (ad:Option Addr) (cap:Nat) (rs:List Rl),v = .agg #[.int .i64 va,.int .i64 vb,.slice ad rs.length cap]∧((-9223372036854775808≤va∧va<9223372036854775808) ∧ -9223372036854775808≤vb∧vb<9223372036854775808)∧rs.length<1152921504606846976∧RulesIn (fun b=>w.heap[b]?) ad rs∧sizeR rs:=by
 obtain ⟨v0,v1,v2,y0,y1,y2,m,rfl,rfl,rfl,hy0,hy1,hy2⟩:=open_agg3 Tryz.underlying36 V5 cellsPg hv h
 have hw2:=(Light.struct3 Tryz.underlying36 hw).2.2
 obtain ⟨x,e0,rfl,wa0⟩:=DataW.trod_int (k:=.i64) V5 hy0
 obtain ⟨y,e1,rfl,wa1⟩:=DataW.trod_int (k:=.i64) V5 hy1
 obtain ⟨ad,cap,rs,e2,h1,h2,h3⟩:=open_rules_w hy2 hw2
 simp at e0 e1 e2
 subst e0 e1 e2
 have b0:=bounds_i64 wa0
 have b1:=bounds_i64 wa1
 exact ⟨x,y,ad,cap,rs,O,by omega,h1,h2,h3⟩
theorem sizeR.wide {rs:List Rl} (h:sizeR rs):sizeB rs:=fun r hr=>⟨by have:=(h r hr).1;omega,fun c hc=>by have:=(h r hr).2 c hc;omega⟩
end
end Go.Proofs.YtopiioklkkiedaaGreatDoor
end
section
set_option maxHeartbeats 12800000
set_option maxRecDepth 100000
namespace Go.Proofs.YtopiioklkkiedaaGreatDoor
open Go Go.Lg Go.Lg.Fml Go.Lg.Fld Go.Lg.Arith
set_option maxRecDepth 100000
def IntsI (X:Nat→Option Obj) (ad:Option Addr) (l:List Int):Prop:=Go.Lg.RowsIn X ad 1 (l.map fun n=>[.int .i64 n])
variable (X:Nat→Option Obj)
end Go.Proofs.YtopiioklkkiedaaGreatDoor
end
section
set_option maxHeartbeats 12800000
set_option maxRecDepth 100000
namespace Go.Proofs.YtopiioklkkiedaaGreatDoor
open Go Go.Lg Go.Lg.Fml Go.Lg.Fld Go.Lg.Arith
set_option maxRecDepth 100000
variable (X:Nat→Option Obj)
set_option maxHeartbeats 6400000 in
theorem great14_spec (v1 v2 va vb:Int) (ad1 ad2 ad:Option Addr) (cap1 cap2 cap:Nat) (az bz:List Cp) (rs:List Rl) (h1:CompsIn X ad1 az) (h2:CompsIn X ad2 bz) (hin:RulesIn X ad rs) (hsz:sizeB rs)
  (hl1:az.length<4611686018427387904) (hl2:bz.length<4611686018427387904) (hbig:rs.length<4611686018427387904) (hf1:∀ c∈az,c.fs.length<9223372036854775808) (hf2:∀ c∈bz,c.fs.length<9223372036854775808) (r:Bool) (hr:grt13 az bz rs=r):
  PSpec Tryz.prog X 10 [Sx v1 ad1 az.length cap1,Sx v2 ad2 bz.length cap2,LPg va vb ad rs.length cap] (Lb r):=by
 subst hr
 refine cF Tryz.func10 rfl V5 rfl rfl ?_
 intro C
 unfold grt13 grtN
 by_cases c1:30<az.length
 ·rw [cP c1]
  simp only [Bool.true_or]
  refine U33 ?_
  exact V6
 by_cases c2:30<bz.length
 ·rw [cP c2]
  simp only [Bool.true_or,Bool.or_true]
  refine U33 ?_
  exact V6
 by_cases c3:30<rs.length
 ·rw [cP c3]
  simp only [Bool.true_or,Bool.or_true]
  refine U33 ?_
  exact V6
 rw [cO c1,cO c2,cO c3]
 simp only [Bool.false_or]
 refine U35 ?_
 refine cL (fun m σ=>∃ i:Nat,i≤az.length∧m=az.length-i∧(az.take i).any grtF=false∧σ=⟨[(3,Lp 3),(4,Lp 4),(5,Lp 5),(7,Ln .i64 (i:Nat))],[v3B 36 5 va vb ad rs.length cap,sxB 4 v2 ad2 bz.length cap2,sxB 3 v1 ad1 az.length cap1],X⟩) az.length
  ⟨_,Le.of V8 V9 V2 V2 V0,0,by omega,by omega,rfl,rfl⟩ ?_
 rintro m σ ⟨i,hi,rfl,hany,rfl⟩
 by_cases hlt:i<az.length
 case pos =>
  obtain ⟨c,hc⟩:=wg hlt
  obtain ⟨blk,off,arr,el,fr,fad,fcap,rfl,hX,hsiz,hcs,g1,g2,g3,hF⟩:=h1.get hc
  have hio:=wo off i 3
  have hcl:=hf1 c (dE hc)
  by_cases h12:12<c.fs.length
  ·rw [show az.any grtF=true from any_yes hc (cP h12)]
   simp only [Bool.true_or,Bool.or_true]
   refine U30 ?_
   exact V6
  ·have hadd:IntKind.i64.wrap ((i:Int)+1)=((i+1:Nat):Int):=by rw [cH V3];omega
   refine U31 ?_
   exact ⟨_,_,by omega,Le.of V8 V9 V2 V2 V0,i+1,by omega,O,any_next hc hany (cO h12),O⟩
 have e:i=az.length:=by omega
 subst e
 rw [dG] at hany
 rw [hany,Bool.false_or]
 clear hany hi hlt
 refine U17 ?_
 refine cL (fun m σ=>∃ i:Nat,i≤bz.length∧m=bz.length-i∧(bz.take i).any grtF=false∧σ=⟨[(3,Lp 3),(4,Lp 4),(5,Lp 5),(8,Ln .i64 (i:Nat))],[v3B 36 5 va vb ad rs.length cap,sxB 4 v2 ad2 bz.length cap2,sxB 3 v1 ad1 az.length cap1],X⟩) bz.length
  ⟨_,Le.of V8 V9 V2 V2 V0,0,by omega,by omega,rfl,rfl⟩ ?_
 rintro m σ ⟨i,hi,rfl,hany,rfl⟩
 by_cases hlt:i<bz.length
 case pos =>
  obtain ⟨c,hc⟩:=wg hlt
  obtain ⟨blk,off,arr,el,fr,fad,fcap,rfl,hX,hsiz,hcs,g1,g2,g3,hF⟩:=h2.get hc
  have hio:=wo off i 3
  have hcl:=hf2 c (dE hc)
  by_cases h12:12<c.fs.length
  ·rw [show bz.any grtF=true from any_yes hc (cP h12)]
   simp only [Bool.true_or,Bool.or_true]
   refine U30 ?_
   exact V6
  ·have hadd:IntKind.i64.wrap ((i:Int)+1)=((i+1:Nat):Int):=by rw [cH V3];omega
   refine U31 ?_
   exact ⟨_,_,by omega,Le.of V8 V9 V2 V2 V0,i+1,by omega,O,any_next hc hany (cO h12),O⟩
 have e:i=bz.length:=by omega
 subst e
 rw [dG] at hany
 rw [hany,Bool.false_or]
 clear hany hi hlt
 refine U17 ?_
 refine cL (fun m σ=>∃ i:Nat,i≤rs.length∧m=rs.length-i∧(rs.take i).any grtR=false∧σ=⟨[(3,Lp 3),(4,Lp 4),(5,Lp 5),(9,Ln .i64 (i:Nat))],[v3B 36 5 va vb ad rs.length cap,sxB 4 v2 ad2 bz.length cap2,sxB 3 v1 ad1 az.length cap1],X⟩) rs.length
  ⟨_,Le.of V8 V9 V2 V2 V0,0,by omega,by omega,rfl,rfl⟩ ?_
 rintro m σ ⟨i,hi,rfl,hany,rfl⟩
 by_cases hlt:i<rs.length
 case neg =>
  have e:i=rs.length:=by omega
  subst e
  rw [dG] at hany
  rw [hany]
  refine U16 ?_
  exact V6
 obtain ⟨r,hr⟩:=wg hlt
 obtain ⟨blk,off,arr,el,fr,ead,ecap,rfl,hX,hsiz,hcs,g1,g2,g3,hE⟩:=hin.get hr
 have hio:=wo off i 3
 obtain ⟨hel,hcl⟩:=hsz r (dE hr)
 have hyes:grtR r=true→rs.any grtR=true:=any_yes hr
 by_cases h12:12<r.ex.length
 ·rw [hyes (by unfold grtR;rw [cP h12];rfl)]
  refine U31 ?_
  exact V6
 refine U32 ?_
 refine cL (fun m σ=>∃ k:Nat,k≤r.ex.length∧m=r.ex.length-k∧(r.ex.take k).any (fun c=>decide (80<c.length))=false∧σ=⟨[(3,Lp 3),(4,Lp 4),(5,Lp 5),(9,Ln .i64 (i:Nat)),(10,Ln .i64 (k:Nat))],[v3B 36 5 va vb (some ⟨blk,off,none⟩) rs.length cap,sxB 4 v2 ad2 bz.length cap2,sxB 3 v1 ad1 az.length cap1],X⟩) r.ex.length
  ⟨_,Le.of V10 V9 V2 V2 V0,0,by omega,by omega,rfl,rfl⟩ ?_
 rintro m σ ⟨k,hk,rfl,hany2,rfl⟩
 by_cases hkl:k<r.ex.length
 case neg =>
  have e:k=r.ex.length:=by omega
  subst e
  rw [dG] at hany2
  have hno:grtR r=false:=by unfold grtR;rw [cO h12,hany2];rfl
  have hadd:IntKind.i64.wrap ((i:Int)+1)=((i+1:Nat):Int):=by rw [cH V3];omega
  refine U20 ?_
  exact ⟨_,⟨[(3,Lp 3),(4,Lp 4),(5,Lp 5),(9,Ln .i64 (i+1:Nat))],[v3B 36 5 va vb (some ⟨blk,off,none⟩) rs.length cap,sxB 4 v2 ad2 bz.length cap2,sxB 3 v1 ad1 az.length cap1],X⟩,by omega,Le.of V8 V9 V2 V2 V0,i+1,by omega,O,any_next hr hany hno,O⟩
 obtain ⟨c,hc⟩:=wg hkl
 obtain ⟨eb,eo,earr,eel,efr,vad,vcap,rfl,hEX,hec,hI⟩:=hE.get hc
 have hio3:=wo eo k 1
 have hcc:=hcl c (dE hc)
 by_cases h80:80<c.length
 ·rw [hyes (by unfold grtR;rw [cO h12,Bool.false_or];exact any_yes hc (cP h80))]
  refine U37 ?_
  exact V6
 ·have hadd:IntKind.i64.wrap ((k:Int)+1)=((k+1:Nat):Int):=by rw [cH V3];omega
  refine U38 ?_
  exact ⟨_,_,by omega,Le.of V10 V9 V2 V2 V0,k+1,by omega,O,any_next hc hany2 (cO h80),O⟩
theorem form14_nil (va vb:Int) (ad:Option Addr) (cap:Nat):MSpec Tryz.prog X 11 [LPg va vb ad 0 cap] [] (.sv (.agg [.val (.int .i64 va),.val (.int .i64 vb),.val (.slice none 0 0)])) []:=by
 refine cG Tryz.func11 rfl V5 rfl V7 V7 rfl rfl ?_
 intro C
 refine LWP.ends ?_
 refine U21 ?_
 refine cL (fun m σ=>m=0∧σ=⟨[(1,Lp 1),(2,Lp 2),(3,Lp 3),(4,Ln .i64 0)],[v3B 42 3 va vb none 0 0,v3B 42 2 0 0 none 0 0,v3B 36 1 va vb ad 0 cap],X⟩) 0
  ⟨_,Le.of V8 V9 V2 V2 V0,rfl,rfl⟩ ?_
 rintro m σ ⟨rfl,rfl⟩
 (refine U7 ?_;refine klt rfl rfl (r:=false) rfl ?_;refine U9 ?_)
 exact cD ⟨[],⟨[_],⟨⟨_,_,O,O,O,.inl ⟨AggT.h,O⟩⟩,trivial⟩,O⟩,V1,O,O⟩
set_option maxHeartbeats 25600000 in
theorem form14_some (va vb:Int) (rs:List Rl) (ad:Option Addr) (cap:Nat) (hin:RulesIn X ad rs) (h0:0<rs.length) (hg:rs.length≤30∧∀ r∈rs,r.ex.length≤12∧∀ c∈r.ex,c.length≤80):
  MSpec Tryz.prog X 11 [LPg va vb ad rs.length cap] [] (.sv (.agg [.val (.int .i64 va),.val (.int .i64 vb),.slc 1000001 0 rs.length 3])) [rlB 39 1000001 rs]:=by
 have hsm:=hin.small
 have hl30:=hg.1
 refine cG Tryz.func11 rfl V5 rfl V7 V7 rfl rfl ?_
 intro C
 refine LWP.ends ?_
 refine U21 ?_
 refine cM (fun m σ=>∃ (i:Nat) (ws:List Value) (H:Nat→Option Obj),i≤rs.length∧m=rs.length-i∧OwnedM C X H∧RulesH H ws (rs.take i)∧((i=0∧σ=⟨[(1,Lp 1),(2,Lp 2),(3,Lp 3),(4,Ln .i64 (i:Nat))],[v3B 42 3 va vb none 0 0,v3B 42 2 0 0 none 0 0,v3B 36 1 va vb ad rs.length cap],joinM X H⟩)∨(0<i∧σ=⟨[(1,Lp 1),(2,Lp 2),(3,Lp 3),(4,Ln .i64 (i:Nat))],[(600,some ⟨39,(rwZ (rs.take i) ws).map .val,true⟩),(3,some ⟨42,[.val (.int .i64 va),.val (.int .i64 vb),.slc 600 0 (i) 3],false⟩),v3B 42 2 0 0 none 0 0,v3B 36 1 va vb ad rs.length cap],joinM X H⟩))) rs.length
  (cE (σ':=⟨[(1,Lp 1),(2,Lp 2),(3,Lp 3),(4,Ln .i64 (0:Nat))],[v3B 42 3 va vb none 0 0,v3B 42 2 0 0 none 0 0,v3B 36 1 va vb ad rs.length cap],X⟩) (Le.of V8 V9 V2 V2 V0) (cD ⟨0,[],fun _=>none,by omega,by omega,OwnedM.nil C X,RulesH.nil,.inl ⟨rfl,by rw [joinM_nil]⟩⟩)) ?_
 rintro m σ ⟨i,ws,H,hi,rfl,hO,GR,hst⟩
 rcases hst with ⟨hi0,rfl⟩|⟨hi0,rfl⟩
 ·as_aux_lemma =>
   by_cases hlt:i<rs.length
   case neg =>
    have hie:i=rs.length:=by omega
    subst hi0
    exact absurd hie V3
   obtain ⟨r,hr⟩:=wg hlt
   obtain ⟨blk,off,arr,el,fr,ead,ecap,rfl,hX,hsiz,hcs,g1,g2,g3,hE⟩:=hin.get hr
   have hXJ:=joinM_has hO hX
   have hio:=wo off i 3
   have h12:=hg.2 r (dE hr)
   (refine aA<|aA<|rgN<|kmv O<|kfa O O ?_;refine kl1 O O O<|K.lenX O cC O dS ?_;refine klt O O (cP V3)<|RunK.nil<|LWP.condT O ?_;refine LWP.skip ?_;refine aA<|LWP.block<|aA<|rgD mixed<|kfa O O ?_;refine kl1 O O O<|kmv O<|K.indexX O O cC V3 hio dS<|K.fieldAddrX O O dS ?_;refine K.loadX O hXJ O g1 dS<|kfa O O ?_;refine kl1 O O O<|kmv O<|K.indexX O O cC V3 hio dS<|K.fieldAddrX O O dS ?_;refine K.loadX O hXJ O g2 dS<|aT O O V2 V28 dS ?_;refine K.alloc O dS ?_;refine K.storeAll O O O O O O dS ?_;refine RunK.nil<|rgA ?_;refine aA<|aA<|rgN<|kas O<|RunK.nil<|LWP.block ?_)
   refine cM (fun m σ=>∃ (k:Nat) (vs:List Value) (H:Nat→Option Obj),k≤r.ex.length∧m=r.ex.length-k∧OwnedM C X H∧RulesH H ws (rs.take i)∧FormsH H vs (r.ex.take k)∧((k=0∧σ=⟨[(1,Lp 1),(2,Lp 2),(3,Lp 3),(4,Ln .i64 (i:Nat)),(5,Lp 5),(6,Ln .i64 (k:Nat))],[v3B 39 5 r.nw r.old none 0 0,v3B 42 3 va vb none 0 0,v3B 42 2 0 0 none 0 0,v3B 36 1 va vb (some ⟨blk,off,none⟩) rs.length cap],joinM X H⟩)∨(0<k∧σ=⟨[(1,Lp 1),(2,Lp 2),(3,Lp 3),(4,Ln .i64 (i:Nat)),(5,Lp 5),(6,Ln .i64 (k:Nat))],[(601,some ⟨91,(vs).map .val,true⟩),(5,some ⟨39,[.val (.int .i64 r.nw),.val (.int .i64 r.old),.slc 601 0 (k) 1],false⟩),v3B 42 3 va vb none 0 0,v3B 42 2 0 0 none 0 0,v3B 36 1 va vb (some ⟨blk,off,none⟩) rs.length cap],joinM X H⟩))) r.ex.length
    (cE (σ':=⟨[(1,Lp 1),(2,Lp 2),(3,Lp 3),(4,Ln .i64 (i:Nat)),(5,Lp 5),(6,Ln .i64 (0:Nat))],[v3B 39 5 r.nw r.old none 0 0,v3B 42 3 va vb none 0 0,v3B 42 2 0 0 none 0 0,v3B 36 1 va vb (some ⟨blk,off,none⟩) rs.length cap],joinM X H⟩) (Le.of V11 V8 V2 V2 V0) (cD ⟨0,[],H,by omega,by omega,hO,GR,FormsH.nil,.inl ⟨rfl,rfl⟩⟩)) ?_
   clear hXJ hO GR
   clear H
   rintro m σ ⟨k,vs,H,hk,rfl,hO,GR,GF,hst⟩
   have hXJ:=joinM_has hO hX
   rcases hst with ⟨hk0,rfl⟩|⟨hk0,rfl⟩
   ·as_aux_lemma =>
     by_cases hkl:k<r.ex.length
     case neg =>
      have hke:k=r.ex.length:=by omega
      subst hke
      rw [dG] at GF
      have hwl:=GR.len
      have hrl:((rwZ (rs.take i) ws).map CV.val).length=i*3:=by rw [cX,rwZ_len hwl,dA];omega
      have hadd:IntKind.i64.wrap ((i:Int)+1)=((i+1:Nat):Int):=by rw [cH V3];omega
      have hnc3:(rwZ (rs.take i) ws).map CV.val++[.val (.int .i64 r.nw),.val (.int .i64 r.old),.val (.slice none 0 0)]=(rwZ (rs.take i++[r]) (ws++[.slice none 0 0])).map .val:=by
       rw [rwZ_add hwl];simp
      (refine U19 ?_;refine aZ (zs:=[.int .i64 0,.int .i64 0,.slice none 0 0]) (sz:=3) (e:=39) (cs':=[.val (.int .i64 r.nw),.val (.int .i64 r.old),.val (.slice none 0 0)]) V5 O O O O O O dS<|K.appendNil (by_:=40) (e:=39) (e2:=39) (l2:=[.val (.int .i64 r.nw),.val (.int .i64 r.old),.val (.slice none 0 0)]) O O O (dO _) O O VA V5 V5 V3 V3 O dS ?_;refine U8 ?_)
      refine cE (σ':=⟨[(1,Lp 1),(2,Lp 2),(3,Lp 3),(4,Ln .i64 (i+1:Nat))],[(600,some ⟨39,(rwZ (rs.take (i+1)) (ws++[.slice none 0 0])).map .val,true⟩),(3,some ⟨42,[.val (.int .i64 va),.val (.int .i64 vb),.slc 600 0 (i+1) 3],false⟩),v3B 42 2 0 0 none 0 0,v3B 36 1 va vb (some ⟨blk,off,none⟩) rs.length cap],joinM X H⟩) ?_ (cD ⟨rs.length-(i+1),by omega,i+1,ws++[.slice none 0 0],H,by omega,O,hO,?_,.inr ⟨by omega,O⟩⟩)
      ·rw [take_snoc hr]
       subst hi0
       rw [show rs.take 0=[] from rfl,show ws=[] from List.eq_nil_of_length_eq_zero (by have:=GR.len;rw [dA] at this;omega)]
       exact Le.ofR [(600,95)] V8 V1 V2 V2 V0 V2 V2
      ·rw [take_snoc hr]
       exact GR.push (by rw [show r.ex=[] from List.eq_nil_of_length_eq_zero V3];exact CodesIn.nilIn)
     obtain ⟨c,hc⟩:=wg hkl
     obtain ⟨eb,eo,earr,eel,efr,vad,vcap,rfl,hEX,hec,hI⟩:=hE.get hc
     have hEJ:=joinM_has hO hEX
     have hio3:=wo eo k 1
     have h80:=h12.2 c (dE hc)
     have hvk:=GF.len
     rw [dA] at hvk
     have hvl:(vs.map CV.val).length=k*1:=by rw [cX];omega
     subst hk0
     (refine U19 ?_;refine aZ (zs:=[]) (sz:=6) (e:=92) V5 O O O O O O dS ?_;refine U8 ?_)
     refine cL (fun m σ=>∃ n:Nat,n≤c.length∧m=c.length-n∧σ=⟨[(1,Lp 1),(2,Lp 2),(3,Lp 3),(4,Ln .i64 (i:Nat)),(5,Lp 5),(6,Ln .i64 (0:Nat)),(7,.sv (.one (.slc 500 0 (n) 6))),(8,Ln .i64 (n:Nat))],[(500,some ⟨92,(inssV (c.take (n))).map .val,Nat.blt 0 (n)⟩),v3B 39 5 r.nw r.old none 0 0,v3B 42 3 va vb none 0 0,v3B 42 2 0 0 none 0 0,v3B 36 1 va vb (some ⟨blk,off,none⟩) rs.length cap],joinM X H⟩) c.length
      ⟨⟨[(1,Lp 1),(2,Lp 2),(3,Lp 3),(4,Ln .i64 (i:Nat)),(5,Lp 5),(6,Ln .i64 (0:Nat)),(7,.sv (.one (.slc 500 0 (0) 6))),(8,Ln .i64 (0:Nat))],[(500,some ⟨92,(inssV (c.take (0))).map .val,Nat.blt 0 (0)⟩),v3B 39 5 r.nw r.old none 0 0,v3B 42 3 va vb none 0 0,v3B 42 2 0 0 none 0 0,v3B 36 1 va vb (some ⟨blk,off,none⟩) rs.length cap],joinM X H⟩,Le.ofR [(500,46)] V15 V1 V2 V2 V0 V2 V2,0,by omega,by omega,rfl⟩ ?_
     rintro m σ ⟨n,hn,rfl,rfl⟩
     by_cases hnl:n<c.length
     case neg =>
      have e:n=c.length:=by omega
      subst e
      have hadd:IntKind.i64.wrap (((0:Nat):Int)+1)=((0+1:Nat):Int):=rfl
      (refine U22 ?_;refine aZ (zs:=[.slice none 0 0]) (sz:=1) (e:=91) (cs':=[.slc 500 0 c.length 6]) V5 O O O O O O dS<|K.appendNil (by_:=24) (e:=91) (e2:=91) (l2:=[.slc 500 0 c.length 6]) O O O (dO _) O O VA V5 V5 V3 V3 O dS ?_;refine U8 ?_)
      refine cE (σ':=⟨[(1,Lp 1),(2,Lp 2),(3,Lp 3),(4,Ln .i64 (i:Nat)),(5,Lp 5),(6,Ln .i64 (0+1:Nat))],[(601,some ⟨91,vs.map .val ++ .slc 500 0 c.length 6::([]:List Value).map .val,true⟩),(500,some ⟨92,(inssV c).map .val,Nat.blt 0 c.length⟩),(5,some ⟨39,[.val (.int .i64 r.nw),.val (.int .i64 r.old),.slc 601 0 (0+1) 1],false⟩),v3B 42 3 va vb none 0 0,v3B 42 2 0 0 none 0 0,v3B 36 1 va vb (some ⟨blk,off,none⟩) rs.length cap],joinM X H⟩) ?_ ?_
      ·rw [dG]
       rw [show vs=[] from List.eq_nil_of_length_eq_zero (by omega)]
       exact Le.ofR [(601,89)] V11 V1 V2 V2 V0 V2 V2
      refine Leads.closeCell hO (by have:=inssV_len c;rw [cX] at this;exact this) rfl bU rfl V1F rfl rfl fun b o v g1 _ hO3 hv=>cD ⟨r.ex.length-(0+1),by omega,0+1,vs++[v],withBlock H b o,by omega,rfl,hO3,GR.mono (cJ g1),?_,.inr ⟨by omega,?_⟩⟩
      ·rw [take_snoc hc]
       exact (GF.mono (cJ g1)).push (ins_leads hv hI.small)
      ·rw [dI]
       rfl
     obtain ⟨x,hx⟩:=wg hnl
     obtain ⟨xb,xo,xarr,xel,xfr,rfl,hxX,hxz,hxc,_⟩:=hI.at hx
     have hxJ:=joinM_has hO hxX
     have hxo:=wo xo n 6
     have hadd:IntKind.i64.wrap ((n:Int)+1)=((n+1:Nat):Int):=by rw [cH V3];omega
     have hcl:=inssV_len (c.take n)
     rw [dA,Nat.min_eq_left hn] at hcl
     have hnc:=inssV_snoc (c.take n) x (cs:=[.val (.int .i64 x.op),.val (.int .i64 x.a),.val (.int .i64 x.b),.val (.bool x.k.1),.val (.int .u64 (x.k.2/18446744073709551616)),.val (.int .u64 (x.k.2%18446744073709551616))]) rfl
     rw [← take_snoc hx] at hnc
     (refine U46 ?_;refine bJ O O O V28 dS ?_;refine U1 ?_;refine aZ (zs:=[.int .i64 0,.int .i64 0,.int .i64 0,.bool false,.int .u64 0,.int .u64 0]) (sz:=6) (e:=92) (cs':=[.val (.int .i64 x.op),.val (.int .i64 x.a),.val (.int .i64 x.b),.val (.bool x.k.1),.val (.int .u64 (x.k.2/18446744073709551616)),.val (.int .u64 (x.k.2%18446744073709551616))]) V5 O O O O O O dS<|bQ (by_:=48) (e2:=92) (l2:=[.val (.int .i64 x.op),.val (.int .i64 x.a),.val (.int .i64 x.b),.val (.bool x.k.1),.val (.int .u64 (x.k.2/18446744073709551616)),.val (.int .u64 (x.k.2%18446744073709551616))]) (nl:=n+1) (nc:=(inssV (c.take (n+1))).map .val) O O hcl O O (dO _) O O V5 V5 V3 V3 O O hnc dS ?_;refine U7 ?_)
     exact ⟨_,⟨[(1,Lp 1),(2,Lp 2),(3,Lp 3),(4,Ln .i64 (i:Nat)),(5,Lp 5),(6,Ln .i64 (0:Nat)),(7,.sv (.one (.slc 500 0 (n+1) 6))),(8,Ln .i64 (n+1:Nat))],[(500,some ⟨92,(inssV (c.take (n+1))).map .val,Nat.blt 0 (n+1)⟩),v3B 39 5 r.nw r.old none 0 0,v3B 42 3 va vb none 0 0,v3B 42 2 0 0 none 0 0,v3B 36 1 va vb (some ⟨blk,off,none⟩) rs.length cap],joinM X H⟩,by omega,Le.ofR [(500,84)] V15 V1 V2 V2 V0 V2 V2,n+1,by omega,O,O⟩
   ·as_aux_lemma =>
     by_cases hkl:k<r.ex.length
     case neg =>
      have hke:k=r.ex.length:=by omega
      subst hke
      rw [dG] at GF
      have hwl:=GR.len
      have hrl:((rwZ (rs.take i) ws).map CV.val).length=i*3:=by rw [cX,rwZ_len hwl,dA];omega
      have hadd:IntKind.i64.wrap ((i:Int)+1)=((i+1:Nat):Int):=by rw [cH V3];omega
      have hnc3:(rwZ (rs.take i) ws).map CV.val++[.val (.int .i64 r.nw),.val (.int .i64 r.old),.slc 601 0 r.ex.length 1]=(rwZ (rs.take i) ws++[Value.int .i64 r.nw,Value.int .i64 r.old]).map .val ++ .slc 601 0 r.ex.length 1::([]:List Value).map .val:=by
       simp
      (refine U19 ?_;refine aZ (zs:=[.int .i64 0,.int .i64 0,.slice none 0 0]) (sz:=3) (e:=39) (cs':=[.val (.int .i64 r.nw),.val (.int .i64 r.old),.slc 601 0 r.ex.length 1]) V5 O O O O O O dS<|K.appendNil (by_:=40) (e:=39) (e2:=39) (l2:=[.val (.int .i64 r.nw),.val (.int .i64 r.old),.slc 601 0 r.ex.length 1]) O O O (dO _) O O VA V5 V5 V3 V3 O dS ?_;refine U8 ?_)
      refine cE (σ':=⟨[(1,Lp 1),(2,Lp 2),(3,Lp 3),(4,Ln .i64 (i+1:Nat))],[(600,some ⟨39,(rwZ (rs.take i) ws++[Value.int .i64 r.nw,Value.int .i64 r.old]).map .val ++ .slc 601 0 r.ex.length 1::([]:List Value).map .val,true⟩),(601,some ⟨91,vs.map .val,true⟩),(3,some ⟨42,[.val (.int .i64 va),.val (.int .i64 vb),.slc 600 0 (i+1) 3],false⟩),v3B 42 2 0 0 none 0 0,v3B 36 1 va vb (some ⟨blk,off,none⟩) rs.length cap],joinM X H⟩) ?_ ?_
      ·subst hi0
       rw [show rs.take 0=[] from rfl,show ws=[] from List.eq_nil_of_length_eq_zero (by have:=GR.len;rw [dA] at this;omega)]
       exact Le.ofR [(600,95)] V8 V1 V2 V2 V0 V2 V2
      refine Leads.closeCell hO (by have:=GF.len;omega) O bU O V1F O O fun b o v g1 _ hO3 hv=>cD ⟨rs.length-(i+1),by omega,i+1,ws++[v],withBlock H b o,by omega,O,hO3,?_,.inr ⟨by omega,?_⟩⟩
      ·rw [take_snoc hr]
       exact (GR.mono (cJ g1)).push (codes_leads hv (GF.mono (cJ g1)))
      ·rw [take_snoc hr,rwZ_add hwl]
       simp
     obtain ⟨c,hc⟩:=wg hkl
     obtain ⟨eb,eo,earr,eel,efr,vad,vcap,rfl,hEX,hec,hI⟩:=hE.get hc
     have hEJ:=joinM_has hO hEX
     have hio3:=wo eo k 1
     have h80:=h12.2 c (dE hc)
     have hvk:=GF.len
     rw [dA] at hvk
     have hvl:(vs.map CV.val).length=k*1:=by rw [cX];omega
     (refine U19 ?_;refine aZ (zs:=[]) (sz:=6) (e:=92) V5 O O O O O O dS ?_;refine U8 ?_)
     refine cL (fun m σ=>∃ n:Nat,n≤c.length∧m=c.length-n∧σ=⟨[(1,Lp 1),(2,Lp 2),(3,Lp 3),(4,Ln .i64 (i:Nat)),(5,Lp 5),(6,Ln .i64 (k:Nat)),(7,.sv (.one (.slc 500 0 (n) 6))),(8,Ln .i64 (n:Nat))],[(500,some ⟨92,(inssV (c.take (n))).map .val,Nat.blt 0 (n)⟩),(601,some ⟨91,(vs).map .val,true⟩),(5,some ⟨39,[.val (.int .i64 r.nw),.val (.int .i64 r.old),.slc 601 0 (k) 1],false⟩),v3B 42 3 va vb none 0 0,v3B 42 2 0 0 none 0 0,v3B 36 1 va vb (some ⟨blk,off,none⟩) rs.length cap],joinM X H⟩) c.length
      ⟨⟨[(1,Lp 1),(2,Lp 2),(3,Lp 3),(4,Ln .i64 (i:Nat)),(5,Lp 5),(6,Ln .i64 (k:Nat)),(7,.sv (.one (.slc 500 0 (0) 6))),(8,Ln .i64 (0:Nat))],[(500,some ⟨92,(inssV (c.take (0))).map .val,Nat.blt 0 (0)⟩),(601,some ⟨91,(vs).map .val,true⟩),(5,some ⟨39,[.val (.int .i64 r.nw),.val (.int .i64 r.old),.slc 601 0 (k) 1],false⟩),v3B 42 3 va vb none 0 0,v3B 42 2 0 0 none 0 0,v3B 36 1 va vb (some ⟨blk,off,none⟩) rs.length cap],joinM X H⟩,Le.ofR [(500,46)] V15 V1 V2 V2 V0 V2 V2,0,by omega,by omega,rfl⟩ ?_
     rintro m σ ⟨n,hn,rfl,rfl⟩
     by_cases hnl:n<c.length
     case neg =>
      have e:n=c.length:=by omega
      subst e
      have hadd:IntKind.i64.wrap ((k:Int)+1)=((k+1:Nat):Int):=by rw [cH V3];omega
      (refine U22 ?_;refine aZ (zs:=[.slice none 0 0]) (sz:=1) (e:=91) (cs':=[.slc 500 0 c.length 6]) V5 O O O O O O dS<|bQ (by_:=24) (e2:=91) (l2:=[.slc 500 0 c.length 6]) (nl:=k+1) (nc:=vs.map .val++[.slc 500 0 c.length 6]) O O hvl O O (dO _) O O V5 V5 V3 V3 O O O dS ?_;refine U8 ?_)
      refine cE (σ':=⟨[(1,Lp 1),(2,Lp 2),(3,Lp 3),(4,Ln .i64 (i:Nat)),(5,Lp 5),(6,Ln .i64 (k+1:Nat))],[(601,some ⟨91,vs.map .val ++ .slc 500 0 c.length 6::([]:List Value).map .val,true⟩),(500,some ⟨92,(inssV c).map .val,Nat.blt 0 c.length⟩),(5,some ⟨39,[.val (.int .i64 r.nw),.val (.int .i64 r.old),.slc 601 0 (k+1) 1],false⟩),v3B 42 3 va vb none 0 0,v3B 42 2 0 0 none 0 0,v3B 36 1 va vb (some ⟨blk,off,none⟩) rs.length cap],joinM X H⟩) ?_ ?_
      ·rw [dG]
       exact Le.ofR [(601,89)] V11 V1 V2 V2 V0 V2 V2
      refine Leads.closeCell hO (by have:=inssV_len c;rw [cX] at this;exact this) rfl bU rfl V1F rfl rfl fun b o v g1 _ hO3 hv=>cD ⟨r.ex.length-(k+1),by omega,k+1,vs++[v],withBlock H b o,by omega,rfl,hO3,GR.mono (cJ g1),?_,.inr ⟨by omega,?_⟩⟩
      ·rw [take_snoc hc]
       exact (GF.mono (cJ g1)).push (ins_leads hv hI.small)
      ·rw [dI]
       rfl
     obtain ⟨x,hx⟩:=wg hnl
     obtain ⟨xb,xo,xarr,xel,xfr,rfl,hxX,hxz,hxc,_⟩:=hI.at hx
     have hxJ:=joinM_has hO hxX
     have hxo:=wo xo n 6
     have hadd:IntKind.i64.wrap ((n:Int)+1)=((n+1:Nat):Int):=by rw [cH V3];omega
     have hcl:=inssV_len (c.take n)
     rw [dA,Nat.min_eq_left hn] at hcl
     have hnc:=inssV_snoc (c.take n) x (cs:=[.val (.int .i64 x.op),.val (.int .i64 x.a),.val (.int .i64 x.b),.val (.bool x.k.1),.val (.int .u64 (x.k.2/18446744073709551616)),.val (.int .u64 (x.k.2%18446744073709551616))]) rfl
     rw [← take_snoc hx] at hnc
     (refine U46 ?_;refine bJ O O O V28 dS ?_;refine U1 ?_;refine aZ (zs:=[.int .i64 0,.int .i64 0,.int .i64 0,.bool false,.int .u64 0,.int .u64 0]) (sz:=6) (e:=92) (cs':=[.val (.int .i64 x.op),.val (.int .i64 x.a),.val (.int .i64 x.b),.val (.bool x.k.1),.val (.int .u64 (x.k.2/18446744073709551616)),.val (.int .u64 (x.k.2%18446744073709551616))]) V5 O O O O O O dS<|bQ (by_:=48) (e2:=92) (l2:=[.val (.int .i64 x.op),.val (.int .i64 x.a),.val (.int .i64 x.b),.val (.bool x.k.1),.val (.int .u64 (x.k.2/18446744073709551616)),.val (.int .u64 (x.k.2%18446744073709551616))]) (nl:=n+1) (nc:=(inssV (c.take (n+1))).map .val) O O hcl O O (dO _) O O V5 V5 V3 V3 O O hnc dS ?_;refine U7 ?_)
     exact ⟨_,⟨[(1,Lp 1),(2,Lp 2),(3,Lp 3),(4,Ln .i64 (i:Nat)),(5,Lp 5),(6,Ln .i64 (k:Nat)),(7,.sv (.one (.slc 500 0 (n+1) 6))),(8,Ln .i64 (n+1:Nat))],[(500,some ⟨92,(inssV (c.take (n+1))).map .val,Nat.blt 0 (n+1)⟩),(601,some ⟨91,(vs).map .val,true⟩),(5,some ⟨39,[.val (.int .i64 r.nw),.val (.int .i64 r.old),.slc 601 0 (k) 1],false⟩),v3B 42 3 va vb none 0 0,v3B 42 2 0 0 none 0 0,v3B 36 1 va vb (some ⟨blk,off,none⟩) rs.length cap],joinM X H⟩,by omega,Le.ofR [(500,84)] V15 V1 V2 V2 V0 V2 V2,n+1,by omega,O,O⟩
 ·as_aux_lemma =>
   by_cases hlt:i<rs.length
   case neg =>
    have hie:i=rs.length:=by omega
    subst hie
    rw [dG] at GR ⊢
    refine U17 ?_
    refine cE (σ':=⟨[(2,Lp 2)],[(600,some ⟨39,(rwZ rs ws).map .val,true⟩),(2,some ⟨42,[.val (.int .i64 va),.val (.int .i64 vb),.slc 600 0 rs.length 3],false⟩)],joinM X H⟩) (Le.of V13 VE V2 V2 V0) ?_
    refine Leads.spare fun sp=>rl_shut hO GR hsm (cD ?_)
    exact ⟨[(1000001,600)],⟨[_],⟨⟨_,_,O,O,O,.inl ⟨AggT.h,O⟩⟩,trivial⟩,O⟩,V1,O,O⟩
   obtain ⟨r,hr⟩:=wg hlt
   obtain ⟨blk,off,arr,el,fr,ead,ecap,rfl,hX,hsiz,hcs,g1,g2,g3,hE⟩:=hin.get hr
   have hXJ:=joinM_has hO hX
   have hio:=wo off i 3
   have h12:=hg.2 r (dE hr)
   (refine aA<|aA<|rgN<|kmv O<|kfa O O ?_;refine kl1 O O O<|K.lenX O cC O dS ?_;refine klt O O (cP V3)<|RunK.nil<|LWP.condT O ?_;refine LWP.skip ?_;refine aA<|LWP.block<|aA<|rgD mixed<|kfa O O ?_;refine kl1 O O O<|kmv O<|K.indexX O O cC V3 hio dS<|K.fieldAddrX O O dS ?_;refine K.loadX O hXJ O g1 dS<|kfa O O ?_;refine kl1 O O O<|kmv O<|K.indexX O O cC V3 hio dS<|K.fieldAddrX O O dS ?_;refine K.loadX O hXJ O g2 dS<|aT O O V2 V28 dS ?_;refine K.alloc O dS ?_;refine K.storeAll O O O O O O dS ?_;refine RunK.nil<|rgA ?_;refine aA<|aA<|rgN<|kas O<|RunK.nil<|LWP.block ?_)
   refine cM (fun m σ=>∃ (k:Nat) (vs:List Value) (H:Nat→Option Obj),k≤r.ex.length∧m=r.ex.length-k∧OwnedM C X H∧RulesH H ws (rs.take i)∧FormsH H vs (r.ex.take k)∧((k=0∧σ=⟨[(1,Lp 1),(2,Lp 2),(3,Lp 3),(4,Ln .i64 (i:Nat)),(5,Lp 5),(6,Ln .i64 (k:Nat))],[v3B 39 5 r.nw r.old none 0 0,(600,some ⟨39,(rwZ (rs.take i) ws).map .val,true⟩),(3,some ⟨42,[.val (.int .i64 va),.val (.int .i64 vb),.slc 600 0 (i) 3],false⟩),v3B 42 2 0 0 none 0 0,v3B 36 1 va vb (some ⟨blk,off,none⟩) rs.length cap],joinM X H⟩)∨(0<k∧σ=⟨[(1,Lp 1),(2,Lp 2),(3,Lp 3),(4,Ln .i64 (i:Nat)),(5,Lp 5),(6,Ln .i64 (k:Nat))],[(601,some ⟨91,(vs).map .val,true⟩),(5,some ⟨39,[.val (.int .i64 r.nw),.val (.int .i64 r.old),.slc 601 0 (k) 1],false⟩),(600,some ⟨39,(rwZ (rs.take i) ws).map .val,true⟩),(3,some ⟨42,[.val (.int .i64 va),.val (.int .i64 vb),.slc 600 0 (i) 3],false⟩),v3B 42 2 0 0 none 0 0,v3B 36 1 va vb (some ⟨blk,off,none⟩) rs.length cap],joinM X H⟩))) r.ex.length
    (cE (σ':=⟨[(1,Lp 1),(2,Lp 2),(3,Lp 3),(4,Ln .i64 (i:Nat)),(5,Lp 5),(6,Ln .i64 (0:Nat))],[v3B 39 5 r.nw r.old none 0 0,(600,some ⟨39,(rwZ (rs.take i) ws).map .val,true⟩),(3,some ⟨42,[.val (.int .i64 va),.val (.int .i64 vb),.slc 600 0 (i) 3],false⟩),v3B 42 2 0 0 none 0 0,v3B 36 1 va vb (some ⟨blk,off,none⟩) rs.length cap],joinM X H⟩) (Le.of V11 V10 V2 V2 V0) (cD ⟨0,[],H,by omega,by omega,hO,GR,FormsH.nil,.inl ⟨rfl,rfl⟩⟩)) ?_
   clear hXJ hO GR
   clear H
   rintro m σ ⟨k,vs,H,hk,rfl,hO,GR,GF,hst⟩
   have hXJ:=joinM_has hO hX
   rcases hst with ⟨hk0,rfl⟩|⟨hk0,rfl⟩
   ·as_aux_lemma =>
     by_cases hkl:k<r.ex.length
     case neg =>
      have hke:k=r.ex.length:=by omega
      subst hke
      rw [dG] at GF
      have hwl:=GR.len
      have hrl:((rwZ (rs.take i) ws).map CV.val).length=i*3:=by rw [cX,rwZ_len hwl,dA];omega
      have hadd:IntKind.i64.wrap ((i:Int)+1)=((i+1:Nat):Int):=by rw [cH V3];omega
      have hnc3:(rwZ (rs.take i) ws).map CV.val++[.val (.int .i64 r.nw),.val (.int .i64 r.old),.val (.slice none 0 0)]=(rwZ (rs.take i++[r]) (ws++[.slice none 0 0])).map .val:=by
       rw [rwZ_add hwl];simp
      (refine U19 ?_;refine aZ (zs:=[.int .i64 0,.int .i64 0,.slice none 0 0]) (sz:=3) (e:=39) (cs':=[.val (.int .i64 r.nw),.val (.int .i64 r.old),.val (.slice none 0 0)]) V5 O O O O O O dS<|bQ (by_:=40) (e2:=39) (l2:=[.val (.int .i64 r.nw),.val (.int .i64 r.old),.val (.slice none 0 0)]) (nl:=i+1) (nc:=(rwZ (rs.take i++[r]) (ws++[.slice none 0 0])).map .val) O O hrl O O (dO _) O O V5 V5 V3 V3 O O hnc3 dS ?_;refine U8 ?_)
      refine cE (σ':=⟨[(1,Lp 1),(2,Lp 2),(3,Lp 3),(4,Ln .i64 (i+1:Nat))],[(600,some ⟨39,(rwZ (rs.take (i+1)) (ws++[.slice none 0 0])).map .val,true⟩),(3,some ⟨42,[.val (.int .i64 va),.val (.int .i64 vb),.slc 600 0 (i+1) 3],false⟩),v3B 42 2 0 0 none 0 0,v3B 36 1 va vb (some ⟨blk,off,none⟩) rs.length cap],joinM X H⟩) ?_ (cD ⟨rs.length-(i+1),by omega,i+1,ws++[.slice none 0 0],H,by omega,O,hO,?_,.inr ⟨by omega,O⟩⟩)
      ·rw [take_snoc hr]
       exact Le.ofR [(600,95)] V8 V1 V2 V2 V0 V2 V2
      ·rw [take_snoc hr]
       exact GR.push (by rw [show r.ex=[] from List.eq_nil_of_length_eq_zero V3];exact CodesIn.nilIn)
     obtain ⟨c,hc⟩:=wg hkl
     obtain ⟨eb,eo,earr,eel,efr,vad,vcap,rfl,hEX,hec,hI⟩:=hE.get hc
     have hEJ:=joinM_has hO hEX
     have hio3:=wo eo k 1
     have h80:=h12.2 c (dE hc)
     have hvk:=GF.len
     rw [dA] at hvk
     have hvl:(vs.map CV.val).length=k*1:=by rw [cX];omega
     subst hk0
     (refine U19 ?_;refine aZ (zs:=[]) (sz:=6) (e:=92) V5 O O O O O O dS ?_;refine U8 ?_)
     refine cL (fun m σ=>∃ n:Nat,n≤c.length∧m=c.length-n∧σ=⟨[(1,Lp 1),(2,Lp 2),(3,Lp 3),(4,Ln .i64 (i:Nat)),(5,Lp 5),(6,Ln .i64 (0:Nat)),(7,.sv (.one (.slc 500 0 (n) 6))),(8,Ln .i64 (n:Nat))],[(500,some ⟨92,(inssV (c.take (n))).map .val,Nat.blt 0 (n)⟩),v3B 39 5 r.nw r.old none 0 0,(600,some ⟨39,(rwZ (rs.take i) ws).map .val,true⟩),(3,some ⟨42,[.val (.int .i64 va),.val (.int .i64 vb),.slc 600 0 (i) 3],false⟩),v3B 42 2 0 0 none 0 0,v3B 36 1 va vb (some ⟨blk,off,none⟩) rs.length cap],joinM X H⟩) c.length
      ⟨⟨[(1,Lp 1),(2,Lp 2),(3,Lp 3),(4,Ln .i64 (i:Nat)),(5,Lp 5),(6,Ln .i64 (0:Nat)),(7,.sv (.one (.slc 500 0 (0) 6))),(8,Ln .i64 (0:Nat))],[(500,some ⟨92,(inssV (c.take (0))).map .val,Nat.blt 0 (0)⟩),v3B 39 5 r.nw r.old none 0 0,(600,some ⟨39,(rwZ (rs.take i) ws).map .val,true⟩),(3,some ⟨42,[.val (.int .i64 va),.val (.int .i64 vb),.slc 600 0 (i) 3],false⟩),v3B 42 2 0 0 none 0 0,v3B 36 1 va vb (some ⟨blk,off,none⟩) rs.length cap],joinM X H⟩,Le.ofR [(500,46)] V15 V1 V2 V2 V0 V2 V2,0,by omega,by omega,rfl⟩ ?_
     rintro m σ ⟨n,hn,rfl,rfl⟩
     by_cases hnl:n<c.length
     case neg =>
      have e:n=c.length:=by omega
      subst e
      have hadd:IntKind.i64.wrap (((0:Nat):Int)+1)=((0+1:Nat):Int):=rfl
      (refine U22 ?_;refine aZ (zs:=[.slice none 0 0]) (sz:=1) (e:=91) (cs':=[.slc 500 0 c.length 6]) V5 O O O O O O dS<|K.appendNil (by_:=24) (e:=91) (e2:=91) (l2:=[.slc 500 0 c.length 6]) O O O (dO _) O O VA V5 V5 V3 V3 O dS ?_;refine U8 ?_)
      refine cE (σ':=⟨[(1,Lp 1),(2,Lp 2),(3,Lp 3),(4,Ln .i64 (i:Nat)),(5,Lp 5),(6,Ln .i64 (0+1:Nat))],[(601,some ⟨91,vs.map .val ++ .slc 500 0 c.length 6::([]:List Value).map .val,true⟩),(500,some ⟨92,(inssV c).map .val,Nat.blt 0 c.length⟩),(5,some ⟨39,[.val (.int .i64 r.nw),.val (.int .i64 r.old),.slc 601 0 (0+1) 1],false⟩),(600,some ⟨39,(rwZ (rs.take i) ws).map .val,true⟩),(3,some ⟨42,[.val (.int .i64 va),.val (.int .i64 vb),.slc 600 0 (i) 3],false⟩),v3B 42 2 0 0 none 0 0,v3B 36 1 va vb (some ⟨blk,off,none⟩) rs.length cap],joinM X H⟩) ?_ ?_
      ·rw [dG]
       rw [show vs=[] from List.eq_nil_of_length_eq_zero (by omega)]
       exact Le.ofR [(601,89)] V11 V1 V2 V2 V0 V2 V2
      refine Leads.closeCell hO (by have:=inssV_len c;rw [cX] at this;exact this) rfl bU rfl V1F rfl rfl fun b o v g1 _ hO3 hv=>cD ⟨r.ex.length-(0+1),by omega,0+1,vs++[v],withBlock H b o,by omega,rfl,hO3,GR.mono (cJ g1),?_,.inr ⟨by omega,?_⟩⟩
      ·rw [take_snoc hc]
       exact (GF.mono (cJ g1)).push (ins_leads hv hI.small)
      ·rw [dI]
       rfl
     obtain ⟨x,hx⟩:=wg hnl
     obtain ⟨xb,xo,xarr,xel,xfr,rfl,hxX,hxz,hxc,_⟩:=hI.at hx
     have hxJ:=joinM_has hO hxX
     have hxo:=wo xo n 6
     have hadd:IntKind.i64.wrap ((n:Int)+1)=((n+1:Nat):Int):=by rw [cH V3];omega
     have hcl:=inssV_len (c.take n)
     rw [dA,Nat.min_eq_left hn] at hcl
     have hnc:=inssV_snoc (c.take n) x (cs:=[.val (.int .i64 x.op),.val (.int .i64 x.a),.val (.int .i64 x.b),.val (.bool x.k.1),.val (.int .u64 (x.k.2/18446744073709551616)),.val (.int .u64 (x.k.2%18446744073709551616))]) rfl
     rw [← take_snoc hx] at hnc
     (refine U46 ?_;refine bJ O O O V28 dS ?_;refine U1 ?_;refine aZ (zs:=[.int .i64 0,.int .i64 0,.int .i64 0,.bool false,.int .u64 0,.int .u64 0]) (sz:=6) (e:=92) (cs':=[.val (.int .i64 x.op),.val (.int .i64 x.a),.val (.int .i64 x.b),.val (.bool x.k.1),.val (.int .u64 (x.k.2/18446744073709551616)),.val (.int .u64 (x.k.2%18446744073709551616))]) V5 O O O O O O dS<|bQ (by_:=48) (e2:=92) (l2:=[.val (.int .i64 x.op),.val (.int .i64 x.a),.val (.int .i64 x.b),.val (.bool x.k.1),.val (.int .u64 (x.k.2/18446744073709551616)),.val (.int .u64 (x.k.2%18446744073709551616))]) (nl:=n+1) (nc:=(inssV (c.take (n+1))).map .val) O O hcl O O (dO _) O O V5 V5 V3 V3 O O hnc dS ?_;refine U7 ?_)
     exact ⟨_,⟨[(1,Lp 1),(2,Lp 2),(3,Lp 3),(4,Ln .i64 (i:Nat)),(5,Lp 5),(6,Ln .i64 (0:Nat)),(7,.sv (.one (.slc 500 0 (n+1) 6))),(8,Ln .i64 (n+1:Nat))],[(500,some ⟨92,(inssV (c.take (n+1))).map .val,Nat.blt 0 (n+1)⟩),v3B 39 5 r.nw r.old none 0 0,(600,some ⟨39,(rwZ (rs.take i) ws).map .val,true⟩),(3,some ⟨42,[.val (.int .i64 va),.val (.int .i64 vb),.slc 600 0 (i) 3],false⟩),v3B 42 2 0 0 none 0 0,v3B 36 1 va vb (some ⟨blk,off,none⟩) rs.length cap],joinM X H⟩,by omega,Le.ofR [(500,84)] V15 V1 V2 V2 V0 V2 V2,n+1,by omega,O,O⟩
   ·as_aux_lemma =>
     by_cases hkl:k<r.ex.length
     case neg =>
      have hke:k=r.ex.length:=by omega
      subst hke
      rw [dG] at GF
      have hwl:=GR.len
      have hrl:((rwZ (rs.take i) ws).map CV.val).length=i*3:=by rw [cX,rwZ_len hwl,dA];omega
      have hadd:IntKind.i64.wrap ((i:Int)+1)=((i+1:Nat):Int):=by rw [cH V3];omega
      have hnc3:(rwZ (rs.take i) ws).map CV.val++[.val (.int .i64 r.nw),.val (.int .i64 r.old),.slc 601 0 r.ex.length 1]=(rwZ (rs.take i) ws++[Value.int .i64 r.nw,Value.int .i64 r.old]).map .val ++ .slc 601 0 r.ex.length 1::([]:List Value).map .val:=by
       simp
      (refine U19 ?_;refine aZ (zs:=[.int .i64 0,.int .i64 0,.slice none 0 0]) (sz:=3) (e:=39) (cs':=[.val (.int .i64 r.nw),.val (.int .i64 r.old),.slc 601 0 r.ex.length 1]) V5 O O O O O O dS<|bQ (by_:=40) (e2:=39) (l2:=[.val (.int .i64 r.nw),.val (.int .i64 r.old),.slc 601 0 r.ex.length 1]) (nl:=i+1) (nc:=(rwZ (rs.take i) ws++[Value.int .i64 r.nw,Value.int .i64 r.old]).map .val ++ .slc 601 0 r.ex.length 1::([]:List Value).map .val) O O hrl O O (dO _) O O V5 V5 V3 V3 O O hnc3 dS ?_;refine U8 ?_)
      refine cE (σ':=⟨[(1,Lp 1),(2,Lp 2),(3,Lp 3),(4,Ln .i64 (i+1:Nat))],[(600,some ⟨39,(rwZ (rs.take i) ws++[Value.int .i64 r.nw,Value.int .i64 r.old]).map .val ++ .slc 601 0 r.ex.length 1::([]:List Value).map .val,true⟩),(601,some ⟨91,vs.map .val,true⟩),(3,some ⟨42,[.val (.int .i64 va),.val (.int .i64 vb),.slc 600 0 (i+1) 3],false⟩),v3B 42 2 0 0 none 0 0,v3B 36 1 va vb (some ⟨blk,off,none⟩) rs.length cap],joinM X H⟩) ?_ ?_
      ·exact Le.ofR [(600,95)] V8 V1 V2 V2 V0 V2 V2
      refine Leads.closeCell hO (by have:=GF.len;omega) O bU O V1F O O fun b o v g1 _ hO3 hv=>cD ⟨rs.length-(i+1),by omega,i+1,ws++[v],withBlock H b o,by omega,O,hO3,?_,.inr ⟨by omega,?_⟩⟩
      ·rw [take_snoc hr]
       exact (GR.mono (cJ g1)).push (codes_leads hv (GF.mono (cJ g1)))
      ·rw [take_snoc hr,rwZ_add hwl]
       simp
     obtain ⟨c,hc⟩:=wg hkl
     obtain ⟨eb,eo,earr,eel,efr,vad,vcap,rfl,hEX,hec,hI⟩:=hE.get hc
     have hEJ:=joinM_has hO hEX
     have hio3:=wo eo k 1
     have h80:=h12.2 c (dE hc)
     have hvk:=GF.len
     rw [dA] at hvk
     have hvl:(vs.map CV.val).length=k*1:=by rw [cX];omega
     (refine U19 ?_;refine aZ (zs:=[]) (sz:=6) (e:=92) V5 O O O O O O dS ?_;refine U8 ?_)
     refine cL (fun m σ=>∃ n:Nat,n≤c.length∧m=c.length-n∧σ=⟨[(1,Lp 1),(2,Lp 2),(3,Lp 3),(4,Ln .i64 (i:Nat)),(5,Lp 5),(6,Ln .i64 (k:Nat)),(7,.sv (.one (.slc 500 0 (n) 6))),(8,Ln .i64 (n:Nat))],[(500,some ⟨92,(inssV (c.take (n))).map .val,Nat.blt 0 (n)⟩),(601,some ⟨91,(vs).map .val,true⟩),(5,some ⟨39,[.val (.int .i64 r.nw),.val (.int .i64 r.old),.slc 601 0 (k) 1],false⟩),(600,some ⟨39,(rwZ (rs.take i) ws).map .val,true⟩),(3,some ⟨42,[.val (.int .i64 va),.val (.int .i64 vb),.slc 600 0 (i) 3],false⟩),v3B 42 2 0 0 none 0 0,v3B 36 1 va vb (some ⟨blk,off,none⟩) rs.length cap],joinM X H⟩) c.length
      ⟨⟨[(1,Lp 1),(2,Lp 2),(3,Lp 3),(4,Ln .i64 (i:Nat)),(5,Lp 5),(6,Ln .i64 (k:Nat)),(7,.sv (.one (.slc 500 0 (0) 6))),(8,Ln .i64 (0:Nat))],[(500,some ⟨92,(inssV (c.take (0))).map .val,Nat.blt 0 (0)⟩),(601,some ⟨91,(vs).map .val,true⟩),(5,some ⟨39,[.val (.int .i64 r.nw),.val (.int .i64 r.old),.slc 601 0 (k) 1],false⟩),(600,some ⟨39,(rwZ (rs.take i) ws).map .val,true⟩),(3,some ⟨42,[.val (.int .i64 va),.val (.int .i64 vb),.slc 600 0 (i) 3],false⟩),v3B 42 2 0 0 none 0 0,v3B 36 1 va vb (some ⟨blk,off,none⟩) rs.length cap],joinM X H⟩,Le.ofR [(500,46)] V15 V1 V2 V2 V0 V2 V2,0,by omega,by omega,rfl⟩ ?_
     rintro m σ ⟨n,hn,rfl,rfl⟩
     by_cases hnl:n<c.length
     case neg =>
      have e:n=c.length:=by omega
      subst e
      have hadd:IntKind.i64.wrap ((k:Int)+1)=((k+1:Nat):Int):=by rw [cH V3];omega
      (refine U22 ?_;refine aZ (zs:=[.slice none 0 0]) (sz:=1) (e:=91) (cs':=[.slc 500 0 c.length 6]) V5 O O O O O O dS<|bQ (by_:=24) (e2:=91) (l2:=[.slc 500 0 c.length 6]) (nl:=k+1) (nc:=vs.map .val++[.slc 500 0 c.length 6]) O O hvl O O (dO _) O O V5 V5 V3 V3 O O O dS ?_;refine U8 ?_)
      refine cE (σ':=⟨[(1,Lp 1),(2,Lp 2),(3,Lp 3),(4,Ln .i64 (i:Nat)),(5,Lp 5),(6,Ln .i64 (k+1:Nat))],[(601,some ⟨91,vs.map .val ++ .slc 500 0 c.length 6::([]:List Value).map .val,true⟩),(500,some ⟨92,(inssV c).map .val,Nat.blt 0 c.length⟩),(5,some ⟨39,[.val (.int .i64 r.nw),.val (.int .i64 r.old),.slc 601 0 (k+1) 1],false⟩),(600,some ⟨39,(rwZ (rs.take i) ws).map .val,true⟩),(3,some ⟨42,[.val (.int .i64 va),.val (.int .i64 vb),.slc 600 0 (i) 3],false⟩),v3B 42 2 0 0 none 0 0,v3B 36 1 va vb (some ⟨blk,off,none⟩) rs.length cap],joinM X H⟩) ?_ ?_
      ·rw [dG]
       exact Le.ofR [(601,89)] V11 V1 V2 V2 V0 V2 V2
      refine Leads.closeCell hO (by have:=inssV_len c;rw [cX] at this;exact this) rfl bU rfl V1F rfl rfl fun b o v g1 _ hO3 hv=>cD ⟨r.ex.length-(k+1),by omega,k+1,vs++[v],withBlock H b o,by omega,rfl,hO3,GR.mono (cJ g1),?_,.inr ⟨by omega,?_⟩⟩
      ·rw [take_snoc hc]
       exact (GF.mono (cJ g1)).push (ins_leads hv hI.small)
      ·rw [dI]
       rfl
     obtain ⟨x,hx⟩:=wg hnl
     obtain ⟨xb,xo,xarr,xel,xfr,rfl,hxX,hxz,hxc,_⟩:=hI.at hx
     have hxJ:=joinM_has hO hxX
     have hxo:=wo xo n 6
     have hadd:IntKind.i64.wrap ((n:Int)+1)=((n+1:Nat):Int):=by rw [cH V3];omega
     have hcl:=inssV_len (c.take n)
     rw [dA,Nat.min_eq_left hn] at hcl
     have hnc:=inssV_snoc (c.take n) x (cs:=[.val (.int .i64 x.op),.val (.int .i64 x.a),.val (.int .i64 x.b),.val (.bool x.k.1),.val (.int .u64 (x.k.2/18446744073709551616)),.val (.int .u64 (x.k.2%18446744073709551616))]) rfl
     rw [← take_snoc hx] at hnc
     (refine U46 ?_;refine bJ O O O V28 dS ?_;refine U1 ?_;refine aZ (zs:=[.int .i64 0,.int .i64 0,.int .i64 0,.bool false,.int .u64 0,.int .u64 0]) (sz:=6) (e:=92) (cs':=[.val (.int .i64 x.op),.val (.int .i64 x.a),.val (.int .i64 x.b),.val (.bool x.k.1),.val (.int .u64 (x.k.2/18446744073709551616)),.val (.int .u64 (x.k.2%18446744073709551616))]) V5 O O O O O O dS<|bQ (by_:=48) (e2:=92) (l2:=[.val (.int .i64 x.op),.val (.int .i64 x.a),.val (.int .i64 x.b),.val (.bool x.k.1),.val (.int .u64 (x.k.2/18446744073709551616)),.val (.int .u64 (x.k.2%18446744073709551616))]) (nl:=n+1) (nc:=(inssV (c.take (n+1))).map .val) O O hcl O O (dO _) O O V5 V5 V3 V3 O O hnc dS ?_;refine U7 ?_)
     exact ⟨_,⟨[(1,Lp 1),(2,Lp 2),(3,Lp 3),(4,Ln .i64 (i:Nat)),(5,Lp 5),(6,Ln .i64 (k:Nat)),(7,.sv (.one (.slc 500 0 (n+1) 6))),(8,Ln .i64 (n+1:Nat))],[(500,some ⟨92,(inssV (c.take (n+1))).map .val,Nat.blt 0 (n+1)⟩),(601,some ⟨91,(vs).map .val,true⟩),(5,some ⟨39,[.val (.int .i64 r.nw),.val (.int .i64 r.old),.slc 601 0 (k) 1],false⟩),(600,some ⟨39,(rwZ (rs.take i) ws).map .val,true⟩),(3,some ⟨42,[.val (.int .i64 va),.val (.int .i64 vb),.slc 600 0 (i) 3],false⟩),v3B 42 2 0 0 none 0 0,v3B 36 1 va vb (some ⟨blk,off,none⟩) rs.length cap],joinM X H⟩,by omega,Le.ofR [(500,84)] V15 V1 V2 V2 V0 V2 V2,n+1,by omega,O,O⟩
end Go.Proofs.YtopiioklkkiedaaGreatDoor
end
section
set_option maxHeartbeats 12800000
set_option maxRecDepth 100000
namespace Go.Proofs.YtopiioklkkiedaaGreatDoor
open Go Go.Lg Go.Lg.Fml Go.Lg.Fld Go.Lg.Arith
set_option maxRecDepth 100000
variable (X:Nat→Option Obj)
set_option maxHeartbeats 25600000 in
theorem rVal14 (a b:Cp) (r:Rl) (ns:List Nm) (aad bad ead vad:Option Addr) (acap bcap ecap vcap:Nat) (hA:FieldsIn X aad a.fs) (hB:FieldsIn X bad b.fs) (hE:CodesIn X ead r.ex) (hN:NumsIn X vad ns) (hvc:ns.length≤vcap) (la:a.fs.length≤12) (lb:b.fs.length≤12) (lr:r.ex.length≤12∧∀ c∈r.ex,c.length≤80) (ln:ns.length≤1000):
  MSpec Tryz.prog X 13 [Cx a aad acap,Cx b bad bcap,LPg r.nw r.old ead r.ex.length ecap,Lx vad ns.length vcap] [] (vR14 (valE a.fs b.fs r ns) (valN a.fs b.fs r ns)) (vBx14 (valE a.fs b.fs r ns) (valN a.fs b.fs r ns)):=by
 have hF0:=refFit_spec X aad vad acap vcap a.fs ns hA V3 hN V3
 have hR:=rRule13 X a b r aad bad ead acap bcap ecap hA hB hE V3 V3 (fun c hc=>by have:=lr.2 c hc;omega)
 refine cG Tryz.func13 rfl V5 rfl (by unfold vR14 vBx14;split<;>rfl) (by unfold vBx14;split<;>exact V0) rfl rfl ?_
 intro C
 by_cases z1:fitErr a.fs ns=0
 case neg =>
  rw [show valE a.fs b.fs r ns=fitErr a.fs ns by unfold valE;rw [if_neg z1]]
  unfold vR14 vBx14
  rw [if_neg z1,if_neg z1]
  generalize fitErr a.fs ns=e at *
  (refine U20 ?_;refine kne rfl rfl (r:=true) (cU z1) ?_;refine U9 ?_)
  exact V1C
 rw [z1] at hF0
 by_cases z2:layErr b.fs=0
 case neg =>
  have hL:=Lay_no X bad bcap b.fs hB V3 z2
  rw [show valE a.fs b.fs r ns=layErr b.fs by unfold valE;rw [if_pos z1,if_neg z2]]
  unfold vR14 vBx14
  rw [if_neg z2,if_neg z2]
  generalize layErr b.fs=e at *
  (refine U29 ?_;refine aU [] [] (hL) O O VC O O O O O V2B dS ?_;refine U13 ?_;refine kne O O (r:=true) (cU z2) ?_;refine U9 ?_)
  exact V1C
 have hL:=Lay_ok X bad bcap b.fs hB V3 z2
 obtain ⟨_,hokb,_⟩:=layErr_facts z2
 generalize elemsAt 0 b.fs=E at hL
 generalize startsAt 0 b.fs=S at hL
 generalize rowSize b.fs=T at hL
 by_cases z3:r.old=0
 ·rw [show valE a.fs b.fs r ns=7 by unfold valE;rw [if_pos z1,if_pos z2,if_pos z3]]
  unfold vR14 vBx14
  rw [if_neg (by decide),if_neg (by decide)]
  (refine U29 ?_;refine bE [(1000001,501),(1000002,502)] (.tup [.one (.slc 501 0 E.length 2),Sn .i64 (T:Nat),.one (.slc 502 0 b.fs.length 1),Sn .i64 0]) [(501,some ⟨114,(elVs E).map .val,Nat.blt 0 E.length⟩),(502,some ⟨3,(ntV S).map .val,Nat.blt 0 b.fs.length⟩)] (hL) O O VC O O O O O V1D dS ?_;refine U22 ?_;refine keq O O (r:=true) (cV z3) ?_;refine U8 ?_)
  exact V1C
 by_cases z4:ruE a.fs b.fs r=0
 case neg =>
  rw [show valE a.fs b.fs r ns=ruE a.fs b.fs r by unfold valE;rw [if_pos z1,if_pos z2,if_neg z3,if_neg z4]]
  unfold vR14 vBx14
  rw [if_neg z4,if_neg z4]
  generalize ruE a.fs b.fs r=e at *
  (refine U29 ?_;refine bE [(1000001,501),(1000002,502)] (.tup [.one (.slc 501 0 E.length 2),Sn .i64 (T:Nat),.one (.slc 502 0 b.fs.length 1),Sn .i64 0]) [(501,some ⟨114,(elVs E).map .val,Nat.blt 0 E.length⟩),(502,some ⟨3,(ntV S).map .val,Nat.blt 0 b.fs.length⟩)] (hL) O O VC O O O O O V1D dS ?_;refine U22 ?_;refine keq O O (r:=false) (cS z3) ?_;refine U15 ?_;refine kne O O (r:=true) (cU z4) ?_;refine U9 ?_)
  exact V1C
 rw [z4] at hR
 have hel:=ruE_len z4 z3
 obtain ⟨z5,hns,_⟩:=fit_all z1
 obtain ⟨_,hoka,_⟩:=layErr_facts z5
 rw [show valE a.fs b.fs r ns=seqE (stepE (cutN a.fs ns)) (stepsN b.fs r.ex) by unfold valE;rw [if_pos z1,if_pos z2,if_neg z3,if_pos z4]]
 unfold valN
 (refine U29 ?_;refine bE [(1000001,501),(1000002,502)] (.tup [.one (.slc 501 0 E.length 2),Sn .i64 (T:Nat),.one (.slc 502 0 b.fs.length 1),Sn .i64 0]) [(501,some ⟨114,(elVs E).map .val,Nat.blt 0 E.length⟩),(502,some ⟨3,(ntV S).map .val,Nat.blt 0 b.fs.length⟩)] (hL) O O VC O O O O O V1D dS ?_;refine U22 ?_;refine keq O O (r:=false) (cS z3) ?_;refine U21 ?_;refine aZ (zs:=[]) (sz:=1) (e:=28) V5 O O O O O O dS ?_;refine U12 ?_)
 clear hF0 hL hR
 repeat refine aA ?_
 refine LWP.meetB (fun σ=>σ=⟨[(3,Lx vad ns.length vcap),(4,Lp 4),(5,Lp 5),(6,Lp 6),(16,.sv (.one (.slc 500 0 (a.fs.length) 1))),(17,Ln .i64 ((sumC a.fs):Nat)),(18,Ln .i64 (a.fs.length:Nat))],[(500,some ⟨28,(subV vad vcap 0 (a.fs)).map .val,Nat.blt 0 (a.fs.length)⟩),cpB 4 a aad acap,cpB 5 b bad bcap,v3B 39 6 r.nw r.old ead r.ex.length ecap],X⟩) ?_ ?_
 ·refine cM (fun m σ=>∃ i:Nat,i≤a.fs.length∧m=a.fs.length-i∧σ=⟨[(3,Lx vad ns.length vcap),(4,Lp 4),(5,Lp 5),(6,Lp 6),(16,.sv (.one (.slc 500 0 (i) 1))),(17,Ln .i64 ((sumC (a.fs.take i)):Nat)),(18,Ln .i64 (i:Nat))],[(500,some ⟨28,(subV vad vcap 0 (a.fs.take (i))).map .val,Nat.blt 0 (i)⟩),cpB 4 a aad acap,cpB 5 b bad bcap,v3B 39 6 r.nw r.old ead r.ex.length ecap],X⟩) a.fs.length
   (cE (σ':=⟨[(3,Lx vad ns.length vcap),(4,Lp 4),(5,Lp 5),(6,Lp 6),(16,.sv (.one (.slc 500 0 (0) 1))),(17,Ln .i64 (0:Nat)),(18,Ln .i64 (0:Nat))],[(500,some ⟨28,(subV vad vcap 0 (a.fs.take (0))).map .val,Nat.blt 0 (0)⟩),cpB 4 a aad acap,cpB 5 b bad bcap,v3B 39 6 r.nw r.old ead r.ex.length ecap],X⟩) (Le.ofR [(500,52)] V14 V1 V2 V2 V0 V2 V2) (cD ⟨0,by omega,by omega,rfl⟩)) ?_
  rintro m σ ⟨i,hi,rfl,rfl⟩
  by_cases hlt:i<a.fs.length
  case neg =>
   have e:i=a.fs.length:=by omega
   subst e
   rw [dG]
   refine U11 ?_
   exact cE (σ':=⟨[(3,Lx vad ns.length vcap),(4,Lp 4),(5,Lp 5),(6,Lp 6),(16,.sv (.one (.slc 500 0 (a.fs.length) 1))),(17,Ln .i64 ((sumC a.fs):Nat)),(18,Ln .i64 (a.fs.length:Nat))],[(500,some ⟨28,(subV vad vcap 0 (a.fs)).map .val,Nat.blt 0 (a.fs.length)⟩),cpB 4 a aad acap,cpB 5 b bad bcap,v3B 39 6 r.nw r.old ead r.ex.length ecap],X⟩) (Le.of V14 V8 V2 V2 V0) (cD O)
  obtain ⟨f,hf⟩:=wg hlt
  obtain ⟨fb,fo,farr,fel,ffr,rfl,hFX,hFz,hFc,_,_,g2⟩:=hA.cells hf
  have hio:=wo fo i 3
  obtain ⟨hn1,hn8,hnc⟩:=sum_pos hoka hf
  have hst:=sum_take hf
  obtain ⟨u,hu⟩:∃ u,ns[0]? = some u:=wg V3
  obtain ⟨vb,vo,varr,vel,vfr,rfl,_⟩:=hN.rows 0 (nmV u) (by rw [dM,hu];rfl)
  have hs1:sumC (a.fs.take (i+1))=sumC (a.fs.take i)+f.n:=by rw [take_snoc hf,sum_snoc]
  have hadd1:IntKind.i64.wrap (((sumC (a.fs.take i):Nat):Int)+f.count)=((sumC (a.fs.take i)+f.n:Nat):Int):=by rw [cH V3];omega
  have hadd2:IntKind.i64.wrap (((sumC (a.fs.take i):Nat):Int)+f.count)=((sumC (a.fs.take (i+1)):Nat):Int):=by rw [hs1];exact hadd1
  have hadd:=wi i V3
  have hcl:((subV (some ⟨vb,vo,none⟩) vcap 0 (a.fs.take i)).map CV.val).length=i*1:=by rw [cX,subV_len,dA];omega
  have hnw:(subV (some ⟨vb,vo,none⟩) vcap 0 (a.fs.take i)).map CV.val++[.val (.slice (some ⟨vb,vo+sumC (a.fs.take i)*3,none⟩) f.n (vcap-sumC (a.fs.take i)))]=(subV (some ⟨vb,vo,none⟩) vcap 0 (a.fs.take (i+1))).map .val:=by
   rw [take_snoc hf,subV_snoc,dI,Nat.zero_add];rfl
  (refine aA<|aA<|rgN<|kmv O<|kfa O O ?_;refine kl1 O O O<|K.lenX O cC O dS ?_;refine klt O O (cP V3)<|RunK.nil<|LWP.condT O ?_;refine LWP.skip ?_;refine aA<|LWP.block<|aA<|rgN<|kmv O<|kmv O<|kmv O<|kmv O<|kfa O O ?_;refine kl1 O O O<|kmv O<|K.indexX O O cC V3 hio dS<|K.fieldAddrX O O dS ?_;refine K.loadX O hFX O g2 dS<|kad O O hadd1<|K.cut2X (sz:=3) O O O cC V3 V3 (.inl V3) hvc O (Nat.add_sub_cancel_left ..) O dS ?_;refine aZ (zs:=[.slice none 0 0]) (sz:=1) (e:=28) (cs':=[.val (.slice (some ⟨vb,vo+sumC (a.fs.take i)*3,none⟩) f.n (vcap-sumC (a.fs.take i)))]) V5 O O O O O O dS<|bQ (by_:=24) (e2:=28) (l2:=[.val (.slice (some ⟨vb,vo+sumC (a.fs.take i)*3,none⟩) f.n (vcap-sumC (a.fs.take i)))]) (nl:=i+1) (nc:=(subV (some ⟨vb,vo,none⟩) vcap 0 (a.fs.take (i+1))).map .val) O O hcl O O (dO _) O O V5 V5 V3 V3 O O hnw dS<|kas O<|RunK.nil<|rgN<|kmv O<|kfa O O ?_;refine kl1 O O O<|kmv O<|K.indexX O O cC V3 hio dS<|K.fieldAddrX O O dS ?_;refine K.loadX O hFX O g2 dS<|kad O O hadd2<|kas O<|RunK.nil<|rgN<|kmv O<|kad O O hadd<|kas O<|RunK.nil ?_)
  exact cE (σ':=⟨[(3,Lx (some ⟨vb,vo,none⟩) ns.length vcap),(4,Lp 4),(5,Lp 5),(6,Lp 6),(16,.sv (.one (.slc 500 0 (i+1) 1))),(17,Ln .i64 ((sumC (a.fs.take (i+1))):Nat)),(18,Ln .i64 (i+1:Nat))],[(500,some ⟨28,(subV (some ⟨vb,vo,none⟩) vcap 0 (a.fs.take (i+1))).map .val,Nat.blt 0 (i+1)⟩),cpB 4 a (some ⟨fb,fo,none⟩) acap,cpB 5 b bad bcap,v3B 39 6 r.nw r.old ead r.ex.length ecap],X⟩) (Le.ofR [(500,73)] V14 V1 V2 V2 V0 V2 V2) (cD ⟨a.fs.length-(i+1),by omega,i+1,by omega,O,O⟩)
 rintro σ rfl
 (refine U2 ?_;refine aZ (zs:=[]) (sz:=3) (e:=86) V5 O O O O O O dS ?_;refine U8 ?_)
 refine LWP.le (σ':=⟨[(16,.sv (.one (.slc 500 0 a.fs.length 1))),(5,Lp 5),(6,Lp 6),(19,.sv (.one (.slc 501 0 0 3))),(20,Ln .i64 (0:Nat))],[(500,some ⟨28,(subV vad vcap 0 a.fs).map .val,Nat.blt 0 a.fs.length⟩),nmsB 501 [] false,cpB 5 b bad bcap,v3B 39 6 r.nw r.old ead r.ex.length ecap],X⟩) (Le.ofR [(500,500),(501,82)] V10 V1 V2 V2 V0 V2 V2) ?_
 refine LWP.freeze O O O fun fb0 fc fa0 ff0 hn0 _ hfc _ hsp => ?_
 have hXY:=cJ (o:=.cells fa0 28 ff0) hn0
 have hFs:=fss_block (cN X fb0 (.cells fa0 28 ff0)) hsp ⟨hN.rows.mono hXY,hN.in2⟩ hns
 have hf2:∀ l∈cutN a.fs ns,∀ u∈l,In2 u.2:=fun l hl u hu=>hN.in2 u (cut_mem hl u hu)
 have hrl:∀ l∈cutN a.fs ns,l.length≤1000:=fun l hl=>by
  obtain ⟨i,hi⟩:=List.mem_iff_getElem?.1 hl
  have hil:=(wl hi)
  rw [cutN_len] at hil
  rw [cut_at (cY hil)] at hi
  cases hi
  rw [dA,dC];omega
 replace hB:=hB.mono hXY
 replace hE:=hE.mono hXY
 have hfl:a.fs.length=(cutN a.fs ns).length:=cutN_len.symm
 have hcl12:(cutN a.fs ns).length≤12:=by rw [cutN_len];exact la
 clear hA hN hsp hn0 hXY
 generalize withBlock X fb0 (.cells fa0 28 ff0)=Y at *
 generalize (some ⟨fb0,0,none⟩:Option Addr)=fad at *
 rw [hfl]
 generalize cutN a.fs ns=G at *
 refine cM (fun m σ=>∃ (i:Nat) (L:List Nm),i≤b.fs.length∧m=b.fs.length-i∧L=(stepsN (b.fs.take i) (r.ex.take i)).map (stepV G)∧seqE (stepE G) (stepsN (b.fs.take i) (r.ex.take i))=0∧σ=⟨[(5,Lp 5),(6,Lp 6),(16,Lx fad G.length fc),(19,.sv (.one (.slc 501 0 L.length 3))),(20,Ln .i64 (i:Nat))],[nmsB 501 (L) (Nat.blt 0 L.length),cpB 5 b bad bcap,v3B 39 6 r.nw r.old ead r.ex.length ecap],Y⟩) b.fs.length
  (cE (σ':=⟨[(5,Lp 5),(6,Lp 6),(16,Lx fad G.length fc),(19,.sv (.one (.slc 501 0 0 3))),(20,Ln .i64 (0:Nat))],[nmsB 501 ([]) false,cpB 5 b bad bcap,v3B 39 6 r.nw r.old ead r.ex.length ecap],Y⟩) (Le.ofR [(501,501)] V10 V1 V2 V2 V0 V2 V2) (cD ⟨0,[],by omega,by omega,rfl,rfl,rfl⟩)) ?_
 rintro m σ ⟨i,L,hi,rfl,hL,hpre,rfl⟩
 by_cases hlt:i<b.fs.length
 case neg =>
  have e:i=b.fs.length:=by omega
  subst e
  rw [dG,← hel,dG] at hL hpre
  rw [hpre]
  unfold vR14 vBx14
  rw [if_pos rfl,if_pos rfl,← hL]
  refine U18 ?_
  exact ⟨[(1000001,501)],⟨[_,_],⟨O,O,trivial⟩,O⟩,V1,O,O⟩
 obtain ⟨f,hf⟩:=wg hlt
 obtain ⟨c,hc⟩:∃ c,r.ex[i]? = some c:=wg V3
 obtain ⟨fb,fo,farr,fel,ffr,rfl,hFX,hFz,hFc,_,g1,g2⟩:=hB.cells hf
 obtain ⟨eb,eo,earr,eel,efr,cad,ccap,rfl,hEX,hec,hI⟩:=hE.get hc
 have hio:=wo fo i 3
 have hio1:=wo eo i 1
 obtain ⟨hn1,hn8,hnc⟩:=sum_pos hokb hf
 have hadd:=wi i V3
 have hc80:=lr.2 c (dE hc)
 have hsl:(stepsN (b.fs.take i) (r.ex.take i)).length≤96:=by
  have h1:=steps_len (b:=b.fs.take i) (ex:=r.ex.take i) (by rw [dA,dA];omega)
  rw [h1,elems_sum]
  have h2:=sum_le (b.fs.take i) (Fld.take_ok hokb i)
  rw [dA] at h2
  omega
 refine U18 ?_
 refine cM (fun m σ=>∃ (k:Nat) (L:List Nm),k≤f.n∧m=f.n-k∧L=(stepsN (b.fs.take i) (r.ex.take i)++fldS f c k).map (stepV G)∧seqE (stepE G) (stepsN (b.fs.take i) (r.ex.take i)++fldS f c k)=0∧σ=⟨[(5,Lp 5),(6,Lp 6),(16,Lx fad G.length fc),(19,.sv (.one (.slc 501 0 L.length 3))),(20,Ln .i64 (i:Nat)),(21,Ln .i64 (k:Nat))],[nmsB 501 (L) (Nat.blt 0 L.length),cpB 5 b (some ⟨fb,fo,none⟩) bcap,v3B 39 6 r.nw r.old (some ⟨eb,eo,none⟩) r.ex.length ecap],Y⟩) f.n
  (cE (σ':=⟨[(5,Lp 5),(6,Lp 6),(16,Lx fad G.length fc),(19,.sv (.one (.slc 501 0 L.length 3))),(20,Ln .i64 (i:Nat)),(21,Ln .i64 (0:Nat))],[nmsB 501 (L) (Nat.blt 0 L.length),cpB 5 b (some ⟨fb,fo,none⟩) bcap,v3B 39 6 r.nw r.old (some ⟨eb,eo,none⟩) r.ex.length ecap],Y⟩) (Le.ofR [(501,501)] V11 V1 V2 V2 V0 V2 V2) (cD ⟨0,L,by omega,by omega,by rw [fldS_zero,dK];exact hL,by rw [fldS_zero,dK];exact hpre,rfl⟩)) ?_
 clear hpre hL
 clear L
 rintro m σ ⟨k,L,hk,rfl,hL,hpre,rfl⟩
 have hLl:L.length≤104:=by rw [hL,cX,cW,fldS_len];omega
 by_cases hkl:k<f.n
 case neg =>
  have e:k=f.n:=by omega
  subst e
  refine U19 ?_
  exact cE (σ':=⟨[(5,Lp 5),(6,Lp 6),(16,Lx fad G.length fc),(19,.sv (.one (.slc 501 0 L.length 3))),(20,Ln .i64 (i+1:Nat))],[nmsB 501 (L) (Nat.blt 0 L.length),cpB 5 b (some ⟨fb,fo,none⟩) bcap,v3B 39 6 r.nw r.old (some ⟨eb,eo,none⟩) r.ex.length ecap],Y⟩) (Le.ofR [(501,501)] V10 V1 V2 V2 V0 V2 V2) (cD ⟨b.fs.length-(i+1),by omega,i+1,L,by omega,rfl,by rw [steps_snoc hf hc];exact hL,by rw [steps_snoc hf hc];exact hpre,rfl⟩)
 obtain ⟨post,hpost⟩:=steps_at hf hc hkl
 have hEv:=rEval_spec Y c cad ccap hI V3 fad fc G hFs V3 (fun l hl=>by have:=hrl l hl;omega) hf2 (k:Nat) V3
 have haddk:=wi k V3
 cases hev:evX c G (k:Nat) with
 | error e =>
  have hne:=evX_err hev
  have hse:stepE G (f,c,k)=e:=by
   unfold stepE
   rw [hev,show erV (Except.error e:Except Int Nm)=e from rfl,if_neg hne]
  rw [seqE_hit hpost hpre (by rw [hse];exact hne),hse]
  unfold vR14 vBx14
  rw [if_neg hne,if_neg hne]
  rw [hev] at hEv
  (refine U37 ?_;refine kne rfl rfl (r:=true) (cU hne) ?_;refine U9 ?_)
  exact V1C
 | ok v =>
 rw [hev] at hEv
 have hv2:In2 v.2:=evX_two (fun x hx=>(hI.small x hx).2.2.2) hf2 V3 hev
 have hsv:stepV G (f,c,k)=v:=by unfold stepV;rw [hev];rfl
 have hFt:=fun q h=>refFits_spec Y f.kind v.1 v.2 hv2 q h
 cases hq:fitB f.kind v.1 v.2 with
 | false =>
  have hFt:=hFt false hq
  have hse:stepE G (f,c,k)=3:=by
   unfold stepE
   rw [hev,show erV (Except.ok v:Except Int Nm)=0 from rfl,if_pos rfl,hsv]
   exact if_neg (by rw [hq];decide)
  rw [seqE_hit hpost hpre (by rw [hse];decide),hse]
  unfold vR14 vBx14
  rw [if_neg (by decide),if_neg (by decide)]
  (refine U43 ?_;refine rgD mixed ?_;refine U18 ?_)
  exact V1C
 | true =>
  have hFt:=hFt true hq
  have hse:stepE G (f,c,k)=0:=by
   unfold stepE
   rw [hev,show erV (Except.ok v:Except Int Nm)=0 from rfl,if_pos rfl,hsv]
   exact if_pos hq
  have hcl:=nmsV_len L
  have hnc2:=nmsV_snoc L v
  have hrow:Nat.blt 0 (L++[v]).length=true:=by rw [cW];simp
  have hL2:L++[v]=(stepsN (b.fs.take i) (r.ex.take i)++fldS f c (k+1)).map (stepV G):=by
   rw [fldS_succ,← dN,dI,← hL,List.map_cons,List.map_nil,hsv]
  have hpre2:seqE (stepE G) (stepsN (b.fs.take i) (r.ex.take i)++fldS f c (k+1))=0:=by
   rw [fldS_succ,← dN];exact seqE_snoc hpre hse
  have hnl:L.length+1=(L++[v]).length:=by rw [cW];rfl
  (refine U43 ?_;refine rgD mixed ?_;refine U16 ?_;refine aZ (zs:=[.bool false,.int .u64 0,.int .u64 0]) (sz:=3) (e:=86) (cs':=cI v.1 v.2) V5 O O O O O O dS<|bQ (by_:=24) (e2:=86) (l2:=cI v.1 v.2) (nl:=(L++[v]).length) (nc:=(nmsV (L++[v])).map .val) O O hcl O O (dO _) O O V5 V5 V3 V3 O hnl hnc2 dS ?_;refine U7 ?_)
  exact cE (σ':=⟨[(5,Lp 5),(6,Lp 6),(16,Lx fad G.length fc),(19,.sv (.one (.slc 501 0 (L++[v]).length 3))),(20,Ln .i64 (i:Nat)),(21,Ln .i64 (k+1:Nat))],[nmsB 501 (L++[v]) true,cpB 5 b (some ⟨fb,fo,none⟩) bcap,v3B 39 6 r.nw r.old (some ⟨eb,eo,none⟩) r.ex.length ecap],Y⟩) (Le.ofR [(501,126)] V11 V1 V2 V2 V0 V2 V2) (cD ⟨f.n-(k+1),by omega,k+1,L++[v],by omega,rfl,hL2,hpre2,by rw [hrow]⟩)
end Go.Proofs.YtopiioklkkiedaaGreatDoor
end
section
set_option maxHeartbeats 12800000
set_option maxRecDepth 100000
namespace Go.Proofs.YtopiioklkkiedaaGreatDoor
open Go Go.Lg Go.Lg.Fml Go.Lg.Fld Go.Lg.Arith
set_option maxRecDepth 100000
variable (X:Nat→Option Obj)
theorem rHas14 (s:Nat) (id:Int) (hs:s<4294967296):PSpec Tryz.prog X 53 [Ln .u32 (s:Nat),Ln .i64 id] (Lb (Sg.hasB s id)):=by
 refine cF Tryz.func53 rfl V5 rfl rfl ?_
 intro C
 by_cases h1:id<1
 ·rw [show Sg.hasB s id=false by unfold Sg.hasB Sg.okJ;rw [cO V3];rfl]
  (refine U8 ?_;refine klt rfl rfl (cP h1) ?_;refine U11 ?_)
  exact V6
 by_cases h2:24<id
 ·rw [show Sg.hasB s id=false by unfold Sg.hasB Sg.okJ;rw [cO (show ¬id≤24 by omega),Bool.and_false];rfl]
  (refine U8 ?_;refine klt O O (cO h1) ?_;refine U2 ?_;refine aS O O (cP h2) (dT O O) ?_;refine U8 ?_)
  exact V6
 obtain ⟨n,rfl⟩:∃ n:Nat,id=(n:Int):=⟨id.toNat,by omega⟩
 rw [show Sg.hasB s (n:Int)=s.testBit n by unfold Sg.hasB;rw [Sg.okI_iff.2 (by omega),Bool.true_and];rfl]
 (refine U8 ?_;refine klt O O (cO h1) ?_;refine U2 ?_;refine aS O O (cO h2) (dT O O) ?_;refine U10 ?_)
 refine cL (fun m σ=>∃ i:Nat,i≤n∧m=n-i∧σ=⟨[(0,Ln .u32 (s/2^i:Nat)),(1,Ln .i64 (n:Nat)),(5,Ln .i64 (i:Nat))],[],X⟩) n
  ⟨⟨[(0,Ln .u32 (s/2^0:Nat)),(1,Ln .i64 (n:Nat)),(5,Ln .i64 (0:Nat))],[],X⟩,by
   rw [show s/2^0=s from Nat.div_one s]
   exact Le.of V9 VC V2 V2 V2,0,by omega,O,O⟩ ?_
 rintro m σ ⟨i,hi,rfl,rfl⟩
 by_cases hlt:i<n
 ·have hquo:IntKind.u32.wrap ((((s/2^i:Nat):Int)).tdiv ((2:Nat):Int))=((s/2^(i+1):Nat):Int):=by
   rw [← Sg.half_next]
   refine wrap_u32 ⟨Int.natCast_nonneg _,?_⟩
   have:s/2^i/2≤s:=Nat.le_trans (Nat.div_le_self _ _) (Nat.div_le_self _ _)
   show ((s/2^i/2:Nat):Int)<_
   omega
  have hadd:=wi i V3
  (refine U13 ?_;refine K.quo O O VA hquo dS ?_;refine U7 ?_)
  exact ⟨_,⟨[(0,Ln .u32 (s/2^(i+1):Nat)),(1,Ln .i64 (n:Nat)),(5,Ln .i64 (i+1:Nat))],[],X⟩,by omega,Le.of V9 VC V2 V2 V2,i+1,by omega,O,O⟩
 ·have e:i=n:=by omega
  subst e
  have hb:=Sg.half_bit s i
  have hmod:(((s/2^i:Nat):Int)).tmod ((2:Nat):Int)=((s/2^i%2:Nat):Int):=rfl
  have heq:(((s/2^i%2:Nat):Int)==1)=s.testBit i:=by
   rw [← hb]
   by_cases h:s/2^i%2=1
   ·rw [h];rfl
   ·rw [cS h,cS V3]
  (refine U12 ?_;refine K.rem O O VA hmod dS<|keq O O heq ?_;refine U3 ?_)
  exact V6
theorem sigN_snoc {rs:List Rl} {i:Nat} {r:Rl} (hr:rs[i]? = some r) (s:Nat):sigN (rs.take (i+1)) s=if Sg.hasB s r.old=true then Sg.withN (sigN (rs.take i) s) r.nw else sigN (rs.take i) s:=by
 unfold sigN
 rw [take_snoc hr,List.foldl_append]
 rfl
def stB (s o:Nat) (r:Rl):Bool:=Sg.hasB s r.old&&(Sg.okJ r.nw && !Sg.hasB o r.nw)
theorem stB_sig (s o:Nat) (r:Rl):(if Sg.hasB s r.old=true then Sg.withN o r.nw else o)=if stB s o r=true then o+2^r.nw.toNat else o:=by
 unfold stB
 cases h1:Sg.hasB s r.old with
 | false=>rw [if_neg VA,if_neg V21]
 | true =>
  rw [if_pos rfl]
  unfold Sg.withN
  cases h2:Sg.okJ r.nw with
  | false=>rw [if_neg VA,if_neg V21]
  | true =>
   rw [if_pos rfl]
   cases h3:Sg.hasB o r.nw with
   | false =>
    rw [if_pos (by simp)]
    unfold Sg.hasB at h3
    rw [h2,Bool.true_and] at h3
    exact Sg.or_pow h3
   | true =>
    rw [if_neg (by simp)]
    unfold Sg.hasB at h3
    rw [h2,Bool.true_and] at h3
    apply Nat.eq_of_testBit_eq
    intro j
    rw [Nat.testBit_or,Nat.testBit_two_pow]
    by_cases e:r.nw.toNat=j
    ·rw [cP e,Bool.or_true,← e,h3]
    ·rw [cO e,Bool.or_false]
set_option maxHeartbeats 6400000 in
theorem rSig14 (va vb:Int) (rs:List Rl) (ad:Option Addr) (cap s:Nat) (hp:RulesIn X ad rs) (hl:rs.length<4611686018427387904) (hs:s<4294967296):
  PSpec Tryz.prog X 21 [LPg va vb ad rs.length cap,Ln .u32 (s:Nat)] (Ln .u32 (sigN rs s:Nat)):=by
 refine cF Tryz.func21 rfl V5 rfl rfl ?_
 intro C
 (refine aA<|rgN<|K.box O O O dS<|kas O<|RunK.nil<|aA<|rgN<|kas O<|RunK.nil<|aA<|aA<|rgN<|kas O<|RunK.nil ?_;refine LWP.block ?_)
 refine cL (fun m σ=>∃ i:Nat,i≤rs.length∧m=rs.length-i∧σ=⟨[(1,Ln .u32 (s:Nat)),(2,Lp 2),(5,Ln .u32 (sigN (rs.take i) s:Nat)),(6,Ln .i64 (i:Nat))],[v3B 42 2 va vb ad rs.length cap],X⟩) rs.length
  ⟨⟨[(1,Ln .u32 (s:Nat)),(2,Lp 2),(5,Ln .u32 (0:Nat)),(6,Ln .i64 (0:Nat))],[v3B 42 2 va vb ad rs.length cap],X⟩,Le.of V8 V13 V2 V2 V0,0,by omega,by omega,rfl⟩ ?_
 rintro m σ ⟨i,hi,rfl,rfl⟩
 by_cases hlt:i<rs.length
 case neg =>
  have e:i=rs.length:=by omega
  subst e
  rw [dG]
  (refine aA<|aA<|rgN<|kmv O<|kfa O O ?_;refine kl1 O O O<|K.lenX O cC O dS ?_;refine klt O O (cO V3)<|RunK.nil<|LWP.condF O ?_;refine LWP.exit<|aA<|rgN<|kmv O<|kas O<|RunK.nil<|LWP.ret ?_)
  exact V6
 obtain ⟨r,hr⟩:=wg hlt
 obtain ⟨blk,off,arr,el,fr,ead,ecap,rfl,hX,hsz,hcs,g1,g2,_,_⟩:=hp.get hr
 have hio:=wo off i 3
 have hadd:=wi i V3
 have hn:=(sigN_snoc hr s).trans (stB_sig s (sigN (rs.take i) s) r)
 have hlt1:=sigN_lt (rs.take (i+1)) s
 have hlt0:=sigN_lt (rs.take i) s
 generalize sigN (rs.take i) s=o at *
 have hst2:∀ q:Nat,sigN (rs.take (i+1)) s=q→(⟨[(1,Ln .u32 (s:Nat)),(2,Lp 2),(5,Ln .u32 (q:Nat)),(6,Ln .i64 (i+1:Nat))],[v3B 42 2 va vb (some ⟨blk,off,none⟩) rs.length cap],X⟩:St)=⟨[(1,Ln .u32 (s:Nat)),(2,Lp 2),(5,Ln .u32 (sigN (rs.take (i+1)) s:Nat)),(6,Ln .i64 (i+1:Nat))],[v3B 42 2 va vb (some ⟨blk,off,none⟩) rs.length cap],X⟩:=fun q h=>by rw [h]
 have hH:=rHas14 X s r.old hs
 have hH2:=rHas14 X o r.nw V3
 cases h1:Sg.hasB s r.old with
 | false =>
  rw [h1] at hH
  have hst:stB s o r=false:=by unfold stB;rw [h1];rfl
  rw [hst,if_neg (by decide)] at hn
  (refine aA<|aA<|rgN<|kmv O<|kfa O O ?_;refine kl1 O O O<|K.lenX O cC O dS ?_;refine klt O O (cP V3)<|RunK.nil<|LWP.condT O ?_;refine LWP.skip ?_;refine aA<|LWP.block<|aA<|rgN<|kfa O O ?_;refine kl1 O O O<|kmv O<|K.indexX O O cC V3 hio dS<|K.fieldAddrX O O dS ?_;refine K.loadX O hX O g1 dS<|kas O<|RunK.nil<|aA<|rgN<|kmv O<|kfa O O ?_;refine kl1 O O O<|kmv O<|K.indexX O O cC V3 hio dS<|K.fieldAddrX O O dS ?_;refine K.loadX O hX O g2 dS<|kca O O hH<|kmv O<|RunK.passed O O O<|RunK.passed O O O<|kpf O O<|kmv O<|RunK.passed O O O<|RunK.passed O O O<|kpf O O<|kmv O<|RunK.passed O O O<|RunK.passed O O O<|RunK.passed O O O ?_;refine RunK.passed O O O<|kpf O O<|RunK.nil<|LWP.condF O ?_;refine LWP.skip ?_;refine rgN<|kmv O<|kad O O hadd<|kas O<|RunK.nil ?_)
  exact ⟨_,_,by omega,Le.of V8 V13 V2 V2 V0,i+1,by omega,O,hst2 _ hn⟩
 | true =>
 rw [h1] at hH
 by_cases c1:1≤r.nw
 case neg =>
  have hst:stB s o r=false:=by unfold stB Sg.okJ;rw [cO c1];simp
  rw [hst,if_neg (by decide)] at hn
  (refine aA<|aA<|rgN<|kmv O<|kfa O O ?_;refine kl1 O O O<|K.lenX O cC O dS ?_;refine klt O O (cP V3)<|RunK.nil<|LWP.condT O ?_;refine LWP.skip ?_;refine aA<|LWP.block<|aA<|rgN<|kfa O O ?_;refine kl1 O O O<|kmv O<|K.indexX O O cC V3 hio dS<|K.fieldAddrX O O dS ?_;refine K.loadX O hX O g1 dS<|kas O<|RunK.nil<|aA<|rgN<|kmv O<|kfa O O ?_;refine kl1 O O O<|kmv O<|K.indexX O O cC V3 hio dS<|K.fieldAddrX O O dS ?_;refine K.loadX O hX O g2 dS<|kca O O hH<|kmv O<|gmv O O O<|bD O O (cO c1) (dT O O) ?_;refine kpt O O<|kmv O<|RunK.passed O O O<|RunK.passed O O O<|kpf O O<|kmv O<|RunK.passed O O O<|RunK.passed O O O<|RunK.passed O O O<|RunK.passed O O O<|kpf O O<|RunK.nil<|LWP.condF O ?_;refine LWP.skip ?_;refine rgN<|kmv O<|kad O O hadd<|kas O<|RunK.nil ?_)
  exact ⟨_,_,by omega,Le.of V8 V13 V2 V2 V0,i+1,by omega,O,hst2 _ hn⟩
 by_cases c2:r.nw≤24
 case neg =>
  have hst:stB s o r=false:=by unfold stB Sg.okJ;rw [cO c2];simp
  rw [hst,if_neg (by decide)] at hn
  (refine aA<|aA<|rgN<|kmv O<|kfa O O ?_;refine kl1 O O O<|K.lenX O cC O dS ?_;refine klt O O (cP V3)<|RunK.nil<|LWP.condT O ?_;refine LWP.skip ?_;refine aA<|LWP.block<|aA<|rgN<|kfa O O ?_;refine kl1 O O O<|kmv O<|K.indexX O O cC V3 hio dS<|K.fieldAddrX O O dS ?_;refine K.loadX O hX O g1 dS<|kas O<|RunK.nil<|aA<|rgN<|kmv O<|kfa O O ?_;refine kl1 O O O<|kmv O<|K.indexX O O cC V3 hio dS<|K.fieldAddrX O O dS ?_;refine K.loadX O hX O g2 dS<|kca O O hH<|kmv O<|gmv O O O<|bD O O (cP c1) (dT O O) ?_;refine kpt O O<|kmv O<|gmv O O O<|K.leq O O (cO c2) (dT O O) ?_;refine kpt O O<|kmv O<|RunK.passed O O O<|RunK.passed O O O<|RunK.passed O O O<|RunK.passed O O O<|kpf O O<|RunK.nil<|LWP.condF O ?_;refine LWP.skip ?_;refine rgN<|kmv O<|kad O O hadd<|kas O<|RunK.nil ?_)
  exact ⟨_,_,by omega,Le.of V8 V13 V2 V2 V0,i+1,by omega,O,hst2 _ hn⟩
 cases h3:Sg.hasB o r.nw with
 | true =>
  rw [h3] at hH2
  have hst:stB s o r=false:=by unfold stB;rw [h3];simp
  rw [hst,if_neg (by decide)] at hn
  (refine aA<|aA<|rgN<|kmv O<|kfa O O ?_;refine kl1 O O O<|K.lenX O cC O dS ?_;refine klt O O (cP V3)<|RunK.nil<|LWP.condT O ?_;refine LWP.skip ?_;refine aA<|LWP.block<|aA<|rgN<|kfa O O ?_;refine kl1 O O O<|kmv O<|K.indexX O O cC V3 hio dS<|K.fieldAddrX O O dS ?_;refine K.loadX O hX O g1 dS<|kas O<|RunK.nil<|aA<|rgN<|kmv O<|kfa O O ?_;refine kl1 O O O<|kmv O<|K.indexX O O cC V3 hio dS<|K.fieldAddrX O O dS ?_;refine K.loadX O hX O g2 dS<|kca O O hH<|kmv O<|gmv O O O<|bD O O (cP c1) (dT O O) ?_;refine kpt O O<|kmv O<|gmv O O O<|K.leq O O (cP c2) (dT O O) ?_;refine kpt O O<|kmv O<|gmv O O O<|gmv O O O<|gca O O hH2 O O<|K.not O O (dT O O) ?_;refine kpt O O<|RunK.nil<|LWP.condF O ?_;refine LWP.skip ?_;refine rgN<|kmv O<|kad O O hadd<|kas O<|RunK.nil ?_)
  exact ⟨_,_,by omega,Le.of V8 V13 V2 V2 V0,i+1,by omega,O,hst2 _ hn⟩
 | false =>
 rw [h3] at hH2
 have hst:stB s o r=true:=by unfold stB;rw [h1,h3,Sg.okI_iff.2 ⟨c1,c2⟩];rfl
 rw [hst,if_pos rfl] at hn
 obtain ⟨w,hw⟩:∃ w:Nat,r.nw=(w:Int):=⟨r.nw.toNat,by omega⟩
 have hwn:r.nw.toNat=w:=by omega
 rw [hwn] at hn
 (refine aA<|aA<|rgN<|kmv O<|kfa O O ?_;refine kl1 O O O<|K.lenX O cC O dS ?_;refine klt O O (cP V3)<|RunK.nil<|LWP.condT O ?_;refine LWP.skip ?_;refine aA<|LWP.block<|aA<|rgN<|kfa O O ?_;refine kl1 O O O<|kmv O<|K.indexX O O cC V3 hio dS<|K.fieldAddrX O O dS ?_;refine K.loadX O hX O g1 dS<|kas O<|RunK.nil<|aA<|rgN<|kmv O<|kfa O O ?_;refine kl1 O O O<|kmv O<|K.indexX O O cC V3 hio dS<|K.fieldAddrX O O dS ?_;refine K.loadX O hX O g2 dS<|kca O O hH<|kmv O<|gmv O O O<|bD O O (cP c1) (dT O O) ?_;refine kpt O O<|kmv O<|gmv O O O<|K.leq O O (cP c2) (dT O O) ?_;refine kpt O O<|kmv O<|gmv O O O<|gmv O O O<|gca O O hH2 O O<|K.not O O (dT O O) ?_;refine kpt O O<|RunK.nil<|LWP.condT O ?_;refine aA<|rgN<|kas O<|RunK.nil<|aA<|aA<|rgN<|kas O<|RunK.nil<|LWP.block ?_)
 refine cL (fun m σ=>∃ k:Nat,k≤w∧m=w-k∧σ=⟨[(1,Ln .u32 (s:Nat)),(2,Lp 2),(5,Ln .u32 (o:Nat)),(6,Ln .i64 (i:Nat)),(7,Ln .i64 (w:Nat)),(8,Ln .u32 (2^k:Nat)),(9,Ln .i64 (k:Nat))],[v3B 42 2 va vb (some ⟨blk,off,none⟩) rs.length cap],X⟩) w
  ⟨⟨[(1,Ln .u32 (s:Nat)),(2,Lp 2),(5,Ln .u32 (o:Nat)),(6,Ln .i64 (i:Nat)),(7,Ln .i64 (w:Nat)),(8,Ln .u32 (1:Nat)),(9,Ln .i64 (0:Nat))],[v3B 42 2 va vb (some ⟨blk,off,none⟩) rs.length cap],X⟩,by rw [← hw];exact Le.of V14 V13 V2 V2 V0,0,by omega,by omega,rfl⟩ ?_
 rintro m σ ⟨k,hk,rfl,rfl⟩
 by_cases hkl:k<w
 ·have hmul:IntKind.u32.wrap (((2^k:Nat):Int)*2)=((2^(k+1):Nat):Int):=by
   have e:((2^k:Nat):Int)*2=((2^(k+1):Nat):Int):=by rw [Nat.pow_succ,Int.natCast_mul];rfl
   rw [e]
   refine wrap_u32 ⟨Int.natCast_nonneg _,?_⟩
   have:2^(k+1)≤2^24:=Nat.pow_le_pow_right VA V3
   have h24:(2:Nat)^24=16777216:=by decide
   omega
  have haddk:=wi k V3
  (refine aA<|aA<|rgN<|kmv O<|kmv O<|klt O O (cP V3)<|RunK.nil<|LWP.condT O ?_;refine LWP.skip ?_;refine aA<|LWP.block<|rgN<|kmv O<|bL O O hmul dS<|kas O<|RunK.nil<|rgN<|kmv O<|kad O O haddk<|kas O<|RunK.nil ?_)
  exact ⟨_,⟨[(1,Ln .u32 (s:Nat)),(2,Lp 2),(5,Ln .u32 (o:Nat)),(6,Ln .i64 (i:Nat)),(7,Ln .i64 (w:Nat)),(8,Ln .u32 (2^(k+1):Nat)),(9,Ln .i64 (k+1:Nat))],[v3B 42 2 va vb (some ⟨blk,off,none⟩) rs.length cap],X⟩,by omega,Le.of V14 V13 V2 V2 V0,k+1,by omega,O,O⟩
 ·have e:k=w:=by omega
  subst e
  have hsum:IntKind.u32.wrap (((o:Nat):Int)+((2^k:Nat):Int))=((o+2^k:Nat):Int):=by
   rw [Int.natCast_add]
   refine wrap_u32 ⟨by omega,by omega⟩
  (refine aA<|aA<|rgN<|kmv O<|kmv O<|klt O O (cO V3)<|RunK.nil<|LWP.condF O ?_;refine LWP.exit<|rgN<|kmv O<|kmv O<|kad O O hsum<|kas O<|RunK.nil<|rgN<|kmv O<|kad O O hadd<|kas O<|RunK.nil ?_)
  exact ⟨_,⟨[(1,Ln .u32 (s:Nat)),(2,Lp 2),(5,Ln .u32 (o+2^k:Nat)),(6,Ln .i64 (i+1:Nat))],[v3B 42 2 va vb (some ⟨blk,off,none⟩) rs.length cap],X⟩,by omega,Le.of V8 V13 V2 V2 V0,i+1,by omega,O,hst2 _ hn⟩
theorem values14 (l m:List Nm) (ad ad2:Option Addr) (cap cap2:Nat) (ha:NumsIn X ad l) (hb:NumsIn X ad2 m) (hbig:l.length<4611686018427387904) (r:Bool) (hr:decide (l=m)=r):
  PSpec Tryz.prog X 14 [Lx ad l.length cap,Lx ad2 m.length cap2] (Lb r):=by
 subst hr
 refine cF Tryz.func14 rfl V5 rfl rfl ?_
 intro C
 by_cases hl:l.length=m.length
 ·(refine U11 ?_;refine kne rfl rfl (r:=false) (by rw [hl];simp) ?_;refine U9 ?_)
  refine cL (fun q σ=>∃ i:Nat,i≤l.length∧q=l.length-i∧l.take i=m.take i∧σ=⟨[(0,Lx ad l.length cap),(1,Lx ad2 m.length cap2),(5,Ln .i64 (i:Nat))],[],X⟩) l.length
   ⟨_,Le.of V9 VC V2 V2 V2,0,by omega,rfl,rfl,rfl⟩ ?_
  rintro q σ ⟨i,hi,rfl,hpre,rfl⟩
  by_cases hlt:i<l.length
  ·obtain ⟨⟨b1,N1⟩,hf⟩:∃ v,l[i]? = some v:=⟨_,cY hlt⟩
   obtain ⟨⟨b2,N2⟩,hf'⟩:∃ v,m[i]? = some v:=wg V3
   obtain ⟨hN1,blk,off,arr,el,fr,rfl,hX,hsz,hcells⟩:=ha.at hf
   obtain ⟨hN2,blk',off',arr',el',fr',rfl,hX',hsz',hcells'⟩:=hb.at hf'
   have hio:=wo off i 3
   have hio':=wo off' i 3
   have hadd:=wi i V3
   have q:=eqI (b:=b1) (b':=b2) (h:=N1/18446744073709551616) (h':=N2/18446744073709551616) (l:=N1%18446744073709551616) (l':=N2%18446744073709551616) _ (eqN hN1 hN2)
   by_cases hq:((b1,N1):Nm)=(b2,N2)
   ·rw [cP hq] at q
    (refine U13 ?_;refine rgD mixed ?_;refine U8 ?_;refine bR O O O O V5 q (.inr ⟨O,O⟩) dS ?_;refine U9 ?_)
    exact ⟨_,_,by omega,Le.of V9 VC V2 V2 V2,i+1,by omega,rfl,by rw [take_snoc hf,take_snoc hf',hpre,hq],rfl⟩
   ·rw [cO (show ¬l=m from fun e=>hq (by rw [e,hf'] at hf;exact (Option.some.inj hf).symm))]
    rw [cO hq] at q
    (refine U13 ?_;refine rgD mixed ?_;refine U8 ?_;refine bR O O O O V5 q (.inr ⟨O,O⟩) dS ?_;refine U8 ?_)
    exact V6
  ·have e:i=l.length:=by omega
   subst e
   rw [dG,List.take_of_length_le (by omega)] at hpre
   rw [cP hpre]
   refine U15 ?_
   exact V6
 ·rw [cO (show ¬l=m from fun e=>hl (by rw [e]))]
  (refine U11 ?_;refine kne rfl rfl (r:=true) (by rw [bne_iff_ne];omega) ?_;refine U7 ?_)
  exact V6
end Go.Proofs.YtopiioklkkiedaaGreatDoor
end
section
set_option maxHeartbeats 12800000
set_option maxRecDepth 100000
namespace Go.Proofs.YtopiioklkkiedaaGreatDoor
open Go Go.Lg Go.Lg.Fml Go.Lg.Fld Go.Lg.Arith
set_option maxRecDepth 100000
theorem findI_c {cs:List Cp} {id:Int}:(findC cs id=none∧findI (fun c=>c.id==id) cs = -1)∨∃ (k:Nat) (c:Cp),findC cs id=some c∧cs[k]? = some c∧findI (fun c=>c.id==id) cs=(k:Nat):=by
 cases h:findC cs id with
 | none=>exact .inl ⟨rfl,findI_none (findC_no h)⟩
 | some c =>
  obtain ⟨k,hk,hid,hpre⟩:=findC_at h
  exact .inr ⟨k,c,rfl,hk,findI_some hpre hk (by rw [beq_iff_eq];exact hid)⟩
variable (X:Nat→Option Obj)
set_option maxHeartbeats 12800000 in
theorem rCheck13 (a b:Sc) (p:Pg) (ad1 ad2 ad:Option Addr) (cap1 cap2 cap:Nat) (ha:CompsIn X ad1 a.cs) (hb:CompsIn X ad2 b.cs) (hp:RulesIn X ad p.rs) (sa:a.cs.length≤30∧∀ c∈a.cs,c.fs.length≤12) (sb:b.cs.length≤30∧∀ c∈b.cs,c.fs.length≤12) (sp:pgOk p):
  PSpec Tryz.prog X 49 [Sx a.ver ad1 a.cs.length cap1,Sx b.ver ad2 b.cs.length cap2,LPg p.va p.vb ad p.rs.length cap] (Ln .i64 (ckE a b p)):=by
 obtain ⟨sa1,sa2⟩:=sa
 obtain ⟨sb1,sb2⟩:=sb
 have sp1:=sp.1
 have hA:=sCheck_spec X a ad1 cap1 ha V3 (fun c hc=>by have:=sa2 c hc;omega)
 have hB:=sCheck_spec X b ad2 cap2 hb V3 (fun c hc=>by have:=sb2 c hc;omega)
 have hP:=rCheck12 X p ad cap hp sp.big sp.size
 refine cF Tryz.func49 rfl V5 rfl rfl ?_
 intro C
 by_cases e1:chkE a=0
 case neg =>
  rw [show ckE a b p=chkE a by unfold ckE;rw [if_neg e1]]
  generalize chkE a=e at *
  (refine U17 ?_;refine kne rfl rfl (r:=true) (cU e1) ?_;refine U8 ?_)
  exact V6
 rw [e1] at hA
 by_cases e2:chkE b=0
 case neg =>
  rw [show ckE a b p=chkE b by unfold ckE;rw [if_pos e1,if_neg e2]]
  generalize chkE b=e at *
  (refine U31 ?_;refine kne rfl rfl (r:=true) (cU e2) ?_;refine U8 ?_)
  exact V6
 rw [e2] at hB
 by_cases e3:chkP p=0
 case neg =>
  rw [show ckE a b p=chkP p by unfold ckE;rw [if_pos e1,if_pos e2,if_neg e3]]
  generalize chkP p=e at *
  (refine U45 ?_;refine kne rfl rfl (r:=true) (cU e3) ?_;refine U8 ?_)
  exact V6
 rw [e3] at hP
 rw [ckE_go (show eaE a b p=0 by unfold eaE;rw [if_pos e1,if_pos e2];exact e3)]
 by_cases c1:p.va=a.ver
 case neg =>
  rw [if_neg (fun h=>c1 h.1)]
  (refine U56 ?_;refine kne rfl rfl (r:=true) (cU c1) ?_;refine U21 ?_)
  exact V6
 by_cases c2:p.vb=b.ver
 case neg =>
  rw [if_neg (fun h=>c2 h.2.1)]
  (refine U56 ?_;refine kne O O (r:=false) (cT c1) ?_;refine U5 ?_;refine aX O O (r:=true) (cU c2) (dT O O) ?_;refine U15 ?_)
  exact V6
 by_cases c3:p.va<p.vb
 case neg =>
  rw [if_neg (fun h=>c3 h.2.2)]
  ((refine U56 ?_;refine kne O O (r:=false) (cT c1) ?_;refine U2 ?_);(refine U3 ?_;refine aX O O (r:=false) (cT c2) (dT O O) ?_;refine U6 ?_;refine bD O O (cP V3) (dT O O) ?_;refine U8 ?_))
  exact V6
 rw [if_pos ⟨c1,c2,c3⟩]
 by_cases hl:p.rs.length=b.cs.length
 case neg =>
  rw [if_neg hl]
  ((refine U56 ?_;refine kne O O (r:=false) (cT c1) ?_;refine U2 ?_);(refine U3 ?_;refine aX O O (r:=false) (cT c2) (dT O O) ?_;refine U15 ?_);(refine U13 ?_))
  exact V6
 rw [if_pos hl]
 ((refine U56 ?_;refine kne O O (r:=false) (cT c1) ?_;refine U2 ?_);(refine U3 ?_;refine aX O O (r:=false) (cT c2) (dT O O) ?_;refine U15 ?_);(refine U5 ?_;refine kne O O (r:=false) (cT V3) ?_;refine U9 ?_))
 clear hA hB hP
 have hzl:(p.rs.zip b.cs).length=p.rs.length:=by rw [List.length_zip];omega
 refine cL (fun m σ=>∃ i:Nat,i≤p.rs.length∧m=p.rs.length-i∧(∀ j,0≤j→j<i→atE (nwE a) (p.rs.zip b.cs) j=0)∧σ=⟨[(3,Lp 3),(4,Lp 4),(5,Lp 5),(10,Ln .i64 (i:Nat))],[v3B 42 5 p.va p.vb ad p.rs.length cap,sxB 4 b.ver ad2 b.cs.length cap2,sxB 3 a.ver ad1 a.cs.length cap1],X⟩) p.rs.length
  ⟨⟨[(3,Lp 3),(4,Lp 4),(5,Lp 5),(10,Ln .i64 (0:Nat))],[v3B 42 5 p.va p.vb ad p.rs.length cap,sxB 4 b.ver ad2 b.cs.length cap2,sxB 3 a.ver ad1 a.cs.length cap1],X⟩,Le.of V8 V9 V2 V2 V0,0,by omega,by omega,fun j _ hj=>absurd hj V3,rfl⟩ ?_
 rintro m σ ⟨i,hi,rfl,hpre,rfl⟩
 by_cases hlt:i<p.rs.length
 ·obtain ⟨r,hr⟩:=wg hlt
  obtain ⟨c,hc⟩:∃ c,b.cs[i]? = some c:=wg V3
  obtain ⟨rb,ro,rarr,rel,rfr,ead,ecap,rfl,hRX,hRz,hRc,r1,r2,r3,hRE⟩:=hp.get hr
  obtain ⟨cb,co,carr,cel,cfr,cad,ccap,rfl,hCX,hCz,hCc,q1,q2,q3,hCF⟩:=hb.get hc
  have hior:=wo ro i 3
  have hioc:=wo co i 3
  have hadd:=wi i V3
  have hat:atE (nwE a) (p.rs.zip b.cs) i=nwE a (r,c):=atE_at (zip_two hr hc)
  have bad:nwE a (r,c)=6→(if seqE (nwE a) (p.rs.zip b.cs)=0 then seqE (ruC a) (p.rs.zip b.cs) else 6)=(6:Int):=fun h=>by
   rw [if_neg]
   intro h2
   have:=seqE_zero h2 (r,c) (dE (zip_two hr hc))
   rw [h] at this;cases this
  have next:nwE a (r,c)=0→∀ j,0≤j→j<i+1→atE (nwE a) (p.rs.zip b.cs) j=0:=fun h j h0 hj=>by
   by_cases e:j=i
   ·rw [e,hat];exact h
   ·exact hpre j h0 V3
  by_cases hn:r.nw=c.id
  case neg =>
   rw [bad (by unfold nwE;exact if_neg (fun h=>hn h.1))]
   (refine aA<|aA<|rgN<|kmv O<|kfa O O ?_;refine kl1 O O O<|K.lenX O cC O dS ?_;refine klt O O (cP V3)<|RunK.nil<|LWP.condT O ?_;refine LWP.skip ?_;refine aA<|LWP.block<|aA<|rgD mixed<|kfa O O ?_;refine kl1 O O O<|kmv O<|K.indexX O O cC V3 hior dS<|K.fieldAddrX O O dS ?_;refine K.loadX O hRX O r1 dS<|kfa O O ?_;refine kl1 O O O<|kmv O<|K.indexX O O cC V3 hioc dS<|K.fieldAddrX O O dS ?_;refine K.loadX O hCX O q1 dS<|kne O O (r:=true) (cU hn)<|kmv O<|RunK.passed O O O<|RunK.passed O O O<|RunK.passed O O O<|RunK.passed O O O<|RunK.passed O O O<|RunK.passed O O O<|RunK.passed O O O<|RunK.passed O O O<|RunK.passedU O O<|RunK.passedU O O<|RunK.passedU O O ?_;refine RunK.passedU O O<|RunK.passedU O O<|RunK.passedU O O<|RunK.passedU O O<|RunK.passedU O O<|RunK.passedU O O<|RunK.passed O O O<|kpt O O<|RunK.nil<|rgA ?_;refine LWP.condT O ?_;refine aA<|rgN<|kas O<|RunK.nil<|LWP.ret ?_)
   exact V6
  by_cases h0:r.old=0
  ·have hz:=next (by unfold nwE;exact if_pos ⟨hn,.inl h0⟩)
   (refine aA<|aA<|rgN<|kmv O<|kfa O O ?_;refine kl1 O O O<|K.lenX O cC O dS ?_;refine klt O O (cP V3)<|RunK.nil<|LWP.condT O ?_;refine LWP.skip ?_;refine aA<|LWP.block<|aA<|rgD mixed<|kfa O O ?_;refine kl1 O O O<|kmv O<|K.indexX O O cC V3 hior dS<|K.fieldAddrX O O dS ?_;refine K.loadX O hRX O r1 dS<|kfa O O ?_;refine kl1 O O O<|kmv O<|K.indexX O O cC V3 hioc dS<|K.fieldAddrX O O dS ?_;refine K.loadX O hCX O q1 dS<|kne O O (r:=false) (cT hn)<|kmv O<|K.fieldAddr O O (dT O O) ?_;refine K.loadOne O O O (dT O O) ?_;refine gmv O O O<|K.indexX O O cC V3 hior (dT O O) ?_;refine K.fieldAddrX O O (dT O O) ?_;refine K.loadX O hRX O r2 (dT O O) ?_;refine aX O O (r:=false) (cT h0) (dT O O) ?_;refine gmv O O O<|RunK.passed O O O<|RunK.passed O O O<|RunK.passed O O O<|RunK.passed O O O<|RunK.passed O O O<|RunK.passed O O O<|RunK.passed O O O<|RunK.passed O O O<|RunK.passed O O O<|K.pickF O O (dT O O) ?_;refine kpf O O<|RunK.nil<|rgA ?_;refine LWP.condF O ?_;refine LWP.skip ?_;refine rgN<|kmv O<|kad O O hadd<|kas O<|RunK.nil ?_)
   exact ⟨_,_,by omega,Le.of V8 V9 V2 V2 V0,i+1,by omega,O,hz,O⟩
  have hFi:=sFind_spec X a.ver ad1 cap1 a.cs r.old ha V3
  rcases findI_c (cs:=a.cs) (id:=r.old) with ⟨k1,k2⟩|⟨k,o,k1,k2,k3⟩
  ·rw [bad (by unfold nwE;exact if_neg (fun h=>h.2.elim h0 fun h=>by rw [k1] at h;cases h))]
   rw [k2] at hFi
   ((refine aA<|aA<|rgN<|kmv O<|kfa O O ?_;refine kl1 O O O<|K.lenX O cC O dS ?_;refine klt O O (cP V3)<|RunK.nil<|LWP.condT O ?_;refine LWP.skip ?_;refine aA<|LWP.block<|aA<|rgD mixed<|kfa O O ?_;refine kl1 O O O<|kmv O<|K.indexX O O cC V3 hior dS<|K.fieldAddrX O O dS ?_;refine K.loadX O hRX O r1 dS<|kfa O O ?_;refine kl1 O O O<|kmv O<|K.indexX O O cC V3 hioc dS<|K.fieldAddrX O O dS ?_;refine K.loadX O hCX O q1 dS<|kne O O (r:=false) (cT hn)<|kmv O<|K.fieldAddr O O (dT O O) ?_;refine K.loadOne O O O (dT O O) ?_;refine gmv O O O<|K.indexX O O cC V3 hior (dT O O) ?_;refine K.fieldAddrX O O (dT O O) ?_);(refine K.loadX O hRX O r2 (dT O O) ?_;refine aX O O (r:=true) (cU h0) (dT O O) ?_;refine gmv O O O<|K.loadAll O O O (dT O O) ?_;refine K.fieldAddr O O (dT O O) ?_;refine K.loadOne O O O (dT O O) ?_;refine gmv O O O<|K.indexX O O cC V3 hior (dT O O) ?_;refine K.fieldAddrX O O (dT O O) ?_;refine K.loadX O hRX O r2 (dT O O) ?_;refine gca O O hFi O O<|bK O O (r:=true) O (dT O O) ?_;refine K.pickT O O (dT O O) ?_;refine kpf O O<|RunK.nil<|rgA ?_;refine LWP.condT O ?_);(refine aA<|rgN<|kas O<|RunK.nil<|LWP.ret ?_))
   exact V6
  ·have hz:=next (by unfold nwE;exact if_pos ⟨hn,.inr (by rw [k1];rfl)⟩)
   rw [k3] at hFi
   ((refine aA<|aA<|rgN<|kmv O<|kfa O O ?_;refine kl1 O O O<|K.lenX O cC O dS ?_;refine klt O O (cP V3)<|RunK.nil<|LWP.condT O ?_;refine LWP.skip ?_;refine aA<|LWP.block<|aA<|rgD mixed<|kfa O O ?_;refine kl1 O O O<|kmv O<|K.indexX O O cC V3 hior dS<|K.fieldAddrX O O dS ?_;refine K.loadX O hRX O r1 dS<|kfa O O ?_;refine kl1 O O O<|kmv O<|K.indexX O O cC V3 hioc dS<|K.fieldAddrX O O dS ?_;refine K.loadX O hCX O q1 dS<|kne O O (r:=false) (cT hn)<|kmv O<|K.fieldAddr O O (dT O O) ?_;refine K.loadOne O O O (dT O O) ?_;refine gmv O O O<|K.indexX O O cC V3 hior (dT O O) ?_;refine K.fieldAddrX O O (dT O O) ?_);(refine K.loadX O hRX O r2 (dT O O) ?_;refine aX O O (r:=true) (cU h0) (dT O O) ?_;refine gmv O O O<|K.loadAll O O O (dT O O) ?_;refine K.fieldAddr O O (dT O O) ?_;refine K.loadOne O O O (dT O O) ?_;refine gmv O O O<|K.indexX O O cC V3 hior (dT O O) ?_;refine K.fieldAddrX O O (dT O O) ?_;refine K.loadX O hRX O r2 (dT O O) ?_;refine gca O O hFi O O<|bK O O (cO V3) (dT O O) ?_;refine K.pickT O O (dT O O) ?_;refine kpf O O<|RunK.nil<|rgA ?_;refine LWP.condF O ?_);(refine LWP.skip ?_;refine rgN<|kmv O<|kad O O hadd<|kas O<|RunK.nil ?_))
   exact ⟨_,_,by omega,Le.of V8 V9 V2 V2 V0,i+1,by omega,O,hz,O⟩
 have hs:seqE (nwE a) (p.rs.zip b.cs)=0:=firstE_none fun j h1 h2=>hpre j h1 V3
 have hnw:=seqE_zero hs
 rw [if_pos hs]
 refine U17 ?_
 clear hpre hs
 refine cL (fun m σ=>∃ i:Nat,i≤p.rs.length∧m=p.rs.length-i∧(∀ j,0≤j→j<i→atE (ruC a) (p.rs.zip b.cs) j=0)∧σ=⟨[(3,Lp 3),(4,Lp 4),(5,Lp 5),(11,Ln .i64 (i:Nat))],[v3B 42 5 p.va p.vb ad p.rs.length cap,sxB 4 b.ver ad2 b.cs.length cap2,sxB 3 a.ver ad1 a.cs.length cap1],X⟩) p.rs.length
  ⟨⟨[(3,Lp 3),(4,Lp 4),(5,Lp 5),(11,Ln .i64 (0:Nat))],[v3B 42 5 p.va p.vb ad p.rs.length cap,sxB 4 b.ver ad2 b.cs.length cap2,sxB 3 a.ver ad1 a.cs.length cap1],X⟩,Le.of V8 V9 V2 V2 V0,0,by omega,by omega,fun j _ hj=>absurd hj V3,rfl⟩ ?_
 rintro m σ ⟨i,hi,rfl,hpre,rfl⟩
 by_cases hlt:i<p.rs.length
 case neg =>
  rw [show seqE (ruC a) (p.rs.zip b.cs)=0 from firstE_none fun j h1 h2=>hpre j h1 (by omega)]
  refine U16 ?_
  exact V6
 obtain ⟨r,hr⟩:=wg hlt
 obtain ⟨c,hc⟩:∃ c,b.cs[i]? = some c:=wg V3
 obtain ⟨rb,ro,rarr,rel,rfr,ead,ecap,rfl,hRX,hRz,hRc,r1,r2,r3,hRE⟩:=hp.get hr
 obtain ⟨cb,co,carr,cel,cfr,cad,ccap,rfl,hCX,hCz,hCc,q1,q2,q3,hCF⟩:=hb.get hc
 have hior:=wo ro i 3
 have hioc:=wo co i 3
 have hadd:=wi i V3
 have hat:atE (ruC a) (p.rs.zip b.cs) i=ruC a (r,c):=atE_at (zip_two hr hc)
 have next:ruC a (r,c)=0→∀ j,0≤j→j<i+1→atE (ruC a) (p.rs.zip b.cs) j=0:=fun h j h0 hj=>by
  by_cases e:j=i
  ·rw [e,hat];exact h
  ·exact hpre j h0 V3
 have hcl:=sb2 c (dE hc)
 by_cases h0:r.old=0
 ·have hz:=next (by show ruE (flC a r.old) c.fs r=0;unfold ruE;rw [if_pos h0])
  (refine U22 ?_;refine keq rfl rfl (r:=true) (cV h0) ?_;refine U8 ?_)
  exact ⟨_,_,by omega,Le.of V8 V9 V2 V2 V0,i+1,by omega,O,hz,O⟩
 have hsome:(findC a.cs r.old).isSome=true:=by
  have:=hnw (r,c) (dE (zip_two hr hc))
  unfold nwE at this
  split at this
  ·rename_i h;exact h.2.resolve_left h0
  ·cases this
 have hFi:=sFind_spec X a.ver ad1 cap1 a.cs r.old ha V3
 rcases findI_c (cs:=a.cs) (id:=r.old) with ⟨k1,k2⟩|⟨k,o,k1,k2,k3⟩
 ·rw [k1] at hsome;cases hsome
 rw [k3] at hFi
 have hkl:=(wl k2)
 obtain ⟨ob,oo,oarr,oel,ofr,oad,ocap,rfl,hOX,hOz,hOc,_,_,_,hOF⟩:=ha.get k2
 have hioo:=wo oo k 3
 have hol:=sa2 o (dE k2)
 have hq:=rRule13 X o c r oad cad ead ocap ccap ecap hOF hCF hRE V3 V3 (fun q hq=>by have:=(sp.2 r (dE hr)).2 q hq;omega)
 have hru:ruC a (r,c)=ruE o.fs c.fs r:=by show ruE (flC a r.old) c.fs r=_;unfold flC;rw [k1]
 by_cases he:ruE o.fs c.fs r=0
 ·rw [he] at hq
  have hz:=next (hru.trans he)
  (refine U22 ?_;refine keq rfl rfl (r:=false) (cS h0) ?_;refine U4 ?_;refine rgD mixed ?_;refine U12 ?_;refine rgD mixed ?_;refine U31 ?_)
  exact ⟨_,_,by omega,Le.of V8 V9 V2 V2 V0,i+1,by omega,O,hz,O⟩
 ·rw [show seqE (ruC a) (p.rs.zip b.cs)=ruE o.fs c.fs r from firstE_some hpre (Nat.zero_le _) V3 (hat.trans hru) he]
  generalize ruE o.fs c.fs r=e at *
  (refine U22 ?_;refine keq rfl rfl (r:=false) (cS h0) ?_;refine U4 ?_;refine rgD mixed ?_;refine U12 ?_;refine rgD mixed ?_;refine U22 ?_;refine kne rfl rfl (r:=true) (cU he) ?_;refine U8 ?_)
  exact V6
end Go.Proofs.YtopiioklkkiedaaGreatDoor
end
section
set_option maxHeartbeats 12800000
set_option maxRecDepth 100000
namespace Go.Proofs.YtopiioklkkiedaaGreatDoor
open Go Go.Lg Go.Lg.Fml Go.Lg.Fld Go.Lg.Arith
set_option maxRecDepth 100000
variable (X:Nat→Option Obj)
set_option maxHeartbeats 25600000 in
theorem rParts14 (a b:Sc) (p:Pg) (ps:List Pt) (ad1 ad2 ad pad:Option Addr) (cap1 cap2 cap pcap:Nat) (ha:CompsIn X ad1 a.cs) (hb:CompsIn X ad2 b.cs) (hp:RulesIn X ad p.rs) (hP:PartsC X pad ps) (sa:a.cs.length≤30∧∀ c∈a.cs,c.fs.length≤12) (sb:b.cs.length≤30∧∀ c∈b.cs,c.fs.length≤12) (sp:pgOk p) (sl:ps.length≤12∧∀ x∈ps,x.val.length≤1000):
  MSpec Tryz.prog X 19 [Sx a.ver ad1 a.cs.length cap1,Sx b.ver ad2 b.cs.length cap2,LPg p.va p.vb ad p.rs.length cap,Lx pad ps.length pcap] [] (pR14 (psE a b p ps) (psV a b p ps)) (pBx14 (psE a b p ps) (psV a b p ps)):=by
 have hC:=rCheck13 X a b p ad1 ad2 ad cap1 cap2 cap ha hb hp sa sb sp
 obtain ⟨sa1,sa2⟩:=sa
 obtain ⟨sb1,sb2⟩:=sb
 obtain ⟨sl1,sl2⟩:=sl
 have sp1:=sp.1
 have hS:=sParts_spec X a.ver ad1 pad cap1 pcap a.cs ps ha V3 (fun c hc=>by have:=sa2 c hc;omega) hP.parts V3 (fun x hx=>by have:=sl2 x hx;omega)
 refine cG Tryz.func19 rfl V5 rfl (by unfold pR14 pBx14;split<;>rfl) (by unfold pBx14;split<;>exact V0) rfl rfl ?_
 intro C
 refine LWP.ends ?_
 by_cases z1:ckE a b p=0
 case neg =>
  rw [show psE a b p ps=ckE a b p by unfold psE;rw [if_neg z1]]
  unfold pR14 pBx14
  rw [if_neg z1,if_neg z1]
  generalize ckE a b p=e at *
  (refine U20 ?_;refine kne rfl rfl (r:=true) (cU z1) ?_;refine U9 ?_)
  exact cD ⟨[],⟨[_,_],⟨O,O,trivial⟩,O⟩,trivial,O,O⟩
 rw [z1] at hC
 by_cases z2:partsE a.cs ps=0
 case neg =>
  rw [show psE a b p ps=partsE a.cs ps by unfold psE;rw [if_pos z1,if_neg z2]]
  unfold pR14 pBx14
  rw [if_neg z2,if_neg z2]
  generalize partsE a.cs ps=e at *
  (refine U35 ?_;refine kne rfl rfl (r:=true) (cU z2) ?_;refine U9 ?_)
  exact cD ⟨[],⟨[_,_],⟨O,O,trivial⟩,O⟩,trivial,O,O⟩
 rw [z2] at hS
 obtain ⟨_,_,_,hl,_⟩:=ckE_facts z1
 have hfacts:=(prt_facts z2).2
 rw [show psE a b p ps=seqE (pqE a) (prS p.rs b.cs ps) by unfold psE;rw [if_pos z1,if_pos z2]]
 unfold psV
 have hsmP:∀ x∈(prS p.rs b.cs ps).map (prV a),smallP x:=fun x hx=>by
  obtain ⟨q,hq,rfl⟩:=List.mem_map.1 hx
  exact (hp.small q.1 (List.of_mem_zip (mem_prS.1 hq).1).1).1
 (refine U41 ?_;refine aZ (zs:=[]) (sz:=2) (e:=59) V5 O O O O O O dS ?_;refine U8 ?_)
 clear hC hS
 refine cM (fun m σ=>∃ (i:Nat) (L:List Pt) (ws:List Value) (H:Nat→Option Obj),i≤p.rs.length∧m=p.rs.length-i∧OwnedM C X H∧PartsH H ws L∧L=(prS (p.rs.take i) (b.cs.take i) ps).map (prV a)∧seqE (pqE a) (prS (p.rs.take i) (b.cs.take i) ps)=0∧σ=⟨[(3,Lx pad ps.length pcap),(4,Lp 4),(5,Lp 5),(6,Lp 6),(12,.sv (.one (.slc 500 0 (L).length 2))),(13,Ln .i64 (i:Nat))],[(500,some ⟨59,(ptZ (L) (ws)).map .val,(Nat.blt 0 (L).length)⟩),sxB 4 a.ver ad1 a.cs.length cap1,sxB 5 b.ver ad2 b.cs.length cap2,v3B 42 6 p.va p.vb ad p.rs.length cap],joinM X H⟩) p.rs.length
  (cE (σ':=⟨[(3,Lx pad ps.length pcap),(4,Lp 4),(5,Lp 5),(6,Lp 6),(12,.sv (.one (.slc 500 0 ([]).length 2))),(13,Ln .i64 (0:Nat))],[(500,some ⟨59,(ptZ ([]) ([])).map .val,false⟩),sxB 4 a.ver ad1 a.cs.length cap1,sxB 5 b.ver ad2 b.cs.length cap2,v3B 42 6 p.va p.vb ad p.rs.length cap],X⟩) (Le.ofR [(500,31)] V11 V1 V2 V2 V0 V2 V2) (cD ⟨0,[],[],fun _=>none,by omega,by omega,OwnedM.nil C X,PartsH.nil,rfl,rfl,by rw [joinM_nil];rfl⟩)) ?_
 rintro m σ ⟨i,L,ws,H,hi,rfl,hO,G,hL,hpre,rfl⟩
 by_cases hlt:i<p.rs.length
 case neg =>
  have e:i=p.rs.length:=by omega
  subst e
  rw [dG,hl,dG] at hL hpre
  rw [hpre]
  unfold pR14 pBx14
  rw [if_pos rfl,if_pos rfl,← hL]
  rw [← hL] at hsmP
  refine U18 ?_
  refine cE (σ':=⟨[(8,.sv (.one (.slc 500 0 L.length 2))),(9,Ln .i64 0)],[(500,some ⟨59,(ptZ L ws).map .val,Nat.blt 0 L.length⟩)],joinM X H⟩) (Le.ofR [(500,500)] VE V1 V2 V2 V0 V2 V2) ?_
  refine cE Le.loose ?_
  refine Leads.spare fun sp=>prt_shut hO G hsmP (cD ?_)
  exact ⟨[(1000001,500)],⟨[_,_],⟨O,O,trivial⟩,O⟩,V1,O,O⟩
 obtain ⟨r,hr⟩:=wg hlt
 obtain ⟨c,hc⟩:∃ c,b.cs[i]? = some c:=wg V3
 obtain ⟨rb,ro,rarr,rel,rfr,ead,ecap,rfl,hRX,hRz,hRc,r1,r2,r3,hRE⟩:=hp.get hr
 obtain ⟨cb,co,carr,cel,cfr,cad,ccap,rfl,hCX,hCz,hCc,q1,q2,q3,hCF⟩:=hb.get hc
 have hior:=wo ro i 3
 have hioc:=wo co i 3
 have hadd:=wi i V3
 refine U18 ?_
 refine cM (fun m σ=>∃ (k:Nat) (L:List Pt) (ws:List Value) (H:Nat→Option Obj),k≤ps.length∧m=ps.length-k∧OwnedM C X H∧PartsH H ws L∧L=(prS (p.rs.take i) (b.cs.take i) ps++partsOf r c (ps.take k)).map (prV a)∧seqE (pqE a) (prS (p.rs.take i) (b.cs.take i) ps++partsOf r c (ps.take k))=0∧σ=⟨[(3,Lx pad ps.length pcap),(4,Lp 4),(5,Lp 5),(6,Lp 6),(12,.sv (.one (.slc 500 0 (L).length 2))),(13,Ln .i64 (i:Nat)),(14,Ln .i64 (k:Nat))],[(500,some ⟨59,(ptZ (L) (ws)).map .val,(Nat.blt 0 (L).length)⟩),sxB 4 a.ver ad1 a.cs.length cap1,sxB 5 b.ver (some ⟨cb,co,none⟩) b.cs.length cap2,v3B 42 6 p.va p.vb (some ⟨rb,ro,none⟩) p.rs.length cap],joinM X H⟩) ps.length
  (cE (σ':=⟨[(3,Lx pad ps.length pcap),(4,Lp 4),(5,Lp 5),(6,Lp 6),(12,.sv (.one (.slc 500 0 (L).length 2))),(13,Ln .i64 (i:Nat)),(14,Ln .i64 (0:Nat))],[(500,some ⟨59,(ptZ (L) (ws)).map .val,(Nat.blt 0 (L).length)⟩),sxB 4 a.ver ad1 a.cs.length cap1,sxB 5 b.ver (some ⟨cb,co,none⟩) b.cs.length cap2,v3B 42 6 p.va p.vb (some ⟨rb,ro,none⟩) p.rs.length cap],joinM X H⟩) (Le.ofR [(500,500)] V14 V1 V2 V2 V0 V2 V2) (cD ⟨0,L,ws,H,by omega,by omega,hO,G,by rw [show partsOf r c (ps.take 0)=[] from rfl,dK];exact hL,by rw [show partsOf r c (ps.take 0)=[] from rfl,dK];exact hpre,rfl⟩)) ?_
 clear hO G hL hpre
 clear L ws H
 rintro m σ ⟨k,L,ws,H,hk,rfl,hO,G,hL,hpre,rfl⟩
 by_cases hkl:k<ps.length
 case neg =>
  have e:k=ps.length:=by omega
  subst e
  rw [dG,← prS_snoc hr hc] at hL hpre
  refine U15 ?_
  exact cE (σ':=⟨[(3,Lx pad ps.length pcap),(4,Lp 4),(5,Lp 5),(6,Lp 6),(12,.sv (.one (.slc 500 0 (L).length 2))),(13,Ln .i64 (i+1:Nat))],[(500,some ⟨59,(ptZ (L) (ws)).map .val,(Nat.blt 0 (L).length)⟩),sxB 4 a.ver ad1 a.cs.length cap1,sxB 5 b.ver (some ⟨cb,co,none⟩) b.cs.length cap2,v3B 42 6 p.va p.vb (some ⟨rb,ro,none⟩) p.rs.length cap],joinM X H⟩) (Le.ofR [(500,500)] V11 V1 V2 V2 V0 V2 V2) (cD ⟨p.rs.length-(i+1),by omega,i+1,L,ws,H,by omega,O,hO,G,hL,hpre,O⟩)
 obtain ⟨x,hx⟩:=wg hkl
 have hxm:=dE hx
 obtain ⟨pb,po,parr,pel,pfr,xad,xcap,rfl,hPX,hPz,hPc,p1,p2,hN,hNc⟩:=hP.get hx
 have hiok:=wo po k 2
 have haddk:=wi k V3
 have hRJ:=joinM_has hO hRX
 have hCJ:=joinM_has hO hCX
 have hPJ:=joinM_has hO hPX
 have hps:=partsOf_succ (r:=r) (c:=c) hx
 by_cases hm:x.comp=r.old
 case neg =>
  rw [if_neg hm,dK] at hps
  (refine aA<|aA<|rgN<|kmv O<|kmv O<|K.lenX O cC O dS ?_;refine klt O O (cP V3)<|RunK.nil<|LWP.condT O ?_;refine LWP.skip ?_;refine aA<|LWP.block<|aA<|aA<|rgD mixed<|kmv O<|kmv O<|K.indexX O O cC V3 hiok dS<|K.fieldAddrX O O dS ?_;refine K.loadX O hPJ O p1 dS<|kfa O O ?_;refine kl1 O O O<|kmv O<|K.indexX O O cC V3 hior dS<|K.fieldAddrX O O dS ?_;refine K.loadX O hRJ O r2 dS<|kne O O (r:=true) (cU hm)<|RunK.nil<|rgA ?_;refine LWP.condT O ?_;refine LWP.exit<|rgN<|kmv O<|kad O O haddk<|kas O<|RunK.nil ?_)
  exact cE (σ':=⟨[(3,Lx (some ⟨pb,po,none⟩) ps.length pcap),(4,Lp 4),(5,Lp 5),(6,Lp 6),(12,.sv (.one (.slc 500 0 (L).length 2))),(13,Ln .i64 (i:Nat)),(14,Ln .i64 (k+1:Nat))],[(500,some ⟨59,(ptZ (L) (ws)).map .val,(Nat.blt 0 (L).length)⟩),sxB 4 a.ver ad1 a.cs.length cap1,sxB 5 b.ver (some ⟨cb,co,none⟩) b.cs.length cap2,v3B 42 6 p.va p.vb (some ⟨rb,ro,none⟩) p.rs.length cap],joinM X H⟩) (Le.ofR [(500,500)] V14 V1 V2 V2 V0 V2 V2) (cD ⟨ps.length-(k+1),by omega,k+1,L,ws,H,by omega,rfl,hO,G,by rw [hps];exact hL,by rw [hps];exact hpre,rfl⟩)
 rw [if_pos hm] at hps
 obtain ⟨post,hpost⟩:=prS_at hr hc hx hm
 obtain ⟨d,hd,hfit⟩:=hfacts x hxm
 have hFi:=sFind_spec (joinM X H) a.ver ad1 cap1 a.cs x.comp (ha.mono fun _ _ h=>joinM_has hO h) V3
 rcases findI_c (cs:=a.cs) (id:=x.comp) with ⟨k1,k2⟩|⟨j,o,k1,k2,k3⟩
 ·rw [show a.cs.find? (fun c=>c.id==x.comp)=none from k1] at hd;cases hd
 rw [k3] at hFi
 have hjl:=(wl k2)
 obtain ⟨ob,oo,oarr,oel,ofr,oad,ocap,rfl,hOX,hOz,hOc,_,_,_,hOF⟩:=ha.get k2
 have hOJ:=joinM_has hO hOX
 have hioo:=wo oo j 3
 have hol:=sa2 o (dE k2)
 have hcl12:=sb2 c (dE hc)
 have hrl:=sp.2 r (dE hr)
 have hV:=rVal14 (joinM X H) o c r x.val oad cad ead xad ocap ccap ecap xcap (hOF.mono fun _ _ h=>joinM_has hO h) (hCF.mono fun _ _ h=>joinM_has hO h) (hRE.mono fun _ _ h=>joinM_has hO h) ⟨hN.rows.mono fun _ _ h=>joinM_has hO h,hN.in2⟩ hNc V3 V3 hrl (sl2 x hxm)
 have hfl:flC a x.comp=o.fs:=by unfold flC;rw [k1]
 have hqE:pqE a (r,c,x)=valE o.fs c.fs r x.val:=by show valE (flC a x.comp) c.fs r x.val=_;rw [hfl]
 have hqV:prV a (r,c,x)=⟨r.nw,valN o.fs c.fs r x.val⟩:=by show (⟨r.nw,valN (flC a x.comp) c.fs r x.val⟩:Pt)=_;rw [hfl]
 have hv2:∀ u∈valN o.fs c.fs r x.val,In2 u.2:=valN_two (fun q hq y hy=>by
  obtain ⟨w,hw⟩:=List.mem_iff_getElem?.1 hq
  obtain ⟨_,_,_,_,_,_,_,_,_,_,hI⟩:=hRE.get hw
  exact (hI.small y hy).2.2.2) hN.in2 (fun f hf=>(hCF.small f hf).2.2)
 unfold vR14 vBx14 at hV
 by_cases he:valE o.fs c.fs r x.val=0
 case neg =>
  rw [seqE_hit hpost hpre (by rw [hqE];exact he),hqE]
  unfold pR14 pBx14
  rw [if_neg he,if_neg he]
  rw [if_neg he,if_neg he] at hV
  generalize valE o.fs c.fs r x.val=e at *
  (refine aA<|aA<|rgN<|kmv O<|kmv O<|K.lenX O cC O dS ?_;refine klt O O (cP V3)<|RunK.nil<|LWP.condT O ?_;refine LWP.skip ?_;refine aA<|LWP.block<|aA<|aA<|rgD mixed<|kmv O<|kmv O<|K.indexX O O cC V3 hiok dS<|K.fieldAddrX O O dS ?_;refine K.loadX O hPJ O p1 dS<|kfa O O ?_;refine kl1 O O O<|kmv O<|K.indexX O O cC V3 hior dS<|K.fieldAddrX O O dS ?_;refine K.loadX O hRJ O r2 dS<|kne O O (r:=false) (cT hm)<|RunK.nil<|rgA ?_;refine LWP.condF O ?_;refine LWP.skip ?_;refine aA<|rgD mixed<|K.loadAll O O O dS ?_;refine kmv O<|kmv O<|K.indexX O O cC V3 hiok dS<|K.fieldAddrX O O dS ?_;refine K.loadX O hPJ O p1 dS<|kca O O hFi<|kas O<|RunK.nil<|rgA ?_;refine aA<|rgD mixed<|kfa O O ?_;refine kl1 O O O<|kmv O<|K.indexX O O cC V3 hioo dS<|K.loadXagg O hOJ V5 hOz hOc dS<|kfa O O ?_;refine kl1 O O O<|kmv O<|K.indexX O O cC V3 hioc dS<|K.loadXagg O hCJ V5 hCz hCc dS<|kfa O O ?_;refine kl1 O O O<|kmv O<|K.indexX O O cC V3 hior dS<|K.loadXagg O hRJ V5 hRz hRc dS<|kmv O<|kmv O<|K.indexX O O cC V3 hiok dS<|K.fieldAddrX O O dS ?_;refine K.loadX O hPJ O p2 dS<|aU [] [] (hV) O O VC O O O O O V2B dS<|kmv O<|kex O O<|kex O O<|kas O<|kas O<|RunK.nil<|rgA ?_;refine aA<|aA<|rgN<|kmv O<|kne O O (r:=true) (cU he)<|RunK.nil<|LWP.condT O ?_;refine aA<|rgN<|kmv O<|kas O<|kas O<|RunK.nil<|LWP.ret ?_)
  exact cD ⟨[],⟨[_,_],⟨O,O,trivial⟩,O⟩,trivial,O,O⟩
 rw [if_pos he,if_pos he] at hV
 have hpre2:seqE (pqE a) (prS (p.rs.take i) (b.cs.take i) ps++partsOf r c (ps.take (k+1)))=0:=by
  rw [hps,← dN];exact seqE_snoc hpre (hqE.trans he)
 have hL2:L++[⟨r.nw,valN o.fs c.fs r x.val⟩]=(prS (p.rs.take i) (b.cs.take i) ps++partsOf r c (ps.take (k+1))).map (prV a):=by
  rw [hps,← dN,dI,← hL,List.map_cons,List.map_nil,hqV]
 generalize valN o.fs c.fs r x.val=N at *
 have hlen:=G.len
 have hLl:L.length≤1000:=by
  rw [hL,cX,cW]
  have h1:(prS (p.rs.take i) (b.cs.take i) ps).length≤30:=by
   have h2:=(prS_sub (cs:=b.cs.take i) (rs:=p.rs.take i) (prt_facts z2).1).length_le
   rw [cX,dA] at h2
   omega
  have h3:(partsOf r c (ps.take k)).length≤12:=by
   unfold partsOf
   rw [cX]
   refine Nat.le_trans (List.length_filter_le _ _) ?_
   rw [dA];omega
  omega
 have hcl:((ptZ L ws).map CV.val).length=L.length*2:=by rw [cX,ptZ_len hlen]
 have hnl:L.length+1=(L++[(⟨r.nw,N⟩:Pt)]).length:=by rw [cW];rfl
 have hrow:Nat.blt 0 (L++[(⟨r.nw,N⟩:Pt)]).length=true:=by rw [cW];simp
 ((refine aA<|aA<|rgN<|kmv O<|kmv O<|K.lenX O cC O dS ?_;refine klt O O (cP V3)<|RunK.nil<|LWP.condT O ?_;refine LWP.skip ?_;refine aA<|LWP.block<|aA<|aA<|rgD mixed<|kmv O<|kmv O<|K.indexX O O cC V3 hiok dS<|K.fieldAddrX O O dS ?_;refine K.loadX O hPJ O p1 dS<|kfa O O ?_;refine kl1 O O O<|kmv O<|K.indexX O O cC V3 hior dS<|K.fieldAddrX O O dS ?_;refine K.loadX O hRJ O r2 dS<|kne O O (r:=false) (cT hm)<|RunK.nil<|rgA ?_;refine LWP.condF O ?_;refine LWP.skip ?_;refine aA<|rgD mixed<|K.loadAll O O O dS ?_;refine kmv O<|kmv O<|K.indexX O O cC V3 hiok dS<|K.fieldAddrX O O dS ?_;refine K.loadX O hPJ O p1 dS<|kca O O hFi<|kas O<|RunK.nil<|rgA ?_);(refine aA<|rgD mixed<|kfa O O ?_;refine kl1 O O O<|kmv O<|K.indexX O O cC V3 hioo dS<|K.loadXagg O hOJ V5 hOz hOc dS<|kfa O O ?_;refine kl1 O O O<|kmv O<|K.indexX O O cC V3 hioc dS<|K.loadXagg O hCJ V5 hCz hCc dS<|kfa O O ?_;refine kl1 O O O<|kmv O<|K.indexX O O cC V3 hior dS<|K.loadXagg O hRJ V5 hRz hRc dS<|kmv O<|kmv O<|K.indexX O O cC V3 hiok dS<|K.fieldAddrX O O dS ?_;refine K.loadX O hPJ O p2 dS<|bE [(1000001,601)] (.tup [.one (.slc 601 0 N.length 3),Sn .i64 0]) [nmsB 601 N (Nat.blt 0 N.length)] (hV) O O VC O O O O O V18 dS<|kmv O<|kex O O<|kex O O<|kas O<|kas O<|RunK.nil<|rgA ?_;refine aA<|aA<|rgN<|kmv O<|kne O O (r:=false) O<|RunK.nil<|LWP.condF O ?_;refine LWP.skip ?_;refine rgN<|kmv O<|kfa O O ?_;refine kl1 O O O<|kmv O<|K.indexX O O cC V3 hior dS<|K.fieldAddrX O O dS ?_;refine K.loadX O hRJ O r1 dS<|kmv O<|aT O O V2 (by exact nl2 O O O) dS ?_;refine aZ (zs:=[.int .i64 0,.slice none 0 0]) (sz:=2) (e:=59) (cs':=[.val (.int .i64 r.nw),.slc 601 0 N.length 3]) V5 O O O O O O dS<|bQ (by_:=32) (e2:=59) (l2:=[.val (.int .i64 r.nw),.slc 601 0 N.length 3]) (nl:=(L++[(⟨r.nw,N⟩:Pt)]).length) (nc:=(ptZ L ws++[Value.int .i64 r.nw]).map .val ++ .slc 601 0 N.length 3::([]:List Value).map .val) O O hcl O O (dO _) O O V5 V5 V3 V3 O hnl V21 dS<|kas O<|RunK.nil<|rgN<|kmv O<|kad O O haddk<|kas O<|RunK.nil ?_))
 refine cE (σ':=⟨[(3,Lx (some ⟨pb,po,none⟩) ps.length pcap),(4,Lp 4),(5,Lp 5),(6,Lp 6),(12,.sv (.one (.slc 500 0 (L++[(⟨r.nw,N⟩:Pt)]).length 2))),(13,Ln .i64 (i:Nat)),(14,Ln .i64 (k+1:Nat))],[(500,some ⟨59,(ptZ L ws++[Value.int .i64 r.nw]).map .val ++ .slc 601 0 N.length 3::([]:List Value).map .val,true⟩),nmsB 601 N (Nat.blt 0 N.length),sxB 4 a.ver (some ⟨ob,oo,none⟩) a.cs.length cap1,sxB 5 b.ver (some ⟨cb,co,none⟩) b.cs.length cap2,v3B 42 6 p.va p.vb (some ⟨rb,ro,none⟩) p.rs.length cap],joinM X H⟩) (Le.ofR [(500,101),(601,601)] V14 V1 V2 V2 V0 V2 V2) ?_
 refine Leads.closeCell hO (by have:=nmsV_len N;rw [cX] at this;exact this) rfl bU rfl V1F rfl rfl fun bk ob v g1 _ hO3 hv=>cD ⟨ps.length-(k+1),by omega,k+1,L++[⟨r.nw,N⟩],ws++[v],withBlock H bk ob,by omega,rfl,hO3,(G.mono (cJ g1)).push (nms_leads hv hv2),hL2,hpre2,?_⟩
 rw [ptZ_add hlen,hrow]
 simp
end Go.Proofs.YtopiioklkkiedaaGreatDoor
end
section
set_option maxHeartbeats 12800000
set_option maxRecDepth 100000
namespace Go.Proofs.YtopiioklkkiedaaGreatDoor
open Go Go.Lg Go.Lg.Fml Go.Lg.Fld Go.Lg.Arith
set_option maxRecDepth 100000
def fl14a:List Fl:=[⟨[120],2,1⟩]
def fl14b:List Fl:=[⟨[120],3,1⟩]
def c14a:Cp:=⟨1,[97],fl14a⟩
def c14b:Cp:=⟨1,[97],fl14b⟩
def code14:List Ins:=[⟨2,0,0,(false,0)⟩,⟨1,0,0,(false,2)⟩,⟨7,0,0,(false,0)⟩]
def r14:Rl:=⟨1,1,[code14]⟩
theorem va14:valE fl14a fl14b r14 [(false,100)]=0:=by decide +kernel
theorem vn14:valA fl14a fl14b r14 [(false,100)]=[(false,200)]:=by decide +kernel
theorem vb14:valE fl14a fl14a r14 [(false,100)]=3:=by decide +kernel
theorem vr14:rowE fl14a fl14b r14 [100]=0:=by decide +kernel
theorem vt14:rowN fl14a fl14b r14 [100]=[200,0]:=by decide +kernel
theorem vs14:sigN [⟨3,1,[]⟩,⟨4,0,[]⟩] 2=8:=by decide +kernel
theorem sm14a:∀ f∈fl14a,(-9223372036854775808≤f.kind∧f.kind<9223372036854775808)∧(-9223372036854775808≤f.count∧f.count<9223372036854775808):=by
 intro f hf
 simp only [fl14a,List.mem_cons,List.not_mem_nil,or_false] at hf
 subst hf;exact ⟨by decide,by decide⟩
theorem sm14b:∀ f∈fl14b,(-9223372036854775808≤f.kind∧f.kind<9223372036854775808)∧(-9223372036854775808≤f.count∧f.count<9223372036854775808):=by
 intro f hf
 simp only [fl14b,List.mem_cons,List.not_mem_nil,or_false] at hf
 subst hf;exact ⟨by decide,by decide⟩
theorem sm14c:∀ x∈code14,smallI x:=by
 intro x hx
 simp only [code14,List.mem_cons,List.not_mem_nil,or_false] at hx
 rcases hx with rfl|rfl|rfl<;>exact ⟨by decide,by decide,by decide,by show 0≤(_:Int)∧(_:Int)<_;decide⟩
theorem sz14:r14.ex.length≤12∧∀ c∈r14.ex,c.length≤80:=⟨by decide,fun c hc=>by
 simp only [r14,List.mem_cons,List.not_mem_nil,or_false] at hc
 subst hc;decide⟩
variable (X:Nat→Option Obj)
theorem val_lent {X:Nat→Option Obj} {a b:Cp} {r:Rl} {ns:List Nm} {aad bad ead:Option Addr} {acap bcap ecap:Nat} {row:Bool} (hN:∀ u∈ns,In2 u.2):∀ (Y:Nat→Option Obj) (us:List Value),(∀ b o,X b=some o→Y b=some o)→LentLs (stOf [nmsB 1000000 ns row]) Y [Cx a aad acap,Cx b bad bcap,LPg r.nw r.old ead r.ex.length ecap,.sv (.one (.slc 1000000 0 ns.length 3))] us →
  ∃ (vad:Option Addr) (vcap:Nat),us.map toLV=[Cx a aad acap,Cx b bad bcap,LPg r.nw r.old ead r.ex.length ecap,Lx vad ns.length vcap]∧NumsIn Y vad ns∧ns.length≤vcap:=by
 intro Y us hY hL
 obtain ⟨u1,us1,rfl,⟨av,rfl,a1,av1,rfl,g1,a2,av2,rfl,g2,a3,av3,rfl,g3,rfl⟩,u2,us2,rfl,⟨bv,rfl,b1,bv1,rfl,f1,b2,bv2,rfl,f2,b3,bv3,rfl,f3,rfl⟩,u3,us3,rfl,⟨cv,rfl,c1,cv1,rfl,d1,c2,cv2,rfl,d2,c3,cv3,rfl,d3,rfl⟩,u4,us4,rfl,h4,rfl⟩:=hL
 have g1:a1 = .int .i64 a.id:=g1
 have g2:a2 = .string ⟨a.nm.toArray⟩:=g2
 have g3:a3 = .slice aad a.fs.length acap:=g3
 have f1:b1 = .int .i64 b.id:=f1
 have f2:b2 = .string ⟨b.nm.toArray⟩:=f2
 have f3:b3 = .slice bad b.fs.length bcap:=f3
 have d1:c1 = .int .i64 r.nw:=d1
 have d2:c2 = .int .i64 r.old:=d2
 have d3:c3 = .slice ead r.ex.length ecap:=d3
 subst g1 g2 g3 f1 f2 f3 d1 d2 d3
 obtain ⟨bb,blk,cap2,m,hk',rfl,hc,hfit,hB'⟩:=h4
 have hk':some (some (⟨86,(nmsV ns).map .val,row⟩:Box))=some (some bb):=hk'
 simp only [Option.some.injEq] at hk'
 subst hk'
 obtain ⟨arr,fr,us',sp,hYb,hsz,harr,hv⟩:=hB'
 have:=hv (nmsV ns) rfl
 subst this
 exact ⟨some ⟨blk,0,none⟩,cap2,O,nms_in hYb hN ⟨sp,harr⟩,hc⟩
theorem eVal_nil_lent (a b:Cp) (r:Rl) (ns:List Nm) (aad bad ead:Option Addr) (acap bcap ecap:Nat) (row:Bool) (hA:FieldsIn X aad a.fs) (hac:a.fs.length≤acap) (hB:FieldsIn X bad b.fs) (hE:CodesIn X ead r.ex) (hN:∀ u∈ns,In2 u.2) (la:a.fs.length≤12) (lb:b.fs.length≤12) (lr:r.ex.length≤12∧∀ c∈r.ex,c.length≤80) (ln:ns.length<4611686018427387904) (h:vShape (valE a.fs b.fs r ns) (valA a.fs b.fs r ns)=false):
  MSpec Tryz.prog X 12 [Cx a aad acap,Cx b bad bcap,LPg r.nw r.old ead r.ex.length ecap,.sv (.one (.slc 1000000 0 ns.length 3))] [nmsB 1000000 ns row] (.tup [.one (.val (.slice none 0 0)),Sn .i64 (valE a.fs b.fs r ns)]) ([nmsB 1000000 ns row]++[]):=
 MSpec.lend V5 rfl V7 rfl rfl rfl fun Y us hY hL=>by
  obtain ⟨vad,vcap,e,h1,h2⟩:=val_lent hN Y us hY hL
  rw [e]
  exact eVal_nil Y a b r ns aad bad ead vad acap bcap ecap vcap (hA.mono hY) hac (hB.mono hY) (hE.mono hY) h1 h2 la lb lr ln h
theorem eVal_box_lent (a b:Cp) (r:Rl) (ns:List Nm) (aad bad ead:Option Addr) (acap bcap ecap:Nat) (row:Bool) (hA:FieldsIn X aad a.fs) (hac:a.fs.length≤acap) (hB:FieldsIn X bad b.fs) (hE:CodesIn X ead r.ex) (hN:∀ u∈ns,In2 u.2) (la:a.fs.length≤12) (lb:b.fs.length≤12) (lr:r.ex.length≤12∧∀ c∈r.ex,c.length≤80) (ln:ns.length<4611686018427387904) (h:vShape (valE a.fs b.fs r ns) (valA a.fs b.fs r ns)=true):
  MSpec Tryz.prog X 12 [Cx a aad acap,Cx b bad bcap,LPg r.nw r.old ead r.ex.length ecap,.sv (.one (.slc 1000000 0 ns.length 3))] [nmsB 1000000 ns row] (.tup [.one (.slc 1000001 0 (valA a.fs b.fs r ns).length 3),Sn .i64 (valE a.fs b.fs r ns)]) ([nmsB 1000000 ns row]++[nmsB 1000001 (valA a.fs b.fs r ns) (vRow (valA a.fs b.fs r ns))]):=
 MSpec.lend V5 rfl V7 V7 rfl rfl fun Y us hY hL=>by
  obtain ⟨vad,vcap,e,h1,h2⟩:=val_lent hN Y us hY hL
  rw [e]
  exact eVal_box Y a b r ns aad bad ead vad acap bcap ecap vcap (hA.mono hY) hac (hB.mono hY) (hE.mono hY) h1 h2 la lb lr ln h
end Go.Proofs.YtopiioklkkiedaaGreatDoor
end
section
set_option maxHeartbeats 12800000
set_option maxRecDepth 100000
namespace Go.Proofs.YtopiioklkkiedaaGreatDoor
open Go Go.Lg Go.Lg.Fml Go.Lg.Fld Go.Lg.Arith
set_option maxRecDepth 100000
abbrev izs14:List Value:=[.int .i64 0,.int .i64 0,.int .i64 0,.bool false,.int .u64 0,.int .u64 0]
abbrev rzs14:List Value:=[.int .i64 0,.int .i64 0,.slice none 0 0]
variable (X:Nat→Option Obj)
theorem eSig_lent {S:Nat→Option (Option Box)} {k s n:Nat} {rs:List Rl} {ws:List Value} {e:TypeId} {row:Bool} {va vb:Int} (G:RulesH X ws rs) (hsm:∀ r∈rs,smallR r) (hl:rs.length<4611686018427387904) (hs:s<4294967296) (hk:S k=some (some ⟨e,(rwZ rs ws).map .val,row⟩)) (hn:sigN rs s=n):
  ∀ (Y:Nat→Option Obj) (us:List Value),(∀ b o,X b=some o→Y b=some o)→LentLs S Y [.sv (.agg [.val (.int .i64 va),.val (.int .i64 vb),.slc k 0 rs.length 3]),Ln .u32 (s:Nat)] us→PSpec Tryz.prog Y 20 (us.map toLV) (Ln .u32 (n:Nat)):=by
 subst hn
 intro Y us hY hL
 obtain ⟨u1,us1,rfl,⟨av,rfl,a1,av1,rfl,g1,a2,av2,rfl,g2,a3,av3,rfl,g3,rfl⟩,u2,us2,rfl,h2,rfl⟩:=hL
 have g1:a1 = .int .i64 va:=g1
 have g2:a2 = .int .i64 vb:=g2
 have h2:u2 = .int .u32 (s:Nat):=h2
 subst g1 g2 h2
 obtain ⟨bb,blk,cap2,m,hk',rfl,hc,hfit,hB⟩:=g3
 rw [hk] at hk'
 simp only [Option.some.injEq] at hk'
 subst hk'
 obtain ⟨arr,fr,us',sp,hYb,hsz,harr,hv⟩:=hB
 have:=hv (rwZ rs ws) rfl
 subst this
 exact eSig Y va vb rs (some ⟨blk,0,none⟩) cap2 s (rules_block hYb harr (G.mono hY) hsm) hl hs
set_option maxHeartbeats 25600000 in
theorem awake14_spec:PSpec Tryz.prog X 9 [] (Lb true):=by
 refine cF Tryz.func9 rfl V5 rfl rfl ?_
 intro C
 (refine U7 ?_;refine aZ (zs:=[Value.string ⟨#[]⟩,.int .i64 0,.int .i64 0]) (sz:=3) (e:=83) (cs':=(flV fl14a).map .val) V5 O O O O O O dS ?_;refine U5 ?_)
 refine LWP.le (σ':=⟨[(1,Lp 1)],[(1,some ⟨24,[.val (.int .i64 1),.val (.string ⟨#[97]⟩)] ++ .slc 11 0 1 3::[],false⟩),(11,some ⟨83,(flV fl14a).map .val,false⟩)],X⟩) (Le.of V13 VE V2 V2 V0) ?_
 refine LWP.freezeCell O O O O O O fun k1 cp1 arr1 fr1 hn1 _ hc1 _ hv1 => ?_
 have hFa:FieldsIn (withBlock X k1 (.cells arr1 83 fr1)) (some ⟨k1,0,none⟩) fl14a:=by
  obtain ⟨sp,hv⟩:=hv1
  exact fields_block (cN _ _ _) hv sm14a
 clear hv1 hn1
 generalize withBlock X k1 (.cells arr1 83 fr1)=Y at *
 generalize (some ⟨k1,0,none⟩:Option Addr)=ad1 at *
 (refine U2 ?_;refine aZ (zs:=[Value.string ⟨#[]⟩,.int .i64 0,.int .i64 0]) (sz:=3) (e:=83) (cs':=(flV fl14b).map .val) V5 O O O O O O dS ?_;refine U5 ?_)
 refine LWP.le (σ':=⟨[(1,Lp 1),(2,Lp 2)],[(2,some ⟨24,[.val (.int .i64 1),.val (.string ⟨#[97]⟩)] ++ .slc 14 0 1 3::[],false⟩),(14,some ⟨83,(flV fl14b).map .val,false⟩),cpB 1 c14a ad1 cp1],Y⟩) (Le.of VE V9 V2 V2 V0) ?_
 refine LWP.freezeCell O O O O O O fun k2 cp2 arr2 fr2 hn2 _ _ _ hv2 => ?_
 have hFb:FieldsIn (withBlock Y k2 (.cells arr2 83 fr2)) (some ⟨k2,0,none⟩) fl14b:=by
  obtain ⟨sp,hv⟩:=hv2
  exact fields_block (cN _ _ _) hv sm14b
 replace hFa:=hFa.mono (cJ (o:=.cells arr2 83 fr2) hn2)
 clear hv2 hn2
 generalize withBlock Y k2 (.cells arr2 83 fr2)=Y2 at *
 generalize (some ⟨k2,0,none⟩:Option Addr)=ad2 at *
 have o2:=Of_spec Y2 2 VA
 (refine U5 ?_;refine aZ (zs:=(List.replicate 3 izs14).flatten) (sz:=6) (e:=88) (cs':=(inssV code14).map .val) V5 O O O O O O dS<|aZ (zs:=[.slice none 0 0]) (sz:=1) (e:=90) (cs':=[.slc 20 0 3 6]) V5 O O O O O O dS ?_;refine U5 ?_)
 refine LWP.le (σ':=⟨[(1,Lp 1),(2,Lp 2),(3,Lp 3)],[(21,some ⟨90,[] ++ .slc 20 0 3 6::[],false⟩),(20,some ⟨88,(inssV code14).map .val,false⟩),(3,some ⟨27,[.val (.int .i64 1),.val (.int .i64 1),.slc 21 0 1 1],false⟩),cpB 1 c14a ad1 cp1,cpB 2 c14b ad2 cp2],Y2⟩) (Le.of V9 V10 V2 V2 V0) ?_
 refine LWP.freezeCell O O O O O O fun k3 cp3 arr3 fr3 hn3 _ _ _ hv3 => ?_
 have hI:InsIn (withBlock Y2 k3 (.cells arr3 88 fr3)) (some ⟨k3,0,none⟩) code14:=ins_in (cN _ _ _) sm14c hv3
 have h3:=cJ (o:=.cells arr3 88 fr3) hn3
 replace hFa:=hFa.mono h3
 replace hFb:=hFb.mono h3
 clear hv3 hn3 o2 h3
 generalize withBlock Y2 k3 (.cells arr3 88 fr3)=Y3 at *
 generalize (some ⟨k3,0,none⟩:Option Addr)=ad3 at *
 refine LWP.le (σ':=⟨[(1,Lp 1),(2,Lp 2),(3,Lp 3)],[(3,some ⟨27,[.val (.int .i64 1),.val (.int .i64 1)] ++ .slc 21 0 1 1::[],false⟩),(21,some ⟨90,[Value.slice ad3 3 cp3].map .val,false⟩),cpB 1 c14a ad1 cp1,cpB 2 c14b ad2 cp2],Y3⟩) (Le.of V9 V8 V2 V2 V0) ?_
 refine LWP.freezeCell O O O O O O fun k4 ec arr4 fr4 hn4 _ _ _ hv4 => ?_
 have hE:CodesIn (withBlock Y3 k4 (.cells arr4 90 fr4)) (some ⟨k4,0,none⟩) r14.ex:=by
  obtain ⟨sp,e⟩:=hv4
  exact forms_block (cN _ _ _) e (FormsH.nil.push ⟨_,_,O,hI.mono (cJ hn4)⟩)
 have h4:=cJ (o:=.cells arr4 90 fr4) hn4
 replace hFa:=hFa.mono h4
 replace hFb:=hFb.mono h4
 clear hv4 hn4 h4 hI
 generalize withBlock Y3 k4 (.cells arr4 90 fr4)=Z at *
 generalize (some ⟨k4,0,none⟩:Option Addr)=ead at *
 have hin2:∀ u∈[((false,100):Nm)],In2 u.2:=fun u hu=>by rw [List.mem_singleton.1 hu];show 0≤(100:Int)∧(100:Int)<_;decide
 have o100:=Of_spec Z 100 VA
 have hs1:vShape (valE c14a.fs c14b.fs r14 [(false,100)]) (valA c14a.fs c14b.fs r14 [(false,100)])=true:=by
  cases h:vShape (valE c14a.fs c14b.fs r14 [(false,100)]) (valA c14a.fs c14b.fs r14 [(false,100)]) with
  | true=>rfl
  | false=>have:=vShape_nil h;rw [show valA c14a.fs c14b.fs r14 [(false,100)]=[(false,200)] from vn14] at this;cases this
 have hV:=eVal_box_lent Z c14a c14b r14 [(false,100)] ad1 ad2 ead cp1 cp2 ec false hFa hc1 hFb hE hin2 VA VA sz14 VA hs1
 rw [show valA c14a.fs c14b.fs r14 [(false,100)]=[(false,200)] from vn14,show valE c14a.fs c14b.fs r14 [(false,100)]=0 from va14] at hV
 (refine rgD mixed ?_;refine U3 ?_;refine kca O O o100<|aZ (zs:=[Value.bool false,.int .u64 0,.int .u64 0]) (sz:=3) (e:=86) (cs':=(nmsV [(false,100)]).map .val) V5 O O O O O O dS<|bE [(1000000,28),(1000001,601)] (.tup [.one (.slc 601 0 1 3),Sn .i64 0]) [nmsB 28 [(false,100)] false,nmsB 601 [(false,200)] (vRow [(false,200)])] (hV) O O V17 (by exact (bT (bT O (bT O (bT O O))) O)) O O O O V27 dS ?_;refine U8 ?_)
 refine LWP.le (σ':=⟨[(4,.sv (.one (.slc 601 0 1 3))),(5,Ln .i64 0),(1,Lp 1),(2,Lp 2),(3,Lp 3)],[nmsB 601 [(false,200)] (vRow [(false,200)]),cpB 1 c14a ad1 cp1,cpB 2 c14b ad2 cp2,v3B 27 3 1 1 ead 1 ec],Z⟩) (Le.of V10 V8 V2 V2 V0) ?_
 refine LWP.freeze O O O fun k5 vc arr5 fr5 hn5 _ hvc _ hv5 => ?_
 have hN:NumsIn (withBlock Z k5 (.cells arr5 86 fr5)) (some ⟨k5,0,none⟩) [(false,200)]:=nms_in (cN _ _ _) (fun u hu=>by rw [List.mem_singleton.1 hu];show 0≤(200:Int)∧(200:Int)<_;decide) hv5
 have h5:=cJ (o:=.cells arr5 86 fr5) hn5
 replace hFa:=hFa.mono h5
 replace hFb:=hFb.mono h5
 replace hE:=hE.mono h5
 clear hv5 hn5 h5 hV o100
 generalize withBlock Z k5 (.cells arr5 86 fr5)=W at *
 generalize (some ⟨k5,0,none⟩:Option Addr)=vad at *
 have o100:=Of_spec W 100 VA
 repeat refine aA ?_
 refine LWP.meetL (fun σ=>σ=⟨[(4,Lx vad 1 vc),(5,Ln .i64 0),(7,Ln .i64 3),(1,Lp 1),(2,Lp 2),(3,Lp 3)],[cpB 1 c14a ad1 cp1,cpB 2 c14b ad2 cp2,v3B 27 3 1 1 ead 1 ec],W⟩) ?_ ?_
 ·have hve:valE c14a.fs c14a.fs r14 [(false,100)]=3:=vb14
  have hva:valA c14a.fs c14a.fs r14 [(false,100)]=[]:=if_neg (by rw [hve];decide)
  cases hs2:vShape (valE c14a.fs c14a.fs r14 [(false,100)]) (valA c14a.fs c14a.fs r14 [(false,100)]) with
  | false =>
   have hV:=eVal_nil_lent W c14a c14a r14 [(false,100)] ad1 ad1 ead cp1 cp1 ec false hFa hc1 hFa hE hin2 VA VA sz14 VA hs2
   rw [hve] at hV
   (refine rgD mixed ?_;refine U3 ?_;refine kca O O o100<|aZ (zs:=[Value.bool false,.int .u64 0,.int .u64 0]) (sz:=3) (e:=86) (cs':=(nmsV [(false,100)]).map .val) V5 O O O O O O dS<|aU [(1000000,37)] [nmsB 37 [(false,100)] false] (hV) O O V17 (by exact (bT (bT O (bT O (bT O O))) O)) O O O O V19 dS ?_;refine U7 ?_)
   exact Leads.here (σ':=⟨[(4,Lx vad 1 vc),(5,Ln .i64 0),(7,Ln .i64 3),(1,Lp 1),(2,Lp 2),(3,Lp 3)],[cpB 1 c14a ad1 cp1,cpB 2 c14b ad2 cp2,v3B 27 3 1 1 ead 1 ec],W⟩) (Le.of V11 V9 V2 V2 V0) O
  | true =>
   have hV:=eVal_box_lent W c14a c14a r14 [(false,100)] ad1 ad1 ead cp1 cp1 ec false hFa hc1 hFa hE hin2 VA VA sz14 VA hs2
   rw [hva,hve] at hV
   (refine rgD mixed ?_;refine U3 ?_;refine kca O O o100<|aZ (zs:=[Value.bool false,.int .u64 0,.int .u64 0]) (sz:=3) (e:=86) (cs':=(nmsV [(false,100)]).map .val) V5 O O O O O O dS<|bE [(1000000,37),(1000001,601)] (.tup [.one (.slc 601 0 0 3),Sn .i64 3]) [nmsB 37 [(false,100)] false,nmsB 601 [] (vRow [])] (hV) O O V17 (by exact (bT (bT O (bT O (bT O O))) O)) O O O O V27 dS ?_;refine U7 ?_)
   exact Leads.here (σ':=⟨[(4,Lx vad 1 vc),(5,Ln .i64 0),(7,Ln .i64 3),(1,Lp 1),(2,Lp 2),(3,Lp 3)],[cpB 1 c14a ad1 cp1,cpB 2 c14b ad2 cp2,v3B 27 3 1 1 ead 1 ec],W⟩) (Le.of V11 V9 V2 V2 V0) O
 rintro σ rfl
 have hR:=eRow W c14a c14b r14 [100] ad1 ad2 ead cp1 cp2 ec hFa hc1 hFb hE VA VA sz14 VA
 rw [show rowN c14a.fs c14b.fs r14 [100]=[200,0] from vt14,show rowE c14a.fs c14b.fs r14 [100]=0 from vr14] at hR
 refine U13 ?_
 have o200:=Of_spec W 200 VA
 obtain ⟨_,blk,off,arr,el,fr,rfl,hX,hsz,hcs⟩:=hN.at (i:=0) (b:=false) (N:=200) rfl
 have hio:off+Int.toNat 0*3=off+0*3:=by simp
 have q:=eqI (b:=false) (b':=false) (h:=200/18446744073709551616) (h':=200/18446744073709551616) (l:=200%18446744073709551616) (l':=200%18446744073709551616) true VA
 have hS:=fun (S:Nat→Option (Option Box)) h=>eSig_lent W (S:=S) (k:=77) (s:=2) (n:=8) (rs:=[⟨3,1,[]⟩,⟨4,0,[]⟩]) (ws:=[.slice none 0 0,.slice none 0 0]) (e:=27) (row:=false) (va:=0) (vb:=0) ((RulesH.nil.push CodesIn.nilIn).push CodesIn.nilIn) (fun r hr=>by
  simp only [List.mem_cons,List.not_mem_nil,or_false] at hr
  rcases hr with rfl|rfl<;>exact ⟨by decide,by decide⟩) VA VA h vs14
 (refine rgD mixed ?_;refine U9 ?_;refine K.indexX O O cC VA hio (dT O O) ?_;refine U1 ?_;refine gca O O o200 O O<|bR O O O O V5 q (.inl ⟨O,O⟩) (dT O O) ?_;refine U11 ?_;refine K.strEq O O (strs_eq (r:=true) O) (dT O O) ?_;refine U4 ?_;refine aZ (zs:=(List.replicate 2 rzs14).flatten) (sz:=3) (e:=27) (cs':=(rwZ [⟨3,1,[]⟩,⟨4,0,[]⟩] [.slice none 0 0,.slice none 0 0]).map .val) V5 O O O O O O (dT O O) ?_;refine U1 ?_;refine K.callL [77] O O O (hS _ O) (dT O O) ?_;refine U6 ?_)
 exact V6
end Go.Proofs.YtopiioklkkiedaaGreatDoor
end
section
set_option maxHeartbeats 12800000
set_option maxRecDepth 100000
namespace Go.Lg
open Go
theorem Leads.fixRes {n:Nat} {C:Ctx} {X:Nat→Option Obj} {Mid:St→Prop} {s:List (Nat×LV)} {bx:List (Nat×Option Box)} {d k off len sz:Nat} {e:TypeId} {cs:List CV} {R:Rsc}
  (hs:s.all (fun p=>p.2.inUse bx)=true) (hb:bx.all (fun p=>match p.2 with|some b=>b.cells.all (CV.inUse bx)|none=>true)=true) (hk:look k bx=none)
  (h:∀ (ρ:Nat×Nat) (H:Nat→Option Obj) (cap:Nat),R.holds ρ H→OwnedM C X H→len≤cap→off+cap*sz≤ρ.2→Leads n C Mid ⟨(d,.sv (.one (.val (.slice (some ⟨ρ.1,off,none⟩) len cap))))::s,bx,joinM X H⟩):
  Leads n C Mid ⟨(d,.sv (.one (.slc k off len sz)))::s,(k,some ⟨e,cs,.res R⟩)::bx,X⟩:=⟨fun ι a w hr=>by
 obtain ⟨ρ,H,cap,h1,h2,h3,h4,h5⟩:=hr.fixRes hs hb hk
 exact (h ρ H cap h1 h2 h3 h4).out ι a w h5⟩
end Go.Lg
namespace Go.Proofs.YtopiioklkkiedaaGreatDoor
open Go Go.Lg Go.Lg.Fml Go.Lg.Fld Go.Lg.Arith
set_option maxRecDepth 100000
theorem prts_mono {X Y:Nat→Option Obj} (hXY:∀ b o,X b=some o→Y b=some o) {ad:Option Addr} {ps:List Pt} (h:PartsIn X ad ps):PartsIn Y ad ps:=⟨fun i p hp=>by
 obtain ⟨blk,off,arr,el,fr,vad,vcap,h1,h2,h3,h4,h5⟩:=h.at_ i p hp
 exact ⟨blk,off,arr,el,fr,vad,vcap,h1,hXY _ _ h2,h3,h4,⟨h5.rows.mono hXY,h5.in2⟩⟩,h.small⟩
theorem prts_nil {X:Nat→Option Obj} {ad:Option Addr}:PartsIn X ad []:=⟨fun i p hp=>by simp at hp,fun p hp=>by cases hp⟩
theorem psV_len {a b:Sc} {p:Pg} {ps:List Pt} (h:psE a b p ps=0):∀ x∈psV a b p ps,x.val.length≤64:=fun x hx=>by
 obtain ⟨c,hc,hf⟩:=(prt_facts (whole_fit h)).2 x hx
 obtain ⟨hl,hn,_⟩:=fit_all hf
 obtain ⟨h8,ho,_⟩:=layErr_facts hl
 have:=sum_le c.fs ho
 omega
theorem psA_len {a b:Sc} {p:Pg} {ps:List Pt}:∀ x∈psA a b p ps,x.val.length≤64:=fun x hx=>by
 unfold psA at hx
 split at hx
 ·rename_i h;exact psV_len h x hx
 ·cases hx
theorem prS_le {ps:List Pt} (h:ps.Pairwise (fun x y=>x.comp≠y.comp)) (rs:List Rl) (cs:List Cp):(prS rs cs ps).length≤rs.length:=by
 have:=(prS_sub (rs:=rs) (cs:=cs) h).length_le
 rwa [cX] at this
theorem psA_small {a b:Sc} {p:Pg} {ps:List Pt} (hp:p.rs.length≤30):(psA a b p ps).length≤30:=by
 unfold psA
 split
 ·rename_i h
  unfold psV
  rw [cX]
  exact Nat.le_trans (prS_le (prt_facts (psE_facts h).2.1).1 _ _) hp
 ·exact Nat.zero_le _
end Go.Proofs.YtopiioklkkiedaaGreatDoor
end
section
set_option maxHeartbeats 12800000
set_option maxRecDepth 100000
namespace Go.Proofs.YtopiioklkkiedaaGreatDoor
open Go Go.Lg Go.Lg.Fml Go.Lg.Fld Go.Lg.Arith
set_option maxRecDepth 100000
variable (X:Nat→Option Obj)
set_option maxHeartbeats 25600000 in
theorem evalParts_law (a b:Sc) (p:Pg) (ps:List Pt) (N:Nat) (ad1 ad2 ad pad:Option Addr) (cap1 cap2 cap pcap:Nat) (ha:CompsIn X ad1 a.cs) (hb:CompsIn X ad2 b.cs) (hp:RulesIn X ad p.rs) (hP:PartsC X pad ps) (hpc:ps.length≤pcap) (na:NamesIn a.cs) (nb:NamesIn b.cs) (sa:scBig a.cs) (sb:scBig b.cs)
  (hrl:p.rs.length<4611686018427387904) (hsz:sizeB p.rs) (hpl:ps.length<4611686018427387904) (hvl:∀ x∈ps,x.val.length<4611686018427387904) (hN:N<4294967296):
  PSpec Tryz.prog X 5 [Sx a.ver ad1 a.cs.length cap1,Sx b.ver ad2 b.cs.length cap2,LPg p.va p.vb ad p.rs.length cap,Lx pad ps.length pcap,Ln .u32 (N:Nat)] (Lb true):=by
 have hW:=awake14_spec X
 have hG:=fun z hz=>great14_spec X a.ver b.ver p.va p.vb ad1 ad2 ad cap1 cap2 cap a.cs b.cs p.rs ha hb hp hsz (by have:=sa.1;omega) (by have:=sb.1;omega) hrl (fun c hc=>by have:=sa.2 c hc;omega) (fun c hc=>by have:=sb.2 c hc;omega) z hz
 refine cF Tryz.func5 rfl V5 rfl rfl ?_
 intro C
 cases hg:grt13 a.cs b.cs p.rs with
 | true =>
  replace hG:=hG true hg
  refine U34 ?_
  exact V6
 | false =>
 replace hG:=hG false hg
 by_cases h12:12<ps.length
 ·refine U34 ?_
  exact V6
 obtain ⟨sa2,sb2,sp⟩:=grt13_false hg
 refine U36 ?_
 refine cL (fun m σ=>∃ i:Nat,i≤ps.length∧m=ps.length-i∧(∀ x∈ps.take i,x.val.length≤100)∧σ=⟨[(3,Lx pad ps.length pcap),(4,Ln .u32 (N:Nat)),(5,Lp 5),(6,Lp 6),(7,Lp 7),(11,Ln .i64 (i:Nat))],[v3B 36 7 p.va p.vb ad p.rs.length cap,sxB 6 b.ver ad2 b.cs.length cap2,sxB 5 a.ver ad1 a.cs.length cap1],X⟩) ps.length
  ⟨_,Le.of V11 V9 V2 V2 V0,0,by omega,by omega,(fun x hx=>by cases hx),rfl⟩ ?_
 rintro m σ ⟨i,hi,rfl,hpre,rfl⟩
 by_cases hlt:i<ps.length
 case pos =>
  obtain ⟨x,hx⟩:=wg hlt
  have hxl:=hvl x (dE hx)
  obtain ⟨blk,off,arr,el,fr,vad,vcap,rfl,hX,hsiz,hcs,g1,g2,hNx,_⟩:=hP.get hx
  have hio:=wo off i 2
  have hadd:IntKind.i64.wrap ((i:Int)+1)=((i+1:Nat):Int):=by rw [cH V3];omega
  by_cases h100:100<x.val.length
  ·refine U28 ?_
   exact V6
  ·refine U29 ?_
   refine ⟨_,_,by omega,Le.of V11 V9 V2 V2 V0,i+1,by omega,O,?_,O⟩
   intro y hy
   rw [take_snoc hx,List.mem_append,List.mem_singleton] at hy
   rcases hy with hy|rfl
   ·exact hpre y hy
   ·omega
 have hie:i=ps.length:=by omega
 subst hie
 rw [dG] at hpre
 have sl:ps.length≤12∧∀ x∈ps,x.val.length≤1000:=⟨by omega,fun x hx=>by have:=hpre x hx;omega⟩
 refine U11 ?_
 repeat refine aA ?_
 refine LWP.meetL (fun σ=>∃ (Y:Nat→Option Obj) (ud:Option Addr) (uc:Nat),(∀ b o,X b=some o→Y b=some o)∧RulesIn Y ud p.rs∧σ=⟨[(3,Lx pad ps.length pcap),(4,Ln .u32 (N:Nat)),(5,Lp 5),(6,Lp 6),(7,Lp 7),(12,Lp 12)],[v3B 42 12 p.va p.vb ud p.rs.length uc,v3B 36 7 p.va p.vb ad p.rs.length cap,sxB 6 b.ver ad2 b.cs.length cap2,sxB 5 a.ver ad1 a.cs.length cap1],Y⟩) ?_ ?_
 ·by_cases h0:p.rs=[]
  ·have hF:=form14_nil X p.va p.vb ad cap
   obtain ⟨va,vb,rs⟩:=p
   simp only at h0
   subst h0
   (refine U2 ?_;refine aU [] [] (hF) O O VC O O O O O V2B dS ?_;refine U3 ?_)
   exact Leads.here (σ':=⟨[(3,Lx pad ps.length pcap),(4,Ln .u32 (N:Nat)),(5,Lp 5),(6,Lp 6),(7,Lp 7),(12,Lp 12)],[v3B 42 12 va vb none 0 0,v3B 36 7 va vb ad 0 cap,sxB 6 b.ver ad2 b.cs.length cap2,sxB 5 a.ver ad1 a.cs.length cap1],X⟩) (Le.of V11 V8 V2 V2 V0) ⟨X,none,0,fun _ _ h=>h,RulesIn.nil,O⟩
  ·have hF:=form14_some X p.va p.vb p.rs ad cap hp (List.length_pos_iff.2 h0) sp
   (refine U2 ?_;refine bE [(1000001,601)] (.sv (.agg [.val (.int .i64 p.va),.val (.int .i64 p.vb),.slc 601 0 p.rs.length 3])) [rlB 39 601 p.rs] (hF) O O VC O O O O O V19 dS ?_;refine U3 ?_)
   refine cE (σ':=⟨[(3,Lx pad ps.length pcap),(4,Ln .u32 (N:Nat)),(5,Lp 5),(6,Lp 6),(7,Lp 7),(12,Lp 12)],[(12,some ⟨42,[.val (.int .i64 p.va),.val (.int .i64 p.vb)] ++ .slc 601 0 p.rs.length 3::[],false⟩),rlB 39 601 p.rs,v3B 36 7 p.va p.vb ad p.rs.length cap,sxB 6 b.ver ad2 b.cs.length cap2,sxB 5 a.ver ad1 a.cs.length cap1],X⟩) (Le.of V11 V10 V2 V2 V0) ?_
   refine Leads.fixCell O O O O O O fun ρ H uc hR hO _ _ => ?_
   exact cE (Le.of V11 V8 V2 V2 V0) (cD ⟨joinM X H,some ⟨ρ.1,0,none⟩,uc,fun _ _ h=>joinM_has hO h,hR.2.mono fun b o h=>joinM_in h,O⟩)
 rintro σ ⟨Y,ud,uc,hY,hU,rfl⟩
 replace ha:=ha.mono hY
 replace hb:=hb.mono hY
 replace hp:=hp.mono hY
 replace hP:=hP.mono hY
 clear hG hW
 repeat refine aA ?_
 refine LWP.meetL (fun σ=>∃ (Z:Nat→Option Obj) (lad:Option Addr) (lc:Nat),(∀ b o,Y b=some o→Z b=some o)∧PartsIn Z lad (psA a b p ps)∧σ=⟨[(13,Lx lad (psA a b p ps).length lc),(3,Lx pad ps.length pcap),(4,Ln .u32 (N:Nat)),(5,Lp 5),(6,Lp 6),(7,Lp 7),(12,Lp 12),(14,Ln .i64 (psE a b p ps))],[v3B 42 12 p.va p.vb ud p.rs.length uc,v3B 36 7 p.va p.vb ad p.rs.length cap,sxB 6 b.ver ad2 b.cs.length cap2,sxB 5 a.ver ad1 a.cs.length cap1],Z⟩) ?_ ?_
 ·cases hsh:pShape (psE a b p ps) (psA a b p ps) with
  | false =>
   have hV:=eParts_nil Y a b p ps ad1 ad2 ad pad cap1 cap2 cap pcap ha hb hp hP hpc na nb sa2 sb2 sp ⟨sl.1,hvl⟩ hsh
   have hz:=pShape_nil hsh
   rw [hz]
   generalize psE a b p ps=e at *
   (refine U5 ?_;refine aU [] [] (hV) O O VC O O O O O V2B dS ?_;refine U6 ?_)
   exact Leads.here (σ':=⟨[(13,Lx none 0 0),(3,Lx pad ps.length pcap),(4,Ln .u32 (N:Nat)),(5,Lp 5),(6,Lp 6),(7,Lp 7),(12,Lp 12),(14,Ln .i64 (e))],[v3B 42 12 p.va p.vb ud p.rs.length uc,v3B 36 7 p.va p.vb ad p.rs.length cap,sxB 6 b.ver ad2 b.cs.length cap2,sxB 5 a.ver ad1 a.cs.length cap1],Y⟩) (Le.of V15 V8 V2 V2 V0) ⟨Y,none,0,fun _ _ h=>h,prts_nil,O⟩
  | true =>
   have hV:=eParts_box Y a b p ps ad1 ad2 ad pad cap1 cap2 cap pcap ha hb hp hP hpc na nb sa2 sb2 sp ⟨sl.1,hvl⟩ hsh
   generalize (psA a b p ps)=L at *
   generalize psE a b p ps=e at *
   (refine U5 ?_;refine bE [(1000001,501)] (.tup [.one (.slc 501 0 L.length 2),Sn .i64 e]) [prtB 501 L] (hV) O O VC O O O O O V19 dS ?_;refine U6 ?_)
   refine cE (σ':=⟨[(13,.sv (.one (.slc 501 0 L.length 2))),(3,Lx pad ps.length pcap),(4,Ln .u32 (N:Nat)),(5,Lp 5),(6,Lp 6),(7,Lp 7),(12,Lp 12),(14,Ln .i64 (e))],[prtB 501 L,v3B 42 12 p.va p.vb ud p.rs.length uc,v3B 36 7 p.va p.vb ad p.rs.length cap,sxB 6 b.ver ad2 b.cs.length cap2,sxB 5 a.ver ad1 a.cs.length cap1],Y⟩) (Le.of V15 V10 V2 V2 V0) ?_
   refine Leads.fixRes O O O fun ρ H lc hR hO _ _ => ?_
   exact cD ⟨joinM Y H,some ⟨ρ.1,0,none⟩,lc,fun _ _ h=>joinM_has hO h,prts_mono (fun b o h=>joinM_in h) hR.2,O⟩
 rintro σ ⟨Z,lad,lc,hZ,hL,rfl⟩
 have hR:=rParts14 Z a b p ps ad1 ad2 ud pad cap1 cap2 uc pcap (ha.mono hZ) (hb.mono hZ) (hU.mono hZ) (hP.mono hZ) sa2 sb2 sp sl
 have hve:psE a b p ps=0→psV a b p ps=(psA a b p ps):=fun h=>(if_pos h).symm
 have hvz:psE a b p ps≠0→(psA a b p ps)=[]:=fun h=>if_neg h
 have l64:=psA_len (a:=a) (b:=b) (p:=p) (ps:=ps)
 have l30:=psA_small (a:=a) (b:=b) (ps:=ps) sp.1
 unfold pR14 pBx14 at hR
 repeat refine aA ?_
 refine LWP.meetL (fun σ=>∃ (Z2:Nat→Option Obj) (wad:Option Addr) (wc:Nat),(∀ b o,Z b=some o→Z2 b=some o)∧PartsIn Z2 wad (psA a b p ps)∧σ=⟨[(15,Lx wad (psA a b p ps).length wc),(13,Lx lad (psA a b p ps).length lc),(4,Ln .u32 (N:Nat)),(7,Lp 7),(12,Lp 12),(14,Ln .i64 (psE a b p ps)),(16,Ln .i64 (psE a b p ps))],[v3B 42 12 p.va p.vb ud p.rs.length uc,v3B 36 7 p.va p.vb ad p.rs.length cap],Z2⟩) ?_ ?_
 ·by_cases h0:psE a b p ps=0
  case neg =>
   rw [if_neg h0,if_neg h0] at hR
   rw [hvz h0]
   generalize psE a b p ps=e at *
   (refine U5 ?_;refine aU [] [] (hR) O O VC O O O O O V2B dS ?_;refine U6 ?_)
   exact Leads.here (σ':=⟨[(15,Lx none 0 0),(13,Lx lad 0 lc),(4,Ln .u32 (N:Nat)),(7,Lp 7),(12,Lp 12),(14,Ln .i64 (e)),(16,Ln .i64 (e))],[v3B 42 12 p.va p.vb ud p.rs.length uc,v3B 36 7 p.va p.vb ad p.rs.length cap],Z⟩) (Le.of V14 VE V2 V2 V0) ⟨Z,none,0,fun _ _ h=>h,prts_nil,O⟩
  rw [if_pos h0,if_pos h0,hve h0] at hR
  rw [h0]
  generalize (psA a b p ps)=L at *
  (refine U5 ?_;refine bE [(1000001,701)] (.tup [.one (.slc 701 0 L.length 2),Sn .i64 0]) [prtB 701 L] (hR) O O VC O O O O O V19 dS ?_;refine U6 ?_)
  refine cE (σ':=⟨[(15,.sv (.one (.slc 701 0 L.length 2))),(13,Lx lad L.length lc),(4,Ln .u32 (N:Nat)),(7,Lp 7),(12,Lp 12),(14,Ln .i64 (0)),(16,Ln .i64 (0))],[prtB 701 L,v3B 42 12 p.va p.vb ud p.rs.length uc,v3B 36 7 p.va p.vb ad p.rs.length cap],Z⟩) (Le.of V14 V9 V2 V2 V0) ?_
  refine Leads.fixRes O O O fun ρ H wc hR hO _ _ => ?_
  exact cD ⟨joinM Z H,some ⟨ρ.1,0,none⟩,wc,fun _ _ h=>joinM_has hO h,prts_mono (fun b o h=>joinM_in h) hR.2,O⟩
 rintro σ ⟨Z2,wad,wc,hZ2,hW2,rfl⟩
 replace hL:=prts_mono hZ2 hL
 have hS1:=eSig Z2 p.va p.vb p.rs ad cap N ((hp.mono hZ).mono hZ2) hrl hN
 have hS2:=rSig14 Z2 p.va p.vb p.rs ud uc N ((hU.mono hZ).mono hZ2) hrl hN
 generalize sigN p.rs N=sg at *
 generalize (psA a b p ps)=L at *
 generalize psE a b p ps=e at *
 (refine U2 ?_;refine rgD mixed ?_;refine U2 ?_;refine kne O O (cT O) ?_;refine U5 ?_;refine aX O O (cT O) (dT O O) ?_;refine U8 ?_;refine aX O O (cT O) (dT O O) ?_;refine U11 ?_)
 refine cL (fun m σ=>∃ i:Nat,i≤L.length∧m=L.length-i∧σ=⟨[(13,Lx lad L.length lc),(15,Lx wad L.length wc),(17,Ln .i64 (i:Nat))],[],Z2⟩) L.length
  ⟨_,Le.of V9 VC V2 V2 V0,0,by omega,by omega,rfl⟩ ?_
 rintro m σ ⟨i,hi2,rfl,rfl⟩
 by_cases hl2:i<L.length
 case neg =>
  refine U15 ?_
  exact V6
 obtain ⟨x,hx⟩:=wg hl2
 have hxl:=l64 x (dE hx)
 obtain ⟨bk1,of1,ar1,el1,fr1,vd1,vc1,rfl,hX1,hz1,_,g11,g12,hN1⟩:=hL.get hx
 obtain ⟨bk2,of2,ar2,el2,fr2,vd2,vc2,rfl,hX2,hz2,_,g21,g22,hN2⟩:=hW2.get hx
 have hio1:=wo of1 i 2
 have hio2:=wo of2 i 2
 have hadd:IntKind.i64.wrap ((i:Int)+1)=((i+1:Nat):Int):=by rw [cH V3];omega
 have hS:=values14 Z2 x.val x.val vd1 vd2 vc1 vc2 hN1 hN2 V3 true (cP rfl)
 (refine U13 ?_;refine rgD mixed ?_;refine U4 ?_;refine K.loadX O hX1 O g11 dS ?_;refine U4 ?_;refine K.loadX O hX2 O g21 dS<|kne O O (cT O) ?_;refine U5 ?_;refine K.loadX O hX1 O g12 (dT O O) ?_;refine U4 ?_;refine K.loadX O hX2 O g22 (dT O O) ?_;refine U12 ?_)
 exact ⟨_,_,by omega,Le.of V9 VC V2 V2 V0,i+1,by omega,O,O⟩
end Go.Proofs.YtopiioklkkiedaaGreatDoor
end
