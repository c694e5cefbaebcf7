/- A piece of a proof over this program: contracts of its functions, and a logic to prove them by. -/
import Derived.Test.YtopiioklkkiedaaGreatDoorW3
import Derived.Test.YtopiioklkkiedaaGreatDoorW4
import Derived.Test.YtopiioklkkiedaaGreatDoorW5
import Derived.Test.YtopiioklkkiedaaGreatDoorW6
import Derived.Test.YtopiioklkkiedaaGreatDoorW7
section
set_option maxHeartbeats 12800000
set_option maxRecDepth 100000
namespace Go.Proofs.YtopiioklkkiedaaGreatDoor
open Go Go.Lg Go.Lg.Fml Go.Lg.Fld Go.RowKit Go.ChangeShapes Go.WideShapes Go.Joins
set_option maxRecDepth 100000
section
variable {H:Type} {enc:TypeId×Value→H} {w:World}
theorem open_nums_w {fuel:Nat} {l:List Value} {x:DataW H×List MemPlace} (h:DataW.trod enc Tryz.prog w 0 (fun _=>true) true fuel 28 l=some x) (hw:Light Tryz.prog 28 x.1):
  ∃ (ad:Option Addr) (cap:Nat) (ns:List (Bool×Int)),l=[.slice ad ns.length cap]∧ns.length≤cap∧ns.length≤4398046511104*4∧NumsIn (fun b=>w.heap[b]?) ad ns:=by
 obtain ⟨ad,cap,rows,rfl,hb,hc,_,h3,h4⟩:=open_rows_w (e:=86) (sz:=3) V5 V5 VA h hw
 obtain ⟨ns,rfl,h5⟩:=map_of (f:=nmV) (q:=fun n=>In2 n.2) (vs:=rows) (fun u hu=>by
  obtain ⟨hlen,n,x,hx,_⟩:=h4 u hu
  obtain ⟨y0,y1,y2,n',_,_,g0,g1,g2⟩:=Deep.trod_struct3 (t:=86) Tryz.underlying86 hx
  obtain ⟨e0',e1',e2',rfl⟩:∃ c0 c1 c2,u=[c0,c1,c2]:=by
   match u,hlen with
   | [c0,c1,c2],_=>exact ⟨c0,c1,c2,rfl⟩
  obtain ⟨b,e0,_⟩:=DataW.trod_bool V5 g0
  obtain ⟨x,e1,_,wa1⟩:=DataW.trod_int (k:=.u64) V5 g1
  obtain ⟨y,e2,_,wa2⟩:=DataW.trod_int (k:=.u64) V5 g2
  have q0:e0' = .bool b:=by simpa using (show ([e0',e1',e2'].drop 0).take 1=[.bool b] from e0)
  have q1:e1' = .int .u64 x:=by simpa using (show ([e0',e1',e2'].drop 1).take 1=[.int .u64 x] from e1)
  have q2:e2' = .int .u64 y:=by simpa using (show ([e0',e1',e2'].drop 2).take 1=[.int .u64 y] from e2)
  subst q0 q1 q2
  have b1:=bounds_u64 wa1
  have b2:=bounds_u64 wa2
  refine ⟨(b,x*18446744073709551616+y),?_,by show 0≤x*18446744073709551616+y;omega,by show x*18446744073709551616+y<_;omega⟩
  unfold nmV
  rw [show (b,x*18446744073709551616+y).2/18446744073709551616=x by show (x*18446744073709551616+y)/18446744073709551616=x;omega,show (b,x*18446744073709551616+y).2%18446744073709551616=y by show (x*18446744073709551616+y)%18446744073709551616=y;omega])
 exact ⟨ad,cap,ns,by rw [cX],by rw [cX] at hc;exact hc,by rw [cX,show Tryz.prog.bytesOf 86=24 by kernel_rfl,show reachBytes=140737488351232 by decide] at hb;omega,h3,h5⟩
theorem open_parts_w {fuel:Nat} {l:List Value} {x:DataW H×List MemPlace} (h:DataW.trod enc Tryz.prog w 0 (fun _=>true) true fuel 56 l=some x) (hw:Light Tryz.prog 56 x.1):
  ∃ (ad:Option Addr) (cap:Nat) (ps:List Pt),l=[.slice ad ps.length cap]∧ps.length≤cap∧ps.length≤4398046511104*4∧PartsC (fun b=>w.heap[b]?) ad ps∧∀ x∈ps,x.val.length≤4398046511104*4:=by
 obtain ⟨ad,cap,rows,rfl,hb,h1,_,h3,h4⟩:=open_rows_w (e:=59) (sz:=2) V5 V5 VA h hw
 obtain ⟨ts,rfl,h5⟩:=map_of (f:=fun t:Pt×Option Addr×Nat=>[.int .i64 t.1.comp,.slice t.2.1 t.1.val.length t.2.2]) (q:=fun t=>(NumsIn (fun b=>w.heap[b]?) t.2.1 t.1.val∧t.1.val.length≤t.2.2∧t.1.val.length≤4398046511104*4)∧(-9223372036854775808≤t.1.comp∧t.1.comp<9223372036854775808)) (vs:=rows) (fun u hu=>by
  obtain ⟨hlen,n,x,hx,hxw⟩:=h4 u hu
  obtain ⟨y0,y1,n',ex,_,g0,g1⟩:=trod_struct2 (t:=59) Tryz.underlying59 hx
  rw [ex] at hxw
  have hF3:=(Light.struct2 Tryz.underlying59 hxw).2
  obtain ⟨e0',e1',rfl⟩:∃ c0 c1,u=[c0,c1]:=by
   match u,hlen with
   | [c0,c1],_=>exact ⟨c0,c1,rfl⟩
  obtain ⟨k,e0,_,wa1⟩:=DataW.trod_int (k:=.i64) V5 g0
  obtain ⟨vad,vcap,ns,e1,hF1,hF2,hF⟩:=open_nums_w g1 hF3
  have q0:e0' = .int .i64 k:=by simpa using (show ([e0',e1'].drop 0).take 1=[.int .i64 k] from e0)
  have q1:e1' = .slice vad ns.length vcap:=by simpa using (show ([e0',e1'].drop 1).take 1=[.slice vad ns.length vcap] from e1)
  subst q0 q1
  have b1:=bounds_i64 wa1
  exact ⟨(⟨k,ns⟩,vad,vcap),O,⟨hF,hF1,hF2⟩,(show -9223372036854775808≤k∧k<9223372036854775808 by omega)⟩)
 refine ⟨ad,cap,ts.map (·.1),by rw [cX,cX],by rw [cX] at h1 ⊢;exact h1,by rw [cX,show Tryz.prog.bytesOf 59=32 by kernel_rfl,show reachBytes=140737488351232 by decide] at hb;rw [cX];omega,⟨fun i c hc => ?_,fun c hc => ?_⟩,fun c hc => ?_⟩
 ·rw [dM] at hc
  cases ht:ts[i]? with
  | none=>rw [ht] at hc;cases hc
  | some t =>
   rw [ht] at hc
   simp only [Option.map_some,Option.some.injEq] at hc
   subst hc
   obtain ⟨blk,off,arr,el,fr,g1,g2,g3,g4⟩:=h3 i _ (by rw [dM,ht];rfl)
   exact ⟨blk,off,arr,el,fr,t.2.1,t.2.2,g1,g2,g3,g4,(h5 t (dE ht)).1.1,(h5 t (dE ht)).1.2.1⟩
 ·obtain ⟨t,ht,rfl⟩:=List.mem_map.1 hc
  exact (h5 t ht).2
 ·obtain ⟨t,ht,rfl⟩:=List.mem_map.1 hc
  exact (h5 t ht).1.2.2
theorem open_parts_s {r:Reach} {b0:Nat} {v:Value} {d:DataW H} {p:List MemPlace} (hv:Value.okWide Tryz.prog w r b0 56 v) (h:DataW.Trod enc Tryz.prog w 0 (fun _=>true) true 56 v d p) (hw:Light Tryz.prog 56 d):
  ∃ (ad:Option Addr) (cap:Nat) (ns:List Pt),v = .slice ad ns.length cap∧ns.length≤cap∧ns.length≤4398046511104*4∧PartsC (fun b=>w.heap[b]?) ad ns∧∀ x∈ns,x.val.length≤4398046511104*4:=by
 obtain ⟨a,len,cap0,rfl⟩:=okWide_slice (e:=59) V5 hv
 obtain ⟨fuel,hf⟩:=h
 obtain ⟨ad,cap,ns,e1,h1,h2,h3,h4⟩:=open_parts_w hf hw
 simp [Value.cells] at e1
 obtain ⟨rfl,rfl,rfl⟩:=e1
 exact ⟨_,_,ns,O,h1,h2,h3,h4⟩
theorem open_codes_w {fuel:Nat} {lv:List Value} {xx:DataW H×List MemPlace} (h:DataW.trod enc Tryz.prog w 0 (fun _=>true) true fuel 25 lv=some xx) (hw:Light Tryz.prog 25 xx.1):
  ∃ (ad:Option Addr) (cap:Nat) (cs:List (List Ins)),lv=[.slice ad cs.length cap]∧cs.length<1152921504606846976∧CodesIn (fun b=>w.heap[b]?) ad cs∧∀ c∈cs,c.length<1152921504606846976:=by
 obtain ⟨ad,cap,rows,rfl,hb,h1,h2,h3,h4⟩:=open_rows_w (e:=90) (sz:=1) V5 V5 VA h hw
 obtain ⟨ts,rfl,h5⟩:=map_of (f:=fun t:List Ins×Option Addr×Nat=>[Value.slice t.2.1 t.1.length t.2.2]) (q:=fun t=>InsIn (fun b=>w.heap[b]?) t.2.1 t.1∧t.1.length<1152921504606846976) (vs:=rows) (fun u hu=>by
  obtain ⟨hlen,n,x,hx,hxw⟩:=h4 u hu
  obtain ⟨vad,vcap,ns,e1,k1,hF⟩:=open_inss_w hx hxw
  exact ⟨(ns,vad,vcap),e1,hF,(show ns.length<1152921504606846976 by omega)⟩)
 refine ⟨ad,cap,ts.map (·.1),by rw [cX,cX],by rw [cX,show Tryz.prog.bytesOf 90=24 by kernel_rfl,show reachBytes=140737488351232 by decide] at hb;rw [cX];omega,⟨fun i r hr => ?_⟩,fun r hr => ?_⟩
 ·rw [dM] at hr
  cases ht:ts[i]? with
  | none=>rw [ht] at hr;cases hr
  | some t =>
   rw [ht] at hr
   simp only [Option.map_some,Option.some.injEq] at hr
   subst hr
   obtain ⟨blk,off,arr,el,fr,g1,g2,g3,g4⟩:=h3 i _ (by rw [dM,ht];rfl)
   have g5:arr[off+i]? = some (.slice t.2.1 t.1.length t.2.2):=by
    have:=congrArg (fun l:List Value=>l[0]?) g4
    simpa [List.getElem?_take,List.getElem?_drop] using this
   exact ⟨blk,off,arr,el,fr,t.2.1,t.2.2,g1,g2,g3,g5,(h5 t (dE ht)).1⟩
 ·obtain ⟨t,ht,rfl⟩:=List.mem_map.1 hr
  exact (h5 t ht).2
theorem open_rules_w {fuel:Nat} {lv:List Value} {xx:DataW H×List MemPlace} (h:DataW.trod enc Tryz.prog w 0 (fun _=>true) true fuel 34 lv=some xx) (hw:Light Tryz.prog 34 xx.1):
  ∃ (ad:Option Addr) (cap:Nat) (rs:List Rl),lv=[.slice ad rs.length cap]∧rs.length<1152921504606846976∧RulesIn (fun b=>w.heap[b]?) ad rs∧sizeR rs:=by
 obtain ⟨ad,cap,rows,rfl,hb,h1,h2,h3,h4⟩:=open_rows_w (e:=27) (sz:=3) V5 V5 VA h hw
 obtain ⟨ts,rfl,h5⟩:=map_of (f:=fun t:Rl×Option Addr×Nat=>[.int .i64 t.1.nw,.int .i64 t.1.old,.slice t.2.1 t.1.ex.length t.2.2]) (q:=fun t=>(CodesIn (fun b=>w.heap[b]?) t.2.1 t.1.ex∧smallR t.1)∧t.1.ex.length<1152921504606846976∧∀ c∈t.1.ex,c.length<1152921504606846976) (vs:=rows) (fun u hu=>by
  obtain ⟨hlen,n,x,hx,hxw⟩:=h4 u hu
  obtain ⟨y0,y1,y2,n',ex,_,g0,g1,g2⟩:=Deep.trod_struct3 (t:=27) Tryz.underlying27 hx
  rw [ex] at hxw
  have hF3:=(Light.struct3 Tryz.underlying27 hxw).2.2
  obtain ⟨e0',e1',e2',rfl⟩:∃ c0 c1 c2,u=[c0,c1,c2]:=by
   match u,hlen with
   | [c0,c1,c2],_=>exact ⟨c0,c1,c2,rfl⟩
  obtain ⟨k,e0,_,wa0⟩:=DataW.trod_int (k:=.i64) V5 g0
  obtain ⟨o,e1,_,wa1⟩:=DataW.trod_int (k:=.i64) V5 g1
  obtain ⟨ead,ecap,cs,e2,hl,hF,hFl⟩:=open_codes_w g2 hF3
  have q0:e0' = .int .i64 k:=by simpa using (show ([e0',e1',e2'].drop 0).take 1=[.int .i64 k] from e0)
  have q1:e1' = .int .i64 o:=by simpa using (show ([e0',e1',e2'].drop 1).take 1=[.int .i64 o] from e1)
  have q2:e2' = .slice ead cs.length ecap:=by simpa using (show ([e0',e1',e2'].drop 2).take 1=[.slice ead cs.length ecap] from e2)
  subst q0 q1 q2
  have b0:=bounds_i64 wa0
  have b1:=bounds_i64 wa1
  exact ⟨(⟨k,o,cs⟩,ead,ecap),O,⟨hF,(show -9223372036854775808≤k∧k<9223372036854775808 by omega),(show -9223372036854775808≤o∧o<9223372036854775808 by omega)⟩,hl,hFl⟩)
 refine ⟨ad,cap,ts.map (·.1),by rw [cX,cX],by rw [cX,show Tryz.prog.bytesOf 27=40 by kernel_rfl,show reachBytes=140737488351232 by decide] at hb;rw [cX];omega,⟨fun i c hc => ?_,fun c hc => ?_⟩,fun c hc => ?_⟩
 ·rw [dM] at hc
  cases ht:ts[i]? with
  | none=>rw [ht] at hc;cases hc
  | some t =>
   rw [ht] at hc
   simp only [Option.map_some,Option.some.injEq] at hc
   subst hc
   obtain ⟨blk,off,arr,el,fr,g1,g2,g3,g4⟩:=h3 i _ (by rw [dM,ht];rfl)
   exact ⟨blk,off,arr,el,fr,t.2.1,t.2.2,g1,g2,g3,g4,(h5 t (dE ht)).1.1⟩
 ·obtain ⟨t,ht,rfl⟩:=List.mem_map.1 hc
  exact (h5 t ht).1.2
 ·obtain ⟨t,ht,rfl⟩:=List.mem_map.1 hc
  exact (h5 t ht).2
theorem open_prog_w {r:Reach} {b0:Nat} {v:Value} {d:DataW H} {p:List MemPlace} (hv:Value.okWide Tryz.prog w r b0 36 v) (h:DataW.Trod enc Tryz.prog w 0 (fun _=>true) true 36 v d p) (hw:Light Tryz.prog 36 d):
  ∃ (va vb:Int) (ad:Option Addr) (cap:Nat) (rs:List Rl),v = .agg #[.int .i64 va,.int .i64 vb,.slice ad rs.length cap]∧((-9223372036854775808≤va∧va<9223372036854775808) ∧ -9223372036854775808≤vb∧vb<9223372036854775808)∧rs.length<1152921504606846976∧RulesIn (fun b=>w.heap[b]?) ad rs∧sizeR rs:=by
 obtain ⟨v0,v1,v2,y0,y1,y2,m,rfl,rfl,rfl,hy0,hy1,hy2⟩:=open_agg3 Tryz.underlying36 V5 cellsPg hv h
 have hw2:=(Light.struct3 Tryz.underlying36 hw).2.2
 obtain ⟨x,e0,rfl,wa0⟩:=DataW.trod_int (k:=.i64) V5 hy0
 obtain ⟨y,e1,rfl,wa1⟩:=DataW.trod_int (k:=.i64) V5 hy1
 obtain ⟨ad,cap,rs,e2,h1,h2,h3⟩:=open_rules_w hy2 hw2
 simp at e0 e1 e2
 subst e0 e1 e2
 have b0:=bounds_i64 wa0
 have b1:=bounds_i64 wa1
 exact ⟨x,y,ad,cap,rs,O,by omega,h1,h2,h3⟩
theorem sizeR.wide {rs:List Rl} (h:sizeR rs):sizeB rs:=fun r hr=>⟨by have:=(h r hr).1;omega,fun c hc=>by have:=(h r hr).2 c hc;omega⟩
end
end Go.Proofs.YtopiioklkkiedaaGreatDoor
end
section
set_option maxHeartbeats 12800000
set_option maxRecDepth 100000
namespace Go.Proofs.YtopiioklkkiedaaGreatDoor
open Go Go.Lg Go.Lg.Fml Go.Lg.Fld Go.Lg.Arith
set_option maxRecDepth 100000
def IntsI (X:Nat→Option Obj) (ad:Option Addr) (l:List Int):Prop:=Go.Lg.RowsIn X ad 1 (l.map fun n=>[.int .i64 n])
variable (X:Nat→Option Obj)
end Go.Proofs.YtopiioklkkiedaaGreatDoor
end
section
set_option maxHeartbeats 12800000
set_option maxRecDepth 100000
namespace Go.Proofs.YtopiioklkkiedaaGreatDoor
open Go Go.Lg Go.Lg.Fml Go.Lg.Fld Go.Lg.Arith
set_option maxRecDepth 100000
variable (X:Nat→Option Obj)
set_option maxHeartbeats 6400000 in
theorem great14_spec (v1 v2 va vb:Int) (ad1 ad2 ad:Option Addr) (cap1 cap2 cap:Nat) (az bz:List Cp) (rs:List Rl) (h1:CompsIn X ad1 az) (h2:CompsIn X ad2 bz) (hin:RulesIn X ad rs) (hsz:sizeB rs)
  (hl1:az.length<4611686018427387904) (hl2:bz.length<4611686018427387904) (hbig:rs.length<4611686018427387904) (hf1:∀ c∈az,c.fs.length<9223372036854775808) (hf2:∀ c∈bz,c.fs.length<9223372036854775808) (r:Bool) (hr:grt13 az bz rs=r):
  PSpec Tryz.prog X 10 [Sx v1 ad1 az.length cap1,Sx v2 ad2 bz.length cap2,LPg va vb ad rs.length cap] (Lb r):=by
 subst hr
 refine cF Tryz.func10 rfl V5 rfl rfl ?_
 intro C
 unfold grt13 grtN
 by_cases c1:30<az.length
 ·rw [cP c1]
  simp only [Bool.true_or]
  refine U33 ?_
  exact V6
 by_cases c2:30<bz.length
 ·rw [cP c2]
  simp only [Bool.true_or,Bool.or_true]
  refine U33 ?_
  exact V6
 by_cases c3:30<rs.length
 ·rw [cP c3]
  simp only [Bool.true_or,Bool.or_true]
  refine U33 ?_
  exact V6
 rw [cO c1,cO c2,cO c3]
 simp only [Bool.false_or]
 refine U35 ?_
 refine cL (fun m σ=>∃ i:Nat,i≤az.length∧m=az.length-i∧(az.take i).any grtF=false∧σ=⟨[(3,Lp 3),(4,Lp 4),(5,Lp 5),(7,Ln .i64 (i:Nat))],[v3B 36 5 va vb ad rs.length cap,sxB 4 v2 ad2 bz.length cap2,sxB 3 v1 ad1 az.length cap1],X⟩) az.length
  ⟨_,Le.of V8 V9 V2 V2 V0,0,by omega,by omega,rfl,rfl⟩ ?_
 rintro m σ ⟨i,hi,rfl,hany,rfl⟩
 by_cases hlt:i<az.length
 case pos =>
  obtain ⟨c,hc⟩:=wg hlt
  obtain ⟨blk,off,arr,el,fr,fad,fcap,rfl,hX,hsiz,hcs,g1,g2,g3,hF⟩:=h1.get hc
  have hio:=wo off i 3
  have hcl:=hf1 c (dE hc)
  by_cases h12:12<c.fs.length
  ·rw [show az.any grtF=true from any_yes hc (cP h12)]
   simp only [Bool.true_or,Bool.or_true]
   refine U30 ?_
   exact V6
  ·have hadd:IntKind.i64.wrap ((i:Int)+1)=((i+1:Nat):Int):=by rw [cH V3];omega
   refine U31 ?_
   exact ⟨_,_,by omega,Le.of V8 V9 V2 V2 V0,i+1,by omega,O,any_next hc hany (cO h12),O⟩
 have e:i=az.length:=by omega
 subst e
 rw [dG] at hany
 rw [hany,Bool.false_or]
 clear hany hi hlt
 refine U17 ?_
 refine cL (fun m σ=>∃ i:Nat,i≤bz.length∧m=bz.length-i∧(bz.take i).any grtF=false∧σ=⟨[(3,Lp 3),(4,Lp 4),(5,Lp 5),(8,Ln .i64 (i:Nat))],[v3B 36 5 va vb ad rs.length cap,sxB 4 v2 ad2 bz.length cap2,sxB 3 v1 ad1 az.length cap1],X⟩) bz.length
  ⟨_,Le.of V8 V9 V2 V2 V0,0,by omega,by omega,rfl,rfl⟩ ?_
 rintro m σ ⟨i,hi,rfl,hany,rfl⟩
 by_cases hlt:i<bz.length
 case pos =>
  obtain ⟨c,hc⟩:=wg hlt
  obtain ⟨blk,off,arr,el,fr,fad,fcap,rfl,hX,hsiz,hcs,g1,g2,g3,hF⟩:=h2.get hc
  have hio:=wo off i 3
  have hcl:=hf2 c (dE hc)
  by_cases h12:12<c.fs.length
  ·rw [show bz.any grtF=true from any_yes hc (cP h12)]
   simp only [Bool.true_or,Bool.or_true]
   refine U30 ?_
   exact V6
  ·have hadd:IntKind.i64.wrap ((i:Int)+1)=((i+1:Nat):Int):=by rw [cH V3];omega
   refine U31 ?_
   exact ⟨_,_,by omega,Le.of V8 V9 V2 V2 V0,i+1,by omega,O,any_next hc hany (cO h12),O⟩
 have e:i=bz.length:=by omega
 subst e
 rw [dG] at hany
 rw [hany,Bool.false_or]
 clear hany hi hlt
 refine U17 ?_
 refine cL (fun m σ=>∃ i:Nat,i≤rs.length∧m=rs.length-i∧(rs.take i).any grtR=false∧σ=⟨[(3,Lp 3),(4,Lp 4),(5,Lp 5),(9,Ln .i64 (i:Nat))],[v3B 36 5 va vb ad rs.length cap,sxB 4 v2 ad2 bz.length cap2,sxB 3 v1 ad1 az.length cap1],X⟩) rs.length
  ⟨_,Le.of V8 V9 V2 V2 V0,0,by omega,by omega,rfl,rfl⟩ ?_
 rintro m σ ⟨i,hi,rfl,hany,rfl⟩
 by_cases hlt:i<rs.length
 case neg =>
  have e:i=rs.length:=by omega
  subst e
  rw [dG] at hany
  rw [hany]
  refine U16 ?_
  exact V6
 obtain ⟨r,hr⟩:=wg hlt
 obtain ⟨blk,off,arr,el,fr,ead,ecap,rfl,hX,hsiz,hcs,g1,g2,g3,hE⟩:=hin.get hr
 have hio:=wo off i 3
 obtain ⟨hel,hcl⟩:=hsz r (dE hr)
 have hyes:grtR r=true→rs.any grtR=true:=any_yes hr
 by_cases h12:12<r.ex.length
 ·rw [hyes (by unfold grtR;rw [cP h12];rfl)]
  refine U31 ?_
  exact V6
 refine U32 ?_
 refine cL (fun m σ=>∃ k:Nat,k≤r.ex.length∧m=r.ex.length-k∧(r.ex.take k).any (fun c=>decide (80<c.length))=false∧σ=⟨[(3,Lp 3),(4,Lp 4),(5,Lp 5),(9,Ln .i64 (i:Nat)),(10,Ln .i64 (k:Nat))],[v3B 36 5 va vb (some ⟨blk,off,none⟩) rs.length cap,sxB 4 v2 ad2 bz.length cap2,sxB 3 v1 ad1 az.length cap1],X⟩) r.ex.length
  ⟨_,Le.of V10 V9 V2 V2 V0,0,by omega,by omega,rfl,rfl⟩ ?_
 rintro m σ ⟨k,hk,rfl,hany2,rfl⟩
 by_cases hkl:k<r.ex.length
 case neg =>
  have e:k=r.ex.length:=by omega
  subst e
  rw [dG] at hany2
  have hno:grtR r=false:=by unfold grtR;rw [cO h12,hany2];rfl
  have hadd:IntKind.i64.wrap ((i:Int)+1)=((i+1:Nat):Int):=by rw [cH V3];omega
  refine U20 ?_
  exact ⟨_,⟨[(3,Lp 3),(4,Lp 4),(5,Lp 5),(9,Ln .i64 (i+1:Nat))],[v3B 36 5 va vb (some ⟨blk,off,none⟩) rs.length cap,sxB 4 v2 ad2 bz.length cap2,sxB 3 v1 ad1 az.length cap1],X⟩,by omega,Le.of V8 V9 V2 V2 V0,i+1,by omega,O,any_next hr hany hno,O⟩
 obtain ⟨c,hc⟩:=wg hkl
 obtain ⟨eb,eo,earr,eel,efr,vad,vcap,rfl,hEX,hec,hI⟩:=hE.get hc
 have hio3:=wo eo k 1
 have hcc:=hcl c (dE hc)
 by_cases h80:80<c.length
 ·rw [hyes (by unfold grtR;rw [cO h12,Bool.false_or];exact any_yes hc (cP h80))]
  refine U37 ?_
  exact V6
 ·have hadd:IntKind.i64.wrap ((k:Int)+1)=((k+1:Nat):Int):=by rw [cH V3];omega
  refine U38 ?_
  exact ⟨_,_,by omega,Le.of V10 V9 V2 V2 V0,k+1,by omega,O,any_next hc hany2 (cO h80),O⟩
theorem form14_nil (va vb:Int) (ad:Option Addr) (cap:Nat):MSpec Tryz.prog X 11 [LPg va vb ad 0 cap] [] (.sv (.agg [.val (.int .i64 va),.val (.int .i64 vb),.val (.slice none 0 0)])) []:=by
 refine cG Tryz.func11 rfl V5 rfl V7 V7 rfl rfl ?_
 intro C
 refine LWP.ends ?_
 refine U21 ?_
 refine cL (fun m σ=>m=0∧σ=⟨[(1,Lp 1),(2,Lp 2),(3,Lp 3),(4,Ln .i64 0)],[v3B 42 3 va vb none 0 0,v3B 42 2 0 0 none 0 0,v3B 36 1 va vb ad 0 cap],X⟩) 0
  ⟨_,Le.of V8 V9 V2 V2 V0,rfl,rfl⟩ ?_
 rintro m σ ⟨rfl,rfl⟩
 (refine U7 ?_;refine klt rfl rfl (r:=false) rfl ?_;refine U9 ?_)
 exact cD ⟨[],⟨[_],⟨⟨_,_,O,O,O,.inl ⟨AggT.h,O⟩⟩,trivial⟩,O⟩,V1,O,O⟩
set_option maxHeartbeats 25600000 in
theorem form14_some (va vb:Int) (rs:List Rl) (ad:Option Addr) (cap:Nat) (hin:RulesIn X ad rs) (h0:0<rs.length) (hg:rs.length≤30∧∀ r∈rs,r.ex.length≤12∧∀ c∈r.ex,c.length≤80):
  MSpec Tryz.prog X 11 [LPg va vb ad rs.length cap] [] (.sv (.agg [.val (.int .i64 va),.val (.int .i64 vb),.slc 1000001 0 rs.length 3])) [rlB 39 1000001 rs]:=by
 have hsm:=hin.small
 have hl30:=hg.1
 refine cG Tryz.func11 rfl V5 rfl V7 V7 rfl rfl ?_
 intro C
 refine LWP.ends ?_
 refine U21 ?_
 refine cM (fun m σ=>∃ (i:Nat) (ws:List Value) (H:Nat→Option Obj),i≤rs.length∧m=rs.length-i∧OwnedM C X H∧RulesH H ws (rs.take i)∧((i=0∧σ=⟨[(1,Lp 1),(2,Lp 2),(3,Lp 3),(4,Ln .i64 (i:Nat))],[v3B 42 3 va vb none 0 0,v3B 42 2 0 0 none 0 0,v3B 36 1 va vb ad rs.length cap],joinM X H⟩)∨(0<i∧σ=⟨[(1,Lp 1),(2,Lp 2),(3,Lp 3),(4,Ln .i64 (i:Nat))],[(600,some ⟨39,(rwZ (rs.take i) ws).map .val,true⟩),(3,some ⟨42,[.val (.int .i64 va),.val (.int .i64 vb),.slc 600 0 (i) 3],false⟩),v3B 42 2 0 0 none 0 0,v3B 36 1 va vb ad rs.length cap],joinM X H⟩))) rs.length
  (cE (σ':=⟨[(1,Lp 1),(2,Lp 2),(3,Lp 3),(4,Ln .i64 (0:Nat))],[v3B 42 3 va vb none 0 0,v3B 42 2 0 0 none 0 0,v3B 36 1 va vb ad rs.length cap],X⟩) (Le.of V8 V9 V2 V2 V0) (cD ⟨0,[],fun _=>none,by omega,by omega,OwnedM.nil C X,RulesH.nil,.inl ⟨rfl,by rw [joinM_nil]⟩⟩)) ?_
 rintro m σ ⟨i,ws,H,hi,rfl,hO,GR,hst⟩
 rcases hst with ⟨hi0,rfl⟩|⟨hi0,rfl⟩
 ·as_aux_lemma =>
   by_cases hlt:i<rs.length
   case neg =>
    have hie:i=rs.length:=by omega
    subst hi0
    exact absurd hie V3
   obtain ⟨r,hr⟩:=wg hlt
   obtain ⟨blk,off,arr,el,fr,ead,ecap,rfl,hX,hsiz,hcs,g1,g2,g3,hE⟩:=hin.get hr
   have hXJ:=joinM_has hO hX
   have hio:=wo off i 3
   have h12:=hg.2 r (dE hr)
   (refine aA<|aA<|rgN<|kmv O<|kfa O O ?_;refine kl1 O O O<|K.lenX O cC O dS ?_;refine klt O O (cP V3)<|RunK.nil<|LWP.condT O ?_;refine LWP.skip ?_;refine aA<|LWP.block<|aA<|rgD mixed<|kfa O O ?_;refine kl1 O O O<|kmv O<|K.indexX O O cC V3 hio dS<|K.fieldAddrX O O dS ?_;refine K.loadX O hXJ O g1 dS<|kfa O O ?_;refine kl1 O O O<|kmv O<|K.indexX O O cC V3 hio dS<|K.fieldAddrX O O dS ?_;refine K.loadX O hXJ O g2 dS<|aT O O V2 V28 dS ?_;refine K.alloc O dS ?_;refine K.storeAll O O O O O O dS ?_;refine RunK.nil<|rgA ?_;refine aA<|aA<|rgN<|kas O<|RunK.nil<|LWP.block ?_)
   refine cM (fun m σ=>∃ (k:Nat) (vs:List Value) (H:Nat→Option Obj),k≤r.ex.length∧m=r.ex.length-k∧OwnedM C X H∧RulesH H ws (rs.take i)∧FormsH H vs (r.ex.take k)∧((k=0∧σ=⟨[(1,Lp 1),(2,Lp 2),(3,Lp 3),(4,Ln .i64 (i:Nat)),(5,Lp 5),(6,Ln .i64 (k:Nat))],[v3B 39 5 r.nw r.old none 0 0,v3B 42 3 va vb none 0 0,v3B 42 2 0 0 none 0 0,v3B 36 1 va vb (some ⟨blk,off,none⟩) rs.length cap],joinM X H⟩)∨(0<k∧σ=⟨[(1,Lp 1),(2,Lp 2),(3,Lp 3),(4,Ln .i64 (i:Nat)),(5,Lp 5),(6,Ln .i64 (k:Nat))],[(601,some ⟨91,(vs).map .val,true⟩),(5,some ⟨39,[.val (.int .i64 r.nw),.val (.int .i64 r.old),.slc 601 0 (k) 1],false⟩),v3B 42 3 va vb none 0 0,v3B 42 2 0 0 none 0 0,v3B 36 1 va vb (some ⟨blk,off,none⟩) rs.length cap],joinM X H⟩))) r.ex.length
    (cE (σ':=⟨[(1,Lp 1),(2,Lp 2),(3,Lp 3),(4,Ln .i64 (i:Nat)),(5,Lp 5),(6,Ln .i64 (0:Nat))],[v3B 39 5 r.nw r.old none 0 0,v3B 42 3 va vb none 0 0,v3B 42 2 0 0 none 0 0,v3B 36 1 va vb (some ⟨blk,off,none⟩) rs.length cap],joinM X H⟩) (Le.of V11 V8 V2 V2 V0) (cD ⟨0,[],H,by omega,by omega,hO,GR,FormsH.nil,.inl ⟨rfl,rfl⟩⟩)) ?_
   clear hXJ hO GR
   clear H
   rintro m σ ⟨k,vs,H,hk,rfl,hO,GR,GF,hst⟩
   have hXJ:=joinM_has hO hX
   rcases hst with ⟨hk0,rfl⟩|⟨hk0,rfl⟩
   ·as_aux_lemma =>
     by_cases hkl:k<r.ex.length
     case neg =>
      have hke:k=r.ex.length:=by omega
      subst hke
      rw [dG] at GF
      have hwl:=GR.len
      have hrl:((rwZ (rs.take i) ws).map CV.val).length=i*3:=by rw [cX,rwZ_len hwl,dA];omega
      have hadd:IntKind.i64.wrap ((i:Int)+1)=((i+1:Nat):Int):=by rw [cH V3];omega
      have hnc3:(rwZ (rs.take i) ws).map CV.val++[.val (.int .i64 r.nw),.val (.int .i64 r.old),.val (.slice none 0 0)]=(rwZ (rs.take i++[r]) (ws++[.slice none 0 0])).map .val:=by
       rw [rwZ_add hwl];simp
      (refine U19 ?_;refine aZ (zs:=[.int .i64 0,.int .i64 0,.slice none 0 0]) (sz:=3) (e:=39) (cs':=[.val (.int .i64 r.nw),.val (.int .i64 r.old),.val (.slice none 0 0)]) V5 O O O O O O dS<|K.appendNil (by_:=40) (e:=39) (e2:=39) (l2:=[.val (.int .i64 r.nw),.val (.int .i64 r.old),.val (.slice none 0 0)]) O O O (dO _) O O VA V5 V5 V3 V3 O dS ?_;refine U8 ?_)
      refine cE (σ':=⟨[(1,Lp 1),(2,Lp 2),(3,Lp 3),(4,Ln .i64 (i+1:Nat))],[(600,some ⟨39,(rwZ (rs.take (i+1)) (ws++[.slice none 0 0])).map .val,true⟩),(3,some ⟨42,[.val (.int .i64 va),.val (.int .i64 vb),.slc 600 0 (i+1) 3],false⟩),v3B 42 2 0 0 none 0 0,v3B 36 1 va vb (some ⟨blk,off,none⟩) rs.length cap],joinM X H⟩) ?_ (cD ⟨rs.length-(i+1),by omega,i+1,ws++[.slice none 0 0],H,by omega,O,hO,?_,.inr ⟨by omega,O⟩⟩)
      ·rw [take_snoc hr]
       subst hi0
       rw [show rs.take 0=[] from rfl,show ws=[] from List.eq_nil_of_length_eq_zero (by have:=GR.len;rw [dA] at this;omega)]
       exact Le.ofR [(600,95)] V8 V1 V2 V2 V0 V2 V2
      ·rw [take_snoc hr]
       exact GR.push (by rw [show r.ex=[] from List.eq_nil_of_length_eq_zero V3];exact CodesIn.nilIn)
     obtain ⟨c,hc⟩:=wg hkl
     obtain ⟨eb,eo,earr,eel,efr,vad,vcap,rfl,hEX,hec,hI⟩:=hE.get hc
     have hEJ:=joinM_has hO hEX
     have hio3:=wo eo k 1
     have h80:=h12.2 c (dE hc)
     have hvk:=GF.len
     rw [dA] at hvk
     have hvl:(vs.map CV.val).length=k*1:=by rw [cX];omega
     subst hk0
     (refine U19 ?_;refine aZ (zs:=[]) (sz:=6) (e:=92) V5 O O O O O O dS ?_;refine U8 ?_)
     refine cL (fun m σ=>∃ n:Nat,n≤c.length∧m=c.length-n∧σ=⟨[(1,Lp 1),(2,Lp 2),(3,Lp 3),(4,Ln .i64 (i:Nat)),(5,Lp 5),(6,Ln .i64 (0:Nat)),(7,.sv (.one (.slc 500 0 (n) 6))),(8,Ln .i64 (n:Nat))],[(500,some ⟨92,(inssV (c.take (n))).map .val,Nat.blt 0 (n)⟩),v3B 39 5 r.nw r.old none 0 0,v3B 42 3 va vb none 0 0,v3B 42 2 0 0 none 0 0,v3B 36 1 va vb (some ⟨blk,off,none⟩) rs.length cap],joinM X H⟩) c.length
      ⟨⟨[(1,Lp 1),(2,Lp 2),(3,Lp 3),(4,Ln .i64 (i:Nat)),(5,Lp 5),(6,Ln .i64 (0:Nat)),(7,.sv (.one (.slc 500 0 (0) 6))),(8,Ln .i64 (0:Nat))],[(500,some ⟨92,(inssV (c.take (0))).map .val,Nat.blt 0 (0)⟩),v3B 39 5 r.nw r.old none 0 0,v3B 42 3 va vb none 0 0,v3B 42 2 0 0 none 0 0,v3B 36 1 va vb (some ⟨blk,off,none⟩) rs.length cap],joinM X H⟩,Le.ofR [(500,46)] V15 V1 V2 V2 V0 V2 V2,0,by omega,by omega,rfl⟩ ?_
     rintro m σ ⟨n,hn,rfl,rfl⟩
     by_cases hnl:n<c.length
     case neg =>
      have e:n=c.length:=by omega
      subst e
      have hadd:IntKind.i64.wrap (((0:Nat):Int)+1)=((0+1:Nat):Int):=rfl
      (refine U22 ?_;refine aZ (zs:=[.slice none 0 0]) (sz:=1) (e:=91) (cs':=[.slc 500 0 c.length 6]) V5 O O O O O O dS<|K.appendNil (by_:=24) (e:=91) (e2:=91) (l2:=[.slc 500 0 c.length 6]) O O O (dO _) O O VA V5 V5 V3 V3 O dS ?_;refine U8 ?_)
      refine cE (σ':=⟨[(1,Lp 1),(2,Lp 2),(3,Lp 3),(4,Ln .i64 (i:Nat)),(5,Lp 5),(6,Ln .i64 (0+1:Nat))],[(601,some ⟨91,vs.map .val ++ .slc 500 0 c.length 6::([]:List Value).map .val,true⟩),(500,some ⟨92,(inssV c).map .val,Nat.blt 0 c.length⟩),(5,some ⟨39,[.val (.int .i64 r.nw),.val (.int .i64 r.old),.slc 601 0 (0+1) 1],false⟩),v3B 42 3 va vb none 0 0,v3B 42 2 0 0 none 0 0,v3B 36 1 va vb (some ⟨blk,off,none⟩) rs.length cap],joinM X H⟩) ?_ ?_
      ·rw [dG]
       rw [show vs=[] from List.eq_nil_of_length_eq_zero (by omega)]
       exact Le.ofR [(601,89)] V11 V1 V2 V2 V0 V2 V2
      refine Leads.closeCell hO (by have:=inssV_len c;rw [cX] at this;exact this) rfl bU rfl V1F rfl rfl fun b o v g1 _ hO3 hv=>cD ⟨r.ex.length-(0+1),by omega,0+1,vs++[v],withBlock H b o,by omega,rfl,hO3,GR.mono (cJ g1),?_,.inr ⟨by omega,?_⟩⟩
      ·rw [take_snoc hc]
       exact (GF.mono (cJ g1)).push (ins_leads hv hI.small)
      ·rw [dI]
       rfl
     obtain ⟨x,hx⟩:=wg hnl
     obtain ⟨xb,xo,xarr,xel,xfr,rfl,hxX,hxz,hxc,_⟩:=hI.at hx
     have hxJ:=joinM_has hO hxX
     have hxo:=wo xo n 6
     have hadd:IntKind.i64.wrap ((n:Int)+1)=((n+1:Nat):Int):=by rw [cH V3];omega
     have hcl:=inssV_len (c.take n)
     rw [dA,Nat.min_eq_left hn] at hcl
     have hnc:=inssV_snoc (c.take n) x (cs:=[.val (.int .i64 x.op),.val (.int .i64 x.a),.val (.int .i64 x.b),.val (.bool x.k.1),.val (.int .u64 (x.k.2/18446744073709551616)),.val (.int .u64 (x.k.2%18446744073709551616))]) rfl
     rw [← take_snoc hx] at hnc
     (refine U46 ?_;refine bJ O O O V28 dS ?_;refine U1 ?_;refine aZ (zs:=[.int .i64 0,.int .i64 0,.int .i64 0,.bool false,.int .u64 0,.int .u64 0]) (sz:=6) (e:=92) (cs':=[.val (.int .i64 x.op),.val (.int .i64 x.a),.val (.int .i64 x.b),.val (.bool x.k.1),.val (.int .u64 (x.k.2/18446744073709551616)),.val (.int .u64 (x.k.2%18446744073709551616))]) V5 O O O O O O dS<|bQ (by_:=48) (e2:=92) (l2:=[.val (.int .i64 x.op),.val (.int .i64 x.a),.val (.int .i64 x.b),.val (.bool x.k.1),.val (.int .u64 (x.k.2/18446744073709551616)),.val (.int .u64 (x.k.2%18446744073709551616))]) (nl:=n+1) (nc:=(inssV (c.take (n+1))).map .val) O O hcl O O (dO _) O O V5 V5 V3 V3 O O hnc dS ?_;refine U7 ?_)
     exact ⟨_,⟨[(1,Lp 1),(2,Lp 2),(3,Lp 3),(4,Ln .i64 (i:Nat)),(5,Lp 5),(6,Ln .i64 (0:Nat)),(7,.sv (.one (.slc 500 0 (n+1) 6))),(8,Ln .i64 (n+1:Nat))],[(500,some ⟨92,(inssV (c.take (n+1))).map .val,Nat.blt 0 (n+1)⟩),v3B 39 5 r.nw r.old none 0 0,v3B 42 3 va vb none 0 0,v3B 42 2 0 0 none 0 0,v3B 36 1 va vb (some ⟨blk,off,none⟩) rs.length cap],joinM X H⟩,by omega,Le.ofR [(500,84)] V15 V1 V2 V2 V0 V2 V2,n+1,by omega,O,O⟩
   ·as_aux_lemma =>
     by_cases hkl:k<r.ex.length
     case neg =>
      have hke:k=r.ex.length:=by omega
      subst hke
      rw [dG] at GF
      have hwl:=GR.len
      have hrl:((rwZ (rs.take i) ws).map CV.val).length=i*3:=by rw [cX,rwZ_len hwl,dA];omega
      have hadd:IntKind.i64.wrap ((i:Int)+1)=((i+1:Nat):Int):=by rw [cH V3];omega
      have hnc3:(rwZ (rs.take i) ws).map CV.val++[.val (.int .i64 r.nw),.val (.int .i64 r.old),.slc 601 0 r.ex.length 1]=(rwZ (rs.take i) ws++[Value.int .i64 r.nw,Value.int .i64 r.old]).map .val ++ .slc 601 0 r.ex.length 1::([]:List Value).map .val:=by
       simp
      (refine U19 ?_;refine aZ (zs:=[.int .i64 0,.int .i64 0,.slice none 0 0]) (sz:=3) (e:=39) (cs':=[.val (.int .i64 r.nw),.val (.int .i64 r.old),.slc 601 0 r.ex.length 1]) V5 O O O O O O dS<|K.appendNil (by_:=40) (e:=39) (e2:=39) (l2:=[.val (.int .i64 r.nw),.val (.int .i64 r.old),.slc 601 0 r.ex.length 1]) O O O (dO _) O O VA V5 V5 V3 V3 O dS ?_;refine U8 ?_)
      refine cE (σ':=⟨[(1,Lp 1),(2,Lp 2),(3,Lp 3),(4,Ln .i64 (i+1:Nat))],[(600,some ⟨39,(rwZ (rs.take i) ws++[Value.int .i64 r.nw,Value.int .i64 r.old]).map .val ++ .slc 601 0 r.ex.length 1::([]:List Value).map .val,true⟩),(601,some ⟨91,vs.map .val,true⟩),(3,some ⟨42,[.val (.int .i64 va),.val (.int .i64 vb),.slc 600 0 (i+1) 3],false⟩),v3B 42 2 0 0 none 0 0,v3B 36 1 va vb (some ⟨blk,off,none⟩) rs.length cap],joinM X H⟩) ?_ ?_
      ·subst hi0
       rw [show rs.take 0=[] from rfl,show ws=[] from List.eq_nil_of_length_eq_zero (by have:=GR.len;rw [dA] at this;omega)]
       exact Le.ofR [(600,95)] V8 V1 V2 V2 V0 V2 V2
      refine Leads.closeCell hO (by have:=GF.len;omega) O bU O V1F O O fun b o v g1 _ hO3 hv=>cD ⟨rs.length-(i+1),by omega,i+1,ws++[v],withBlock H b o,by omega,O,hO3,?_,.inr ⟨by omega,?_⟩⟩
      ·rw [take_snoc hr]
       exact (GR.mono (cJ g1)).push (codes_leads hv (GF.mono (cJ g1)))
      ·rw [take_snoc hr,rwZ_add hwl]
       simp
     obtain ⟨c,hc⟩:=wg hkl
     obtain ⟨eb,eo,earr,eel,efr,vad,vcap,rfl,hEX,hec,hI⟩:=hE.get hc
     have hEJ:=joinM_has hO hEX
     have hio3:=wo eo k 1
     have h80:=h12.2 c (dE hc)
     have hvk:=GF.len
     rw [dA] at hvk
     have hvl:(vs.map CV.val).length=k*1:=by rw [cX];omega
     (refine U19 ?_;refine aZ (zs:=[]) (sz:=6) (e:=92) V5 O O O O O O dS ?_;refine U8 ?_)
     refine cL (fun m σ=>∃ n:Nat,n≤c.length∧m=c.length-n∧σ=⟨[(1,Lp 1),(2,Lp 2),(3,Lp 3),(4,Ln .i64 (i:Nat)),(5,Lp 5),(6,Ln .i64 (k:Nat)),(7,.sv (.one (.slc 500 0 (n) 6))),(8,Ln .i64 (n:Nat))],[(500,some ⟨92,(inssV (c.take (n))).map .val,Nat.blt 0 (n)⟩),(601,some ⟨91,(vs).map .val,true⟩),(5,some ⟨39,[.val (.int .i64 r.nw),.val (.int .i64 r.old),.slc 601 0 (k) 1],false⟩),v3B 42 3 va vb none 0 0,v3B 42 2 0 0 none 0 0,v3B 36 1 va vb (some ⟨blk,off,none⟩) rs.length cap],joinM X H⟩) c.length
      ⟨⟨[(1,Lp 1),(2,Lp 2),(3,Lp 3),(4,Ln .i64 (i:Nat)),(5,Lp 5),(6,Ln .i64 (k:Nat)),(7,.sv (.one (.slc 500 0 (0) 6))),(8,Ln .i64 (0:Nat))],[(500,some ⟨92,(inssV (c.take (0))).map .val,Nat.blt 0 (0)⟩),(601,some ⟨91,(vs).map .val,true⟩),(5,some ⟨39,[.val (.int .i64 r.nw),.val (.int .i64 r.old),.slc 601 0 (k) 1],false⟩),v3B 42 3 va vb none 0 0,v3B 42 2 0 0 none 0 0,v3B 36 1 va vb (some ⟨blk,off,none⟩) rs.length cap],joinM X H⟩,Le.ofR [(500,46)] V15 V1 V2 V2 V0 V2 V2,0,by omega,by omega,rfl⟩ ?_
     rintro m σ ⟨n,hn,rfl,rfl⟩
     by_cases hnl:n<c.length
     case neg =>
      have e:n=c.length:=by omega
      subst e
      have hadd:IntKind.i64.wrap ((k:Int)+1)=((k+1:Nat):Int):=by rw [cH V3];omega
      (refine U22 ?_;refine aZ (zs:=[.slice none 0 0]) (sz:=1) (e:=91) (cs':=[.slc 500 0 c.length 6]) V5 O O O O O O dS<|bQ (by_:=24) (e2:=91) (l2:=[.slc 500 0 c.length 6]) (nl:=k+1) (nc:=vs.map .val++[.slc 500 0 c.length 6]) O O hvl O O (dO _) O O V5 V5 V3 V3 O O O dS ?_;refine U8 ?_)
      refine cE (σ':=⟨[(1,Lp 1),(2,Lp 2),(3,Lp 3),(4,Ln .i64 (i:Nat)),(5,Lp 5),(6,Ln .i64 (k+1:Nat))],[(601,some ⟨91,vs.map .val ++ .slc 500 0 c.length 6::([]:List Value).map .val,true⟩),(500,some ⟨92,(inssV c).map .val,Nat.blt 0 c.length⟩),(5,some ⟨39,[.val (.int .i64 r.nw),.val (.int .i64 r.old),.slc 601 0 (k+1) 1],false⟩),v3B 42 3 va vb none 0 0,v3B 42 2 0 0 none 0 0,v3B 36 1 va vb (some ⟨blk,off,none⟩) rs.length cap],joinM X H⟩) ?_ ?_
      ·rw [dG]
       exact Le.ofR [(601,89)] V11 V1 V2 V2 V0 V2 V2
      refine Leads.closeCell hO (by have:=inssV_len c;rw [cX] at this;exact this) rfl bU rfl V1F rfl rfl fun b o v g1 _ hO3 hv=>cD ⟨r.ex.length-(k+1),by omega,k+1,vs++[v],withBlock H b o,by omega,rfl,hO3,GR.mono (cJ g1),?_,.inr ⟨by omega,?_⟩⟩
      ·rw [take_snoc hc]
       exact (GF.mono (cJ g1)).push (ins_leads hv hI.small)
      ·rw [dI]
       rfl
     obtain ⟨x,hx⟩:=wg hnl
     obtain ⟨xb,xo,xarr,xel,xfr,rfl,hxX,hxz,hxc,_⟩:=hI.at hx
     have hxJ:=joinM_has hO hxX
     have hxo:=wo xo n 6
     have hadd:IntKind.i64.wrap ((n:Int)+1)=((n+1:Nat):Int):=by rw [cH V3];omega
     have hcl:=inssV_len (c.take n)
     rw [dA,Nat.min_eq_left hn] at hcl
     have hnc:=inssV_snoc (c.take n) x (cs:=[.val (.int .i64 x.op),.val (.int .i64 x.a),.val (.int .i64 x.b),.val (.bool x.k.1),.val (.int .u64 (x.k.2/18446744073709551616)),.val (.int .u64 (x.k.2%18446744073709551616))]) rfl
     rw [← take_snoc hx] at hnc
     (refine U46 ?_;refine bJ O O O V28 dS ?_;refine U1 ?_;refine aZ (zs:=[.int .i64 0,.int .i64 0,.int .i64 0,.bool false,.int .u64 0,.int .u64 0]) (sz:=6) (e:=92) (cs':=[.val (.int .i64 x.op),.val (.int .i64 x.a),.val (.int .i64 x.b),.val (.bool x.k.1),.val (.int .u64 (x.k.2/18446744073709551616)),.val (.int .u64 (x.k.2%18446744073709551616))]) V5 O O O O O O dS<|bQ (by_:=48) (e2:=92) (l2:=[.val (.int .i64 x.op),.val (.int .i64 x.a),.val (.int .i64 x.b),.val (.bool x.k.1),.val (.int .u64 (x.k.2/18446744073709551616)),.val (.int .u64 (x.k.2%18446744073709551616))]) (nl:=n+1) (nc:=(inssV (c.take (n+1))).map .val) O O hcl O O (dO _) O O V5 V5 V3 V3 O O hnc dS ?_;refine U7 ?_)
     exact ⟨_,⟨[(1,Lp 1),(2,Lp 2),(3,Lp 3),(4,Ln .i64 (i:Nat)),(5,Lp 5),(6,Ln .i64 (k:Nat)),(7,.sv (.one (.slc 500 0 (n+1) 6))),(8,Ln .i64 (n+1:Nat))],[(500,some ⟨92,(inssV (c.take (n+1))).map .val,Nat.blt 0 (n+1)⟩),(601,some ⟨91,(vs).map .val,true⟩),(5,some ⟨39,[.val (.int .i64 r.nw),.val (.int .i64 r.old),.slc 601 0 (k) 1],false⟩),v3B 42 3 va vb none 0 0,v3B 42 2 0 0 none 0 0,v3B 36 1 va vb (some ⟨blk,off,none⟩) rs.length cap],joinM X H⟩,by omega,Le.ofR [(500,84)] V15 V1 V2 V2 V0 V2 V2,n+1,by omega,O,O⟩
 ·as_aux_lemma =>
   by_cases hlt:i<rs.length
   case neg =>
    have hie:i=rs.length:=by omega
    subst hie
    rw [dG] at GR ⊢
    refine U17 ?_
    refine cE (σ':=⟨[(2,Lp 2)],[(600,some ⟨39,(rwZ rs ws).map .val,true⟩),(2,some ⟨42,[.val (.int .i64 va),.val (.int .i64 vb),.slc 600 0 rs.length 3],false⟩)],joinM X H⟩) (Le.of V13 VE V2 V2 V0) ?_
    refine Leads.spare fun sp=>rl_shut hO GR hsm (cD ?_)
    exact ⟨[(1000001,600)],⟨[_],⟨⟨_,_,O,O,O,.inl ⟨AggT.h,O⟩⟩,trivial⟩,O⟩,V1,O,O⟩
   obtain ⟨r,hr⟩:=wg hlt
   obtain ⟨blk,off,arr,el,fr,ead,ecap,rfl,hX,hsiz,hcs,g1,g2,g3,hE⟩:=hin.get hr
   have hXJ:=joinM_has hO hX
   have hio:=wo off i 3
   have h12:=hg.2 r (dE hr)
   (refine aA<|aA<|rgN<|kmv O<|kfa O O ?_;refine kl1 O O O<|K.lenX O cC O dS ?_;refine klt O O (cP V3)<|RunK.nil<|LWP.condT O ?_;refine LWP.skip ?_;refine aA<|LWP.block<|aA<|rgD mixed<|kfa O O ?_;refine kl1 O O O<|kmv O<|K.indexX O O cC V3 hio dS<|K.fieldAddrX O O dS ?_;refine K.loadX O hXJ O g1 dS<|kfa O O ?_;refine kl1 O O O<|kmv O<|K.indexX O O cC V3 hio dS<|K.fieldAddrX O O dS ?_;refine K.loadX O hXJ O g2 dS<|aT O O V2 V28 dS ?_;refine K.alloc O dS ?_;refine K.storeAll O O O O O O dS ?_;refine RunK.nil<|rgA ?_;refine aA<|aA<|rgN<|kas O<|RunK.nil<|LWP.block ?_)
   refine cM (fun m σ=>∃ (k:Nat) (vs:List Value) (H:Nat→Option Obj),k≤r.ex.length∧m=r.ex.length-k∧OwnedM C X H∧RulesH H ws (rs.take i)∧FormsH H vs (r.ex.take k)∧((k=0∧σ=⟨[(1,Lp 1),(2,Lp 2),(3,Lp 3),(4,Ln .i64 (i:Nat)),(5,Lp 5),(6,Ln .i64 (k:Nat))],[v3B 39 5 r.nw r.old none 0 0,(600,some ⟨39,(rwZ (rs.take i) ws).map .val,true⟩),(3,some ⟨42,[.val (.int .i64 va),.val (.int .i64 vb),.slc 600 0 (i) 3],false⟩),v3B 42 2 0 0 none 0 0,v3B 36 1 va vb (some ⟨blk,off,none⟩) rs.length cap],joinM X H⟩)∨(0<k∧σ=⟨[(1,Lp 1),(2,Lp 2),(3,Lp 3),(4,Ln .i64 (i:Nat)),(5,Lp 5),(6,Ln .i64 (k:Nat))],[(601,some ⟨91,(vs).map .val,true⟩),(5,some ⟨39,[.val (.int .i64 r.nw),.val (.int .i64 r.old),.slc 601 0 (k) 1],false⟩),(600,some ⟨39,(rwZ (rs.take i) ws).map .val,true⟩),(3,some ⟨42,[.val (.int .i64 va),.val (.int .i64 vb),.slc 600 0 (i) 3],false⟩),v3B 42 2 0 0 none 0 0,v3B 36 1 va vb (some ⟨blk,off,none⟩) rs.length cap],joinM X H⟩))) r.ex.length
    (cE (σ':=⟨[(1,Lp 1),(2,Lp 2),(3,Lp 3),(4,Ln .i64 (i:Nat)),(5,Lp 5),(6,Ln .i64 (0:Nat))],[v3B 39 5 r.nw r.old none 0 0,(600,some ⟨39,(rwZ (rs.take i) ws).map .val,true⟩),(3,some ⟨42,[.val (.int .i64 va),.val (.int .i64 vb),.slc 600 0 (i) 3],false⟩),v3B 42 2 0 0 none 0 0,v3B 36 1 va vb (some ⟨blk,off,none⟩) rs.length cap],joinM X H⟩) (Le.of V11 V10 V2 V2 V0) (cD ⟨0,[],H,by omega,by omega,hO,GR,FormsH.nil,.inl ⟨rfl,rfl⟩⟩)) ?_
   clear hXJ hO GR
   clear H
   rintro m σ ⟨k,vs,H,hk,rfl,hO,GR,GF,hst⟩
   have hXJ:=joinM_has hO hX
   rcases hst with ⟨hk0,rfl⟩|⟨hk0,rfl⟩
   ·as_aux_lemma =>
     by_cases hkl:k<r.ex.length
     case neg =>
      have hke:k=r.ex.length:=by omega
      subst hke
      rw [dG] at GF
      have hwl:=GR.len
      have hrl:((rwZ (rs.take i) ws).map CV.val).length=i*3:=by rw [cX,rwZ_len hwl,dA];omega
      have hadd:IntKind.i64.wrap ((i:Int)+1)=((i+1:Nat):Int):=by rw [cH V3];omega
      have hnc3:(rwZ (rs.take i) ws).map CV.val++[.val (.int .i64 r.nw),.val (.int .i64 r.old),.val (.slice none 0 0)]=(rwZ (rs.take i++[r]) (ws++[.slice none 0 0])).map .val:=by
       rw [rwZ_add hwl];simp
      (refine U19 ?_;refine aZ (zs:=[.int .i64 0,.int .i64 0,.slice none 0 0]) (sz:=3) (e:=39) (cs':=[.val (.int .i64 r.nw),.val (.int .i64 r.old),.val (.slice none 0 0)]) V5 O O O O O O dS<|bQ (by_:=40) (e2:=39) (l2:=[.val (.int .i64 r.nw),.val (.int .i64 r.old),.val (.slice none 0 0)]) (nl:=i+1) (nc:=(rwZ (rs.take i++[r]) (ws++[.slice none 0 0])).map .val) O O hrl O O (dO _) O O V5 V5 V3 V3 O O hnc3 dS ?_;refine U8 ?_)
      refine cE (σ':=⟨[(1,Lp 1),(2,Lp 2),(3,Lp 3),(4,Ln .i64 (i+1:Nat))],[(600,some ⟨39,(rwZ (rs.take (i+1)) (ws++[.slice none 0 0])).map .val,true⟩),(3,some ⟨42,[.val (.int .i64 va),.val (.int .i64 vb),.slc 600 0 (i+1) 3],false⟩),v3B 42 2 0 0 none 0 0,v3B 36 1 va vb (some ⟨blk,off,none⟩) rs.length cap],joinM X H⟩) ?_ (cD ⟨rs.length-(i+1),by omega,i+1,ws++[.slice none 0 0],H,by omega,O,hO,?_,.inr ⟨by omega,O⟩⟩)
      ·rw [take_snoc hr]
       exact Le.ofR [(600,95)] V8 V1 V2 V2 V0 V2 V2
      ·rw [take_snoc hr]
       exact GR.push (by rw [show r.ex=[] from List.eq_nil_of_length_eq_zero V3];exact CodesIn.nilIn)
     obtain ⟨c,hc⟩:=wg hkl
     obtain ⟨eb,eo,earr,eel,efr,vad,vcap,rfl,hEX,hec,hI⟩:=hE.get hc
     have hEJ:=joinM_has hO hEX
     have hio3:=wo eo k 1
     have h80:=h12.2 c (dE hc)
     have hvk:=GF.len
     rw [dA] at hvk
     have hvl:(vs.map CV.val).length=k*1:=by rw [cX];omega
     subst hk0
     (refine U19 ?_;refine aZ (zs:=[]) (sz:=6) (e:=92) V5 O O O O O O dS ?_;refine U8 ?_)
     refine cL (fun m σ=>∃ n:Nat,n≤c.length∧m=c.length-n∧σ=⟨[(1,Lp 1),(2,Lp 2),(3,Lp 3),(4,Ln .i64 (i:Nat)),(5,Lp 5),(6,Ln .i64 (0:Nat)),(7,.sv (.one (.slc 500 0 (n) 6))),(8,Ln .i64 (n:Nat))],[(500,some ⟨92,(inssV (c.take (n))).map .val,Nat.blt 0 (n)⟩),v3B 39 5 r.nw r.old none 0 0,(600,some ⟨39,(rwZ (rs.take i) ws).map .val,true⟩),(3,some ⟨42,[.val (.int .i64 va),.val (.int .i64 vb),.slc 600 0 (i) 3],false⟩),v3B 42 2 0 0 none 0 0,v3B 36 1 va vb (some ⟨blk,off,none⟩) rs.length cap],joinM X H⟩) c.length
      ⟨⟨[(1,Lp 1),(2,Lp 2),(3,Lp 3),(4,Ln .i64 (i:Nat)),(5,Lp 5),(6,Ln .i64 (0:Nat)),(7,.sv (.one (.slc 500 0 (0) 6))),(8,Ln .i64 (0:Nat))],[(500,some ⟨92,(inssV (c.take (0))).map .val,Nat.blt 0 (0)⟩),v3B 39 5 r.nw r.old none 0 0,(600,some ⟨39,(rwZ (rs.take i) ws).map .val,true⟩),(3,some ⟨42,[.val (.int .i64 va),.val (.int .i64 vb),.slc 600 0 (i) 3],false⟩),v3B 42 2 0 0 none 0 0,v3B 36 1 va vb (some ⟨blk,off,none⟩) rs.length cap],joinM X H⟩,Le.ofR [(500,46)] V15 V1 V2 V2 V0 V2 V2,0,by omega,by omega,rfl⟩ ?_
     rintro m σ ⟨n,hn,rfl,rfl⟩
     by_cases hnl:n<c.length
     case neg =>
      have e:n=c.length:=by omega
      subst e
      have hadd:IntKind.i64.wrap (((0:Nat):Int)+1)=((0+1:Nat):Int):=rfl
      (refine U22 ?_;refine aZ (zs:=[.slice none 0 0]) (sz:=1) (e:=91) (cs':=[.slc 500 0 c.length 6]) V5 O O O O O O dS<|K.appendNil (by_:=24) (e:=91) (e2:=91) (l2:=[.slc 500 0 c.length 6]) O O O (dO _) O O VA V5 V5 V3 V3 O dS ?_;refine U8 ?_)
      refine cE (σ':=⟨[(1,Lp 1),(2,Lp 2),(3,Lp 3),(4,Ln .i64 (i:Nat)),(5,Lp 5),(6,Ln .i64 (0+1:Nat))],[(601,some ⟨91,vs.map .val ++ .slc 500 0 c.length 6::([]:List Value).map .val,true⟩),(500,some ⟨92,(inssV c).map .val,Nat.blt 0 c.length⟩),(5,some ⟨39,[.val (.int .i64 r.nw),.val (.int .i64 r.old),.slc 601 0 (0+1) 1],false⟩),(600,some ⟨39,(rwZ (rs.take i) ws).map .val,true⟩),(3,some ⟨42,[.val (.int .i64 va),.val (.int .i64 vb),.slc 600 0 (i) 3],false⟩),v3B 42 2 0 0 none 0 0,v3B 36 1 va vb (some ⟨blk,off,none⟩) rs.length cap],joinM X H⟩) ?_ ?_
      ·rw [dG]
       rw [show vs=[] from List.eq_nil_of_length_eq_zero (by omega)]
       exact Le.ofR [(601,89)] V11 V1 V2 V2 V0 V2 V2
      refine Leads.closeCell hO (by have:=inssV_len c;rw [cX] at this;exact this) rfl bU rfl V1F rfl rfl fun b o v g1 _ hO3 hv=>cD ⟨r.ex.length-(0+1),by omega,0+1,vs++[v],withBlock H b o,by omega,rfl,hO3,GR.mono (cJ g1),?_,.inr ⟨by omega,?_⟩⟩
      ·rw [take_snoc hc]
       exact (GF.mono (cJ g1)).push (ins_leads hv hI.small)
      ·rw [dI]
       rfl
     obtain ⟨x,hx⟩:=wg hnl
     obtain ⟨xb,xo,xarr,xel,xfr,rfl,hxX,hxz,hxc,_⟩:=hI.at hx
     have hxJ:=joinM_has hO hxX
     have hxo:=wo xo n 6
     have hadd:IntKind.i64.wrap ((n:Int)+1)=((n+1:Nat):Int):=by rw [cH V3];omega
     have hcl:=inssV_len (c.take n)
     rw [dA,Nat.min_eq_left hn] at hcl
     have hnc:=inssV_snoc (c.take n) x (cs:=[.val (.int .i64 x.op),.val (.int .i64 x.a),.val (.int .i64 x.b),.val (.bool x.k.1),.val (.int .u64 (x.k.2/18446744073709551616)),.val (.int .u64 (x.k.2%18446744073709551616))]) rfl
     rw [← take_snoc hx] at hnc
     (refine U46 ?_;refine bJ O O O V28 dS ?_;refine U1 ?_;refine aZ (zs:=[.int .i64 0,.int .i64 0,.int .i64 0,.bool false,.int .u64 0,.int .u64 0]) (sz:=6) (e:=92) (cs':=[.val (.int .i64 x.op),.val (.int .i64 x.a),.val (.int .i64 x.b),.val (.bool x.k.1),.val (.int .u64 (x.k.2/18446744073709551616)),.val (.int .u64 (x.k.2%18446744073709551616))]) V5 O O O O O O dS<|bQ (by_:=48) (e2:=92) (l2:=[.val (.int .i64 x.op),.val (.int .i64 x.a),.val (.int .i64 x.b),.val (.bool x.k.1),.val (.int .u64 (x.k.2/18446744073709551616)),.val (.int .u64 (x.k.2%18446744073709551616))]) (nl:=n+1) (nc:=(inssV (c.take (n+1))).map .val) O O hcl O O (dO _) O O V5 V5 V3 V3 O O hnc dS ?_;refine U7 ?_)
     exact ⟨_,⟨[(1,Lp 1),(2,Lp 2),(3,Lp 3),(4,Ln .i64 (i:Nat)),(5,Lp 5),(6,Ln .i64 (0:Nat)),(7,.sv (.one (.slc 500 0 (n+1) 6))),(8,Ln .i64 (n+1:Nat))],[(500,some ⟨92,(inssV (c.take (n+1))).map .val,Nat.blt 0 (n+1)⟩),v3B 39 5 r.nw r.old none 0 0,(600,some ⟨39,(rwZ (rs.take i) ws).map .val,true⟩),(3,some ⟨42,[.val (.int .i64 va),.val (.int .i64 vb),.slc 600 0 (i) 3],false⟩),v3B 42 2 0 0 none 0 0,v3B 36 1 va vb (some ⟨blk,off,none⟩) rs.length cap],joinM X H⟩,by omega,Le.ofR [(500,84)] V15 V1 V2 V2 V0 V2 V2,n+1,by omega,O,O⟩
   ·as_aux_lemma =>
     by_cases hkl:k<r.ex.length
     case neg =>
      have hke:k=r.ex.length:=by omega
      subst hke
      rw [dG] at GF
      have hwl:=GR.len
      have hrl:((rwZ (rs.take i) ws).map CV.val).length=i*3:=by rw [cX,rwZ_len hwl,dA];omega
      have hadd:IntKind.i64.wrap ((i:Int)+1)=((i+1:Nat):Int):=by rw [cH V3];omega
      have hnc3:(rwZ (rs.take i) ws).map CV.val++[.val (.int .i64 r.nw),.val (.int .i64 r.old),.slc 601 0 r.ex.length 1]=(rwZ (rs.take i) ws++[Value.int .i64 r.nw,Value.int .i64 r.old]).map .val ++ .slc 601 0 r.ex.length 1::([]:List Value).map .val:=by
       simp
      (refine U19 ?_;refine aZ (zs:=[.int .i64 0,.int .i64 0,.slice none 0 0]) (sz:=3) (e:=39) (cs':=[.val (.int .i64 r.nw),.val (.int .i64 r.old),.slc 601 0 r.ex.length 1]) V5 O O O O O O dS<|bQ (by_:=40) (e2:=39) (l2:=[.val (.int .i64 r.nw),.val (.int .i64 r.old),.slc 601 0 r.ex.length 1]) (nl:=i+1) (nc:=(rwZ (rs.take i) ws++[Value.int .i64 r.nw,Value.int .i64 r.old]).map .val ++ .slc 601 0 r.ex.length 1::([]:List Value).map .val) O O hrl O O (dO _) O O V5 V5 V3 V3 O O hnc3 dS ?_;refine U8 ?_)
      refine cE (σ':=⟨[(1,Lp 1),(2,Lp 2),(3,Lp 3),(4,Ln .i64 (i+1:Nat))],[(600,some ⟨39,(rwZ (rs.take i) ws++[Value.int .i64 r.nw,Value.int .i64 r.old]).map .val ++ .slc 601 0 r.ex.length 1::([]:List Value).map .val,true⟩),(601,some ⟨91,vs.map .val,true⟩),(3,some ⟨42,[.val (.int .i64 va),.val (.int .i64 vb),.slc 600 0 (i+1) 3],false⟩),v3B 42 2 0 0 none 0 0,v3B 36 1 va vb (some ⟨blk,off,none⟩) rs.length cap],joinM X H⟩) ?_ ?_
      ·exact Le.ofR [(600,95)] V8 V1 V2 V2 V0 V2 V2
      refine Leads.closeCell hO (by have:=GF.len;omega) O bU O V1F O O fun b o v g1 _ hO3 hv=>cD ⟨rs.length-(i+1),by omega,i+1,ws++[v],withBlock H b o,by omega,O,hO3,?_,.inr ⟨by omega,?_⟩⟩
      ·rw [take_snoc hr]
       exact (GR.mono (cJ g1)).push (codes_leads hv (GF.mono (cJ g1)))
      ·rw [take_snoc hr,rwZ_add hwl]
       simp
     obtain ⟨c,hc⟩:=wg hkl
     obtain ⟨eb,eo,earr,eel,efr,vad,vcap,rfl,hEX,hec,hI⟩:=hE.get hc
     have hEJ:=joinM_has hO hEX
     have hio3:=wo eo k 1
     have h80:=h12.2 c (dE hc)
     have hvk:=GF.len
     rw [dA] at hvk
     have hvl:(vs.map CV.val).length=k*1:=by rw [cX];omega
     (refine U19 ?_;refine aZ (zs:=[]) (sz:=6) (e:=92) V5 O O O O O O dS ?_;refine U8 ?_)
     refine cL (fun m σ=>∃ n:Nat,n≤c.length∧m=c.length-n∧σ=⟨[(1,Lp 1),(2,Lp 2),(3,Lp 3),(4,Ln .i64 (i:Nat)),(5,Lp 5),(6,Ln .i64 (k:Nat)),(7,.sv (.one (.slc 500 0 (n) 6))),(8,Ln .i64 (n:Nat))],[(500,some ⟨92,(inssV (c.take (n))).map .val,Nat.blt 0 (n)⟩),(601,some ⟨91,(vs).map .val,true⟩),(5,some ⟨39,[.val (.int .i64 r.nw),.val (.int .i64 r.old),.slc 601 0 (k) 1],false⟩),(600,some ⟨39,(rwZ (rs.take i) ws).map .val,true⟩),(3,some ⟨42,[.val (.int .i64 va),.val (.int .i64 vb),.slc 600 0 (i) 3],false⟩),v3B 42 2 0 0 none 0 0,v3B 36 1 va vb (some ⟨blk,off,none⟩) rs.length cap],joinM X H⟩) c.length
      ⟨⟨[(1,Lp 1),(2,Lp 2),(3,Lp 3),(4,Ln .i64 (i:Nat)),(5,Lp 5),(6,Ln .i64 (k:Nat)),(7,.sv (.one (.slc 500 0 (0) 6))),(8,Ln .i64 (0:Nat))],[(500,some ⟨92,(inssV (c.take (0))).map .val,Nat.blt 0 (0)⟩),(601,some ⟨91,(vs).map .val,true⟩),(5,some ⟨39,[.val (.int .i64 r.nw),.val (.int .i64 r.old),.slc 601 0 (k) 1],false⟩),(600,some ⟨39,(rwZ (rs.take i) ws).map .val,true⟩),(3,some ⟨42,[.val (.int .i64 va),.val (.int .i64 vb),.slc 600 0 (i) 3],false⟩),v3B 42 2 0 0 none 0 0,v3B 36 1 va vb (some ⟨blk,off,none⟩) rs.length cap],joinM X H⟩,Le.ofR [(500,46)] V15 V1 V2 V2 V0 V2 V2,0,by omega,by omega,rfl⟩ ?_
     rintro m σ ⟨n,hn,rfl,rfl⟩
     by_cases hnl:n<c.length
     case neg =>
      have e:n=c.length:=by omega
      subst e
      have hadd:IntKind.i64.wrap ((k:Int)+1)=((k+1:Nat):Int):=by rw [cH V3];omega
      (refine U22 ?_;refine aZ (zs:=[.slice none 0 0]) (sz:=1) (e:=91) (cs':=[.slc 500 0 c.length 6]) V5 O O O O O O dS<|bQ (by_:=24) (e2:=91) (l2:=[.slc 500 0 c.length 6]) (nl:=k+1) (nc:=vs.map .val++[.slc 500 0 c.length 6]) O O hvl O O (dO _) O O V5 V5 V3 V3 O O O dS ?_;refine U8 ?_)
      refine cE (σ':=⟨[(1,Lp 1),(2,Lp 2),(3,Lp 3),(4,Ln .i64 (i:Nat)),(5,Lp 5),(6,Ln .i64 (k+1:Nat))],[(601,some ⟨91,vs.map .val ++ .slc 500 0 c.length 6::([]:List Value).map .val,true⟩),(500,some ⟨92,(inssV c).map .val,Nat.blt 0 c.length⟩),(5,some ⟨39,[.val (.int .i64 r.nw),.val (.int .i64 r.old),.slc 601 0 (k+1) 1],false⟩),(600,some ⟨39,(rwZ (rs.take i) ws).map .val,true⟩),(3,some ⟨42,[.val (.int .i64 va),.val (.int .i64 vb),.slc 600 0 (i) 3],false⟩),v3B 42 2 0 0 none 0 0,v3B 36 1 va vb (some ⟨blk,off,none⟩) rs.length cap],joinM X H⟩) ?_ ?_
      ·rw [dG]
       exact Le.ofR [(601,89)] V11 V1 V2 V2 V0 V2 V2
      refine Leads.closeCell hO (by have:=inssV_len c;rw [cX] at this;exact this) rfl bU rfl V1F rfl rfl fun b o v g1 _ hO3 hv=>cD ⟨r.ex.length-(k+1),by omega,k+1,vs++[v],withBlock H b o,by omega,rfl,hO3,GR.mono (cJ g1),?_,.inr ⟨by omega,?_⟩⟩
      ·rw [take_snoc hc]
       exact (GF.mono (cJ g1)).push (ins_leads hv hI.small)
      ·rw [dI]
       rfl
     obtain ⟨x,hx⟩:=wg hnl
     obtain ⟨xb,xo,xarr,xel,xfr,rfl,hxX,hxz,hxc,_⟩:=hI.at hx
     have hxJ:=joinM_has hO hxX
     have hxo:=wo xo n 6
     have hadd:IntKind.i64.wrap ((n:Int)+1)=((n+1:Nat):Int):=by rw [cH V3];omega
     have hcl:=inssV_len (c.take n)
     rw [dA,Nat.min_eq_left hn] at hcl
     have hnc:=inssV_snoc (c.take n) x (cs:=[.val (.int .i64 x.op),.val (.int .i64 x.a),.val (.int .i64 x.b),.val (.bool x.k.1),.val (.int .u64 (x.k.2/18446744073709551616)),.val (.int .u64 (x.k.2%18446744073709551616))]) rfl
     rw [← take_snoc hx] at hnc
     (refine U46 ?_;refine bJ O O O V28 dS ?_;refine U1 ?_;refine aZ (zs:=[.int .i64 0,.int .i64 0,.int .i64 0,.bool false,.int .u64 0,.int .u64 0]) (sz:=6) (e:=92) (cs':=[.val (.int .i64 x.op),.val (.int .i64 x.a),.val (.int .i64 x.b),.val (.bool x.k.1),.val (.int .u64 (x.k.2/18446744073709551616)),.val (.int .u64 (x.k.2%18446744073709551616))]) V5 O O O O O O dS<|bQ (by_:=48) (e2:=92) (l2:=[.val (.int .i64 x.op),.val (.int .i64 x.a),.val (.int .i64 x.b),.val (.bool x.k.1),.val (.int .u64 (x.k.2/18446744073709551616)),.val (.int .u64 (x.k.2%18446744073709551616))]) (nl:=n+1) (nc:=(inssV (c.take (n+1))).map .val) O O hcl O O (dO _) O O V5 V5 V3 V3 O O hnc dS ?_;refine U7 ?_)
     exact ⟨_,⟨[(1,Lp 1),(2,Lp 2),(3,Lp 3),(4,Ln .i64 (i:Nat)),(5,Lp 5),(6,Ln .i64 (k:Nat)),(7,.sv (.one (.slc 500 0 (n+1) 6))),(8,Ln .i64 (n+1:Nat))],[(500,some ⟨92,(inssV (c.take (n+1))).map .val,Nat.blt 0 (n+1)⟩),(601,some ⟨91,(vs).map .val,true⟩),(5,some ⟨39,[.val (.int .i64 r.nw),.val (.int .i64 r.old),.slc 601 0 (k) 1],false⟩),(600,some ⟨39,(rwZ (rs.take i) ws).map .val,true⟩),(3,some ⟨42,[.val (.int .i64 va),.val (.int .i64 vb),.slc 600 0 (i) 3],false⟩),v3B 42 2 0 0 none 0 0,v3B 36 1 va vb (some ⟨blk,off,none⟩) rs.length cap],joinM X H⟩,by omega,Le.ofR [(500,84)] V15 V1 V2 V2 V0 V2 V2,n+1,by omega,O,O⟩
end Go.Proofs.YtopiioklkkiedaaGreatDoor
end
section
set_option maxHeartbeats 12800000
set_option maxRecDepth 100000
namespace Go.Proofs.YtopiioklkkiedaaGreatDoor
open Go Go.Lg Go.Lg.Fml Go.Lg.Fld Go.Lg.Arith
set_option maxRecDepth 100000
variable (X:Nat→Option Obj)
set_option maxHeartbeats 25600000 in
theorem rVal14 (a b:Cp) (r:Rl) (ns:List Nm) (aad bad ead vad:Option Addr) (acap bcap ecap vcap:Nat) (hA:FieldsIn X aad a.fs) (hB:FieldsIn X bad b.fs) (hE:CodesIn X ead r.ex) (hN:NumsIn X vad ns) (hvc:ns.length≤vcap) (la:a.fs.length≤12) (lb:b.fs.length≤12) (lr:r.ex.length≤12∧∀ c∈r.ex,c.length≤80) (ln:ns.length≤1000):
  MSpec Tryz.prog X 13 [Cx a aad acap,Cx b bad bcap,LPg r.nw r.old ead r.ex.length ecap,Lx vad ns.length vcap] [] (vR14 (valE a.fs b.fs r ns) (valN a.fs b.fs r ns)) (vBx14 (valE a.fs b.fs r ns) (valN a.fs b.fs r ns)):=by
 have hF0:=refFit_spec X aad vad acap vcap a.fs ns hA V3 hN V3
 have hR:=rRule13 X a b r aad bad ead acap bcap ecap hA hB hE V3 V3 (fun c hc=>by have:=lr.2 c hc;omega)
 refine cG Tryz.func13 rfl V5 rfl (by unfold vR14 vBx14;split<;>rfl) (by unfold vBx14;split<;>exact V0) rfl rfl ?_
 intro C
 by_cases z1:fitErr a.fs ns=0
 case neg =>
  rw [show valE a.fs b.fs r ns=fitErr a.fs ns by unfold valE;rw [if_neg z1]]
  unfold vR14 vBx14
  rw [if_neg z1,if_neg z1]
  generalize fitErr a.fs ns=e at *
  (refine U20 ?_;refine kne rfl rfl (r:=true) (cU z1) ?_;refine U9 ?_)
  exact V1C
 rw [z1] at hF0
 by_cases z2:layErr b.fs=0
 case neg =>
  have hL:=Lay_no X bad bcap b.fs hB V3 z2
  rw [show valE a.fs b.fs r ns=layErr b.fs by unfold valE;rw [if_pos z1,if_neg z2]]
  unfold vR14 vBx14
  rw [if_neg z2,if_neg z2]
  generalize layErr b.fs=e at *
  (refine U29 ?_;refine aU [] [] (hL) O O VC O O O O O V2B dS ?_;refine U13 ?_;refine kne O O (r:=true) (cU z2) ?_;refine U9 ?_)
  exact V1C
 have hL:=Lay_ok X bad bcap b.fs hB V3 z2
 obtain ⟨_,hokb,_⟩:=layErr_facts z2
 generalize elemsAt 0 b.fs=E at hL
 generalize startsAt 0 b.fs=S at hL
 generalize rowSize b.fs=T at hL
 by_cases z3:r.old=0
 ·rw [show valE a.fs b.fs r ns=7 by unfold valE;rw [if_pos z1,if_pos z2,if_pos z3]]
  unfold vR14 vBx14
  rw [if_neg (by decide),if_neg (by decide)]
  (refine U29 ?_;refine bE [(1000001,501),(1000002,502)] (.tup [.one (.slc 501 0 E.length 2),Sn .i64 (T:Nat),.one (.slc 502 0 b.fs.length 1),Sn .i64 0]) [(501,some ⟨114,(elVs E).map .val,Nat.blt 0 E.length⟩),(502,some ⟨3,(ntV S).map .val,Nat.blt 0 b.fs.length⟩)] (hL) O O VC O O O O O V1D dS ?_;refine U22 ?_;refine keq O O (r:=true) (cV z3) ?_;refine U8 ?_)
  exact V1C
 by_cases z4:ruE a.fs b.fs r=0
 case neg =>
  rw [show valE a.fs b.fs r ns=ruE a.fs b.fs r by unfold valE;rw [if_pos z1,if_pos z2,if_neg z3,if_neg z4]]
  unfold vR14 vBx14
  rw [if_neg z4,if_neg z4]
  generalize ruE a.fs b.fs r=e at *
  (refine U29 ?_;refine bE [(1000001,501),(1000002,502)] (.tup [.one (.slc 501 0 E.length 2),Sn .i64 (T:Nat),.one (.slc 502 0 b.fs.length 1),Sn .i64 0]) [(501,some ⟨114,(elVs E).map .val,Nat.blt 0 E.length⟩),(502,some ⟨3,(ntV S).map .val,Nat.blt 0 b.fs.length⟩)] (hL) O O VC O O O O O V1D dS ?_;refine U22 ?_;refine keq O O (r:=false) (cS z3) ?_;refine U15 ?_;refine kne O O (r:=true) (cU z4) ?_;refine U9 ?_)
  exact V1C
 rw [z4] at hR
 have hel:=ruE_len z4 z3
 obtain ⟨z5,hns,_⟩:=fit_all z1
 obtain ⟨_,hoka,_⟩:=layErr_facts z5
 rw [show valE a.fs b.fs r ns=seqE (stepE (cutN a.fs ns)) (stepsN b.fs r.ex) by unfold valE;rw [if_pos z1,if_pos z2,if_neg z3,if_pos z4]]
 unfold valN
 (refine U29 ?_;refine bE [(1000001,501),(1000002,502)] (.tup [.one (.slc 501 0 E.length 2),Sn .i64 (T:Nat),.one (.slc 502 0 b.fs.length 1),Sn .i64 0]) [(501,some ⟨114,(elVs E).map .val,Nat.blt 0 E.length⟩),(502,some ⟨3,(ntV S).map .val,Nat.blt 0 b.fs.length⟩)] (hL) O O VC O O O O O V1D dS ?_;refine U22 ?_;refine keq O O (r:=false) (cS z3) ?_;refine U21 ?_;refine aZ (zs:=[]) (sz:=1) (e:=28) V5 O O O O O O dS ?_;refine U12 ?_)
 clear hF0 hL hR
 repeat refine aA ?_
 refine LWP.meetB (fun σ=>σ=⟨[(3,Lx vad ns.length vcap),(4,Lp 4),(5,Lp 5),(6,Lp 6),(16,.sv (.one (.slc 500 0 (a.fs.length) 1))),(17,Ln .i64 ((sumC a.fs):Nat)),(18,Ln .i64 (a.fs.length:Nat))],[(500,some ⟨28,(subV vad vcap 0 (a.fs)).map .val,Nat.blt 0 (a.fs.length)⟩),cpB 4 a aad acap,cpB 5 b bad bcap,v3B 39 6 r.nw r.old ead r.ex.length ecap],X⟩) ?_ ?_
 ·refine cM (fun m σ=>∃ i:Nat,i≤a.fs.length∧m=a.fs.length-i∧σ=⟨[(3,Lx vad ns.length vcap),(4,Lp 4),(5,Lp 5),(6,Lp 6),(16,.sv (.one (.slc 500 0 (i) 1))),(17,Ln .i64 ((sumC (a.fs.take i)):Nat)),(18,Ln .i64 (i:Nat))],[(500,some ⟨28,(subV vad vcap 0 (a.fs.take (i))).map .val,Nat.blt 0 (i)⟩),cpB 4 a aad acap,cpB 5 b bad bcap,v3B 39 6 r.nw r.old ead r.ex.length ecap],X⟩) a.fs.length
   (cE (σ':=⟨[(3,Lx vad ns.length vcap),(4,Lp 4),(5,Lp 5),(6,Lp 6),(16,.sv (.one (.slc 500 0 (0) 1))),(17,Ln .i64 (0:Nat)),(18,Ln .i64 (0:Nat))],[(500,some ⟨28,(subV vad vcap 0 (a.fs.take (0))).map .val,Nat.blt 0 (0)⟩),cpB 4 a aad acap,cpB 5 b bad bcap,v3B 39 6 r.nw r.old ead r.ex.length ecap],X⟩) (Le.ofR [(500,52)] V14 V1 V2 V2 V0 V2 V2) (cD ⟨0,by omega,by omega,rfl⟩)) ?_
  rintro m σ ⟨i,hi,rfl,rfl⟩
  by_cases hlt:i<a.fs.length
  case neg =>
   have e:i=a.fs.length:=by omega
   subst e
   rw [dG]
   refine U11 ?_
   exact cE (σ':=⟨[(3,Lx vad ns.length vcap),(4,Lp 4),(5,Lp 5),(6,Lp 6),(16,.sv (.one (.slc 500 0 (a.fs.length) 1))),(17,Ln .i64 ((sumC a.fs):Nat)),(18,Ln .i64 (a.fs.length:Nat))],[(500,some ⟨28,(subV vad vcap 0 (a.fs)).map .val,Nat.blt 0 (a.fs.length)⟩),cpB 4 a aad acap,cpB 5 b bad bcap,v3B 39 6 r.nw r.old ead r.ex.length ecap],X⟩) (Le.of V14 V8 V2 V2 V0) (cD O)
  obtain ⟨f,hf⟩:=wg hlt
  obtain ⟨fb,fo,farr,fel,ffr,rfl,hFX,hFz,hFc,_,_,g2⟩:=hA.cells hf
  have hio:=wo fo i 3
  obtain ⟨hn1,hn8,hnc⟩:=sum_pos hoka hf
  have hst:=sum_take hf
  obtain ⟨u,hu⟩:∃ u,ns[0]? = some u:=wg V3
  obtain ⟨vb,vo,varr,vel,vfr,rfl,_⟩:=hN.rows 0 (nmV u) (by rw [dM,hu];rfl)
  have hs1:sumC (a.fs.take (i+1))=sumC (a.fs.take i)+f.n:=by rw [take_snoc hf,sum_snoc]
  have hadd1:IntKind.i64.wrap (((sumC (a.fs.take i):Nat):Int)+f.count)=((sumC (a.fs.take i)+f.n:Nat):Int):=by rw [cH V3];omega
  have hadd2:IntKind.i64.wrap (((sumC (a.fs.take i):Nat):Int)+f.count)=((sumC (a.fs.take (i+1)):Nat):Int):=by rw [hs1];exact hadd1
  have hadd:=wi i V3
  have hcl:((subV (some ⟨vb,vo,none⟩) vcap 0 (a.fs.take i)).map CV.val).length=i*1:=by rw [cX,subV_len,dA];omega
  have hnw:(subV (some ⟨vb,vo,none⟩) vcap 0 (a.fs.take i)).map CV.val++[.val (.slice (some ⟨vb,vo+sumC (a.fs.take i)*3,none⟩) f.n (vcap-sumC (a.fs.take i)))]=(subV (some ⟨vb,vo,none⟩) vcap 0 (a.fs.take (i+1))).map .val:=by
   rw [take_snoc hf,subV_snoc,dI,Nat.zero_add];rfl
  (refine aA<|aA<|rgN<|kmv O<|kfa O O ?_;refine kl1 O O O<|K.lenX O cC O dS ?_;refine klt O O (cP V3)<|RunK.nil<|LWP.condT O ?_;refine LWP.skip ?_;refine aA<|LWP.block<|aA<|rgN<|kmv O<|kmv O<|kmv O<|kmv O<|kfa O O ?_;refine kl1 O O O<|kmv O<|K.indexX O O cC V3 hio dS<|K.fieldAddrX O O dS ?_;refine K.loadX O hFX O g2 dS<|kad O O hadd1<|K.cut2X (sz:=3) O O O cC V3 V3 (.inl V3) hvc O (Nat.add_sub_cancel_left ..) O dS ?_;refine aZ (zs:=[.slice none 0 0]) (sz:=1) (e:=28) (cs':=[.val (.slice (some ⟨vb,vo+sumC (a.fs.take i)*3,none⟩) f.n (vcap-sumC (a.fs.take i)))]) V5 O O O O O O dS<|bQ (by_:=24) (e2:=28) (l2:=[.val (.slice (some ⟨vb,vo+sumC (a.fs.take i)*3,none⟩) f.n (vcap-sumC (a.fs.take i)))]) (nl:=i+1) (nc:=(subV (some ⟨vb,vo,none⟩) vcap 0 (a.fs.take (i+1))).map .val) O O hcl O O (dO _) O O V5 V5 V3 V3 O O hnw dS<|kas O<|RunK.nil<|rgN<|kmv O<|kfa O O ?_;refine kl1 O O O<|kmv O<|K.indexX O O cC V3 hio dS<|K.fieldAddrX O O dS ?_;refine K.loadX O hFX O g2 dS<|kad O O hadd2<|kas O<|RunK.nil<|rgN<|kmv O<|kad O O hadd<|kas O<|RunK.nil ?_)
  exact cE (σ':=⟨[(3,Lx (some ⟨vb,vo,none⟩) ns.length vcap),(4,Lp 4),(5,Lp 5),(6,Lp 6),(16,.sv (.one (.slc 500 0 (i+1) 1))),(17,Ln .i64 ((sumC (a.fs.take (i+1))):Nat)),(18,Ln .i64 (i+1:Nat))],[(500,some ⟨28,(subV (some ⟨vb,vo,none⟩) vcap 0 (a.fs.take (i+1))).map .val,Nat.blt 0 (i+1)⟩),cpB 4 a (some ⟨fb,fo,none⟩) acap,cpB 5 b bad bcap,v3B 39 6 r.nw r.old ead r.ex.length ecap],X⟩) (Le.ofR [(500,73)] V14 V1 V2 V2 V0 V2 V2) (cD ⟨a.fs.length-(i+1),by omega,i+1,by omega,O,O⟩)
 rintro σ rfl
 (refine U2 ?_;refine aZ (zs:=[]) (sz:=3) (e:=86) V5 O O O O O O dS ?_;refine U8 ?_)
 refine LWP.le (σ':=⟨[(16,.sv (.one (.slc 500 0 a.fs.length 1))),(5,Lp 5),(6,Lp 6),(19,.sv (.one (.slc 501 0 0 3))),(20,Ln .i64 (0:Nat))],[(500,some ⟨28,(subV vad vcap 0 a.fs).map .val,Nat.blt 0 a.fs.length⟩),nmsB 501 [] false,cpB 5 b bad bcap,v3B 39 6 r.nw r.old ead r.ex.length ecap],X⟩) (Le.ofR [(500,500),(501,82)] V10 V1 V2 V2 V0 V2 V2) ?_
 refine LWP.freeze O O O fun fb0 fc fa0 ff0 hn0 _ hfc _ hsp => ?_
 have hXY:=cJ (o:=.cells fa0 28 ff0) hn0
 have hFs:=fss_block (cN X fb0 (.cells fa0 28 ff0)) hsp ⟨hN.rows.mono hXY,hN.in2⟩ hns
 have hf2:∀ l∈cutN a.fs ns,∀ u∈l,In2 u.2:=fun l hl u hu=>hN.in2 u (cut_mem hl u hu)
 have hrl:∀ l∈cutN a.fs ns,l.length≤1000:=fun l hl=>by
  obtain ⟨i,hi⟩:=List.mem_iff_getElem?.1 hl
  have hil:=(wl hi)
  rw [cutN_len] at hil
  rw [cut_at (cY hil)] at hi
  cases hi
  rw [dA,dC];omega
 replace hB:=hB.mono hXY
 replace hE:=hE.mono hXY
 have hfl:a.fs.length=(cutN a.fs ns).length:=cutN_len.symm
 have hcl12:(cutN a.fs ns).length≤12:=by rw [cutN_len];exact la
 clear hA hN hsp hn0 hXY
 generalize withBlock X fb0 (.cells fa0 28 ff0)=Y at *
 generalize (some ⟨fb0,0,none⟩:Option Addr)=fad at *
 rw [hfl]
 generalize cutN a.fs ns=G at *
 refine cM (fun m σ=>∃ (i:Nat) (L:List Nm),i≤b.fs.length∧m=b.fs.length-i∧L=(stepsN (b.fs.take i) (r.ex.take i)).map (stepV G)∧seqE (stepE G) (stepsN (b.fs.take i) (r.ex.take i))=0∧σ=⟨[(5,Lp 5),(6,Lp 6),(16,Lx fad G.length fc),(19,.sv (.one (.slc 501 0 L.length 3))),(20,Ln .i64 (i:Nat))],[nmsB 501 (L) (Nat.blt 0 L.length),cpB 5 b bad bcap,v3B 39 6 r.nw r.old ead r.ex.length ecap],Y⟩) b.fs.length
  (cE (σ':=⟨[(5,Lp 5),(6,Lp 6),(16,Lx fad G.length fc),(19,.sv (.one (.slc 501 0 0 3))),(20,Ln .i64 (0:Nat))],[nmsB 501 ([]) false,cpB 5 b bad bcap,v3B 39 6 r.nw r.old ead r.ex.length ecap],Y⟩) (Le.ofR [(501,501)] V10 V1 V2 V2 V0 V2 V2) (cD ⟨0,[],by omega,by omega,rfl,rfl,rfl⟩)) ?_
 rintro m σ ⟨i,L,hi,rfl,hL,hpre,rfl⟩
 by_cases hlt:i<b.fs.length
 case neg =>
  have e:i=b.fs.length:=by omega
  subst e
  rw [dG,← hel,dG] at hL hpre
  rw [hpre]
  unfold vR14 vBx14
  rw [if_pos rfl,if_pos rfl,← hL]
  refine U18 ?_
  exact ⟨[(1000001,501)],⟨[_,_],⟨O,O,trivial⟩,O⟩,V1,O,O⟩
 obtain ⟨f,hf⟩:=wg hlt
 obtain ⟨c,hc⟩:∃ c,r.ex[i]? = some c:=wg V3
 obtain ⟨fb,fo,farr,fel,ffr,rfl,hFX,hFz,hFc,_,g1,g2⟩:=hB.cells hf
 obtain ⟨eb,eo,earr,eel,efr,cad,ccap,rfl,hEX,hec,hI⟩:=hE.get hc
 have hio:=wo fo i 3
 have hio1:=wo eo i 1
 obtain ⟨hn1,hn8,hnc⟩:=sum_pos hokb hf
 have hadd:=wi i V3
 have hc80:=lr.2 c (dE hc)
 have hsl:(stepsN (b.fs.take i) (r.ex.take i)).length≤96:=by
  have h1:=steps_len (b:=b.fs.take i) (ex:=r.ex.take i) (by rw [dA,dA];omega)
  rw [h1,elems_sum]
  have h2:=sum_le (b.fs.take i) (Fld.take_ok hokb i)
  rw [dA] at h2
  omega
 refine U18 ?_
 refine cM (fun m σ=>∃ (k:Nat) (L:List Nm),k≤f.n∧m=f.n-k∧L=(stepsN (b.fs.take i) (r.ex.take i)++fldS f c k).map (stepV G)∧seqE (stepE G) (stepsN (b.fs.take i) (r.ex.take i)++fldS f c k)=0∧σ=⟨[(5,Lp 5),(6,Lp 6),(16,Lx fad G.length fc),(19,.sv (.one (.slc 501 0 L.length 3))),(20,Ln .i64 (i:Nat)),(21,Ln .i64 (k:Nat))],[nmsB 501 (L) (Nat.blt 0 L.length),cpB 5 b (some ⟨fb,fo,none⟩) bcap,v3B 39 6 r.nw r.old (some ⟨eb,eo,none⟩) r.ex.length ecap],Y⟩) f.n
  (cE (σ':=⟨[(5,Lp 5),(6,Lp 6),(16,Lx fad G.length fc),(19,.sv (.one (.slc 501 0 L.length 3))),(20,Ln .i64 (i:Nat)),(21,Ln .i64 (0:Nat))],[nmsB 501 (L) (Nat.blt 0 L.length),cpB 5 b (some ⟨fb,fo,none⟩) bcap,v3B 39 6 r.nw r.old (some ⟨eb,eo,none⟩) r.ex.length ecap],Y⟩) (Le.ofR [(501,501)] V11 V1 V2 V2 V0 V2 V2) (cD ⟨0,L,by omega,by omega,by rw [fldS_zero,dK];exact hL,by rw [fldS_zero,dK];exact hpre,rfl⟩)) ?_
 clear hpre hL
 clear L
 rintro m σ ⟨k,L,hk,rfl,hL,hpre,rfl⟩
 have hLl:L.length≤104:=by rw [hL,cX,cW,fldS_len];omega
 by_cases hkl:k<f.n
 case neg =>
  have e:k=f.n:=by omega
  subst e
  refine U19 ?_
  exact cE (σ':=⟨[(5,Lp 5),(6,Lp 6),(16,Lx fad G.length fc),(19,.sv (.one (.slc 501 0 L.length 3))),(20,Ln .i64 (i+1:Nat))],[nmsB 501 (L) (Nat.blt 0 L.length),cpB 5 b (some ⟨fb,fo,none⟩) bcap,v3B 39 6 r.nw r.old (some ⟨eb,eo,none⟩) r.ex.length ecap],Y⟩) (Le.ofR [(501,501)] V10 V1 V2 V2 V0 V2 V2) (cD ⟨b.fs.length-(i+1),by omega,i+1,L,by omega,rfl,by rw [steps_snoc hf hc];exact hL,by rw [steps_snoc hf hc];exact hpre,rfl⟩)
 obtain ⟨post,hpost⟩:=steps_at hf hc hkl
 have hEv:=rEval_spec Y c cad ccap hI V3 fad fc G hFs V3 (fun l hl=>by have:=hrl l hl;omega) hf2 (k:Nat) V3
 have haddk:=wi k V3
 cases hev:evX c G (k:Nat) with
 | error e =>
  have hne:=evX_err hev
  have hse:stepE G (f,c,k)=e:=by
   unfold stepE
   rw [hev,show erV (Except.error e:Except Int Nm)=e from rfl,if_neg hne]
  rw [seqE_hit hpost hpre (by rw [hse];exact hne),hse]
  unfold vR14 vBx14
  rw [if_neg hne,if_neg hne]
  rw [hev] at hEv
  (refine U37 ?_;refine kne rfl rfl (r:=true) (cU hne) ?_;refine U9 ?_)
  exact V1C
 | ok v =>
 rw [hev] at hEv
 have hv2:In2 v.2:=evX_two (fun x hx=>(hI.small x hx).2.2.2) hf2 V3 hev
 have hsv:stepV G (f,c,k)=v:=by unfold stepV;rw [hev];rfl
 have hFt:=fun q h=>refFits_spec Y f.kind v.1 v.2 hv2 q h
 cases hq:fitB f.kind v.1 v.2 with
 | false =>
  have hFt:=hFt false hq
  have hse:stepE G (f,c,k)=3:=by
   unfold stepE
   rw [hev,show erV (Except.ok v:Except Int Nm)=0 from rfl,if_pos rfl,hsv]
   exact if_neg (by rw [hq];decide)
  rw [seqE_hit hpost hpre (by rw [hse];decide),hse]
  unfold vR14 vBx14
  rw [if_neg (by decide),if_neg (by decide)]
  (refine U43 ?_;refine rgD mixed ?_;refine U18 ?_)
  exact V1C
 | true =>
  have hFt:=hFt true hq
  have hse:stepE G (f,c,k)=0:=by
   unfold stepE
   rw [hev,show erV (Except.ok v:Except Int Nm)=0 from rfl,if_pos rfl,hsv]
   exact if_pos hq
  have hcl:=nmsV_len L
  have hnc2:=nmsV_snoc L v
  have hrow:Nat.blt 0 (L++[v]).length=true:=by rw [cW];simp
  have hL2:L++[v]=(stepsN (b.fs.take i) (r.ex.take i)++fldS f c (k+1)).map (stepV G):=by
   rw [fldS_succ,← dN,dI,← hL,List.map_cons,List.map_nil,hsv]
  have hpre2:seqE (stepE G) (stepsN (b.fs.take i) (r.ex.take i)++fldS f c (k+1))=0:=by
   rw [fldS_succ,← dN];exact seqE_snoc hpre hse
  have hnl:L.length+1=(L++[v]).length:=by rw [cW];rfl
  (refine U43 ?_;refine rgD mixed ?_;refine U16 ?_;refine aZ (zs:=[.bool false,.int .u64 0,.int .u64 0]) (sz:=3) (e:=86) (cs':=cI v.1 v.2) V5 O O O O O O dS<|bQ (by_:=24) (e2:=86) (l2:=cI v.1 v.2) (nl:=(L++[v]).length) (nc:=(nmsV (L++[v])).map .val) O O hcl O O (dO _) O O V5 V5 V3 V3 O hnl hnc2 dS ?_;refine U7 ?_)
  exact cE (σ':=⟨[(5,Lp 5),(6,Lp 6),(16,Lx fad G.length fc),(19,.sv (.one (.slc 501 0 (L++[v]).length 3))),(20,Ln .i64 (i:Nat)),(21,Ln .i64 (k+1:Nat))],[nmsB 501 (L++[v]) true,cpB 5 b (some ⟨fb,fo,none⟩) bcap,v3B 39 6 r.nw r.old (some ⟨eb,eo,none⟩) r.ex.length ecap],Y⟩) (Le.ofR [(501,126)] V11 V1 V2 V2 V0 V2 V2) (cD ⟨f.n-(k+1),by omega,k+1,L++[v],by omega,rfl,hL2,hpre2,by rw [hrow]⟩)
end Go.Proofs.YtopiioklkkiedaaGreatDoor
end
