/- A piece of a proof over this program: contracts of its functions, and a logic to prove them by. -/
import Derived.Test.YtopiioklkkiedaaGreatDoorW4b
section
set_option maxHeartbeats 12800000
set_option maxRecDepth 100000
namespace Go.Lg.Fld
open Go Go.Lg
theorem elVs_fit {l:List (Int×Nat)} {i:Nat} {e:Int×Nat} (h:l[i]? = some e):Nat.ble (i*2+2) ((elVs l).map CV.val).length=true:=by
 have:=(wl h)
 rw [Nat.ble_eq,cX,elVs_len];omega
theorem elVs_row {l:List (Int×Nat)} {i:Nat} {e:Int×Nat} (h:l[i]? = some e):(((elVs l).map CV.val).drop (i*2)).take 2=[.val (.int .i64 e.1),.val (.int .i64 (e.2:Nat))]:=by
 obtain ⟨h1,h2⟩:=elVs_at h
 rw [drop_at h1,List.take_succ_cons,drop_at h2]
 rfl
end Go.Lg.Fld
namespace Go.Proofs.YtopiioklkkiedaaGreatDoor
open Go Go.Lg Go.Lg.Fld
set_option maxRecDepth 100000
variable (X:Nat→Option Obj)
theorem Of_err (ad:Option Addr) (cap:Nat) (fs:List Fl) (hin:FieldsIn X ad fs) (hbig:fs.length<4611686018427387904) (h:layErr fs≠0):
  PSpec Tryz.prog X 78 [Lx ad fs.length cap] (.tup [planV 0 (.val (.slice none 0 0)),Sn .i64 (layErr fs)]):=by
 cases hc:canB fs with
 | false=>rw [canB_err hc];exact Of_no X ad cap fs hin hbig hc
 | true =>
  have:=Of_can X ad cap fs hin hbig hc
  unfold ofR ofBx at this
  rw [if_neg h,if_neg h] at this
  exact this.plain
theorem Of_ok (ad:Option Addr) (cap:Nat) (fs:List Fl) (hin:FieldsIn X ad fs) (hbig:fs.length<4611686018427387904) (h:layErr fs=0):
  MSpec Tryz.prog X 78 [Lx ad fs.length cap] [] (.tup [planV (rowSize fs:Nat) (.slc 1000001 0 fs.length 1),Sn .i64 0]) [(1000001,some ⟨3,(ntV (startsAt 0 fs)).map .val,false⟩)]:=by
 cases hc:canB fs with
 | false=>rw [canB_err hc] at h;exact absurd h VA
 | true =>
  have:=Of_can X ad cap fs hin hbig hc
  unfold ofR ofBx at this
  rw [if_pos h,if_pos h] at this
  exact this
theorem Check_spec (ad:Option Addr) (cap:Nat) (fs:List Fl) (hin:FieldsIn X ad fs) (hbig:fs.length<4611686018427387904):PSpec Tryz.prog X 66 [Lx ad fs.length cap] (Ln .i64 (layErr fs)):=by
 refine cF Tryz.func66 rfl V5 rfl rfl ?_
 intro C
 by_cases h:layErr fs=0
 ·have hO:=Of_ok X ad cap fs hin hbig h
  rw [h]
  generalize rowSize fs=T at *
  generalize startsAt 0 fs=S at *
  (refine U7 ?_;refine bE [(1000001,501)] (.tup [planV (T:Nat) (.slc 501 0 fs.length 1),Sn .i64 0]) [(501,some ⟨3,(ntV S).map .val,false⟩)] (hO) O O VC O O O O O V18 dS ?_;refine U13 ?_)
  exact V6
 ·have hO:=Of_err X ad cap fs hin hbig h
  generalize layErr fs=e at *
  refine U21 ?_
  exact V6
theorem Elems_spec (ad:Option Addr) (cap:Nat) (fs:List Fl) (hin:FieldsIn X ad fs) (hbig:fs.length<4611686018427387904):PSpec Tryz.prog X 34 [Lx ad fs.length cap] (Ln .i64 (elemsN fs:Nat)):=by
 have hC:=Check_spec X ad cap fs hin hbig
 refine cF Tryz.func34 rfl V5 rfl rfl ?_
 intro C
 unfold elemsN
 rw [elems_sum]
 by_cases h:layErr fs=0
 ·obtain ⟨h8,hall,_⟩:=layErr_facts h
  have hS:=sumOfCounts_spec X ad cap fs hin h8 hall
  rw [if_pos h]
  rw [h] at hC
  refine U20 ?_
  exact V6
 ·rw [if_neg h]
  generalize layErr fs=e at *
  refine U17 ?_
  exact V6
theorem Start_spec (ad:Option Addr) (cap:Nat) (fs:List Fl) (hcap:fs.length≤cap) (i:Int) (hi : -9223372036854775808≤i∧i<9223372036854775808) (hin:FieldsIn X ad fs) (hbig:fs.length<4611686018427387904):PSpec Tryz.prog X 68 [Lx ad fs.length cap,Ln .i64 i] (Ln .i64 (startN fs i:Nat)):=by
 have hC:=Check_spec X ad cap fs hin hbig
 refine cF Tryz.func68 rfl V5 rfl rfl ?_
 intro C
 unfold startN
 by_cases h0:0≤i
 ·by_cases h1:i<fs.length
  ·by_cases h:layErr fs=0
   ·obtain ⟨h8,hall,_⟩:=layErr_facts h
    obtain ⟨j,rfl⟩:∃ j:Nat,i=(j:Nat):=⟨i.toNat,by omega⟩
    rw [dH]
    have hj:j<fs.length:=by omega
    obtain ⟨f,hf⟩:=wg hj
    obtain ⟨blk,off,arr,el,fr,rfl,_⟩:=hin.at hf
    have hS:=sumOfCounts_spec X (some ⟨blk,off,none⟩) cap (fs.take j) (fields_take hin j) (by rw [dA];omega) (take_ok hall j)
    rw [dA,Nat.min_eq_left (Nat.le_of_lt hj)] at hS
    rw [if_pos ⟨h,by omega,by omega⟩]
    rw [h] at hC
    (refine U18 ?_;refine aX O O ((cT V3)) (dT O O) ?_;refine U8 ?_;refine K.cutX (h:=j) (kh:=.i64) O O cC V3 V3 dS ?_;refine U4 ?_)
    exact V6
   ·rw [if_neg (fun hc=>h hc.1)]
    generalize layErr fs=e at *
    (refine U18 ?_;refine aX O O (cU V3) (dT O O) ?_;refine U8 ?_)
    exact V6
  ·rw [if_neg (fun hc=>h1 hc.2.2)]
   (refine U13 ?_;refine bD O O (cP V3) (dT O O) ?_;refine U13 ?_)
   exact V6
 ·rw [if_neg (fun hc=>h0 hc.2.1)]
  refine U27 ?_
  exact V6
theorem zeroNums (n:Nat):(List.replicate n (nmV (qn 0))).flatten=nsV (List.replicate n 0):=by
 unfold nsV
 rw [List.map_replicate]
theorem starts_at:∀ {l:List Fl} {a i:Nat} {f:Fl},l[i]? = some f→(startsAt a l)[i]? = some (roundUp (endAt a (l.take i)) f.w)
 | [],_,i,f,h=>by simp at h
 | g::t,a,0,f,h=>by
  simp only [List.getElem?_cons_zero,Option.some.injEq] at h
  subst h;rfl
 | g::t,a,i+1,f,h=>by
  have:=starts_at (l:=t) (a:=roundUp a g.w+g.w*g.n) (i:=i) (f:=f) V2E
  simpa [startsAt,endAt] using this
set_option maxHeartbeats 3200000 in
theorem slotsOf_spec (ad:Option Addr) (cap:Nat) (fs:List Fl) (T:Nat) (hin:FieldsIn X ad fs) (h8:fs.length≤8) (hall:fs.all Fl.ok=true):
  MSpec Tryz.prog X 79 [Lx ad fs.length cap,.sv (planV (T:Nat) (.slc 1000001 0 fs.length 1))] [(1000001,some ⟨3,(ntV (startsAt 0 fs)).map .val,false⟩)] (.sv (.one (.slc 1000002 0 (elemsAt 0 fs).length 2)))
   [(1000001,some ⟨3,(ntV (startsAt 0 fs)).map .val,false⟩),(1000002,some ⟨161,(elVs (elemsAt 0 fs)).map .val,Nat.blt 0 (elemsAt 0 fs).length⟩)]:=by
 have hst:∀ {i:Nat} {f:Fl},fs[i]? = some f→(startsAt 0 fs)[i]? = some (roundUp (endAt 0 (fs.take i)) f.w):=fun h=>starts_at h
 refine cG Tryz.func79 rfl V5 rfl rfl V7 rfl rfl ?_
 intro C
 generalize startsAt 0 fs=S at *
 (refine U7 ?_;refine aZ (zs:=[]) (sz:=2) (e:=161) V5 O O O O O O dS ?_;refine U10 ?_)
 refine cL (fun m σ=>∃ i:Nat,i≤fs.length∧m=fs.length-i∧σ=⟨[(3,.sv (.one (.ptr 3 0))),(5,.sv (.one (.slc 500 0 (elemsAt 0 (fs.take i)).length 2))),(10,Lx ad fs.length cap),(11,Ln .i64 (fs.length:Nat)),(12,Ln .i64 (i:Nat))],[(1000001,some ⟨3,(ntV S).map .val,false⟩),(3,some ⟨155,[.val (.int .i64 (T:Nat)),.slc 1000001 0 fs.length 1],false⟩),(500,some ⟨161,(elVs (elemsAt 0 (fs.take i))).map .val,Nat.blt 0 (elemsAt 0 (fs.take i)).length⟩)],X⟩) fs.length
  ⟨_,Le.ofR [(500,9)] V10 V1 V2 V2 V0 V2 V2,0,by omega,by omega,rfl⟩ ?_
 rintro m σ ⟨i,hi,rfl,rfl⟩
 have ht:=take_ok hall i
 have hend:=end_le (fs.take i) 0 ht
 have hEl:=elems_len (fs.take i) 0 ht
 have htl:(fs.take i).length=i:=by rw [dA];omega
 rw [htl] at hend hEl
 by_cases hlt:i<fs.length
 ·obtain ⟨f,hf⟩:=wg hlt
  obtain ⟨blk,off,arr,el,fr,rfl,hX,hsz,hcells⟩:=hin.at hf
  have hio:=wo off i 3
  have hi1:0+Int.toNat (i:Int)*1=i:=by simp
  have hB:=fSize_spec X f.kind
  obtain ⟨hw,hn1,hn8,hnc⟩:=ok_w (List.all_eq_true.1 hall f (dE hf))
  have hR:=round_facts hw (endAt 0 (fs.take i))
  have hwk:kW f.kind=f.w:=rfl
  rw [hwk] at hB
  have hw8:1≤f.w∧f.w≤8:=by rcases hw with e|e|e|e<;>omega
  have hE:elemsAt 0 (fs.take (i+1))=elemsAt 0 (fs.take i)++(List.range f.n).map (fun j=>(f.kind,roundUp (endAt 0 (fs.take i)) f.w+f.w*j)):=by rw [take_snoc hf,elems_snoc]
  have hfc:f.vals.map CV.val=[.val (.string ⟨f.nm.toArray⟩),.val (.int .i64 f.kind),.val (.int .i64 (f.n:Nat))]:=by rw [hnc];rfl
  rw [hfc] at hcells
  have hgetS:((ntV S).map CV.val)[i]? = some (.val (.int .i64 (roundUp (endAt 0 (fs.take i)) f.w:Nat))):=by
   rw [dM,show ntV S=S.map (fun n:Nat=>Value.int .i64 (n:Nat)) from rfl,dM,hst hf];rfl
  generalize elemsAt 0 (fs.take i)=E at *
  generalize hT:roundUp (endAt 0 (fs.take i)) f.w=b at *
  generalize endAt 0 (fs.take i)=a at *
  generalize f.w=w at *
  generalize f.n=n at *
  refine U25 ?_
  refine cL (fun m σ=>∃ j:Nat,j≤n∧m=n-j∧σ=⟨[(3,.sv (.one (.ptr 3 0))),(5,.sv (.one (.slc 500 0 (E.length+j) 2))),(6,Ln .i64 (i:Nat)),(7,.sv (.one (.ptr 7 0))),(10,Lx (some ⟨blk,off,none⟩) fs.length cap),(11,Ln .i64 (fs.length:Nat)),(12,Ln .i64 (i:Nat)),(18,Ln .i64 (n:Nat)),(19,Ln .i64 (j:Nat))],[(1000001,some ⟨3,(ntV S).map .val,false⟩),(3,some ⟨155,[.val (.int .i64 (T:Nat)),.slc 1000001 0 fs.length 1],false⟩),(500,some ⟨161,(elVs (E++(List.range j).map (fun q=>(f.kind,b+w*q)))).map .val,Nat.blt 0 (E.length+j)⟩),(7,some ⟨83,[.val (.string ⟨f.nm.toArray⟩),.val (.int .i64 f.kind),.val (.int .i64 (n:Nat))],false⟩)],X⟩) n
   ⟨_,Le.ofR [] V1B (by rw [List.range_zero,List.map_nil,dK];exact V1) V2 V2 V0 V2 V2,0,by omega,rfl,rfl⟩ ?_
  rintro m σ ⟨j,hj,rfl,rfl⟩
  have hwj:w*j≤64:=Nat.le_trans (Nat.mul_le_mul hw8.2 (Nat.le_trans hj hn8)) VA
  by_cases hjn:j<n
  ·have hrg:(List.range (j+1)).map (fun q=>(f.kind,b+w*q))=(List.range j).map (fun q=>(f.kind,b+w*q))++[(f.kind,b+w*j)]:=by rw [List.range_succ,dI];rfl
   have hcl2:((elVs (E++(List.range j).map (fun q=>(f.kind,b+w*q)))).map CV.val).length=(E.length+j)*2:=by rw [cX,elVs_len];simp
   have hnc2:(elVs (E++(List.range j).map (fun q=>(f.kind,b+w*q)))).map CV.val++[.val (.int .i64 f.kind),.val (.int .i64 (b+w*j:Nat))]=(elVs (E++(List.range (j+1)).map (fun q=>(f.kind,b+w*q)))).map CV.val:=by
    rw [hrg,← dN,elVs_app (E++_) [_],dI]
    rfl
   have hmul:IntKind.i64.wrap (((j:Nat):Int)*((w:Nat):Int))=((w*j:Nat):Int):=by rw [← Int.natCast_mul,Nat.mul_comm,cH V3]
   have hadd:IntKind.i64.wrap (((b:Nat):Int)+((w*j:Nat):Int))=((b+w*j:Nat):Int):=by rw [cH V3];omega
   (refine U14 ?_;refine rgD mixed ?_;refine U7 ?_;refine kl1 O O hgetS ?_;refine U4 ?_;refine bL O O hmul dS ?_;refine U2 ?_;refine aZ (zs:=[.int .i64 0,.int .i64 0]) (sz:=2) (e:=161) V5 O O O O O O dS<|bQ (by_:=16) (e2:=161) (l2:=[.val (.int .i64 f.kind),.val (.int .i64 (b+w*j:Nat))]) (nl:=E.length+(j+1)) O O hcl2 O O (dO _) O O V5 V5 V3 V3 O O hnc2 dS ?_;refine U7 ?_)
   exact ⟨_,_,by omega,Le.ofR [(500,38)] V1B V1 V2 V2 V0 V2 V2,j+1,by omega,O,O⟩
  ·have e:j=n:=by omega
   subst e
   have hEn:(E++(List.range j).map (fun q=>(f.kind,b+w*q))).length=E.length+j:=by simp
   refine U11 ?_
   exact ⟨_,_,by omega,Le.ofR [] (by exact ⟨rfl,by rw [hE,hEn];rfl,rfl,rfl,rfl,trivial⟩) (by rw [hE,hEn];exact V1) V2 V2 V0 V2 V2,i+1,by omega,rfl,rfl⟩
 ·have e:i=fs.length:=by omega
  subst e
  rw [dG] at *
  generalize elemsAt 0 fs=E at *
  refine U13 ?_
  exact ⟨[(1000002,500)],⟨[_],⟨O,trivial⟩,O⟩,V1,O,O⟩
theorem slotEnd_spec (k:Int) (at_:Nat) (ha:at_<1000000):PSpec Tryz.prog X 81 [.sv (.agg [.val (.int .i64 k),.val (.int .i64 (at_:Nat))])] (Ln .i64 (at_+kW k:Nat)):=by
 have hB:=fSize_spec X k
 have hw8:=(kfacts k).2.2.2.2
 have hadd:IntKind.i64.wrap (((at_:Nat):Int)+((kW k:Nat):Int))=((at_+kW k:Nat):Int):=by rw [cH V3];omega
 refine cF Tryz.func81 rfl V5 rfl rfl ?_
 intro C
 (refine U6 ?_;refine rgD mixed ?_;refine U10 ?_)
 exact V6
end Go.Proofs.YtopiioklkkiedaaGreatDoor
end
section
set_option maxHeartbeats 12800000
set_option maxRecDepth 100000
namespace Go.Lg.Fld
open Go Go.Lg
theorem splice_bc (B s:List UInt8) (p:Nat):splice (B.map bc) p (s.map bc)=(setAt B p s).map bc:=by
 unfold splice setAt
 simp [List.map_take,List.map_drop]
end Go.Lg.Fld
namespace Go.Proofs.YtopiioklkkiedaaGreatDoor
open Go Go.Lg Go.Lg.Fld
set_option maxRecDepth 100000
variable (X:Nat→Option Obj)
set_option maxHeartbeats 1600000 in
theorem lFit_any (ad ad2:Option Addr) (cap cap2:Nat) (fs:List Fl) (ns:List (Bool×Int)) (hin:FieldsIn X ad fs) (hbig:fs.length<4611686018427387904) (hns:NumsIn X ad2 ns):
  PSpec Tryz.prog X 65 [Lx ad fs.length cap,Lx ad2 ns.length cap2] (Ln .i64 (fitErr fs ns)):=by
 refine cF Tryz.func65 rfl V5 rfl rfl ?_
 intro C
 unfold fitErr
 by_cases hl:layErr fs=0
 ·have hO:=Of_ok X ad cap fs hin hbig hl
  obtain ⟨h8,hall,_⟩:=layErr_facts hl
  have hSl:=slotsOf_spec X ad cap fs (rowSize fs) hin h8 hall
  have hEl:=elems_len fs 0 hall
  rw [if_pos hl]
  generalize elemsAt 0 fs=E at *
  generalize startsAt 0 fs=S at *
  generalize rowSize fs=T at *
  by_cases hn:E.length=ns.length
  ·rw [if_pos hn]
   (refine U7 ?_;refine bE [(1000001,501)] (.tup [planV (T:Nat) (.slc 501 0 fs.length 1),Sn .i64 0]) [(501,some ⟨3,(ntV S).map .val,false⟩)] (hO) O O VC O O O O O V18 dS ?_;refine U19 ?_;refine bE [(1000001,501),(1000002,502)] (.sv (.one (.slc 502 0 E.length 2))) [(501,some ⟨3,(ntV S).map .val,false⟩),(502,some ⟨161,(elVs E).map .val,Nat.blt 0 E.length⟩)] (hSl) O O (by exact (cR ⟨_,O,(bY _ _ _ _)⟩ trivial)) (by exact (bT bU O)) O O O O V1D dS ?_;refine U21 ?_)
   refine cL (fun m σ=>∃ i:Nat,i≤E.length∧m=E.length-i∧((E.zip ns).take i).all (fun p=>fitB p.1.1 p.2.1 p.2.2)=true∧σ=⟨[(1,Lx ad2 ns.length cap2),(26,.sv (.one (.slc 502 0 E.length 2))),(27,Ln .i64 (E.length:Nat)),(28,Ln .i64 (i:Nat))],[(502,some ⟨161,(elVs E).map .val,Nat.blt 0 E.length⟩)],X⟩) E.length
    ⟨_,Le.of V8 V13 V2 V2 V0,0,by omega,rfl,rfl,rfl⟩ ?_
   rintro m σ ⟨i,hi,rfl,hpre,rfl⟩
   by_cases hlt:i<E.length
   ·obtain ⟨e,he⟩:=wg hlt
    obtain ⟨⟨b,N⟩,hv⟩:∃ v,ns[i]? = some v:=wg V3
    obtain ⟨hN,blk,off,arr,el,fr,rfl,hX,hsz,hcells⟩:=hns.at hv
    have hio:=wo off i 3
    have hie:0+Int.toNat (i:Int)*2=i*2:=by simp
    have hc:=elVs_row he
    have hbl:=elVs_fit he
    have hzip:=zip_at he hv
    have hF:=Fits_spec X e.1 b N hN
    cases hf:fitB e.1 b N with
    | true =>
     have hF':=hF true hf
     (refine U13 ?_;refine bJ O O hbl hc dS ?_;refine U5 ?_;refine rgD mixed ?_;refine U16 ?_)
     exact ⟨_,_,by omega,Le.of V8 V13 V2 V2 V0,i+1,by omega,rfl,by rw [take_snoc hzip,List.all_append,hpre];simp [hf],rfl⟩
    | false =>
     have hF':=hF false hf
     have hno:fitAll E ns=false:=by
      unfold fitAll
      cases h:(E.zip ns).all (fun p=>fitB p.1.1 p.2.1 p.2.2) with
      | false=>rfl
      | true=>have:=List.all_eq_true.1 h _ (dE hzip);rw [hf] at this;cases this
     rw [hno]
     (refine U13 ?_;refine bJ O O hbl hc dS ?_;refine U5 ?_;refine rgD mixed ?_;refine U16 ?_)
     exact V6
   ·have e:i=E.length:=by omega
    subst e
    have hyes:fitAll E ns=true:=by
     rw [List.take_of_length_le (by rw [List.length_zip];omega)] at hpre
     exact hpre
    rw [hyes]
    refine U12 ?_
    exact V6
  ·rw [if_neg hn]
   (refine U7 ?_;refine bE [(1000001,501)] (.tup [planV (T:Nat) (.slc 501 0 fs.length 1),Sn .i64 0]) [(501,some ⟨3,(ntV S).map .val,false⟩)] (hO) O O VC O O O O O V18 dS ?_;refine U19 ?_;refine bE [(1000001,501),(1000002,502)] (.sv (.one (.slc 502 0 E.length 2))) [(501,some ⟨3,(ntV S).map .val,false⟩),(502,some ⟨161,(elVs E).map .val,Nat.blt 0 E.length⟩)] (hSl) O O (by exact (cR ⟨_,O,(bY _ _ _ _)⟩ trivial)) (by exact (bT bU O)) O O O O V1D dS ?_;refine U17 ?_)
   exact V6
 ·have hO:=Of_err X ad cap fs hin hbig hl
  rw [if_neg hl]
  generalize layErr fs=e at *
  refine U28 ?_
  exact V6
theorem lFit_spec (ad ad2:Option Addr) (cap cap2:Nat) (fs:List Fl) (ns:List (Bool×Int)) (hin:FieldsIn X ad fs) (hbig:fs.length<4611686018427387904) (hns:NumsIn X ad2 ns) (_:ns.length<4611686018427387904):
  PSpec Tryz.prog X 65 [Lx ad fs.length cap,Lx ad2 ns.length cap2] (Ln .i64 (fitErr fs ns)):=lFit_any X ad ad2 cap cap2 fs ns hin hbig hns
def packR (fs:List Fl) (ns:List (Bool×Int)):List UInt8:=if fitErr fs ns=0 then packB fs ns else []
set_option maxHeartbeats 1600000 in
theorem lPack_spec (ad ad2:Option Addr) (cap cap2:Nat) (fs:List Fl) (ns:List (Bool×Int)) (hin:FieldsIn X ad fs) (hbig:fs.length<4611686018427387904) (hns:NumsIn X ad2 ns) (hnb:ns.length<4611686018427387904):
  PSpec Tryz.prog X 42 [Lx ad fs.length cap,Lx ad2 ns.length cap2] (.tup [Ss (packR fs ns),Sn .i64 (fitErr fs ns)]):=by
 have hFit:=lFit_spec X ad ad2 cap cap2 fs ns hin hbig hns hnb
 refine cF Tryz.func42 rfl V5 rfl rfl ?_
 intro C
 unfold packR
 by_cases h:fitErr fs ns=0
 ·rw [if_pos h,h]
  rw [h] at hFit
  obtain ⟨hl,hn,hfit⟩:=fitErr_facts h
  have hO:=Of_ok X ad cap fs hin hbig hl
  obtain ⟨h8,hall,hT⟩:=layErr_facts hl
  have hSl:=slotsOf_spec X ad cap fs (rowSize fs) hin h8 hall
  have hW:=within_row hall
  have hEl:=elems_len fs 0 hall
  unfold packB
  generalize elemsAt 0 fs=E at *
  generalize startsAt 0 fs=S at *
  generalize rowSize fs=T at *
  have hmk:slcBuild Tryz.prog 117 T=some (List.replicate T (.int .u8 0),1,5):=slcBuild_one V5 V5 V3
  have hz0:(List.replicate T (Value.int .u8 0)).map CV.val=(List.replicate T (0:UInt8)).map bc:=by rw [List.map_replicate,List.map_replicate];rfl
  (refine U23 ?_;refine bE [(1000001,501)] (.tup [planV (T:Nat) (.slc 501 0 fs.length 1),Sn .i64 0]) [(501,some ⟨3,(ntV S).map .val,false⟩)] (hO) O O VC O O O O O V18 dS ?_;refine U11 ?_;refine K.makeSlc (m:=T) (bytes:=1) O O hmk V5 V3 hz0 O dS ?_;refine U7 ?_;refine bE [(1000001,501),(1000002,502)] (.sv (.one (.slc 502 0 E.length 2))) [(501,some ⟨3,(ntV S).map .val,false⟩),(502,some ⟨161,(elVs E).map .val,Nat.blt 0 E.length⟩)] (hSl) O O (by exact (cR ⟨_,O,(bY _ _ _ _)⟩ trivial)) (by exact (bT bU O)) O O O O V1D dS ?_;refine U4 ?_)
  refine cL (fun m σ=>∃ i:Nat,i≤E.length∧m=E.length-i∧σ=⟨[(1,Lx ad2 ns.length cap2),(9,.sv (.one (.slc 500 0 T 1))),(30,.sv (.one (.slc 502 0 E.length 2))),(31,Ln .i64 (E.length:Nat)),(32,Ln .i64 (i:Nat))],[(502,some ⟨161,(elVs E).map .val,Nat.blt 0 E.length⟩),(500,some ⟨5,(packE (E.take i) (ns.take i) (List.replicate T 0)).map bc,false⟩)],X⟩) E.length
   ⟨_,Le.ofR [(500,27)] V10 V1 V2 V2 V0 V2 V2,0,by omega,rfl,rfl⟩ ?_
  rintro m σ ⟨i,hi,rfl,rfl⟩
  have hbl:(packE (E.take i) (ns.take i) (List.replicate T 0)).length=T:=packE_len (fun e he=>hW e (List.mem_of_mem_take he)) (by rw [dF])
  by_cases hlt:i<E.length
  ·obtain ⟨e,he⟩:=wg hlt
   obtain ⟨⟨b,N⟩,hv⟩:∃ v,ns[i]? = some v:=wg V3
   obtain ⟨hN,blk,off,arr,el,fr,rfl,hX,hsz,hcells⟩:=hns.at hv
   have hio:=wo off i 3
   have hie:0+Int.toNat (i:Int)*2=i*2:=by simp
   have hc:=elVs_row he
   have hbf:=elVs_fit he
   obtain ⟨g1,g2,g3⟩:=fitAll_at hfit he hv
   have hP:=Put_q X e.1 (zv b N) g2 g3
   rw [← LI_q hN g1] at hP
   have hnext:packE (E.take (i+1)) (ns.take (i+1)) (List.replicate T 0)=setAt (packE (E.take i) (ns.take i) (List.replicate T 0)) e.2 (numB e.1 (b,N)):=by
    rw [take_snoc he,take_snoc hv,packE_snoc]
    rw [dA,dA];omega
   have hWe:=(hW e (dE he)).2
   have hw1:1≤kW e.1:=by rcases kW_in g2 with x|x|x|x<;>omega
   have hsl:(leB (kW e.1) (wdK e.1 (zv b N))).length=kW e.1:=leB_length _ _
   have hnb2:numB e.1 (b,N)=leB (kW e.1) (wdK e.1 (zv b N)):=rfl
   rw [hnb2] at hnext
   have hw8:=(kfacts e.1).2.2.2.2
   have hspl:=splice_bc (packE (E.take i) (ns.take i) (List.replicate T 0)) (leB (kW e.1) (wdK e.1 (zv b N))) e.2
   rw [← hnext] at hspl
   generalize leB (kW e.1) (wdK e.1 (zv b N))=s at *
   generalize packE (E.take i) (ns.take i) (List.replicate T 0)=B at *
   (refine U13 ?_;refine bJ O O hbf hc dS ?_;refine U5 ?_;refine rgD mixed ?_;refine U18 ?_;refine K.fromSlc (l:=e.2) (kh:=.i64) (off':=e.2) O O cC V3 V3 O dS ?_;refine kmv O<|K.copyStr (e:=5) O O O V5 V5 V3 V29 O hspl dS ?_;refine U5 ?_)
   exact ⟨_,_,by omega,Le.of V10 VE V2 V2 V0,i+1,by omega,O,O⟩
  ·have e:i=E.length:=by omega
   subst e
   rw [dG,List.take_of_length_le (Nat.le_of_eq hn.symm)] at *
   generalize packE E ns (List.replicate T 0)=B at *
   have hlen:0+T≤(B.map bc).length:=by rw [cX];omega
   have hcut:((B.map bc).drop 0).take T=B.map bc:=by rw [List.drop_zero,List.take_of_length_le V29]
   (refine U10 ?_;refine bS O O V5 StrT.u hlen hcut dS ?_;refine U4 ?_)
   exact V1E
 ·rw [if_neg h]
  generalize fitErr fs ns=e at *
  refine U26 ?_
  exact V1E
end Go.Proofs.YtopiioklkkiedaaGreatDoor
end
section
set_option maxHeartbeats 12800000
set_option maxRecDepth 100000
namespace Go.Lg.Fld
open Go Go.Lg
theorem leB_of:∀ (l:List UInt8),leB l.length (le l)=l
 | []=>rfl
 | c::t=>by
  have ih:=leB_of t
  have hc:=c.toNat_lt
  have h1:(c.toNat+256*le t)%256=c.toNat:=by omega
  have h2:(c.toNat+256*le t)/256=le t:=by omega
  show UInt8.ofNat ((c.toNat+256*le t)%256)::leB t.length ((c.toNat+256*le t)/256)=c::t
  rw [h1,h2,ih,UInt8.ofNat_toNat]
theorem wd_nb {k:Int} {v:Nat} (h:kK k=true) (hv:v<256^kW k):wdK k (nbK k v)=v:=by
 obtain ⟨h1,h2,h3⟩:=kM_facts h
 have hv:v<kM k:=hv
 unfold wdK nbK
 split
 ·have e:((v:Int)-(kM k:Int))%(kM k:Int)=v:=by
   rw [← Int.add_emod_right,Int.sub_add_cancel]
   exact Int.emod_eq_of_lt V3 V3
  rw [e];omega
 ·rw [Int.emod_eq_of_lt V3 V3];omega
end Go.Lg.Fld
namespace Go.Proofs.YtopiioklkkiedaaGreatDoor
open Go Go.Lg Go.Lg.Fld
set_option maxRecDepth 100000
abbrev ApartE (es:List (Int×Nat)):Prop:=es.Pairwise fun e e'=>e.2+kW e.1≤e'.2
theorem elems_apart:∀ (l:List Fl) (a:Nat),l.all Fl.ok=true→ApartE (elemsAt a l)
 | [],_,_=>List.Pairwise.nil
 | f::t,a,h=>by
  have h0:=h
  simp only [List.all_cons,Bool.and_eq_true] at h
  unfold ApartE
  simp only [elemsAt]
  rw [List.pairwise_append]
  refine ⟨?_,elems_apart t _ h.2,?_⟩
  ·rw [List.pairwise_map]
   refine List.Pairwise.imp (R:=fun i j=>i<j) ?_ List.pairwise_lt_range
   intro i j hij
   have:f.w*i+f.w≤f.w*j:=by rw [← Nat.mul_succ];exact Nat.mul_le_mul_left _ hij
   show roundUp a f.w+f.w*i+f.w≤roundUp a f.w+f.w*j
   omega
  ·intro e he e' he'
   obtain ⟨i,hi,rfl⟩:=List.mem_map.1 he
   have hi:=List.mem_range.1 hi
   have h2:=(elems_in t _ h.2 e' he').2.1
   have:f.w*i+f.w≤f.w*f.n:=by rw [← Nat.mul_succ];exact Nat.mul_le_mul_left _ hi
   show roundUp a f.w+f.w*i+f.w≤e'.2
   omega
theorem setAt_take {b s:List UInt8} {p q:Nat} (hq:q≤p) (hp:p≤b.length):(setAt b p s).take q=b.take q:=by
 unfold setAt
 rw [dN,List.take_append_of_le_length (by rw [dA];omega),List.take_take,Nat.min_eq_left hq]
theorem packE_take {T q:Nat}:∀ {es:List (Int×Nat)} {ns:List (Bool×Int)} {b:List UInt8},Within es T→(∀ e∈es,q≤e.2)→b.length=T→(packE es ns b).take q=b.take q
 | [],_,b,_,_,_=>rfl
 | _::_,[],b,_,_,_=>rfl
 | e::t,v::u,b,hw,hq,hb=>by
  have h1:=(hw e V21).2
  have hl:(setAt b e.2 (numB e.1 v)).length=T:=by rw [setAt_len (by rw [numB_len];omega)];exact hb
  show (packE t u (setAt b e.2 (numB e.1 v))).take q=b.take q
  rw [packE_take (fun x hx=>hw x (by simp [hx])) (fun x hx=>hq x (by simp [hx])) hl]
  exact setAt_take (hq e V21) V3
theorem setAt_get {b s:List UInt8} {p:Nat} (h:p+s.length≤b.length) (i:Nat):(setAt b p s)[i]? = if p≤i∧i<p+s.length then s[i-p]? else b[i]? := by
 unfold setAt
 have hl:(b.take p).length=p:=by rw [dA];omega
 by_cases h1:i<p
 ·rw [if_neg V3,dN,dR V3,List.getElem?_take,if_pos h1]
 ·by_cases h2:i<p+s.length
  ·rw [if_pos ⟨by omega,h2⟩,dN,List.getElem?_append_right V3,hl,dR V3]
  ·rw [if_neg V3,List.getElem?_append_right (by rw [cW];omega),cW,hl,List.getElem?_drop]
   congr 1
   omega
theorem nsV_splice:∀ (zs:List Int) (k:Nat) (z:Int),k<zs.length→splice ((nsV zs).map CV.val) (k*3) (cQ z)=(nsV (zs.set k z)).map CV.val
 | [],k,z,h=>by simp at h
 | y::t,0,z,_=>by
  have e:(nsV (y::t)).map CV.val=cQ y++(nsV t).map CV.val:=by simp [nsV,nmV,qn]
  have e2:(nsV (z::t)).map CV.val=cQ z++(nsV t).map CV.val:=by simp [nsV,nmV,qn]
  show splice ((nsV (y::t)).map CV.val) (0*3) (cQ z)=(nsV (z::t)).map CV.val
  rw [e,e2]
  rfl
 | y::t,k+1,z,h=>by
  have ih:=nsV_splice t k z V2E
  have e:(nsV (y::t)).map CV.val=cQ y++(nsV t).map CV.val:=by simp [nsV,nmV,qn]
  have e2:(nsV (y::t.set k z)).map CV.val=cQ y++(nsV (t.set k z)).map CV.val:=by simp [nsV,nmV,qn]
  show splice ((nsV (y::t)).map CV.val) ((k+1)*3) (cQ z)=(nsV (y::t.set k z)).map CV.val
  rw [e,e2,← ih]
  unfold splice
  rw [show (k+1)*3=3+k*3 by omega]
  have l3:(cQ y).length=3:=rfl
  have l3':(cQ z).length=3:=rfl
  rw [l3',List.take_append,List.drop_append,l3,List.take_of_length_le (by rw [l3];omega),List.drop_of_length_le (by rw [l3];omega)]
  rw [show 3+k*3-3=k*3 by omega,show 3+k*3+3-3=k*3+3 by omega]
  simp only [dN,List.nil_append]
def gapsB:Nat→List (Int×Nat)→List UInt8→Bool
 | a,[],s=>blankB (s.drop a)
 | a,e::t,s=>blankB ((s.drop a).take (e.2-a))&&gapsB (e.2+kW e.1) t s
theorem blank_at {l:List UInt8} (h:blankB l=true) {i:Nat} {c:UInt8} (hi:l[i]? = some c):c=0:=by
 have:=List.all_eq_true.1 h c (dE hi)
 simpa using this
theorem blank_of {l:List UInt8} (h:∀ (i:Nat) (c:UInt8),l[i]? = some c→c=0):blankB l=true:=by
 unfold blankB
 refine List.all_eq_true.2 fun c hc => ?_
 obtain ⟨i,hi⟩:=List.getElem?_of_mem hc
 rw [h i c hi]
 rfl
theorem numB_read {s:List UInt8} {e:Int×Nat} (hk:kK e.1=true) (h:e.2+kW e.1≤s.length):numB e.1 (qn (rdE s e))=(s.drop e.2).take (kW e.1):=by
 have hl:((s.drop e.2).take (kW e.1)).length=kW e.1:=by rw [dA,dC];omega
 have hb:=le_lt ((s.drop e.2).take (kW e.1))
 rw [hl] at hb
 show leB (kW e.1) (wdK e.1 (zv (qn (rdE s e)).1 (qn (rdE s e)).2))=_
 rw [zv_qn]
 unfold rdE
 rw [wd_nb hk hb]
 have h2:=leB_of ((s.drop e.2).take (kW e.1))
 rw [hl] at h2
 exact h2
theorem pre_get {s:List UInt8} {a T:Nat} (hs:s.length=T) (ha:a≤T) (i:Nat):(s.take a++List.replicate (T-a) (0:UInt8))[i]? = if i<a then s[i]? else if i<T then some 0 else none:=by
 have hl:(s.take a).length=a:=by rw [dA];omega
 by_cases h1:i<a
 ·rw [if_pos h1,dR V3,List.getElem?_take,if_pos h1]
 ·rw [if_neg h1,List.getElem?_append_right V3,hl,List.getElem?_replicate]
  by_cases h2:i<T
  ·rw [if_pos h2,if_pos V3]
  ·rw [if_neg h2,if_neg V3]
theorem gaps_pack {T:Nat} {s:List UInt8} (hs:s.length=T):∀ {es:List (Int×Nat)} {a:Nat},Within es T→ApartE es→(∀ e∈es,a≤e.2)→a≤T →
  (packE es ((es.map (rdE s)).map qn) (s.take a++List.replicate (T-a) 0)==s)=gapsB a es s
 | [],a,_,_,_,ha=>by
  show (s.take a++List.replicate (T-a) 0==s)=blankB (s.drop a)
  cases hb:blankB (s.drop a) with
  | true =>
   refine cV (List.ext_getElem? fun i => ?_)
   rw [pre_get hs ha]
   by_cases h1:i<a
   ·rw [if_pos h1]
   ·rw [if_neg h1]
    by_cases h2:i<T
    ·rw [if_pos h2]
     obtain ⟨c,hc⟩:∃ c,s[i]? = some c:=wg V3
     rw [hc,blank_at (c:=c) hb (i:=i-a) (by rw [List.getElem?_drop,Nat.add_sub_cancel' (by omega)];exact hc)]
    ·rw [if_neg h2,List.getElem?_eq_none V3]
  | false =>
   refine cS fun e => ?_
   rw [blank_of (fun i c hc => ?_)] at hb
   ·cases hb
   ·rw [List.getElem?_drop] at hc
    have hi:=(wl hc)
    rw [← e,pre_get hs ha,if_neg (by omega),if_pos (by omega)] at hc
    exact (Option.some.inj hc).symm
 | e::t,a,hw,hp,hge,ha=>by
  have he:=hw e V21
  have hae:=hge e V21
  have h2:∀ x∈t,e.2+kW e.1≤x.2:=(List.pairwise_cons.1 hp).1
  have hnb:=numB_read (s:=s) he.1 (by rw [hs];exact he.2)
  have hbl:((s.drop e.2).take (kW e.1)).length=kW e.1:=by rw [dA,dC];omega
  have hl0:(s.take a++List.replicate (T-a) (0:UInt8)).length=T:=by rw [cW,dA,dF];omega
  show (packE t ((t.map (rdE s)).map qn) (setAt (s.take a++List.replicate (T-a) 0) e.2 (numB e.1 (qn (rdE s e))))==s)=(blankB ((s.drop a).take (e.2-a))&&gapsB (e.2+kW e.1) t s)
  rw [hnb]
  cases hb:blankB ((s.drop a).take (e.2-a)) with
  | true =>
   rw [Bool.true_and,← gaps_pack hs (fun x hx=>hw x (by simp [hx])) (List.pairwise_cons.1 hp).2 h2 he.2]
   congr 2
   refine List.ext_getElem? fun i => ?_
   rw [setAt_get (by rw [hl0,hbl];exact he.2),pre_get hs ha,pre_get hs he.2,hbl]
   by_cases c1:e.2≤i∧i<e.2+kW e.1
   ·rw [if_pos c1,if_pos c1.2,List.getElem?_take,if_pos V3,List.getElem?_drop,Nat.add_sub_cancel' c1.1]
   ·rw [if_neg c1]
    by_cases c2:i<a
    ·rw [if_pos c2,if_pos V3]
    ·rw [if_neg c2]
     by_cases c3:i<e.2+kW e.1
     ·rw [if_pos c3,if_pos V3]
      obtain ⟨c,hc⟩:∃ c,s[i]? = some c:=wg V3
      rw [hc,blank_at (c:=c) hb (i:=i-a) (by rw [List.getElem?_take,if_pos (by omega),List.getElem?_drop,Nat.add_sub_cancel' (by omega)];exact hc)]
     ·rw [if_neg c3]
  | false =>
   rw [Bool.false_and]
   refine cS fun h => ?_
   have hls:(setAt (s.take a++List.replicate (T-a) 0) e.2 ((s.drop e.2).take (kW e.1))).length=T:=by rw [setAt_len (by rw [hl0,hbl];exact he.2)];exact hl0
   have h3:=packE_take (ns:=(t.map (rdE s)).map qn) (q:=e.2) (fun x hx=>hw x (by simp [hx])) (fun x hx=>Nat.le_trans (Nat.le_add_right _ _) (h2 x hx)) hls
   rw [h,setAt_take (dO _) (by rw [hl0];omega)] at h3
   rw [blank_of (fun i c hc => ?_)] at hb
   ·cases hb
   ·rw [List.getElem?_take] at hc
    split at hc
    ·rename_i hi
     rw [List.getElem?_drop] at hc
     have h4:=congrArg (fun l=>l[a+i]?) h3
     simp only [List.getElem?_take] at h4
     rw [if_pos (by omega),if_pos (by omega),hc,pre_get hs ha,if_neg (by omega),if_pos (by omega)] at h4
     exact Option.some.inj h4
    ·cases hc
variable (X:Nat→Option Obj)
def lunpBx (fs:List Fl) (s:List UInt8):List (Nat×Option Box):=if unpErr fs s=0 then [(1000001,some ⟨86,(nsV (unpZ fs s)).map .val,false⟩)] else []
set_option maxHeartbeats 6400000 in
theorem lUnpack_spec (ad:Option Addr) (cap:Nat) (fs:List Fl) (s:List UInt8) (hin:FieldsIn X ad fs) (hbig:fs.length<4611686018427387904):
  MSpec Tryz.prog X 41 [Lx ad fs.length cap,Ls s] [] (unpR fs s) (lunpBx fs s):=by
 refine cG Tryz.func41 rfl V5 rfl (by unfold unpR lunpBx;split<;>rfl) (by unfold lunpBx;split<;>exact V0) rfl rfl ?_
 intro C
 have hzs:(⟨s.toArray⟩:ByteArray).size=s.length:=rfl
 by_cases hl:layErr fs=0
 ·have hO:=Of_ok X ad cap fs hin hbig hl
  obtain ⟨h8,hall,hT⟩:=layErr_facts hl
  have hSl:=slotsOf_spec X ad cap fs (rowSize fs) hin h8 hall
  have hW:=within_row hall
  have hEl:=elems_len fs 0 hall
  have hue:unpErr fs s=if unpOk fs s=true then 0 else 4:=if_pos hl
  unfold unpR lunpBx
  rw [hue]
  unfold unpOk packB
  have hzl:(unpZ fs s).length=(elemsAt 0 fs).length:=by simp [unpZ]
  have hzd:unpZ fs s=(elemsAt 0 fs).map (rdE s):=rfl
  have hAp:=elems_apart fs 0 hall
  generalize hZ:unpZ fs s=Z at *
  generalize elemsAt 0 fs=E at *
  generalize startsAt 0 fs=S at *
  generalize rowSize fs=T at *
  by_cases hn:s.length=T
  ·have hgp:=gaps_pack hn hW hAp (fun _ _=>Nat.zero_le _) (Nat.zero_le _)
   rw [List.take_zero,List.nil_append,Nat.sub_zero,← hzd] at hgp
   rw [cP hn,Bool.true_and,hgp]
   have hmk:slcBuild Tryz.prog 28 E.length=some (nsV (List.replicate E.length 0),3,86):=by
    rw [← zeroNums]
    exact slcBuild_many (z := #[.bool false,.int .u64 0,.int .u64 0]) V5 V5 O V3
   (refine U8 ?_;refine bE [(1000001,501)] (.tup [planV (T:Nat) (.slc 501 0 fs.length 1),Sn .i64 0]) [(501,some ⟨3,(ntV S).map .val,false⟩)] (hO) O O VC O O O O O V18 dS ?_;refine U30 ?_;refine bE [(1000001,501),(1000002,502)] (.sv (.one (.slc 502 0 E.length 2))) [(501,some ⟨3,(ntV S).map .val,false⟩),(502,some ⟨161,(elVs E).map .val,Nat.blt 0 E.length⟩)] (hSl) O O (by exact (cR ⟨_,O,(bY _ _ _ _)⟩ trivial)) (by exact (bT bU O)) O O O O V1D dS ?_;refine U6 ?_;refine K.makeSlc (m:=E.length) (bytes:=24) O O hmk V5 V3 O O dS ?_;refine U14 ?_)
   refine cL (fun m σ=>∃ i a:Nat,i≤E.length∧m=E.length-i∧readOk E s=readOk (E.drop i) s∧gapsB 0 E s=gapsB a (E.drop i) s∧(∀ e∈E.drop i,a≤e.2)∧a≤T∧σ=⟨[(1,Ls s),(9,.sv (.one (.slc 500 0 E.length 3))),(10,Ln .i64 (a:Nat)),(32,.sv (.one (.slc 502 0 E.length 2))),(33,Ln .i64 (E.length:Nat)),(34,Ln .i64 (i:Nat))],[(502,some ⟨161,(elVs E).map .val,Nat.blt 0 E.length⟩),(500,some ⟨86,(nsV (Z.take i++List.replicate (E.length-i) 0)).map .val,false⟩)],X⟩) E.length
    ⟨_,Le.ofR [(500,31)] V11 V1 V2 V2 V0 V2 V2,0,0,by omega,rfl,rfl,rfl,(fun _ _=>Nat.zero_le _),Nat.zero_le _,rfl⟩ ?_
   rintro m σ ⟨i,a,hi,rfl,hrd0,hgp0,hge,haT,rfl⟩
   by_cases hlt:i<E.length
   ·obtain ⟨e,he⟩:=wg hlt
    have hz:Z[i]? = some (rdE s e):=by rw [hzd,dM,he];rfl
    have hm:=dE he
    have hdr:=drop_at he
    have hio:0+Int.toNat (i:Int)*3=i*3:=by simp
    have hie:0+Int.toNat (i:Int)*2=i*2:=by simp
    have hc:=elVs_row he
    have hbf:=elVs_fit he
    have hWe:=hW e hm
    have hrd:=read_R hW hn hm
    have hG:=Get_q X e.1 ((s.drop e.2).take (kW e.1)) hWe.1 hrd.1
    have hEnd:=slotEnd_spec X e.1 e.2 V3
    have hcut:(⟨s.toArray⟩:ByteArray).extract e.2 (e.2+kW e.1)=⟨((s.drop e.2).take (kW e.1)).toArray⟩:=by rw [str_cut,Nat.add_sub_cancel_left]
    have hw8:=(kfacts e.1).2.2.2.2
    rw [hdr] at hge hgp0 hrd0
    have hae:=hge e V21
    have hcut2:(⟨s.toArray⟩:ByteArray).extract a e.2=⟨((s.drop a).take (e.2-a)).toArray⟩:=str_cut _ _ _
    have hBk:=isBlank_spec X ((s.drop a).take (e.2-a)) (by rw [dA,dC];omega)
    have hro:readOk (e::E.drop (i+1)) s=(fitZ e.1 (rdE s e)&&readOk (E.drop (i+1)) s):=rfl
    have hgo:gapsB a (e::E.drop (i+1)) s=(blankB ((s.drop a).take (e.2-a))&&gapsB (e.2+kW e.1) (E.drop (i+1)) s):=rfl
    rw [hro] at hrd0
    rw [hgo] at hgp0
    rw [show nbK e.1 (le ((s.drop e.2).take (kW e.1)))=rdE s e from rfl] at hG
    have hvl:(Z.take i++List.replicate (E.length-i) (0:Int)).length=E.length:=by rw [cW,dA,dF];omega
    have hsp:=fun z=>nsV_splice (Z.take i++List.replicate (E.length-i) (0:Int)) i z V3
    have hm3:i*3+3≤((nsV (Z.take i++List.replicate (E.length-i) (0:Int))).map CV.val).length:=by rw [cX,nsV_len,hvl];omega
    have hset:(Z.take i++List.replicate (E.length-i) (0:Int)).set i (rdE s e)=Z.take (i+1)++List.replicate (E.length-(i+1)) 0:=by
     rw [fill_set (by rw [dA];omega) hlt,take_snoc hz]
    have hge2:∀ x∈E.drop (i+1),e.2+kW e.1≤x.2:=by
     have h5:=hAp.sublist (List.drop_sublist i E)
     rw [hdr] at h5
     exact (List.pairwise_cons.1 h5).1
    cases hf:fitZ e.1 (rdE s e) with
    | true =>
     rw [hf,if_pos rfl] at hG
     rw [hf,Bool.true_and] at hrd0
     have hsp1:=hsp (rdE s e)
     rw [hset] at hsp1
     cases hbk:blankB ((s.drop a).take (e.2-a)) with
     | true =>
      have hBk':=hBk true hbk
      rw [hbk,Bool.true_and] at hgp0
      generalize (s.drop e.2).take (kW e.1)=t at *
      generalize (s.drop a).take (e.2-a)=u at *
      generalize kW e.1=w at *
      generalize rdE s e=z at *
      (refine U13 ?_;refine bJ O O hbf hc dS ?_;refine U5 ?_;refine rgD mixed ?_;refine U9 ?_;refine bN (l:=e.2) (h:=e.2+w) (kl:=.i64) (kh:=.i64) O StrT.u O O ⟨V3,V3⟩ hcut dS ?_;refine U5 ?_;refine K.store O O O O V5 hm3 hsp1 dS ?_;refine U13 ?_;refine bN (l:=a) (h:=e.2) (kl:=.i64) (kh:=.i64) O StrT.u O O ⟨V3,V3⟩ hcut2 (dT O O) ?_;refine U15 ?_)
      exact ⟨_,_,by omega,Le.of V11 VE V2 V2 V0,i+1,e.2+w,by omega,O,hrd0,hgp0,hge2,V3,O⟩
     | false =>
      have hBk':=hBk false hbk
      rw [hgp0,hbk,Bool.false_and,Bool.and_false,if_neg (by simp),if_neg (by decide),if_neg (by decide)]
      generalize (s.drop e.2).take (kW e.1)=t at *
      generalize (s.drop a).take (e.2-a)=u at *
      generalize kW e.1=w at *
      generalize rdE s e=z at *
      (refine U13 ?_;refine bJ O O hbf hc dS ?_;refine U5 ?_;refine rgD mixed ?_;refine U9 ?_;refine bN (l:=e.2) (h:=e.2+w) (kl:=.i64) (kh:=.i64) O StrT.u O O ⟨V3,V3⟩ hcut dS ?_;refine U5 ?_;refine K.store O O O O V5 hm3 hsp1 dS ?_;refine U13 ?_;refine bN (l:=a) (h:=e.2) (kl:=.i64) (kh:=.i64) O StrT.u O O ⟨V3,V3⟩ hcut2 (dT O O) ?_;refine U11 ?_)
      exact V1C
    | false =>
     rw [hf,if_neg (by simp)] at hG
     have hsp0:=hsp 0
     rw [hrd0,hf,Bool.false_and,Bool.false_and,if_neg (by simp),if_neg (by decide),if_neg (by decide)]
     generalize (s.drop e.2).take (kW e.1)=t at *
     generalize kW e.1=w at *
     (refine U13 ?_;refine bJ O O hbf hc dS ?_;refine U5 ?_;refine rgD mixed ?_;refine U9 ?_;refine bN (l:=e.2) (h:=e.2+w) (kl:=.i64) (kh:=.i64) O StrT.u O O ⟨V3,V3⟩ hcut dS ?_;refine U5 ?_;refine K.store O O O O V5 hm3 hsp0 dS ?_;refine U25 ?_)
     exact V1C
   ·have e:i=E.length:=by omega
    subst e
    rw [List.drop_length] at hrd0 hgp0
    rw [hrd0,hgp0,show readOk [] s=true from rfl,Bool.true_and,show gapsB a [] s=blankB (s.drop a) from rfl]
    have hfin:(nsV (Z.take E.length++List.replicate (E.length-E.length) (0:Int))).map CV.val=(nsV Z).map CV.val:=by rw [List.take_of_length_le V3,Nat.sub_self,List.replicate_zero,dK]
    rw [hfin]
    have hcut:(⟨s.toArray⟩:ByteArray).extract a s.length=⟨(s.drop a).toArray⟩:=by rw [str_cut,List.take_of_length_le (by rw [dC];omega)]
    have hBk:=isBlank_spec X (s.drop a) (by rw [dC];omega)
    cases hbk:blankB (s.drop a) with
    | true =>
     have hBk':=hBk true hbk
     rw [if_pos rfl,if_pos rfl,if_pos rfl]
     (refine U12 ?_;refine bN (l:=a) (h:=s.length) (kl:=.i64) (kh:=.i64) O StrT.u O hzs.symm ⟨V3,V3⟩ hcut dS ?_;refine U12 ?_)
     exact ⟨[(1000001,500)],⟨[_,_],⟨rfl,rfl,trivial⟩,by rw [hzl];rfl⟩,V1,rfl,rfl⟩
    | false =>
     have hBk':=hBk false hbk
     rw [if_neg (by simp),if_neg (by decide),if_neg (by decide)]
     (refine U12 ?_;refine bN (l:=a) (h:=s.length) (kl:=.i64) (kh:=.i64) O StrT.u O hzs.symm ⟨V3,V3⟩ hcut dS ?_;refine U10 ?_)
     exact V1C
  ·rw [cO hn,Bool.false_and,if_neg V21,if_neg VA,if_neg VA]
   (refine U8 ?_;refine bE [(1000001,501)] (.tup [planV (T:Nat) (.slc 501 0 fs.length 1),Sn .i64 0]) [(501,some ⟨3,(ntV S).map .val,false⟩)] (hO) O O VC O O O O O V18 dS ?_;refine U31 ?_)
   exact V1C
 ·have hO:=Of_err X ad cap fs hin hbig hl
  have hue:unpErr fs s=layErr fs:=if_neg hl
  unfold unpR lunpBx
  rw [hue,if_neg hl,if_neg hl]
  generalize layErr fs=e at *
  refine U30 ?_
  exact V1C
end Go.Proofs.YtopiioklkkiedaaGreatDoor
end
section
set_option maxHeartbeats 12800000
set_option maxRecDepth 100000
namespace Go.Proofs.YtopiioklkkiedaaGreatDoor
open Go Go.Lg Go.Lg.Fld
set_option maxRecDepth 100000
variable (X:Nat→Option Obj)
theorem lUnpack_err (ad:Option Addr) (cap:Nat) (fs:List Fl) (s:List UInt8) (hin:FieldsIn X ad fs) (hbig:fs.length<4611686018427387904) (h:unpErr fs s≠0):
  PSpec Tryz.prog X 41 [Lx ad fs.length cap,Ls s] (.tup [Vnil,Sn .i64 (unpErr fs s)]):=by
 have:=lUnpack_spec X ad cap fs s hin hbig
 unfold unpR lunpBx at this
 rw [if_neg h,if_neg h] at this
 exact this.plain
theorem lUnpack_ok (ad:Option Addr) (cap:Nat) (fs:List Fl) (s:List UInt8) (hin:FieldsIn X ad fs) (hbig:fs.length<4611686018427387904) (h:unpErr fs s=0):
  MSpec Tryz.prog X 41 [Lx ad fs.length cap,Ls s] [] (.tup [.one (.slc 1000001 0 (unpZ fs s).length 3),Sn .i64 0]) [(1000001,some ⟨86,(nsV (unpZ fs s)).map .val,false⟩)]:=by
 have:=lUnpack_spec X ad cap fs s hin hbig
 unfold unpR lunpBx at this
 rw [if_pos h,if_pos h] at this
 exact this
end Go.Proofs.YtopiioklkkiedaaGreatDoor
end
section
set_option maxHeartbeats 12800000
set_option maxRecDepth 100000
namespace Go.Lg.Fld
open Go Go.Lg
instance:DecidableEq Fl:=fun a b=>decidable_of_iff (a.nm=b.nm∧a.kind=b.kind∧a.count=b.count) ⟨fun ⟨h1,h2,h3⟩=>by cases a;cases b;simp_all,fun h=>by rw [h];exact ⟨rfl,rfl,rfl⟩⟩
structure Cp where
 id:Int
 nm:List UInt8
 fs:List Fl
instance:DecidableEq Cp:=fun a b=>decidable_of_iff (a.id=b.id∧a.nm=b.nm∧a.fs=b.fs) ⟨fun ⟨h1,h2,h3⟩=>by cases a;cases b;simp_all,fun h=>by rw [h];exact ⟨rfl,rfl,rfl⟩⟩
structure Sc where
 ver:Int
 cs:List Cp
instance:DecidableEq Sc:=fun a b=>decidable_of_iff (a.ver=b.ver∧a.cs=b.cs) ⟨fun ⟨h1,h2⟩=>by cases a;cases b;simp_all,fun h=>by rw [h];exact ⟨rfl,rfl⟩⟩
def letB (c:UInt8):Bool:=decide (97≤c.toNat)&&decide (c.toNat≤122)
def digB (c:UInt8):Bool:=decide (48≤c.toNat)&&decide (c.toNat≤57)
def nmC (l:List UInt8) (i:Nat):Bool:=letB (l.getD i 0)||(digB (l.getD i 0)&&decide (i≠0))
def nmB (l:List UInt8):Bool:=decide (1≤l.length)&&decide (l.length≤12)&&(List.range l.length).all (nmC l)
def firstE (f:Nat→Int):Nat→Nat→Int
 | _,0=>0
 | i,n+1=>if f i=0 then firstE f (i+1) n else f i
theorem firstE_none {f:Nat→Int}:∀ {n i:Nat},(∀ j,i≤j→j<i+n→f j=0)→firstE f i n=0
 | 0,_,_=>rfl
 | n+1,i,h=>by
  unfold firstE
  rw [if_pos (h i (dO _) (by omega))]
  exact firstE_none fun j h1 h2=>h j V3 V3
theorem firstE_some {f:Nat→Int} {e:Int}:∀ {n i k:Nat},(∀ j,i≤j→j<k→f j=0)→i≤k→k<i+n→f k=e→e≠0→firstE f i n=e
 | 0,_,_,_,h1,h2,_,_=>by omega
 | n+1,i,k,h,h1,h2,he,h0=>by
  unfold firstE
  by_cases e1:i=k
  ·subst e1;rw [if_neg (by rw [he];exact h0),he]
  ·rw [if_pos (h i (dO _) V3)]
   exact firstE_some (fun j h3 h4=>h j V3 h4) V3 V3 he h0
theorem firstE_zero {f:Nat→Int}:∀ {n i:Nat},firstE f i n=0→∀ j,i≤j→j<i+n→f j=0
 | 0,_,_,_,h1,h2=>by omega
 | n+1,i,h,j,h1,h2=>by
  unfold firstE at h
  split at h
  ·rename_i h3
   by_cases e:j=i
   ·rw [e];exact h3
   ·exact firstE_zero h j V3 V3
  ·rename_i h3;exact absurd h h3
def fldE (fs:List Fl) (k:Nat):Int:=match fs[k]? with
 | some f=>if nmB f.nm=true then (if (fs.take k).any (fun g=>g.nm==f.nm)=true then 4 else 0) else 4
 | none=>0
def prevId (cs:List Cp) (i:Nat):Int:=(cs[i-1]?.map Cp.id).getD 0
def cmpE (cs:List Cp) (i:Nat):Int:=match cs[i]? with
 | some c =>
  if c.id<1∨24<c.id∨(0<i∧c.id≤prevId cs i) then 1
  else if nmB c.nm=true then (if (cs.take i).any (fun g=>g.nm==c.nm)=true then 4 else if firstE (fldE c.fs) 0 c.fs.length=0 then layErr c.fs else 4) else 4
 | none=>0
def chkE (s:Sc):Int:=if s.ver<1∨1073741824<s.ver then 1 else firstE (cmpE s.cs) 0 s.cs.length
structure CompsIn (X:Nat→Option Obj) (ad:Option Addr) (cs:List Cp):Prop where
 at_:∀ (i:Nat) (c:Cp),cs[i]? = some c→∃ (blk off:Nat) (arr:Array Value) (el:TypeId) (fr:Nat×Nat) (fad:Option Addr) (fcap:Nat),ad=some ⟨blk,off,none⟩∧X blk=some (.cells arr el fr)∧off+i*3+3≤arr.size ∧
  (arr.toList.drop (off+i*3)).take 3=[.int .i64 c.id,.string ⟨c.nm.toArray⟩,.slice fad c.fs.length fcap]∧FieldsIn X fad c.fs
 small:∀ c∈cs,-9223372036854775808≤c.id∧c.id<9223372036854775808
theorem FieldsIn.mono {X Y:Nat→Option Obj} (hXY:∀ b o,X b=some o→Y b=some o) {ad:Option Addr} {fs:List Fl} (h:FieldsIn X ad fs):FieldsIn Y ad fs:=⟨RowsIn.mono h.rows hXY,h.small⟩
theorem CompsIn.mono {X Y:Nat→Option Obj} (hXY:∀ b o,X b=some o→Y b=some o) {ad:Option Addr} {cs:List Cp} (h:CompsIn X ad cs):CompsIn Y ad cs:=⟨fun i c hc=>by
 obtain ⟨blk,off,arr,el,fr,fad,fcap,h1,h2,h3,h4,h5⟩:=h.at_ i c hc
 exact ⟨blk,off,arr,el,fr,fad,fcap,h1,hXY _ _ h2,h3,h4,h5.mono hXY⟩,h.small⟩
theorem three_at {arr:Array Value} {p:Nat} {a b c:Value} (h:(arr.toList.drop p).take 3=[a,b,c]):arr[p]? = some a∧arr[p+1]? = some b∧arr[p+2]? = some c:=by
 have key:∀ j,j<3→arr[p+j]? = [a,b,c][j]? := fun j hj=>by
  rw [← h,List.getElem?_take,if_pos hj,List.getElem?_drop,Array.getElem?_toList]
 exact ⟨key 0 V3,key 1 V3,key 2 V3⟩
theorem CompsIn.get {X:Nat→Option Obj} {ad:Option Addr} {cs:List Cp} (h:CompsIn X ad cs) {i:Nat} {c:Cp} (hc:cs[i]? = some c):∃ (blk off:Nat) (arr:Array Value) (el:TypeId) (fr:Nat×Nat) (fad:Option Addr) (fcap:Nat),ad=some ⟨blk,off,none⟩∧X blk=some (.cells arr el fr)∧off+i*3+3≤arr.size ∧
  ((arr.toList.drop (off+i*3)).take 3).map CV.val=[.val (.int .i64 c.id),.val (.string ⟨c.nm.toArray⟩),.val (.slice fad c.fs.length fcap)]∧arr[off+i*3]? = some (.int .i64 c.id)∧arr[off+i*3+1]? = some (.string ⟨c.nm.toArray⟩)∧arr[off+i*3+2]? = some (.slice fad c.fs.length fcap)∧FieldsIn X fad c.fs:=by
 obtain ⟨blk,off,arr,el,fr,fad,fcap,h1,h2,h3,h4,h5⟩:=h.at_ i c hc
 obtain ⟨g1,g2,g3⟩:=three_at h4
 exact ⟨blk,off,arr,el,fr,fad,fcap,h1,h2,h3,by rw [h4];rfl,g1,g2,g3,h5⟩
def NamesIn (cs:List Cp):Prop := ∀ c∈cs,c.nm.length≤9223372036854775807∧∀ f∈c.fs,f.nm.length≤9223372036854775807
def SmallC (cs:List Cp):Prop:=cs.length≤30∧∀ c∈cs,c.fs.length≤12∧c.nm.length≤100∧∀ f∈c.fs,f.nm.length≤100
end Go.Lg.Fld
namespace Go.Proofs.YtopiioklkkiedaaGreatDoor
open Go Go.Lg Go.Lg.Fld
abbrev Sx (ver:Int) (ad:Option Addr) (n cap:Nat):LV:=.sv (.agg [.val (.int .i64 ver),.val (.slice ad n cap)])
abbrev Cx (c:Cp) (fad:Option Addr) (fcap:Nat):LV:=.sv (.agg [.val (.int .i64 c.id),.val (.string ⟨c.nm.toArray⟩),.val (.slice fad c.fs.length fcap)])
end Go.Proofs.YtopiioklkkiedaaGreatDoor
end
section
set_option maxHeartbeats 12800000
set_option maxRecDepth 100000
namespace Go.Proofs.YtopiioklkkiedaaGreatDoor
open Go Go.Lg Go.Lg.Fld
set_option maxRecDepth 100000
variable (X:Nat→Option Obj)
theorem getD_of {α:Type} {l:List α} {i:Nat} {d x:α} (h:l[i]? = some x):l.getD i d=x:=by rw [List.getD_eq_getElem?_getD,h];rfl
theorem nmB_false {l:List UInt8} {i:Nat} (hi:i<l.length) (h:nmC l i=false):nmB l=false:=by
 unfold nmB
 rw [Bool.and_eq_false_iff]
 right
 exact List.all_eq_false.2 ⟨i,List.mem_range.2 hi,by rw [h];simp⟩
theorem nmB_true {l:List UInt8} (h1:1≤l.length) (h2:l.length≤12) (h:∀ j,j<l.length→nmC l j=true):nmB l=true:=by
 unfold nmB
 rw [cP h1,cP h2,Bool.true_and,Bool.true_and]
 exact List.all_eq_true.2 fun j hj=>h j (List.mem_range.1 hj)
theorem sName_spec (l:List UInt8):PSpec Tryz.prog X 130 [Ls l] (Lb (nmB l)):=by
 refine cF Tryz.func130 rfl V5 rfl rfl ?_
 intro C
 have hlen:(⟨l.toArray⟩:ByteArray).size=l.length:=rfl
 by_cases h1:l.length<1
 ·rw [show nmB l=false by unfold nmB;rw [cO V3];rfl]
  (refine U9 ?_;refine klt rfl rfl (cP V22) ?_;refine U12 ?_)
  exact V6
 ·by_cases h2:12<l.length
  ·rw [show nmB l=false by unfold nmB;rw [cO (show ¬l.length≤12 by omega)];simp]
   (refine U9 ?_;refine klt O O (cO V22) ?_;refine U2 ?_;refine K.lenStr O (dT O O) ?_;refine aS O O (cP V22) (dT O O) ?_;refine U8 ?_)
   exact V6
  ·(refine U9 ?_;refine klt O O (cO V22) ?_;refine U2 ?_;refine K.lenStr O (dT O O) ?_;refine aS O O (cO V22) (dT O O) ?_;refine U10 ?_)
   refine cL (fun m σ=>∃ i:Nat,i≤l.length∧m=l.length-i∧(∀ j,j<i→nmC l j=true)∧σ=⟨[(0,Ls l),(3,Ln .i64 (i:Nat))],[],X⟩) l.length
    ⟨_,Le.of VE VC V2 V2 V2,0,by omega,by omega,fun j hj=>absurd hj V3,rfl⟩ ?_
   rintro m σ ⟨i,hi,rfl,hpre,rfl⟩
   by_cases hlt:i<l.length
   ·obtain ⟨c,hc⟩:=wg hlt
    have hD:l.getD i 0=c:=getD_of hc
    have hget:(⟨l.toArray⟩:ByteArray)[(i:Int).toNat]? = some c:=str_at (by rw [dH];exact hc)
    have hlss:decide (((i:Nat):Int)<(⟨l.toArray⟩:ByteArray).size)=true:=cP V22
    by_cases l1:97≤c.toNat∧c.toNat≤122
    ·have hok:nmC l i=true:=by unfold nmC;rw [hD];unfold letB;simp [l1.1,l1.2]
     have key:∀ j,j<i+1→nmC l j=true:=fun j hj=>by
      by_cases e:j=i
      ·rw [e];exact hok
      ·exact hpre j V3
     by_cases d1:48≤c.toNat
     ·by_cases d2:c.toNat≤57
      ·omega
      ·(refine U6 ?_;refine klt O O hlss ?_;refine U14 ?_;refine bB O O V3 hget (dT O O) ?_;refine K.leq O O (cP V3) (dT O O) ?_;refine U12 ?_;refine bB O O V3 hget (dT O O) ?_;refine K.leq O O (cO V3) (dT O O) ?_;refine U23 ?_)
       exact ⟨_,_,by omega,Le.of VE VC V2 V2 V2,i+1,by omega,O,key,O⟩
     ·omega
    ·by_cases d1:48≤c.toNat∧c.toNat≤57
     ·by_cases hi0:i=0
      ·have hno:nmC l i=false:=by unfold nmC letB;rw [hD];simp [l1,hi0];omega
       rw [nmB_false hlt hno]
       subst hi0
       (refine U6 ?_;refine klt O O hlss ?_;refine U28 ?_;refine bB O O V3 hget (dT O O) ?_;refine K.leq O O (cP V3) (dT O O) ?_;refine U22 ?_)
       exact V6
      ·have hok:nmC l i=true:=by unfold nmC digB;rw [hD];simp [d1.1,d1.2,hi0]
       have key:∀ j,j<i+1→nmC l j=true:=fun j hj=>by
        by_cases e:j=i
        ·rw [e];exact hok
        ·exact hpre j V3
       have heq:(((i:Nat):Int)==0)=false:=cS V3
       (refine U6 ?_;refine klt O O hlss ?_;refine U28 ?_;refine bB O O V3 hget (dT O O) ?_;refine K.leq O O (cP V3) (dT O O) ?_;refine U23 ?_)
       exact ⟨_,_,by omega,Le.of VE VC V2 V2 V2,i+1,by omega,O,key,O⟩
     ·have hno:nmC l i=false:=by unfold nmC letB digB;rw [hD];simp;constructor<;>intro h<;>omega
      rw [nmB_false hlt hno]
      by_cases a1:97≤c.toNat
      ·(refine U6 ?_;refine klt O O hlss ?_;refine U14 ?_;refine bB O O V3 hget (dT O O) ?_;refine K.leq O O (cO V3) (dT O O) ?_;refine U12 ?_;refine bB O O V3 hget (dT O O) ?_;refine K.leq O O (cO V3) (dT O O) ?_;refine U22 ?_)
       exact V6
      ·by_cases a2:48≤c.toNat
       ·(refine U6 ?_;refine klt O O hlss ?_;refine U28 ?_;refine bB O O V3 hget (dT O O) ?_;refine K.leq O O (cO V3) (dT O O) ?_;refine U22 ?_)
        exact V6
       ·(refine U6 ?_;refine klt rfl rfl hlss ?_;refine U52 ?_)
        exact V6
   ·rw [nmB_true V3 V3 (fun j hj=>hpre j V3)]
    (refine U6 ?_;refine klt rfl rfl (cO V22) ?_;refine U8 ?_)
    exact V6
end Go.Proofs.YtopiioklkkiedaaGreatDoor
end
section
set_option maxHeartbeats 12800000
set_option maxRecDepth 100000
namespace Go.Lg.Fld
open Go Go.Lg
def findI {α:Type} (p:α→Bool) (l:List α):Int:=match l.findIdx? p with|some i=>(i:Nat)|none => -1
theorem findI_some {α:Type} {p:α→Bool} {l:List α} {i:Nat} {x:α} (h:∀ (j:Nat) (y:α),j<i→l[j]? = some y→p y=false) (hx:l[i]? = some x) (hp:p x=true):findI p l=(i:Nat):=by
 unfold findI
 obtain ⟨hi,e⟩:=List.getElem?_eq_some_iff.1 hx
 rw [List.findIdx?_eq_some_iff_getElem.2 ⟨hi,by rw [e];exact hp,fun j hj=>by rw [h j _ hj (cY (by omega))];simp⟩]
theorem findI_none {α:Type} {p:α→Bool} {l:List α} (h:∀ (j:Nat) (y:α),l[j]? = some y→p y=false):findI p l = -1:=by
 unfold findI
 rw [List.findIdx?_eq_none_iff.2 fun x hx=>by
  obtain ⟨j,hj⟩:=List.mem_iff_getElem?.1 hx
  exact h j x hj]
end Go.Lg.Fld
namespace Go.Proofs.YtopiioklkkiedaaGreatDoor
open Go Go.Lg Go.Lg.Fld
set_option maxRecDepth 100000
variable (X:Nat→Option Obj)
abbrev sxB (k:Nat) (ver:Int) (ad:Option Addr) (n cap:Nat):Nat×Option Box:=(k,some ⟨33,[.val (.int .i64 ver),.val (.slice ad n cap)],false⟩)
theorem sFind_spec (ver:Int) (ad:Option Addr) (cap:Nat) (cs:List Cp) (id:Int) (hin:CompsIn X ad cs) (hbig:cs.length<4611686018427387904):
  PSpec Tryz.prog X 51 [Sx ver ad cs.length cap,Ln .i64 id] (Ln .i64 (findI (fun c=>c.id==id) cs)):=by
 refine cF Tryz.func51 rfl V5 rfl rfl ?_
 intro C
 (refine aA<|rgN<|K.box O O O dS<|kas O<|RunK.nil<|aA<|aA<|rgN<|kas O<|RunK.nil<|LWP.block ?_)
 refine cL (fun m σ=>∃ i:Nat,i≤cs.length∧m=cs.length-i∧(∀ (j:Nat) (y:Cp),j<i→cs[j]? = some y→(y.id==id)=false)∧σ=⟨[(1,Ln .i64 id),(2,Lp 2),(5,Ln .i64 (i:Nat))],[sxB 2 ver ad cs.length cap],X⟩) cs.length
  ⟨_,Le.of V9 V13 V2 V2 V0,0,by omega,by omega,fun j y hj=>absurd hj V3,rfl⟩ ?_
 rintro m σ ⟨i,hi,rfl,hpre,rfl⟩
 by_cases hlt:i<cs.length
 ·obtain ⟨c,hc⟩:=wg hlt
  obtain ⟨blk,off,arr,el,fr,fad,fcap,rfl,hX,hsz,hcs,g1,g2,g3,hF⟩:=hin.get hc
  have hio:=wo off i 3
  by_cases he:c.id=id
  ·rw [findI_some hpre hc (by rw [beq_iff_eq];exact he)]
   (refine aA<|aA<|rgN<|kmv O<|kfa O O ?_;refine kl1 O O O<|K.lenX O cC O dS ?_;refine klt O O (cP V3)<|RunK.nil<|LWP.condT O ?_;refine LWP.skip ?_;refine aA<|LWP.block<|aA<|rgN<|kfa O O ?_;refine kl1 O O O<|kmv O<|K.indexX O O cC V3 hio dS<|K.fieldAddrX O O dS ?_;refine K.loadX O hX O g1 dS<|kmv O<|keq O O (by rw [beq_iff_eq];exact he)<|RunK.nil<|LWP.condT O ?_;refine aA<|rgN<|kmv O<|kas O<|RunK.nil<|LWP.ret ?_)
   exact V6
  ·have hne:(c.id==id)=false:=cS he
   (refine aA<|aA<|rgN<|kmv O<|kfa O O ?_;refine kl1 O O O<|K.lenX O cC O dS ?_;refine klt O O (cP V3)<|RunK.nil<|LWP.condT O ?_;refine LWP.skip ?_;refine aA<|LWP.block<|aA<|rgN<|kfa O O ?_;refine kl1 O O O<|kmv O<|K.indexX O O cC V3 hio dS<|K.fieldAddrX O O dS ?_;refine K.loadX O hX O g1 dS<|kmv O<|keq O O hne<|RunK.nil<|LWP.condF O ?_;refine LWP.skip ?_;refine rgN<|kmv O<|kad O O (cH V3)<|kas O<|RunK.nil ?_)
   exact ⟨_,_,by omega,Le.of V9 V13 V2 V2 V0,i+1,by omega,O,(fun j y hj hy=>by
    by_cases e:j=i
    ·subst e;rw [hc] at hy;cases hy;exact hne
    ·exact hpre j y V3 hy),rfl⟩
 ·rw [findI_none fun j y hy=>hpre j y V2D hy]
  (refine aA<|aA<|rgN<|kmv O<|kfa O O ?_;refine kl1 O O O<|K.lenX O cC O dS ?_;refine klt O O (cO V3)<|RunK.nil<|LWP.condF O ?_;refine LWP.exit<|aA<|rgN<|kas O<|RunK.nil<|LWP.ret ?_)
  exact V6
end Go.Proofs.YtopiioklkkiedaaGreatDoor
end
section
set_option maxHeartbeats 12800000
set_option maxRecDepth 100000
namespace Go.Lg.Fld
open Go Go.Lg
structure Pt where
 comp:Int
 val:List (Bool×Int)
theorem any_true {α:Type} {p:α→Bool} {l:List α} {k i:Nat} {y:α} (hk:k<i) (hy:l[k]? = some y) (hp:p y=true):(l.take i).any p=true:=by
 rw [List.any_eq_true]
 exact ⟨y,dE (by rw [List.getElem?_take,if_pos hk];exact hy),hp⟩
theorem any_false {α:Type} {p:α→Bool} {l:List α} {i:Nat} (h:∀ (j:Nat) (y:α),j<i→l[j]? = some y→p y=false):(l.take i).any p=false:=by
 rw [List.any_eq_false]
 intro y hy
 obtain ⟨j,hj⟩:=List.mem_iff_getElem?.1 hy
 rw [List.getElem?_take] at hj
 split at hj
 ·rename_i h1;rw [h j y h1 hj];simp
 ·cases hj
theorem two_at {arr:Array Value} {p:Nat} {a b:Value} (h:(arr.toList.drop p).take 2=[a,b]):arr[p]? = some a∧arr[p+1]? = some b:=by
 have key:∀ j,j<2→arr[p+j]? = [a,b][j]? := fun j hj=>by
  rw [← h,List.getElem?_take,if_pos hj,List.getElem?_drop,Array.getElem?_toList]
 exact ⟨key 0 V3,key 1 V3⟩
end Go.Lg.Fld
namespace Go.Proofs.YtopiioklkkiedaaGreatDoor
open Go Go.Lg Go.Lg.Fld
set_option maxRecDepth 100000
def partE (cs:List Cp) (p:Pt):Int:=match cs.find? (fun c=>c.id==p.comp) with|some c=>fitErr c.fs p.val|none=>6
def ptE (cs:List Cp) (ps:List Pt) (i:Nat):Int:=match ps[i]? with
 | some p=>if (ps.take i).any (fun g=>g.comp==p.comp)=true then 1 else partE cs p
 | none=>0
def partsE (cs:List Cp) (ps:List Pt):Int:=firstE (ptE cs ps) 0 ps.length
structure PartsIn (X:Nat→Option Obj) (ad:Option Addr) (ps:List Pt):Prop where
 at_:∀ (i:Nat) (p:Pt),ps[i]? = some p→∃ (blk off:Nat) (arr:Array Value) (el:TypeId) (fr:Nat×Nat) (vad:Option Addr) (vcap:Nat),ad=some ⟨blk,off,none⟩∧X blk=some (.cells arr el fr)∧off+i*2+2≤arr.size ∧
  (arr.toList.drop (off+i*2)).take 2=[.int .i64 p.comp,.slice vad p.val.length vcap]∧NumsIn X vad p.val
 small:∀ p∈ps,-9223372036854775808≤p.comp∧p.comp<9223372036854775808
theorem PartsIn.get {X:Nat→Option Obj} {ad:Option Addr} {ps:List Pt} (h:PartsIn X ad ps) {i:Nat} {p:Pt} (hc:ps[i]? = some p):∃ (blk off:Nat) (arr:Array Value) (el:TypeId) (fr:Nat×Nat) (vad:Option Addr) (vcap:Nat),ad=some ⟨blk,off,none⟩∧X blk=some (.cells arr el fr)∧off+i*2+2≤arr.size ∧
  ((arr.toList.drop (off+i*2)).take 2).map CV.val=[.val (.int .i64 p.comp),.val (.slice vad p.val.length vcap)]∧arr[off+i*2]? = some (.int .i64 p.comp)∧arr[off+i*2+1]? = some (.slice vad p.val.length vcap)∧NumsIn X vad p.val:=by
 obtain ⟨blk,off,arr,el,fr,vad,vcap,h1,h2,h3,h4,h5⟩:=h.at_ i p hc
 obtain ⟨g1,g2⟩:=two_at h4
 exact ⟨blk,off,arr,el,fr,vad,vcap,h1,h2,h3,by rw [h4];rfl,g1,g2,h5⟩
abbrev Px (p:Pt) (vad:Option Addr) (vcap:Nat):LV:=.sv (.agg [.val (.int .i64 p.comp),.val (.slice vad p.val.length vcap)])
theorem find_at {cs:List Cp} {i:Nat} {c:Cp} {id:Int} (hpre:∀ (j:Nat) (y:Cp),j<i→cs[j]? = some y→(y.id==id)=false) (hc:cs[i]? = some c) (he:c.id=id):cs.find? (fun c=>c.id==id)=some c:=by
 obtain ⟨hi,e⟩:=List.getElem?_eq_some_iff.1 hc
 rw [List.find?_eq_some_iff_getElem]
 refine ⟨by rw [beq_iff_eq];exact he,i,hi,e,fun j hj => ?_⟩
 rw [hpre j _ hj (cY (by omega))];rfl
theorem find_no {cs:List Cp} {id:Int} (h:∀ (j:Nat) (y:Cp),cs[j]? = some y→(y.id==id)=false):cs.find? (fun c=>c.id==id)=none:=by
 rw [List.find?_eq_none]
 intro c hc
 obtain ⟨j,hj⟩:=List.mem_iff_getElem?.1 hc
 rw [h j c hj];simp
theorem find_cases (cs:List Cp) (id:Int):(∃ (i:Nat) (c:Cp),cs[i]? = some c∧c.id=id∧∀ (j:Nat) (y:Cp),j<i→cs[j]? = some y→(y.id==id)=false)∨∀ (j:Nat) (y:Cp),cs[j]? = some y→(y.id==id)=false:=by
 cases hf:cs.findIdx? (fun c=>c.id==id) with
 | some i =>
  obtain ⟨hi,h1,h2⟩:=List.findIdx?_eq_some_iff_getElem.1 hf
  refine .inl ⟨i,cs[i],cY hi,by simpa using h1,fun j y hj hy => ?_⟩
  have:=h2 j hj
  obtain ⟨hj',e⟩:=List.getElem?_eq_some_iff.1 hy
  rw [e] at this
  cases hb:y.id==id with
  | false=>rfl
  | true=>exact absurd hb this
 | none =>
  have:=List.findIdx?_eq_none_iff.1 hf
  exact .inr fun j y hy=>this y (dE hy)
variable (X:Nat→Option Obj)
theorem sPart_spec (ver:Int) (ad vad:Option Addr) (cap vcap:Nat) (cs:List Cp) (p:Pt) (hin:CompsIn X ad cs) (hbig:cs.length<4611686018427387904) (hfs:∀ c∈cs,c.fs.length<4611686018427387904) (hns:NumsIn X vad p.val) (hnb:p.val.length<4611686018427387904):
  PSpec Tryz.prog X 95 [Sx ver ad cs.length cap,Px p vad vcap] (Ln .i64 (partE cs p)):=by
 refine cF Tryz.func95 rfl V5 rfl rfl ?_
 intro C
 have hF:=sFind_spec X ver ad cap cs p.comp hin hbig
 unfold partE
 rcases find_cases cs p.comp with ⟨i,c,hc,he,hpre⟩|hno
 ·rw [findI_some hpre hc (by rw [beq_iff_eq];exact he)] at hF
  rw [find_at hpre hc he]
  have hi:=(wl hc)
  obtain ⟨blk,off,arr,el,fr,fad,fcap,rfl,hX,hsz,hcs,g1,g2,g3,hFs⟩:=hin.get hc
  have hio:=wo off i 3
  have hR:=refFit_spec X fad vad fcap vcap c.fs p.val hFs (hfs c (dE hc)) hns hnb
  (refine U23 ?_;refine rgD mixed ?_;refine U13 ?_)
  exact V6
 ·rw [findI_none hno] at hF
  rw [find_no hno]
  refine U26 ?_
  exact V6
theorem ptE_at {cs:List Cp} {ps:List Pt} {i:Nat} {p:Pt} (h:ps[i]? = some p):ptE cs ps i=if (ps.take i).any (fun g=>g.comp==p.comp)=true then 1 else partE cs p:=by unfold ptE;rw [h]
set_option maxHeartbeats 1600000 in
theorem sParts_spec (ver:Int) (ad pad:Option Addr) (cap pcap:Nat) (cs:List Cp) (ps:List Pt) (hin:CompsIn X ad cs) (hbig:cs.length<4611686018427387904) (hfs:∀ c∈cs,c.fs.length<4611686018427387904) (hps:PartsIn X pad ps) (hpb:ps.length<4611686018427387904) (hnb:∀ p∈ps,p.val.length<4611686018427387904):
  PSpec Tryz.prog X 50 [Sx ver ad cs.length cap,Lx pad ps.length pcap] (Ln .i64 (partsE cs ps)):=by
 refine cF Tryz.func50 rfl V5 rfl rfl ?_
 intro C
 (refine aA<|rgN<|K.box O O O dS<|kas O<|RunK.nil<|aA<|aA<|rgN<|kas O<|RunK.nil<|LWP.block ?_)
 refine cL (fun m σ=>∃ i:Nat,i≤ps.length∧m=ps.length-i∧(∀ j,0≤j→j<i→ptE cs ps j=0)∧σ=⟨[(1,Lx pad ps.length pcap),(2,Lp 2),(5,Ln .i64 (i:Nat))],[sxB 2 ver ad cs.length cap],X⟩) ps.length
  ⟨_,Le.of V9 V13 V2 V2 V0,0,by omega,by omega,fun j _ hj=>absurd hj V3,rfl⟩ ?_
 rintro m σ ⟨i,hi,rfl,hpre,rfl⟩
 by_cases hlt:i<ps.length
 ·obtain ⟨p,hp⟩:=wg hlt
  obtain ⟨blk,off,arr,el,fr,vad,vcap,rfl,hX,hsz,hcs,g1,g2,hN⟩:=hps.get hp
  have hio:=wo off i 2
  have hE:=ptE_at (cs:=cs) hp
  have hP:=sPart_spec X ver ad vad cap vcap cs p hin hbig hfs hN (hnb p (dE hp))
  (refine aA<|aA<|rgN<|kmv O<|kmv O<|K.lenX O cC O dS ?_;refine klt O O (cP V3)<|RunK.nil<|LWP.condT O ?_;refine LWP.skip ?_;refine aA<|LWP.block<|aA<|aA<|rgN<|kas O<|RunK.nil<|LWP.block ?_)
  refine cL (fun m σ=>∃ k:Nat,k≤i∧m=i-k∧(∀ (j:Nat) (y:Pt),j<k→ps[j]? = some y→(y.comp==p.comp)=false)∧σ=⟨[(1,Lx (some ⟨blk,off,none⟩) ps.length pcap),(2,Lp 2),(5,Ln .i64 (i:Nat)),(6,Ln .i64 (k:Nat))],[sxB 2 ver ad cs.length cap],X⟩) i
   ⟨_,Le.of V8 V13 V2 V2 V0,0,by omega,by omega,fun j y hj=>absurd hj V3,rfl⟩ ?_
  rintro m σ ⟨k,hk,rfl,hpre2,rfl⟩
  by_cases hkl:k<i
  ·obtain ⟨q,hq⟩:∃ q,ps[k]? = some q:=wg V3
   obtain ⟨blk',off',arr',el',fr',_,_,e1,hX',_,_,g1',_,_⟩:=hps.get hq
   simp only [Option.some.injEq,Addr.mk.injEq] at e1
   obtain ⟨rfl,rfl,_⟩:=e1
   rw [hX] at hX'
   simp only [Option.some.injEq,Obj.cells.injEq] at hX'
   obtain ⟨rfl,rfl,rfl⟩:=hX'
   have hio2:=wo off k 2
   by_cases hqe:q.comp=p.comp
   ·rw [any_true hkl hq (by rw [beq_iff_eq];exact hqe),if_pos rfl] at hE
    rw [show partsE cs ps=1 from firstE_some hpre (Nat.zero_le _) (by omega) hE (by decide)]
    (refine aA<|aA<|rgN<|kmv O<|kmv O<|klt O O (cP V3)<|RunK.nil<|LWP.condT O ?_;refine LWP.skip ?_;refine aA<|LWP.block<|aA<|rgD mixed<|kmv O<|kmv O<|K.indexX O O cC V3 hio2 dS<|K.fieldAddrX O O dS ?_;refine K.loadX O hX O g1' dS<|kmv O<|kmv O<|K.indexX O O cC V3 hio dS<|K.fieldAddrX O O dS ?_;refine K.loadX O hX O g1 dS<|keq O O (r:=true) (by rw [beq_iff_eq];exact hqe)<|RunK.nil<|rgA ?_;refine LWP.condT O ?_;refine aA<|rgN<|kas O<|RunK.nil<|LWP.ret ?_)
    exact V6
   ·have hne:(q.comp==p.comp)=false:=cS hqe
    (refine aA<|aA<|rgN<|kmv O<|kmv O<|klt O O (cP V3)<|RunK.nil<|LWP.condT O ?_;refine LWP.skip ?_;refine aA<|LWP.block<|aA<|rgD mixed<|kmv O<|kmv O<|K.indexX O O cC V3 hio2 dS<|K.fieldAddrX O O dS ?_;refine K.loadX O hX O g1' dS<|kmv O<|kmv O<|K.indexX O O cC V3 hio dS<|K.fieldAddrX O O dS ?_;refine K.loadX O hX O g1 dS<|keq O O hne<|RunK.nil<|rgA ?_;refine LWP.condF O ?_;refine LWP.skip ?_;refine rgN<|kmv O<|kad O O (cH V3)<|kas O<|RunK.nil ?_)
    exact ⟨_,_,by omega,Le.of V8 V13 V2 V2 V0,k+1,by omega,O,(fun j y hj hy=>by
     by_cases e:j=k
     ·subst e;rw [hq] at hy;cases hy;exact hne
     ·exact hpre2 j y V3 hy),rfl⟩
  ·rw [any_false fun j y hj hy=>hpre2 j y V3 hy,if_neg VA] at hE
   by_cases he0:partE cs p=0
   ·rw [he0] at hP hE
    (refine aA<|aA<|rgN<|kmv O<|kmv O<|klt O O (cO V3)<|RunK.nil<|LWP.condF O ?_;refine LWP.exit<|aA<|rgD mixed<|K.loadAll O O O dS ?_;refine kmv O<|kmv O<|K.indexX O O cC V3 hio dS<|K.loadXagg O hX V5 hsz hcs dS<|kca O O (hP)<|kas O<|RunK.nil<|rgA ?_;refine aA<|rgN<|kmv O<|kne O O ((cT V3))<|RunK.nil<|LWP.condF O ?_;refine LWP.skip ?_;refine rgN<|kmv O<|kad O O (cH V3)<|kas O<|RunK.nil ?_)
    exact ⟨_,_,by omega,Le.of V9 V13 V2 V2 V0,i+1,by omega,O,(fun j h0 hj=>by
     by_cases e:j=i
     ·rw [e];exact hE
     ·exact hpre j h0 V3),rfl⟩
   ·rw [show partsE cs ps=partE cs p from firstE_some hpre (Nat.zero_le _) V3 hE he0]
    have hne:(partE cs p != 0)=true:=by rw [bne_iff_ne];exact he0
    generalize partE cs p=E at *
    (refine aA<|aA<|rgN<|kmv O<|kmv O<|klt O O (cO V3)<|RunK.nil<|LWP.condF O ?_;refine LWP.exit<|aA<|rgD mixed<|K.loadAll O O O dS ?_;refine kmv O<|kmv O<|K.indexX O O cC V3 hio dS<|K.loadXagg O hX V5 hsz hcs dS<|kca O O (hP)<|kas O<|RunK.nil<|rgA ?_;refine aA<|rgN<|kmv O<|kne O O hne<|RunK.nil<|LWP.condT O ?_;refine aA<|rgN<|kmv O<|kas O<|RunK.nil<|LWP.ret ?_)
    exact V6
 ·rw [show partsE cs ps=0 from firstE_none fun j h0 hj=>hpre j h0 V3]
  (refine aA<|aA<|rgN<|kmv O<|kmv O<|K.lenX O cC O dS ?_;refine klt O O (cO V3)<|RunK.nil<|LWP.condF O ?_;refine LWP.exit<|aA<|rgN<|kas O<|RunK.nil<|LWP.ret ?_)
  exact V6
end Go.Proofs.YtopiioklkkiedaaGreatDoor
end
section
set_option maxHeartbeats 12800000
set_option maxRecDepth 100000
namespace Go.Proofs.YtopiioklkkiedaaGreatDoor
open Go Go.Lg Go.Lg.Fld Go.RowKit Go.ChangeShapes Go.WideShapes Go.Joins
set_option maxRecDepth 100000
section
variable {H:Type} {enc:TypeId×Value→H} {w:World}
theorem cellsS:Tryz.prog.cellsOf 33=2:=by kernel_rfl
end
end Go.Proofs.YtopiioklkkiedaaGreatDoor
end
