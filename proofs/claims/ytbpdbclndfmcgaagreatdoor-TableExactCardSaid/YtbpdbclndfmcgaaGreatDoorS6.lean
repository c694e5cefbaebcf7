/- A piece of a proof over this program: contracts of its functions, and a logic to prove them by. -/
import Derived.Test.YtbpdbclndfmcgaaGreatDoorS3
import Derived.Test.YtbpdbclndfmcgaaGreatDoorS4
import Derived.Test.YtbpdbclndfmcgaaGreatDoorS5
import Derived.Laws.BitsAllLaws
import Derived.Lib.Join
import Derived.Lib.IndexLaws
section
set_option maxHeartbeats 12800000
set_option maxRecDepth 100000
namespace Go.Proofs.YtbpdbclndfmcgaaGreatDoor
open Go Go.Lg Go.Lg.Fld Go.Lg.Sg
set_option maxRecDepth 100000
theorem findI_lt (cs:List Cp) (id:Int):decide (findI (fun c=>c.id==id) cs<0) = !hasC cs id:=by
 unfold hasC
 rcases find_cases cs id with ⟨i,c,hc,he,hpre⟩|h
 ·have h1:cs.any (fun c=>c.id==id)=true:=List.any_eq_true.2 ⟨c,dA hc,cS he⟩
  rw [findI_some hpre hc (cS he),cL (by omega),h1];rfl
 ·have h1:cs.any (fun c=>c.id==id)=false:=List.any_eq_false.2 fun x hx=>by
   obtain ⟨j,hj⟩:=List.mem_iff_getElem?.1 hx
   rw [h j x hj];decide
  rw [findI_none h,h1];rfl
theorem all_take {α:Type} {p:α→Bool} {l:List α} (h:∀ x∈l.take l.length,p x=true):l.all p=true:=by
 rw [dC] at h
 exact List.all_eq_true.2 h
abbrev Tcs (t:Tb) (ad:Option Addr) (cap:Nat) (iad:Option Addr) (icap:Nat) (lad:Option Addr) (lcap:Nat):List CV:=
 [.val (.int .i64 t.sc.ver),.val (.slice ad t.sc.cs.length cap),.val (.slice iad (idsL t.set).length icap),.val (.int .i64 (t.most:Nat)),.val (.int .i64 (t.kept:Nat)),.val (.slice lad t.l.length lcap)]
abbrev TTx (t:Tb) (ad:Option Addr) (cap:Nat) (iad:Option Addr) (icap:Nat) (lad:Option Addr) (lcap:Nat):LV:=.sv (.agg (Tcs t ad cap iad icap lad lcap))
abbrev utB (k:Nat) (cs:List CV):Nat×Option Box:=(k,some ⟨62,cs,false⟩)
structure TbIn (X:Nat→Option Obj) (t:Tb) (ad iad lad:Option Addr):Prop where
 cs:CompsIn X ad t.sc.cs
 ids:NuIn X iad (idsL t.set)
 l:TbsIn X lad t.l
 small:t.sc.cs.length≤30∧∀ c∈t.sc.cs,c.fs.length≤12
theorem TbIn.mono {X Y:Nat→Option Obj} (hXY:∀ b o,X b=some o→Y b=some o) {t:Tb} {ad iad lad:Option Addr} (h:TbIn X t ad iad lad):TbIn Y t ad iad lad:=⟨h.cs.mono hXY,h.ids.mono hXY,h.l.mono hXY,h.small⟩
variable (X:Nat→Option Obj)
set_option maxHeartbeats 3200000 in
theorem rGood_spec (s:Sc) (set:Nat) (most:Int) (ad:Option Addr) (cap:Nat) (hin:CompsIn X ad s.cs) (hs:s.cs.length≤30∧∀ c∈s.cs,c.fs.length≤12) (hset:set<4294967296):
  PSpec Tryz.prog X 9 [Sx s.ver ad s.cs.length cap,Ln .u32 (set:Nat),Ln .i64 most] (Lb (goodT s set most)):=by
 obtain ⟨hs1,hs2⟩:=hs
 have hC:=sCheck_spec X s ad cap hin V3 (fun c hc=>by have:=hs2 c hc;omega)
 have hI:=rIs_spec X set hset
 have hD:=rIds_spec X set hset
 have hF:=fun id=>sFind_spec X s.ver ad cap s.cs id hin V3
 refine cD Tryz.func9 rfl V5 rfl rfl ?_
 intro C
 by_cases c1:chkE s=0
 case neg =>
  rw [show goodT s set most=false by unfold goodT;rw [cL c1];rfl]
  generalize chkE s=e1 at *
  (refine U10 ?_;refine kne rfl rfl (r:=true) (cR c1) ?_;refine U20 ?_)
  exact V6
 rw [c1] at hC
 cases c2:isB set with
 | false =>
  rw [show goodT s set most=false by unfold goodT;rw [c2,Bool.and_false];rfl]
  rw [c2] at hI
  refine U31 ?_
  exact V6
 | true =>
 rw [c2] at hI
 by_cases c3:1≤most
 case neg =>
  rw [show goodT s set most=false by unfold goodT;rw [cL c3,Bool.and_false];rfl]
  (refine U18 ?_;refine bK O O (cM V3) (dP O O) ?_;refine U12 ?_)
  exact V6
 by_cases c4:most≤256
 case neg =>
  rw [show goodT s set most=false by unfold goodT;rw [cL c4,Bool.and_false];rfl]
  (refine U18 ?_;refine bK O O (cL V3) (dP O O) ?_;refine U3 ?_;refine aS O O (cM V3) (dP O O) ?_;refine U8 ?_)
  exact V6
 have hg:goodT s set most=(idsL set).all (hasC s.cs):=by unfold goodT;rw [cM c1,c2,cM c3,cM c4];rfl
 rw [hg]
 clear hg
 have hlen:=ids_le set
 (refine U18 ?_;refine bK O O (cL V3) (dP O O) ?_;refine U3 ?_;refine aS O O (cL V3) (dP O O) ?_;refine U7 ?_;refine bE [(1000001,500)] (.sv (.one (.slc 500 0 (idsL set).length))) [nuB 500 (idsL set)] (hD) O O V15 O O O O O V18 dO ?_;refine U8 ?_)
 clear hC hI hD
 generalize idsL set=ids at *
 refine cH (fun m σ=>∃ i:Nat,i≤ids.length∧m=ids.length-i∧(∀ x∈ids.take i,hasC s.cs x=true)∧σ=⟨[(3,Lp 3),(7,.sv (.one (.slc 500 0 ids.length))),(8,Ln .i64 (i:Nat))],[sxB 3 s.ver ad s.cs.length cap,nuB 500 ids],X⟩) ids.length
  ⟨_,Le.of V9 VA V2 V2 V0,0,by omega,by omega,fun x hx=>absurd hx V24,rfl⟩ ?_
 rintro m σ ⟨i,hi,rfl,hpre,rfl⟩
 by_cases hlt:i<ids.length
 case neg =>
  have e:i=ids.length:=by omega
  subst e
  rw [all_take hpre]
  refine U15 ?_
  exact V6
 obtain ⟨x,hx⟩:=wg hlt
 have hxr:((nuV ids).map CV.val)[i]? = some (.val (.int .i64 x)):=by unfold nuV;rw [dI,dI,hx];rfl
 have hio:0+Int.toNat (i:Int)*1=i:=by simp
 have hFx:=hF x
 have hFl:=findI_lt s.cs x
 have hadd:=wi i V3
 cases hb:hasC s.cs x with
 | false =>
  rw [hb] at hFl
  rw [List.all_eq_false.2 ⟨x,dA hx,by rw [hb];decide⟩]
  generalize findI (fun c=>c.id==x) s.cs=f at *
  (refine U13 ?_;refine rgD mixed ?_;refine U6 ?_;refine klt rfl rfl hFl ?_;refine U8 ?_)
  exact V6
 | true =>
  rw [hb] at hFl
  have hpre2:∀ y∈ids.take (i+1),hasC s.cs y=true:=by
   rw [take_snoc hx]
   intro y hy
   rcases List.mem_append.1 hy with hy|hy
   ·exact hpre y hy
   ·rw [List.mem_singleton.1 hy];exact hb
  generalize findI (fun c=>c.id==x) s.cs=f at *
  (refine U13 ?_;refine rgD mixed ?_;refine U6 ?_;refine klt rfl rfl hFl ?_;refine U9 ?_)
  exact ⟨ids.length-(i+1),_,by omega,Le.of V9 VA V2 V2 V0,i+1,by omega,O,hpre2,O⟩
theorem rRoom_spec (t:Tb) (ad iad lad:Option Addr) (cap icap lcap:Nat) (hm:t.most≤256) (hr:t.l.length+t.kept≤t.most):
  PSpec Tryz.prog X 29 [TTx t ad cap iad icap lad lcap] (Ln .i64 (roomT t:Nat)):=by
 have h1:IntKind.i64.wrap (((t.most:Nat):Int)-((t.l.length:Nat):Int))=((t.most-t.l.length:Nat):Int):=by rw [cF V3];omega
 have h2:IntKind.i64.wrap (((t.most-t.l.length:Nat):Int)-((t.kept:Nat):Int))=((roomT t:Nat):Int):=by unfold roomT;rw [cF V3];omega
 refine cD Tryz.func29 rfl V5 rfl rfl ?_
 intro C
 refine U19 ?_
 exact V6
def tplaceI (set:Nat) (comp:Int):Int:=findI (fun x=>x==comp) (idsL set)
set_option maxHeartbeats 3200000 in
theorem rPlace_spec (t:Tb) (comp:Int) (ad iad lad:Option Addr) (cap icap lcap:Nat) (hids:NuIn X iad (idsL t.set)):
  PSpec Tryz.prog X 61 [TTx t ad cap iad icap lad lcap,Ln .i64 comp] (Ln .i64 (tplaceI t.set comp)):=by
 have hlen:=ids_le t.set
 unfold tplaceI
 refine cD Tryz.func61 rfl V5 rfl rfl ?_
 intro C
 refine U11 ?_
 refine cH (fun m σ=>∃ i:Nat,i≤(idsL t.set).length∧m=(idsL t.set).length-i∧(∀ (j:Nat) (y:Int),j<i→(idsL t.set)[j]? = some y→(y==comp)=false)∧σ=⟨[(1,Ln .i64 comp),(2,Lp 2),(5,Ln .i64 (i:Nat))],[utB 2 (Tcs t ad cap iad icap lad lcap)],X⟩) (idsL t.set).length
  ⟨_,Le.of V9 VF V2 V2 V0,0,by omega,by omega,fun j y hj=>absurd hj V3,rfl⟩ ?_
 rintro m σ ⟨i,hi,rfl,hpre,rfl⟩
 by_cases hlt:i<(idsL t.set).length
 case neg =>
  have e:i=(idsL t.set).length:=by omega
  rw [findI_none fun j y hj=>hpre j y (by rw [e];exact (wl hj)) hj]
  refine U16 ?_
  exact V6
 obtain ⟨x,hx⟩:∃ x,(idsL t.set)[i]? = some x:=⟨_,cV hlt⟩
 obtain ⟨blk,off,arr,el,fr,rfl,hX,ha⟩:=hids.at hx
 have hio:=wo off i 1
 have hadd:=wi i V3
 by_cases hc:x=comp
 ·rw [findI_some hpre hx (cS hc)]
  (refine U21 ?_;refine keq rfl rfl (r:=true) (cS hc) ?_;refine U8 ?_)
  exact V6
 ·have hpre2:∀ (j:Nat) (y:Int),j<i+1→(idsL t.set)[j]? = some y→(y==comp)=false:=fun j y hj hy=>by
   by_cases e:j<i
   ·exact hpre j y e hy
   ·have e2:j=i:=by omega
    subst e2
    rw [hx] at hy;cases hy
    exact cO hc
  (refine U21 ?_;refine keq rfl rfl (r:=false) (cO hc) ?_;refine U8 ?_)
  exact ⟨(idsL t.set).length-(i+1),_,by omega,Le.of V9 VF V2 V2 V0,i+1,by omega,O,hpre2,O⟩
theorem placeI_some {set:Nat} {comp:Int} {k:Nat} (h:placeT set comp=some k):tplaceI set comp=(k:Nat):=by unfold tplaceI findI;rw [show (idsL set).findIdx? (fun x=>x==comp)=some k from h]
theorem placeI_none {set:Nat} {comp:Int} (h:placeT set comp=none):tplaceI set comp = -1:=by unfold tplaceI findI;rw [show (idsL set).findIdx? (fun x=>x==comp)=none from h]
theorem rowB_some {t:Tb} {row:Int} (h:rowB t row=true):∃ i:Nat,row=(i:Int)∧i<t.l.length:=by
 unfold rowB at h
 rw [Bool.and_eq_true,decide_eq_true_iff,decide_eq_true_iff] at h
 exact ⟨row.toNat,by omega,by omega⟩
theorem rowB_none {t:Tb} {row:Int} (h:rowB t row=false):row<0∨(0≤row∧(t.l.length:Int)≤row):=by
 unfold rowB at h
 rw [Bool.and_eq_false_iff,decide_eq_false_iff_not,decide_eq_false_iff_not] at h
 omega
set_option maxHeartbeats 3200000 in
theorem rGet_no (t:Tb) (row comp:Int) (ad iad lad:Option Addr) (cap icap lcap:Nat) (hids:NuIn X iad (idsL t.set)) (he:tgetE t row comp≠0):
  PSpec Tryz.prog X 30 [TTx t ad cap iad icap lad lcap,Ln .i64 row,Ln .i64 comp] (.tup [Vnil,Sn .i64 (tgetE t row comp)]):=by
 refine cD Tryz.func30 rfl V5 rfl rfl ?_
 intro C
 cases hr:rowB t row with
 | false =>
  rw [show tgetE t row comp=3 by unfold tgetE;rw [hr];rfl]
  rcases rowB_none hr with h|⟨h,h2⟩
  ·(refine U10 ?_;refine klt rfl rfl (cM h) ?_;refine U15 ?_)
   exact V1A
  ·(refine U16 ?_;refine bD O O (cM V3) (dP O O) ?_;refine U9 ?_)
   exact V1A
 | true =>
  obtain ⟨i,rfl,hi⟩:=rowB_some hr
  have hp:placeT t.set comp=none:=by
   cases h:placeT t.set comp with
   | none=>rfl
   | some k=>exact absurd (by unfold tgetE;rw [hr,h];rfl) he
  rw [show tgetE t (i:Nat) comp=6 by unfold tgetE;rw [hr,hp];rfl]
  have hP:=rPlace_spec X t comp ad iad lad cap icap lcap hids
  rw [placeI_none hp] at hP
  (refine U16 ?_;refine bD O O (cL V3) (dP O O) ?_;refine U15 ?_;refine klt O O (r:=true) O ?_;refine U8 ?_)
  exact V1A
set_option maxHeartbeats 3200000 in
theorem rGet_ok (t:Tb) (i k:Nat) (comp:Int) (ad iad lad:Option Addr) (cap icap lcap:Nat) (hT:TbIn X t ad iad lad) (hi:i<t.l.length) (hk:placeT t.set comp=some k) (hok:∀ r∈t.l,r.p.length=(idsL t.set).length):
  ∃ (vad:Option Addr) (vcap:Nat),NumsIn X vad (valT t i k)∧PSpec Tryz.prog X 30 [TTx t ad cap iad icap lad lcap,Ln .i64 (i:Nat),Ln .i64 comp] (.tup [.one (.val (.slice vad (valT t i k).length vcap)),Sn .i64 0]):=by
 obtain ⟨r,hr⟩:=wg hi
 have hkl:k<r.p.length:=by rw [hok r (dA hr)];exact (List.getElem?_eq_some_iff.1 (place_at hk)).1
 obtain ⟨p,hp⟩:=wg hkl
 have hv:valT t i k=p.val:=by unfold valT;rw [hr];show (match r.p[k]? with|some p=>p.val|none=>[])=_;rw [hp]
 rw [hv]
 have hP:=rPlace_spec X t comp ad iad lad cap icap lcap hT.ids
 rw [placeI_some hk] at hP
 obtain ⟨rb,ro,rarr,rel,rfr,pad,pcap,rfl,hRX,hRz,_,r1,r2,hPI⟩:=hT.l.get hr
 obtain ⟨pb,po,parr,pel,pfr,vad,vcap,rfl,hPX,hPz,_,p1,p2,hN⟩:=hPI.get hp
 refine ⟨vad,vcap,hN,?_⟩
 have hio:=wo ro i 2
 have hko:=wo po k 2
 refine cD Tryz.func30 rfl V5 rfl rfl ?_
 intro C
 (refine U16 ?_;refine bD O O (cL V3) (dP O O) ?_;refine U35 ?_)
 exact V1A
theorem rBytes_no (t:Tb) (row comp:Int) (ad iad lad:Option Addr) (cap icap lcap:Nat) (hids:NuIn X iad (idsL t.set)) (he:tgetE t row comp≠0):
  PSpec Tryz.prog X 31 [TTx t ad cap iad icap lad lcap,Ln .i64 row,Ln .i64 comp] (.tup [.one (.val (.string ⟨#[]⟩)),Sn .i64 (tgetE t row comp)]):=by
 have hG:=rGet_no X t row comp ad iad lad cap icap lcap hids he
 refine cD Tryz.func31 rfl V5 rfl rfl ?_
 intro C
 generalize tgetE t row comp=e at *
 (refine U22 ?_;refine kne rfl rfl (r:=true) (cR he) ?_;refine U9 ?_)
 exact V1A
set_option maxHeartbeats 3200000 in
theorem rBytes_ok (t:Tb) (i k:Nat) (comp:Int) (ad iad lad:Option Addr) (cap icap lcap:Nat) (hT:TbIn X t ad iad lad) (hB:TbOk t) (hi:i<t.l.length) (hk:placeT t.set comp=some k):
  PSpec Tryz.prog X 31 [TTx t ad cap iad icap lad lcap,Ln .i64 (i:Nat),Ln .i64 comp] (.tup [.one (.val (.string ⟨(packB (fsAt t.sc.cs comp) (valT t i k)).toArray⟩)),Sn .i64 0]):=by
 obtain ⟨vad,vcap,hN,hG⟩:=rGet_ok X t i k comp ad iad lad cap icap lcap hT hi hk (fun r hr=>(hB.rows r hr).len)
 have hh:=hB.has comp (dA (place_at hk))
 obtain ⟨s1,s2⟩:=hT.small
 have hF:=sFind_spec X t.sc.ver ad cap t.sc.cs comp hT.cs V3
 have hfit:fitErr (fsAt t.sc.cs comp) (valT t i k)=0:=by
  obtain ⟨r,hr⟩:=wg hi
  have hro:=hB.rows r (dA hr)
  obtain ⟨p,hp,hc⟩:=hro.at (place_at hk)
  have hv:valT t i k=p.val:=by unfold valT;rw [hr];show (match r.p[k]? with|some p=>p.val|none=>[])=_;rw [hp]
  rw [hv,← hc]
  exact hro.fit p (dA hp)
 rcases find_cases t.sc.cs comp with ⟨j,c,hc,he,hpre⟩|h
 ·rw [findI_some hpre hc (cS he)] at hF
  have hfs:fsAt t.sc.cs comp=c.fs:=by unfold fsAt;rw [find_at hpre hc he]
  rw [hfs] at hfit ⊢
  have hjl:=(wl hc)
  obtain ⟨cb,co,carr,cel,cfr,fad,fcap,rfl,hCX,hCz,_,q1,q2,q3,hFI⟩:=hT.cs.get hc
  have hjo:=wo co j 3
  have hPk:=refPack_spec X fad vad fcap vcap c.fs (valT t i k) hFI (by have:=s2 c (dA hc);omega) hN hfit
  generalize valT t i k=V at *
  refine cD Tryz.func31 rfl V5 rfl rfl ?_
  intro C
  (refine U27 ?_;refine rgD mixed ?_;refine U4 ?_;refine bJ O O O V1C dO ?_;refine U12 ?_)
  exact V1A
 ·unfold hasC at hh
  obtain ⟨c,hc,he⟩:=List.any_eq_true.1 hh
  obtain ⟨j,hj⟩:=List.mem_iff_getElem?.1 hc
  rw [h j c hj] at he;cases he
end Go.Proofs.YtbpdbclndfmcgaaGreatDoor
end
section
set_option maxHeartbeats 12800000
set_option maxRecDepth 100000
namespace Go.Proofs.YtbpdbclndfmcgaaGreatDoor
open Go Go.Lg Go.Lg.Fld Go.Lg.Sg
set_option maxRecDepth 100000
theorem hits_snoc {l:List Pt} {k:Nat} {x:Pt} {id:Int} (h:l[k]? = some x):hitsP (l.take (k+1)) id=hitsP (l.take k) id++if x.comp=id then [x] else []:=by
 unfold hitsP
 rw [take_snoc h,List.filter_append]
 by_cases c:x.comp=id
 ·rw [if_pos c,List.filter_cons_of_pos (by simpa using c)];rfl
 ·rw [if_neg c,List.filter_cons_of_neg (by simpa using c)];rfl
theorem sort_snoc {ids:List Int} {l:List Pt} {i:Nat} {id:Int} (h:ids[i]? = some id):sortP (ids.take (i+1)) l=sortP (ids.take i) l++hitsP l id:=by
 unfold sortP
 rw [take_snoc h,dE,List.flatten_append];simp
theorem hits_le (l:List Pt) (id:Int):(hitsP l id).length≤l.length:=List.length_filter_le _ _
def pR16 (b:Bool) (L:List Pt):LV:=if b=true then .tup [.one (.slc 1000001 0 L.length 2),.one (.val (.bool true))] else .tup [Vnil,.one (.val (.bool false))]
def pBx16 (b:Bool) (L:List Pt):List (Nat×Option Box):=if b=true then [prtB 1000001 L] else []
variable (X:Nat→Option Obj)
set_option maxHeartbeats 12800000 in
theorem rSorted_spec (t:Tb) (l:List Pt) (ad iad lad pad:Option Addr) (cap icap lcap pcap:Nat) (hids:NuIn X iad (idsL t.set)) (hP:PartsIn X pad l) (sl:l.length≤12∧∀ x∈l,x.val.length≤100):
  MSpec Tryz.prog X 58 [TTx t ad cap iad icap lad lcap,Lx pad l.length pcap] [] (pR16 (justP (idsL t.set) l) (sortP (idsL t.set) l)) (pBx16 (justP (idsL t.set) l) (sortP (idsL t.set) l)):=by
 have hlen:=ids_le t.set
 obtain ⟨sl1,sl2⟩:=sl
 refine cE Tryz.func58 rfl V5 rfl (by unfold pR16 pBx16;split<;>rfl) (by unfold pBx16;split<;>exact V0) rfl rfl ?_
 intro C
 refine LWP.ends ?_
 by_cases c1:l.length=(idsL t.set).length
 case neg =>
  rw [show justP (idsL t.set) l=false by unfold justP;rw [cL c1];rfl]
  unfold pR16 pBx16
  (refine U14 ?_;refine kne rfl rfl (r:=true) (cR V3) ?_;refine U8 ?_)
  exact cA ⟨[],⟨[_,_],⟨O,O,trivial⟩,O⟩,trivial,O,O⟩
 (refine U14 ?_;refine kne O O (r:=false) (cP V3) ?_;refine U5 ?_;refine aZ (zs:=[]) (sz:=2) (e:=50) V5 O O O O O O dO ?_;refine U8 ?_)
 refine cJ (fun m σ=>∃ (i:Nat) (L:List Pt) (ws:List Value) (H:Nat→Option Obj),i≤(idsL t.set).length∧m=(idsL t.set).length-i∧OwnedM C X H∧PartsH H ws L∧L=sortP ((idsL t.set).take i) l∧(∀ id∈(idsL t.set).take i,(hitsP l id).length=1)∧σ=⟨[(1,Lx pad l.length pcap),(2,Lp 2),(6,.sv (.one (.slc 500 0 (L).length 2))),(7,Ln .i64 (i:Nat))],[(500,some ⟨50,(ptZ (L) (ws)).map .val,(Nat.blt 0 (L).length)⟩),utB 2 (Tcs t ad cap iad icap lad lcap)],joinM X H⟩) (idsL t.set).length
  (cC (σ':=⟨[(1,Lx pad l.length pcap),(2,Lp 2),(6,.sv (.one (.slc 500 0 ([]).length 2))),(7,Ln .i64 (0:Nat))],[(500,some ⟨50,(ptZ ([]) ([])).map .val,false⟩),utB 2 (Tcs t ad cap iad icap lad lcap)],X⟩) (Le.ofR [(500,16)] VD V1 V2 V2 V0 V2 V2) (cA ⟨0,[],[],fun _=>none,by omega,by omega,OwnedM.nil C X,PartsH.nil,rfl,fun x hx=>absurd hx V24,by rw [joinM_nil];rfl⟩)) ?_
 rintro m σ ⟨i,L,ws,H,hi,rfl,hO,G,hL,hpre,rfl⟩
 by_cases hlt:i<(idsL t.set).length
 case neg =>
  have e:i=(idsL t.set).length:=by omega
  rw [e,dC] at hL hpre
  rw [just_iff.2 ⟨c1,hpre⟩,← hL]
  unfold pR16 pBx16
  have hsm:∀ x∈L,smallP x:=fun x hx=>by rw [hL] at hx;exact hP.small x (sort_mem hx)
  refine U18 ?_
  refine cC (σ':=⟨[(4,.sv (.one (.slc 500 0 L.length 2))),(5,.sv (.one (.val (.bool true))))],[(500,some ⟨50,(ptZ L ws).map .val,Nat.blt 0 L.length⟩)],joinM X H⟩) (Le.ofR [(500,500)] VA V1 V2 V2 V0 V2 V2) ?_
  refine cC Le.loose ?_
  refine Leads.spare fun sp=>prt_shut hO G hsm (cA ?_)
  exact ⟨[(1000001,500)],⟨[_,_],⟨O,O,trivial⟩,O⟩,V1,O,O⟩
 obtain ⟨id,hid⟩:∃ id,(idsL t.set)[i]? = some id:=⟨_,cV hlt⟩
 obtain ⟨ib,io,iarr,iel,ifr,rfl,hIX,ia⟩:=hids.at hid
 have hio:=wo io i 1
 have hadd:=wi i V3
 have hLl:(sortP ((idsL t.set).take i) l).length≤24:=by
  rw [← cU (f:=Pt.comp),sort_comps hpre,cX];omega
 refine U23 ?_
 refine cJ (fun m σ=>∃ (k:Nat) (L:List Pt) (ws:List Value) (H:Nat→Option Obj),k≤l.length∧m=l.length-k∧OwnedM C X H∧PartsH H ws L∧L=sortP ((idsL t.set).take i) l++hitsP (l.take k) id∧σ=⟨[(1,Lx pad l.length pcap),(2,Lp 2),(6,.sv (.one (.slc 500 0 (L).length 2))),(7,Ln .i64 (i:Nat)),(8,Ln .i64 ((hitsP (l.take k) id).length:Nat)),(9,Ln .i64 (k:Nat))],[(500,some ⟨50,(ptZ (L) (ws)).map .val,(Nat.blt 0 (L).length)⟩),utB 2 (Tcs t ad cap (some ⟨ib,io,none⟩) icap lad lcap)],joinM X H⟩) l.length
  (cC (σ':=⟨[(1,Lx pad l.length pcap),(2,Lp 2),(6,.sv (.one (.slc 500 0 (L).length 2))),(7,Ln .i64 (i:Nat)),(8,Ln .i64 (0:Nat)),(9,Ln .i64 (0:Nat))],[(500,some ⟨50,(ptZ (L) (ws)).map .val,(Nat.blt 0 (L).length)⟩),utB 2 (Tcs t ad cap (some ⟨ib,io,none⟩) icap lad lcap)],joinM X H⟩) (Le.ofR [(500,500)] VC V1 V2 V2 V0 V2 V2) (cA ⟨0,L,ws,H,by omega,by omega,hO,G,by rw [show hitsP (l.take 0) id=[] from rfl,dG];exact hL,rfl⟩)) ?_
 clear hO G hL
 clear L ws H
 rintro m σ ⟨k,L,ws,H,hk,rfl,hO,G,hL,rfl⟩
 by_cases hkl:k<l.length
 case neg =>
  have e:k=l.length:=by omega
  subst e
  rw [dC] at hL ⊢
  by_cases c2:(hitsP l id).length=1
  case neg =>
   rw [show justP (idsL t.set) l=false from Bool.eq_false_iff.2 fun h=>c2 ((just_iff.1 h).2 id (dA hid))]
   unfold pR16 pBx16
   (refine U13 ?_;refine kne rfl rfl (r:=true) (cR V3) ?_;refine U8 ?_)
   exact cA ⟨[],⟨[_,_],⟨O,O,trivial⟩,O⟩,trivial,O,O⟩
  rw [← sort_snoc hid] at hL
  have hpre2:∀ y∈(idsL t.set).take (i+1),(hitsP l y).length=1:=by
   rw [take_snoc hid]
   intro y hy
   rcases List.mem_append.1 hy with hy|hy
   ·exact hpre y hy
   ·rw [List.mem_singleton.1 hy];exact c2
  (refine U13 ?_;refine kne rfl rfl (r:=false) (cP V3) ?_;refine U8 ?_)
  exact cC (σ':=⟨[(1,Lx pad l.length pcap),(2,Lp 2),(6,.sv (.one (.slc 500 0 (L).length 2))),(7,Ln .i64 (i+1:Nat))],[(500,some ⟨50,(ptZ (L) (ws)).map .val,(Nat.blt 0 (L).length)⟩),utB 2 (Tcs t ad cap (some ⟨ib,io,none⟩) icap lad lcap)],joinM X H⟩) (Le.ofR [(500,500)] VD V1 V2 V2 V0 V2 V2) (cA ⟨(idsL t.set).length-(i+1),by omega,i+1,L,ws,H,by omega,O,hO,G,hL,hpre2,O⟩)
 obtain ⟨x,hx⟩:=wg hkl
 obtain ⟨pb,po,parr,pel,pfr,xad,xcap,rfl,hPX,hPz,hPc,p1,p2,hN⟩:=hP.get hx
 have hpo:=wo po k 2
 have haddk:=wi k V3
 have hPJ:=joinM_has hO hPX
 have hIJ:=joinM_has hO hIX
 have hsn:=hits_snoc (id:=id) hx
 have hh1:=hits_le (l.take k) id
 rw [cX] at hh1
 by_cases hm:x.comp=id
 case neg =>
  rw [if_neg hm,dG] at hsn
  (refine U13 ?_;refine rgD mixed ?_;refine U9 ?_;refine aW O hIJ O ia dO<|keq O O (r:=false) (cO hm) ?_;refine U9 ?_)
  exact cC (σ':=⟨[(1,Lx (some ⟨pb,po,none⟩) l.length pcap),(2,Lp 2),(6,.sv (.one (.slc 500 0 (L).length 2))),(7,Ln .i64 (i:Nat)),(8,Ln .i64 ((hitsP (l.take k) id).length:Nat)),(9,Ln .i64 (k+1:Nat))],[(500,some ⟨50,(ptZ (L) (ws)).map .val,(Nat.blt 0 (L).length)⟩),utB 2 (Tcs t ad cap (some ⟨ib,io,none⟩) icap lad lcap)],joinM X H⟩) (Le.ofR [(500,500)] VC V1 V2 V2 V0 V2 V2) (cA ⟨l.length-(k+1),by omega,k+1,L,ws,H,by omega,rfl,hO,G,by rw [hsn];exact hL,by rw [hsn]⟩)
 rw [if_pos hm] at hsn
 have hNJ:NumsIn (joinM X H) xad x.val:=⟨hN.rows.mono fun _ _ h=>joinM_has hO h,hN.in2⟩
 have hxl:=sl2 x (dA hx)
 have hn8:(hitsP (l.take (k+1)) id).length=(hitsP (l.take k) id).length+1:=by rw [hsn,cT];rfl
 have haddn:IntKind.i64.wrap ((((hitsP (l.take k) id).length:Nat):Int)+1)=(((hitsP (l.take (k+1)) id).length:Nat):Int):=by rw [cF V3];omega
 have hL2:L++[x]=sortP ((idsL t.set).take i) l++hitsP (l.take (k+1)) id:=by rw [hsn,← dJ,← hL]
 have hLn:L.length≤40:=by rw [hL,cT];omega
 have hnm:(nmsV x.val).length=x.val.length*3:=by have:=nmsV_len x.val;rw [cU] at this;exact this
 have h0:xad=none→x.val.length=0:=fun e=>by rw [e] at hNJ;rw [nums_none2 hNJ];rfl
 have hwl:=G.len
 have hcl:((ptZ L ws).map CV.val).length=L.length*2:=by rw [cU,ptZ_len hwl]
 have hnl:L.length+1=(L++[x]).length:=by rw [cT];rfl
 have hrow:Nat.blt 0 (L++[x]).length=true:=by rw [cT];simp
 (refine aA<|aA<|rgN<|kmv O<|kmv O<|K.lenX O bZ O dO ?_;refine klt O O (cM V3)<|RunK.nil<|LWP.condT O ?_;refine LWP.skip ?_;refine aA<|LWP.block<|aA<|rgD mixed<|kmv O<|kmv O<|aR O O bZ V3 hpo dO<|bH O O dO ?_;refine aW O hPJ O p1 dO<|kfa O O ?_;refine kl1 O O O<|kmv O<|aR O O bZ V3 hio dO<|aW O hIJ O ia dO<|keq O O (r:=true) (cS hm)<|RunK.nil<|rgA ?_;refine LWP.condT O ?_;refine aA<|rgN<|kmv O<|kad O O haddn<|kas O<|RunK.nil<|rgD mixed<|kmv O<|kmv O<|kmv O<|aR O O bZ V3 hpo dO<|bH O O dO ?_;refine aW O hPJ O p1 dO<|aZ (zs:=[]) (sz:=3) (e:=82) V5 O O O O O O dO<|kmv O<|kmv O<|aR O O bZ V3 hpo dO<|bH O O dO ?_;refine aW O hPJ O p2 dO<|K.appendXa (by_:=24) (e2:=82) (news:=nmsV x.val) (nl:=x.val.length) (nc:=(nmsV x.val).map .val) O O O O (nums_reads2 hNJ) h0 hnm (nmsV_one _) V5 V5 V3 V3 O V3 O dO ?_;refine aT O O V2 V1C dO ?_;refine aZ (zs:=[.int .i64 0,.slice none 0 0]) (sz:=2) (e:=50) (cs':=[.val (.int .i64 x.comp),.slc 55 0 x.val.length 3]) V5 O O O O O O dO<|bP (by_:=32) (e2:=50) (l2:=[.val (.int .i64 x.comp),.slc 55 0 x.val.length 3]) (nl:=(L++[x]).length) (nc:=(ptZ L ws++[Value.int .i64 x.comp]).map .val ++ .slc 55 0 x.val.length 3::([]:List Value).map .val) O O hcl O O (dK _) O O V5 V5 V3 V3 O hnl V24 dO<|kas O<|RunK.nil<|rgA ?_;refine rgN<|kmv O<|kad O O haddk<|kas O<|RunK.nil ?_)
 refine cC (σ':=⟨[(1,Lx (some ⟨pb,po,none⟩) l.length pcap),(2,Lp 2),(6,.sv (.one (.slc 500 0 (L++[x]).length 2))),(7,Ln .i64 (i:Nat)),(8,Ln .i64 ((hitsP (l.take (k+1)) id).length:Nat)),(9,Ln .i64 (k+1:Nat))],[(500,some ⟨50,(ptZ L ws++[Value.int .i64 x.comp]).map .val ++ .slc 601 0 x.val.length 3::([]:List Value).map .val,true⟩),(601,some ⟨82,(nmsV x.val).map .val,true⟩),utB 2 (Tcs t ad cap (some ⟨ib,io,none⟩) icap lad lcap)],joinM X H⟩) (Le.ofR [(500,58),(601,55)] VC V1 V2 V2 V0 V2 V2) ?_
 refine Leads.closeCell hO hnm O bT O V16 O O fun bk ob v g1 _ hO3 hv=>cA ⟨l.length-(k+1),by omega,k+1,L++[x],ws++[v],withBlock H bk ob,by omega,O,hO3,(G.mono (cG g1)).push (nms_leads hv hN.in2),hL2,?_⟩
 rw [ptZ_add hwl,hrow]
 simp
end Go.Proofs.YtbpdbclndfmcgaaGreatDoor
end
section
set_option maxHeartbeats 12800000
set_option maxRecDepth 100000
namespace Go.Proofs.YtbpdbclndfmcgaaGreatDoor
open Go Go.Lg Go.Lg.Fld Go.Lg.Sg
set_option maxRecDepth 100000
theorem tbZ_one {H:Nat→Option Obj} {ws:List Value} {rs:List Rw} (G:TbsH H ws rs):∀ u∈tbZ rs ws,u.oneCell'=true:=fun u hu=>by
 unfold tbZ at hu
 obtain ⟨x,hx,hu⟩:=List.mem_flatten.1 hu
 obtain ⟨i,hi,rfl⟩:=List.getElem_of_mem hx
 rw [List.length_zipWith] at hi
 rw [List.getElem_zipWith] at hu
 obtain ⟨pad,pcap,hw,_⟩:=G.at_ i _ _ (cV V3) (cV V3)
 unfold tbV at hu
 rw [hw] at hu
 simp only [List.mem_cons,List.not_mem_nil,or_false] at hu
 rcases hu with rfl|rfl<;>rfl
abbrev TcsM (t:Tb) (ad:Option Addr) (cap:Nat) (iad:Option Addr) (icap:Nat) (k n:Nat):List CV:=[.val (.int .i64 t.sc.ver),.val (.slice ad t.sc.cs.length cap),.val (.slice iad (idsL t.set).length icap),.val (.int .i64 (t.most:Nat)),.val (.int .i64 (t.kept:Nat)),.slc k 0 n 2]
theorem addE_facts {t:Tb} {e:Nat} {l:List Pt}:(e=0∧addE t e l=1)∨(e≠0∧justP (idsL t.set) l=false∧addE t e l=4)∨(e≠0∧justP (idsL t.set) l=true∧partsE t.sc.cs l≠0∧addE t e l=partsE t.sc.cs l) ∨
  (e≠0∧justP (idsL t.set) l=true∧partsE t.sc.cs l=0∧roomT t=0∧addE t e l=5)∨(e≠0∧justP (idsL t.set) l=true∧partsE t.sc.cs l=0∧roomT t≠0∧addE t e l=0):=by
 unfold addE
 by_cases c1:e=0
 ·exact .inl ⟨c1,if_pos c1⟩
 rw [if_neg c1]
 cases c2:justP (idsL t.set) l with
 | false=>exact .inr (.inl ⟨c1,rfl,rfl⟩)
 | true =>
 rw [if_pos rfl]
 by_cases c3:partsE t.sc.cs l=0
 case neg=>exact .inr (.inr (.inl ⟨c1,rfl,c3,if_neg c3⟩))
 rw [if_pos c3]
 by_cases c4:roomT t=0
 ·exact .inr (.inr (.inr (.inl ⟨c1,rfl,c3,c4,if_pos c4⟩)))
 ·exact .inr (.inr (.inr (.inr ⟨c1,rfl,c3,c4,if_neg c4⟩)))
variable (X:Nat→Option Obj)
set_option maxHeartbeats 6400000 in
theorem rAdd_no (t:Tb) (e:Nat) (l:List Pt) (ad iad lad pad:Option Addr) (cap icap lcap pcap:Nat) (hT:TbIn X t ad iad lad) (hB:TbOk t) (hP:PartsIn X pad l) (sl:l.length≤12∧∀ x∈l,x.val.length≤100) (he:addE t e l≠0):
  PSpec Tryz.prog X 26 [TTx t ad cap iad icap lad lcap,Ln .u64 (e:Nat),Lx pad l.length pcap] (.tup [.agg (Tcs t ad cap iad icap lad lcap),Sn .i64 (addE t e l)]):=by
 have hS:=rSorted_spec X t l ad iad lad pad cap icap lcap pcap hT.ids hP sl
 obtain ⟨s1,s2⟩:=hT.small
 have hE:=sParts_spec X t.sc.ver ad pad cap pcap t.sc.cs l hT.cs V3 (fun c hc=>by have:=s2 c hc;omega) hP V3 (fun x hx=>by have:=sl.2 x hx;omega)
 have hR:=rRoom_spec X t ad iad lad cap icap lcap hB.most.2 hB.room
 refine cD Tryz.func26 rfl V5 rfl rfl ?_
 intro C
 unfold pR16 pBx16 at hS
 rcases addE_facts (t:=t) (e:=e) (l:=l) with ⟨c1,h⟩|⟨c1,c2,h⟩|⟨c1,c2,c3,h⟩|⟨c1,c2,c3,c4,h⟩|⟨_,_,_,_,h⟩
 ·rw [h]
  (refine U10 ?_;refine keq rfl rfl (r:=true) (cS V3) ?_;refine U9 ?_)
  exact V17
 ·rw [h]
  rw [c2,if_neg (by decide),if_neg (by decide)] at hS
  (refine U10 ?_;refine keq O O (r:=false) (cO V3) ?_;refine U7 ?_;refine aU [] [] (hS) O O V15 O O O O O (by exact .nil) dO ?_;refine U20 ?_)
  exact V17
 ·rw [h]
  rw [c2,if_pos rfl,if_pos rfl] at hS
  generalize partsE t.sc.cs l=err at *
  (refine U10 ?_;refine keq O O (r:=false) (cO V3) ?_;refine U7 ?_;refine bE [(1000001,500)] (.tup [.one (.slc 500 0 (sortP (idsL t.set) l).length 2),.one (.val (.bool true))]) [prtB 500 (sortP (idsL t.set) l)] (hS) O O V15 O O O O O VB dO ?_;refine U18 ?_;refine bJ O O O V1C dO ?_;refine U7 ?_;refine kne O O (r:=true) (cR c3) ?_;refine U10 ?_)
  exact V17
 ·rw [h]
  rw [c2,if_pos rfl,if_pos rfl] at hS
  rw [c3] at hE
  rw [c4] at hR
  (refine U10 ?_;refine keq O O (r:=false) (cO V3) ?_;refine U7 ?_;refine bE [(1000001,500)] (.tup [.one (.slc 500 0 (sortP (idsL t.set) l).length 2),.one (.val (.bool true))]) [prtB 500 (sortP (idsL t.set) l)] (hS) O O V15 O O O O O VB dO ?_;refine U18 ?_;refine bJ O O O V1C dO ?_;refine U16 ?_;refine K.leq O O (r:=true) O dO ?_;refine U9 ?_)
  exact V17
 ·exact absurd h he
set_option maxHeartbeats 12800000 in
theorem rAdd (t:Tb) (e:Nat) (l:List Pt) (ad iad lad pad:Option Addr) (cap icap lcap pcap:Nat) (hT:TbIn X t ad iad lad) (hB:TbOk t) (hP:PartsIn X pad l) (sl:l.length≤12∧∀ x∈l,x.val.length≤100) (h:addE t e l=0):
  MSpec Tryz.prog X 26 [TTx t ad cap iad icap lad lcap,Ln .u64 (e:Nat),Lx pad l.length pcap] [] (.tup [.agg (TcsM t ad cap iad icap 1000001 (addT t e l).l.length),Sn .i64 0]) [tbsB X 1000001 (addT t e l).l]:=by
 have hS:=rSorted_spec X t l ad iad lad pad cap icap lcap pcap hT.ids hP sl
 obtain ⟨s1,s2⟩:=hT.small
 have hE:=sParts_spec X t.sc.ver ad pad cap pcap t.sc.cs l hT.cs V3 (fun c hc=>by have:=s2 c hc;omega) hP V3 (fun x hx=>by have:=sl.2 x hx;omega)
 have hR:=rRoom_spec X t ad iad lad cap icap lcap hB.most.2 hB.room
 have hm:=hB.most
 have hroom:=hB.room
 unfold pR16 pBx16 at hS
 rcases addE_facts (t:=t) (e:=e) (l:=l) with ⟨_,h'⟩|⟨_,_,h'⟩|⟨_,_,h1,h'⟩|⟨_,_,_,_,h'⟩|⟨c1,c2,c3,c4,_⟩
 ·rw [h] at h';cases h'
 ·rw [h] at h';cases h'
 ·rw [h] at h';exact absurd h'.symm h1
 ·rw [h] at h';cases h'
 rw [c2,if_pos rfl,if_pos rfl] at hS
 rw [c3] at hE
 obtain ⟨ws,G,hRd⟩:=hT.l.reads
 have hwl:=G.len
 have hzl:=tbZ_len hwl
 have h0:lad=none→t.l.length=0:=fun x=>by have:=hT.l;rw [x] at this;rw [this.none_];rfl
 have hcl:((tbZ t.l ws).map CV.val).length=t.l.length*2:=by rw [cU,hzl]
 have hnl:t.l.length+1=(addT t e l).l.length:=by show _=(t.l++[_]).length;rw [cT];rfl
 refine cE Tryz.func26 rfl V5 rfl rfl V4 rfl rfl ?_
 intro C
 refine LWP.ends ?_
 ((refine U10 ?_;refine keq O O (r:=false) (cO V3) ?_;refine U7 ?_;refine bE [(1000001,500)] (.tup [.one (.slc 500 0 (sortP (idsL t.set) l).length 2),.one (.val (.bool true))]) [prtB 500 (sortP (idsL t.set) l)] (hS) O O V15 O O O O O VB dO ?_;refine U18 ?_;refine bJ O O O V1C dO ?_;refine U15 ?_);(refine U1 ?_;refine K.leq O O (cL V3) dO ?_;refine U5 ?_;refine aZ (zs:=[]) (sz:=2) (e:=120) V5 O O O O O O dO ?_;refine U2 ?_;refine K.appendXa (by_:=32) (e2:=120) (news:=tbZ t.l ws) (nl:=t.l.length) (nc:=(tbZ t.l ws).map .val) O O O O hRd h0 hzl (tbZ_one G) V5 V5 V3 V3 O V3 O dO ?_;refine U2 ?_;refine aT O O V2 V1C dO ?_;refine aZ (zs:=[.int .u64 0,.slice none 0 0]) (sz:=2) (e:=120) (cs':=[.val (.int .u64 (e:Nat)),.slc 500 0 (sortP (idsL t.set) l).length 2]) V5 O O O O O O dO<|bP (by_:=32) (e2:=120) (l2:=[.val (.int .u64 (e:Nat)),.slc 500 0 (sortP (idsL t.set) l).length 2]) (nl:=(addT t e l).l.length) (nc:=(tbZ t.l ws++[Value.int .u64 (e:Nat)]).map .val ++ .slc 500 0 (sortP (idsL t.set) l).length 2::([]:List Value).map .val) O O hcl O O (dK _) O O V5 V5 V3 V3 O hnl V24 dO ?_;refine U1 ?_;refine bG O O O O O (nl6 O O O O O O O) dO ?_;refine U8 ?_))
 refine cC (σ':=⟨[(6,Lp 6),(7,Ln .i64 0)],[(43,some ⟨120,(tbZ t.l ws++[Value.int .u64 (e:Nat)]).map .val ++ .slc 500 0 (sortP (idsL t.set) l).length 2::([]:List Value).map .val,true⟩),(500,some ⟨0,[],.res (prtR 50 (sortP (idsL t.set) l))⟩),utB 6 (TcsM t ad cap iad icap 43 (addT t e l).l.length)],X⟩) (Le.ofR [(43,43),(500,500)] VA V1 V2 V2 V0 V2 V2) ?_
 refine Leads.fixCell O bT O V16 O O fun ρ H pc hR' hO _ _ => ?_
 obtain ⟨_,hPH⟩:=hR'
 rw [show ((tbZ t.l ws++[Value.int .u64 (e:Nat)]).map CV.val++CV.val (.slice (some ⟨ρ.1,0,none⟩) (sortP (idsL t.set) l).length pc)::([]:List Value).map CV.val)=(tbZ (addT t e l).l (ws++[.slice (some ⟨ρ.1,0,none⟩) (sortP (idsL t.set) l).length pc])).map CV.val by
  show _=(tbZ (t.l++[⟨e,sortP (idsL t.set) l⟩]) (ws++[_])).map CV.val
  rw [tbZ_add hwl];simp]
 refine Leads.spare fun sp=>tbs_shut hO ((G.mono fun _ _ h=>joinM_has hO h).push (r:=⟨e,sortP (idsL t.set) l⟩) ⟨_,pc,O,parts_mono (fun _ _ h=>joinM_in h) hPH⟩) (cA ?_)
 exact ⟨[(1000001,43)],⟨[_,_],⟨⟨_,_,O,O,O,.inl ⟨AggT.h,O⟩⟩,O,trivial⟩,O⟩,V1,O,O⟩
end Go.Proofs.YtbpdbclndfmcgaaGreatDoor
end
section
set_option maxHeartbeats 12800000
set_option maxRecDepth 100000
namespace Go.Proofs.YtbpdbclndfmcgaaGreatDoor
open Go Go.Lg Go.Lg.Fld Go.Lg.Sg
set_option maxRecDepth 100000
theorem zip_set {α β γ:Type} {f:α→β→γ}:∀ {l:List α} {m:List β} {i:Nat} {a:α} {b:β},List.zipWith f (l.set i a) (m.set i b)=(List.zipWith f l m).set i (f a b)
 | [],m,i,a,b=>by simp
 | x::l,[],i,a,b=>by cases i<;>simp
 | x::l,y::m,0,a,b=>rfl
 | x::l,y::m,i+1,a,b=>by simp only [List.set_cons_succ,List.zipWith_cons_cons,zip_set]
theorem flat_set {α:Type} {n:Nat}:∀ {l:List (List α)} {i:Nat} {x:List α},(∀ y∈l,y.length=n)→i<l.length→(l.set i x).flatten=l.flatten.take (i*n)++x++l.flatten.drop (i*n+n)
 | [],i,x,_,h=>by simp at h
 | y::l,0,x,hl,_=>by
  have hy:=hl y (List.mem_cons_self ..)
  rw [List.set_cons_zero,List.flatten_cons,List.flatten_cons,Nat.zero_mul,List.take_zero,Nat.zero_add,← hy,List.drop_left];rfl
 | y::l,i+1,x,hl,h=>by
  have hy:=hl y (List.mem_cons_self ..)
  rw [List.set_cons_succ,List.flatten_cons,List.flatten_cons,flat_set (fun z hz=>hl z (List.mem_cons_of_mem _ hz)) (by simpa using h),show (i+1)*n=y.length+i*n by rw [hy,Nat.succ_mul];omega,Nat.add_assoc,List.take_length_add_append,List.drop_length_add_append]
  simp
theorem tbZ_splice {rs:List Rw} {ws:List Value} {i:Nat} {r:Rw} {w:Value} (hl:ws.length=rs.length) (hi:i<rs.length):splice ((tbZ rs ws).map CV.val) (i*2) [.val (.int .u64 (r.e:Nat)),.val w]=(tbZ (rs.set i r) (ws.set i w)).map CV.val:=by
 unfold splice tbZ
 rw [zip_set,flat_set (zip_twoV fun _ _=>rfl) (by rw [zip_len hl];exact hi),dE,dE,List.map_take,List.map_drop];rfl
theorem tbZ_cells {rs:List Rw} {ws:List Value} {i:Nat} {r:Rw} {w:Value} (hr:rs[i]? = some r) (hw:ws[i]? = some w):(((tbZ rs ws).map CV.val).drop (i*2)).take 2=[.val (.int .u64 (r.e:Nat)),.val w]∧i*2+2≤((tbZ rs ws).map CV.val).length∧((tbZ rs ws).map CV.val)[i*2]? = some (.val (.int .u64 (r.e:Nat)))∧((tbZ rs ws).map CV.val)[i*2+1]? = some (.val w):=by
 obtain ⟨h1,h2⟩:=tbZ_at (sp:=[]) (x:=tbV r w) (rs:=rs) (ws:=ws) (i:=i) (by rw [List.getElem?_zipWith,hr,hw])
 rw [dG] at h1
 have h3:(((tbZ rs ws).map CV.val).drop (i*2)).take 2=[.val (.int .u64 (r.e:Nat)),.val w]:=by rw [← List.map_drop,← List.map_take,h1];rfl
 refine ⟨h3,by rw [cU];exact h2,?_,?_⟩
 ·have:=congrArg (fun l:List CV=>l[0]?) h3
  simpa [List.getElem?_take,List.getElem?_drop] using this
 ·have:=congrArg (fun l:List CV=>l[1]?) h3
  simpa [List.getElem?_take,List.getElem?_drop] using this
theorem tbZ_cut (rs:List Rw) (ws:List Value) (m:Nat):tbZ rs ws=tbZ (rs.take m) (ws.take m)++((List.zipWith tbV rs ws).drop m).flatten:=by
 unfold tbZ
 rw [← List.take_zipWith,← List.flatten_append,List.take_append_drop]
variable (X:Nat→Option Obj)
set_option maxHeartbeats 3200000 in
theorem rDrop_no (t:Tb) (row:Int) (ad iad lad:Option Addr) (cap icap lcap:Nat) (hr:rowB t row=false):
  PSpec Tryz.prog X 27 [TTx t ad cap iad icap lad lcap,Ln .i64 row] (.tup [.agg (Tcs t ad cap iad icap lad lcap),Sn .u64 0,Sn .i64 3]):=by
 refine cD Tryz.func27 rfl V5 rfl rfl ?_
 intro C
 rcases rowB_none hr with h|⟨h,h2⟩
 ·(refine U11 ?_;refine klt rfl rfl (cM h) ?_;refine U17 ?_)
  exact ⟨[_,_,_],⟨⟨_,_,O,O,O,.inl ⟨AggT.h,O⟩⟩,O,O,trivial⟩,O⟩
 ·(refine U17 ?_;refine bD O O (cM V3) (dP O O) ?_;refine U11 ?_)
  exact ⟨[_,_,_],⟨⟨_,_,O,O,O,.inl ⟨AggT.h,O⟩⟩,O,O,trivial⟩,O⟩
set_option maxHeartbeats 12800000 in
theorem rDrop (t:Tb) (i:Nat) (ad iad lad:Option Addr) (cap icap lcap:Nat) (hT:TbIn X t ad iad lad) (hi:i<t.l.length) (hlen:t.l.length≤256):
  MSpec Tryz.prog X 27 [TTx t ad cap iad icap lad lcap,Ln .i64 (i:Nat)] [] (.tup [.agg (TcsM t ad cap iad icap 1000001 (dropT t i).l.length),Sn .u64 (movedT t i:Nat),Sn .i64 0]) [tbsB X 1000001 (dropT t i).l]:=by
 obtain ⟨ws,G,hRd⟩:=hT.l.reads
 have hwl:=G.len
 have hzl:=tbZ_len hwl
 have h0:lad=none→t.l.length=0:=fun x=>by have:=hT.l;rw [x] at this;rw [this.none_];rfl
 have hsub:IntKind.i64.wrap (((t.l.length:Nat):Int)-1)=((t.l.length-1:Nat):Int):=by rw [cF V3];omega
 have hdn:(dropT t i).l.length=t.l.length-1:=dropL_len hi
 obtain ⟨x,hx⟩:∃ x,t.l[t.l.length-1]? = some x:=wg V3
 obtain ⟨w,hw⟩:∃ w,ws[t.l.length-1]? = some w:=wg V3
 have hdl:(t.l.set i x).take (t.l.length-1)=(dropT t i).l:=by show _=dropL t.l i;unfold dropL;rw [hx]
 have hlo:0+Int.toNat ((t.l.length-1:Nat):Int)*2=(t.l.length-1)*2:=by simp
 have hio:0+Int.toNat (i:Int)*2=i*2:=by simp
 obtain ⟨g1,g2,_,_⟩:=tbZ_cells hx hw
 refine cE Tryz.func27 rfl V5 rfl rfl V4 rfl rfl ?_
 intro C
 refine LWP.ends ?_
 by_cases c:i=t.l.length-1
 ·have hmv:movedT t i=0:=if_pos c
  rw [hmv]
  have hset:t.l.set i x=t.l:=by
   refine List.ext_getElem? fun j => ?_
   rw [List.getElem?_set]
   by_cases e:i=j
   ·rw [if_pos e,if_pos hi,← e,c,hx]
   ·rw [if_neg e]
  rw [hset] at hdl
  (refine U17 ?_;refine bD O O (cL V3) (dP O O) ?_;refine U6 ?_;refine aZ (zs:=[]) (sz:=2) (e:=120) V5 O O O O O O dO ?_;refine U2 ?_;refine K.appendXa (by_:=32) (e2:=120) (news:=tbZ t.l ws) (nl:=t.l.length) (nc:=(tbZ t.l ws).map .val) O O O O hRd h0 hzl (tbZ_one G) V5 V5 V3 V3 O V3 O dO ?_;refine U18 ?_;refine kne O O (r:=false) (cP V3) ?_;refine U7 ?_;refine K.cutSlc O O bZ V3 dO ?_;refine U1 ?_;refine bG O O O O O (nl6 O O O O O O O) dO ?_;refine U10 ?_)
  rw [← hdn]
  refine cC (σ':=⟨[(4,Lp 4),(5,Ln .u64 (0)),(6,Ln .i64 0)],[(23,some ⟨120,(tbZ (t.l) (ws)).map .val,true⟩),utB 4 (TcsM t ad cap iad icap 23 (dropT t i).l.length)],X⟩) (Le.ofR [(23,23)] V9 V1 V2 V2 V0 V2 V2) ?_
  rw [tbZ_cut (t.l) (ws) (t.l.length-1)]
  refine Leads.spare fun sp => ?_
  rw [dJ]
  have hd:(t.l).take (t.l.length-1)=(dropT t i).l:=hdl
  rw [hd]
  have hG:TbsH X ((ws).take (t.l.length-1)) (dropT t i).l:=hd▸(G).take _
  have e:=(joinM_nil X).symm
  refine cC (σ':=⟨[(4,Lp 4),(5,Ln .u64 (0)),(6,Ln .i64 0)],[(23,some ⟨120,(tbZ (dropT t i).l ((ws).take (t.l.length-1))++(((List.zipWith tbV (t.l) (ws)).drop (t.l.length-1)).flatten++sp)).map .val,false⟩),utB 4 (TcsM t ad cap iad icap 23 (dropT t i).l.length)],joinM X (fun _=>none)⟩) (by rw [joinM_nil];exact Le.same ⟨fun _=>rfl,fun _=>rfl,rfl⟩) ?_
  refine tbs_shut (OwnedM.nil C X) (by rw [joinM_nil];exact hG) (cA ?_)
  exact ⟨[(1000001,23)],⟨[_,_,_],⟨⟨_,_,O,O,O,.inl ⟨AggT.h,O⟩⟩,O,O,trivial⟩,O⟩,V1,O,O⟩
 ·have hmv:movedT t i=x.e:=by unfold movedT;rw [if_neg c];unfold entT;rw [hx]
  rw [hmv]
  have hsp:splice ((tbZ t.l ws).map CV.val) (i*2) [.val (.int .u64 (x.e:Nat)),.val w]=(tbZ (t.l.set i x) (ws.set i w)).map CV.val:=tbZ_splice hwl hi
  have hsol:(SV.agg [CV.val (.int .u64 (x.e:Nat)),.val w]).solid=true:=by
   obtain ⟨_,_,rfl,_⟩:=G.at_ _ w x hw hx
   rfl
  have h2r:i*2+(SV.agg [CV.val (.int .u64 (x.e:Nat)),.val w]).cells.length≤((tbZ t.l ws).map CV.val).length:=by rw [cU,hzl];show i*2+2≤_;omega
  have hG2:=G.set (i:=i) (w:=w) (r:=x) (G.at_ _ w x hw hx)
  obtain ⟨_,_,g3,_⟩:=tbZ_cells (rs:=t.l.set i x) (ws:=ws.set i w) (i:=t.l.length-1) (r:=x) (w:=w) (by rw [List.getElem?_set,if_neg c];exact hx) (by rw [List.getElem?_set,if_neg c];exact hw)
  ((refine U17 ?_;refine bD O O (cL V3) (dP O O) ?_;refine U6 ?_;refine aZ (zs:=[]) (sz:=2) (e:=120) V5 O O O O O O dO ?_;refine U2 ?_;refine K.appendXa (by_:=32) (e2:=120) (news:=tbZ t.l ws) (nl:=t.l.length) (nc:=(tbZ t.l ws).map .val) O O O O hRd h0 hzl (tbZ_one G) V5 V5 V3 V3 O V3 O dO ?_;refine U18 ?_;refine kne O O (r:=true) (cR V3) ?_;refine U2 ?_);(refine U7 ?_;refine bJ O O (Nat.ble_eq_true_of_le g2) g1 dO ?_;refine U1 ?_;refine K.store O O O hsol V5 h2r hsp dO ?_;refine U13 ?_;refine K.cutSlc O O bZ V3 dO ?_;refine U1 ?_;refine bG O O O O O (nl6 O O O O O O O) dO ?_;refine U10 ?_))
  rw [← hdn]
  refine cC (σ':=⟨[(4,Lp 4),(5,Ln .u64 (x.e:Nat)),(6,Ln .i64 0)],[(23,some ⟨120,(tbZ (t.l.set i x) (ws.set i w)).map .val,true⟩),utB 4 (TcsM t ad cap iad icap 23 (dropT t i).l.length)],X⟩) (Le.ofR [(23,23)] V9 V1 V2 V2 V0 V2 V2) ?_
  rw [tbZ_cut (t.l.set i x) (ws.set i w) (t.l.length-1)]
  refine Leads.spare fun sp => ?_
  rw [dJ]
  have hd:(t.l.set i x).take (t.l.length-1)=(dropT t i).l:=hdl
  rw [hd]
  have hG:TbsH X ((ws.set i w).take (t.l.length-1)) (dropT t i).l:=hd▸(hG2).take _
  have e:=(joinM_nil X).symm
  refine cC (σ':=⟨[(4,Lp 4),(5,Ln .u64 (x.e:Nat)),(6,Ln .i64 0)],[(23,some ⟨120,(tbZ (dropT t i).l ((ws.set i w).take (t.l.length-1))++(((List.zipWith tbV (t.l.set i x) (ws.set i w)).drop (t.l.length-1)).flatten++sp)).map .val,false⟩),utB 4 (TcsM t ad cap iad icap 23 (dropT t i).l.length)],joinM X (fun _=>none)⟩) (by rw [joinM_nil];exact Le.same ⟨fun _=>rfl,fun _=>rfl,rfl⟩) ?_
  refine tbs_shut (OwnedM.nil C X) (by rw [joinM_nil];exact hG) (cA ?_)
  exact ⟨[(1000001,23)],⟨[_,_,_],⟨⟨_,_,O,O,O,.inl ⟨AggT.h,O⟩⟩,O,O,trivial⟩,O⟩,V1,O,O⟩
end Go.Proofs.YtbpdbclndfmcgaaGreatDoor
end
section
set_option maxHeartbeats 12800000
set_option maxRecDepth 100000
namespace Go.Proofs.YtbpdbclndfmcgaaGreatDoor
open Go Go.Lg Go.Lg.Fld Go.Lg.Sg
set_option maxRecDepth 100000
theorem ptZ_one {H:Nat→Option Obj} {ws:List Value} {ps:List Pt} (G:PartsH H ws ps):∀ u∈ptZ ps ws,u.oneCell'=true:=fun u hu=>by
 rw [ptZ_zip] at hu
 obtain ⟨x,hx,hu⟩:=List.mem_flatten.1 hu
 obtain ⟨i,hi,rfl⟩:=List.getElem_of_mem hx
 rw [List.length_zipWith] at hi
 rw [List.getElem_zipWith] at hu
 obtain ⟨pad,pcap,hw,_⟩:=G.at_ i _ _ (cV V3) (cV V3)
 rw [hw] at hu
 simp only [List.mem_cons,List.not_mem_nil,or_false] at hu
 rcases hu with rfl|rfl<;>rfl
theorem PartsH.set {H:Nat→Option Obj} {ws:List Value} {ps:List Pt} (G:PartsH H ws ps) {i:Nat} {w:Value} {p:Pt} (hv:∃ (vad:Option Addr) (vcap:Nat),w = .slice vad p.val.length vcap∧NumsIn H vad p.val):PartsH H (ws.set i w) (ps.set i p):=⟨by rw [List.length_set,List.length_set,G.len],fun j x d hw hd=>by
 rw [List.getElem?_set] at hw hd
 by_cases c:i=j
 ·rw [if_pos c] at hw hd
  by_cases c2:j<ws.length
  ·have c3:j<ps.length:=by rw [← G.len];exact c2
   rw [if_pos (by omega)] at hw hd
   cases hw;cases hd
   exact hv
  ·rw [if_neg V3] at hw;cases hw
 ·rw [if_neg c] at hw hd
  exact G.at_ j x d hw hd⟩
theorem flat_two {α:Type} {l:List (List α)} {i:Nat} {a b c:α} (hl:∀ y∈l,y.length=2) (h:l[i]? = some [a,b]):(l.set i [a,c]).flatten=l.flatten.take (i*2+1)++c::l.flatten.drop (i*2+2):=by
 have hi:=(wl h)
 obtain ⟨h1,h2⟩:=flat_at (sp:=[]) hl h
 rw [dG] at h1
 rw [flat_set hl hi]
 have h3:l.flatten.take (i*2+1)=l.flatten.take (i*2)++[a]:=by
  rw [List.take_succ_eq_append_getElem (by omega)]
  have:=congrArg (fun l:List α=>l[0]?) h1
  simp only [List.getElem?_take,List.getElem?_drop,Nat.add_zero] at this
  rw [if_pos (by decide),cV (by omega)] at this
  simp only [List.getElem?_cons_zero,Option.some.injEq] at this
  rw [this]
 rw [h3]
 simp
theorem tbZ_one2 {rs:List Rw} {ws:List Value} {i:Nat} {r r':Rw} {w v:Value} (hr:rs[i]? = some r) (hw:ws[i]? = some w) (he:r'.e=r.e):tbZ (rs.set i r') (ws.set i v)=(tbZ rs ws).take (i*2+1)++v::(tbZ rs ws).drop (i*2+2):=by
 unfold tbZ
 rw [zip_set,show tbV r' v=[.int .u64 (r.e:Nat),v] by unfold tbV;rw [he],flat_two (a:=.int .u64 (r.e:Nat)) (b:=w) (zip_twoV fun _ _=>rfl) (by rw [List.getElem?_zipWith,hr,hw];rfl)]
theorem ptZ_one2 {ps:List Pt} {ws:List Value} {i:Nat} {p p':Pt} {w v:Value} (hp:ps[i]? = some p) (hw:ws[i]? = some w) (he:p'.comp=p.comp):ptZ (ps.set i p') (ws.set i v)=(ptZ ps ws).take (i*2+1)++v::(ptZ ps ws).drop (i*2+2):=by
 rw [ptZ_zip,ptZ_zip,zip_set,he,flat_two (a:=.int .i64 p.comp) (b:=w) (zip_twoV fun _ _=>rfl) (by rw [List.getElem?_zipWith,hp,hw])]
theorem set_mid {α:Type} {l:List α} {m:Nat} {x:α} (h:m<l.length):l.set m x=l.take m++x::l.drop (m+1):=by
 rw [List.set_eq_take_append_cons_drop,if_pos h]
theorem prt_leads {Y H:Nat→Option Obj} {b:Nat} {v:Value} {el:TypeId} {ps:List Pt} {ws:List Value} (h:LeadsTo H b v el 2 (ptZ ps ws)) (hY:∀ b o,H b=some o→Y b=some o) (G:PartsH Y ws ps) (hs:∀ x∈ps,smallP x):∃ (pad:Option Addr) (pcap:Nat),v = .slice pad ps.length pcap∧PartsIn Y pad ps:=by
 obtain ⟨len,cap,arr,fr,h1,h2,_,_,h5,⟨sp,h6⟩⟩:=h
 have hl:=ptZ_len G.len
 have e:len=ps.length:=by omega
 subst e
 exact ⟨_,cap,h1,prt_block (hY _ _ h5) h6 G hs⟩
variable (X:Nat→Option Obj)
set_option maxHeartbeats 12800000 in
theorem rSet_no (t:Tb) (row:Int) (p:Pt) (ad iad lad vad:Option Addr) (cap icap lcap vcap:Nat) (hT:TbIn X t ad iad lad) (hB:TbOk t) (hN:NumsIn X vad p.val) (hn:p.val.length<4611686018427387904) (he:tsetE t row p≠0):
  PSpec Tryz.prog X 28 [TTx t ad cap iad icap lad lcap,Ln .i64 row,Px p vad vcap] (.tup [.agg (Tcs t ad cap iad icap lad lcap),Sn .i64 (tsetE t row p)]):=by
 refine cD Tryz.func28 rfl V5 rfl rfl ?_
 intro C
 by_cases c1:tgetE t row p.comp=0
 case neg =>
  have hG:=rGet_no X t row p.comp ad iad lad cap icap lcap hT.ids c1
  rw [show tsetE t row p=tgetE t row p.comp by unfold tsetE;rw [if_neg c1]]
  generalize tgetE t row p.comp=e at *
  (refine U24 ?_;refine kne rfl rfl (r:=true) (cR c1) ?_;refine U10 ?_)
  exact V17
 have hse:tsetE t row p=fitErr (fsAt t.sc.cs p.comp) p.val:=by unfold tsetE;rw [if_pos c1]
 have hrow:rowB t row=true:=by
  cases h:rowB t row with
  | true=>rfl
  | false=>unfold tgetE at c1;rw [h] at c1;cases c1
 obtain ⟨i,rfl,hi⟩:=rowB_some hrow
 obtain ⟨k,hk⟩:∃ k,placeT t.set p.comp=some k:=by
  cases h:placeT t.set p.comp with
  | some k=>exact ⟨k,rfl⟩
  | none=>unfold tgetE at c1;rw [hrow,h] at c1;cases c1
 obtain ⟨vad0,vcap0,_,hG⟩:=rGet_ok X t i k p.comp ad iad lad cap icap lcap hT hi hk (fun r hr=>(hB.rows r hr).len)
 have hh:=hB.has p.comp (dA (place_at hk))
 obtain ⟨s1,s2⟩:=hT.small
 have hF:=sFind_spec X t.sc.ver ad cap t.sc.cs p.comp hT.cs V3
 rcases find_cases t.sc.cs p.comp with ⟨j,c,hc,hce,hpre⟩|h
 case inr =>
  unfold hasC at hh
  obtain ⟨c,hc,he⟩:=List.any_eq_true.1 hh
  obtain ⟨j,hj⟩:=List.mem_iff_getElem?.1 hc
  rw [h j c hj] at he;cases he
 rw [findI_some hpre hc (cS hce)] at hF
 have hfs:fsAt t.sc.cs p.comp=c.fs:=by unfold fsAt;rw [find_at hpre hc hce]
 rw [hse,hfs] at he ⊢
 have hjl:=(wl hc)
 obtain ⟨cb,co,carr,cel,cfr,fad,fcap,rfl,hCX,hCz,hCc,q1,q2,q3,hFI⟩:=hT.cs.get hc
 have hjo:=wo co j 3
 have hFt:=refFit_spec X fad vad fcap vcap c.fs p.val hFI (by have:=s2 c (dA hc);omega) hN hn
 generalize fitErr c.fs p.val=e at *
 generalize valT t i k=V at *
 (refine U29 ?_;refine rgD mixed ?_;refine U4 ?_;refine bJ O O O V1C dO ?_;refine U22 ?_;refine kne O O (r:=true) (cR he) ?_;refine U10 ?_)
 exact V17
set_option maxHeartbeats 25600000 in
theorem rSet (t:Tb) (i k:Nat) (p:Pt) (ad iad lad vad:Option Addr) (cap icap lcap vcap:Nat) (hT:TbIn X t ad iad lad) (hB:TbOk t) (hi:i<t.l.length) (hk:placeT t.set p.comp=some k) (hN:NumsIn X vad p.val) (hn:p.val.length<4611686018427387904) (hfit:fitErr (fsAt t.sc.cs p.comp) p.val=0) (hv100:p.val.length≤1000):
  MSpec Tryz.prog X 28 [TTx t ad cap iad icap lad lcap,Ln .i64 (i:Nat),Px p vad vcap] [] (.tup [.agg (TcsM t ad cap iad icap 1000001 (setT t i k p).l.length),Sn .i64 0]) [tbsB X 1000001 (setT t i k p).l]:=by
 obtain ⟨vad0,vcap0,_,hG⟩:=rGet_ok X t i k p.comp ad iad lad cap icap lcap hT hi hk (fun r hr=>(hB.rows r hr).len)
 have hh:=hB.has p.comp (dA (place_at hk))
 have hm:=hB.most
 have hroom:=hB.room
 obtain ⟨s1,s2⟩:=hT.small
 have hF:=sFind_spec X t.sc.ver ad cap t.sc.cs p.comp hT.cs V3
 rcases find_cases t.sc.cs p.comp with ⟨j,c,hc,hce,hpre⟩|h
 case inr =>
  unfold hasC at hh
  obtain ⟨c,hc,he⟩:=List.any_eq_true.1 hh
  obtain ⟨j,hj⟩:=List.mem_iff_getElem?.1 hc
  rw [h j c hj] at he;cases he
 rw [findI_some hpre hc (cS hce)] at hF
 have hfs:fsAt t.sc.cs p.comp=c.fs:=by unfold fsAt;rw [find_at hpre hc hce]
 rw [hfs] at hfit
 have hjl:=(wl hc)
 obtain ⟨cb,co,carr,cel,cfr,fad,fcap,rfl,hCX,hCz,hCc,q1,q2,q3,hFI⟩:=hT.cs.get hc
 have hjo:=wo co j 3
 have hFt:=refFit_spec X fad vad fcap vcap c.fs p.val hFI (by have:=s2 c (dA hc);omega) hN hn
 rw [hfit] at hFt
 have hPl:=rPlace_spec X t p.comp (some ⟨cb,co,none⟩) iad lad cap icap lcap hT.ids
 rw [placeI_some hk] at hPl
 obtain ⟨ws,G,hRd⟩:=hT.l.reads
 have hwl:=G.len
 have hzl:=tbZ_len hwl
 have h0:lad=none→t.l.length=0:=fun x=>by have:=hT.l;rw [x] at this;rw [this.none_];rfl
 obtain ⟨r,hr⟩:=wg hi
 obtain ⟨w,hw⟩:∃ w,ws[i]? = some w:=wg V3
 have hro:=hB.rows r (dA hr)
 obtain ⟨pad,pcap,rfl,hPI⟩:=G.at_ i w r hw hr
 obtain ⟨g1,g2,_,g4⟩:=tbZ_cells hr hw
 obtain ⟨pws,GP,hPR,hPN⟩:=parts_reads hPI
 have hpwl:=GP.len
 have hpz:=ptZ_len hpwl
 have hp0:pad=none→r.p.length=0:=fun x=>by rw [hPN x];rfl
 obtain ⟨q,hq,hqc⟩:=hro.at (place_at hk)
 have hkl:=(wl hq)
 have hrl:r.p.length≤24:=by rw [hro.len];exact ids_le _
 obtain ⟨pw,hpw⟩:∃ pw,pws[k]? = some pw:=wg V3
 have hv0:vad=none→p.val.length=0:=fun x=>by rw [x] at hN;rw [nums_none2 hN];rfl
 have hnm:(nmsV p.val).length=p.val.length*3:=by have:=nmsV_len p.val;rw [cU] at this;exact this
 have hio:0+Int.toNat (i:Int)*2=i*2:=by simp
 have hko:0+Int.toNat (k:Int)*2=k*2:=by simp
 have hb1:Nat.blt (i*2+1) ((tbZ t.l ws).map CV.val).length=true:=by rw [cU,hzl];unfold Nat.blt;exact Nat.ble_eq_true_of_le V3
 have hA1:((tbZ t.l ws).map CV.val).set (i*2+1) (.slc 56 0 r.p.length 2)=((tbZ t.l ws).take (i*2+1)).map CV.val ++ .slc 56 0 r.p.length 2::((tbZ t.l ws).drop (i*2+2)).map CV.val:=by rw [set_mid (by rw [cU,hzl];omega),List.map_take,List.map_drop]
 have hA2:(((tbZ t.l ws).take (i*2+1)).map CV.val ++ .slc 56 0 r.p.length 2::((tbZ t.l ws).drop (i*2+2)).map CV.val)[i*2+1]? = some (.slc 56 0 r.p.length 2):=by
  rw [← hA1,List.getElem?_set_self (by rw [cU,hzl];omega)]
 have hb2:Nat.blt (k*2+1) ((ptZ r.p pws).map CV.val).length=true:=by rw [cU,hpz];unfold Nat.blt;exact Nat.ble_eq_true_of_le V3
 have hA3:((ptZ r.p pws).map CV.val).set (k*2+1) (.slc 71 0 p.val.length 3)=((ptZ r.p pws).take (k*2+1)).map CV.val ++ .slc 71 0 p.val.length 3::((ptZ r.p pws).drop (k*2+2)).map CV.val:=by rw [set_mid (by rw [cU,hpz];omega),List.map_take,List.map_drop]
 have hsl:(setT t i k p).l=t.l.set i (setR r k p):=by unfold setT;rw [hr]
 have hsn:(setT t i k p).l.length=t.l.length:=by rw [hsl,List.length_set]
 generalize valT t i k=V at *
 refine cE Tryz.func28 rfl V5 rfl rfl V4 rfl rfl ?_
 intro C
 refine LWP.ends ?_
 ((refine U29 ?_;refine rgD mixed ?_;refine U4 ?_;refine bJ O O O V1C dO ?_;refine U7 ?_);(refine U21 ?_;refine aZ (zs:=[]) (sz:=2) (e:=120) V5 O O O O O O dO ?_;refine U2 ?_;refine K.appendXa (by_:=32) (e2:=120) (news:=tbZ t.l ws) (nl:=t.l.length) (nc:=(tbZ t.l ws).map .val) O O O O hRd h0 hzl (tbZ_one G) V5 V5 V3 V3 O V3 O dO ?_;refine U6 ?_;refine aZ (zs:=[]) (sz:=2) (e:=50) V5 O O O O O O dO ?_;refine U5 ?_;refine K.appendXa (by_:=32) (e2:=50) (news:=ptZ r.p pws) (nl:=r.p.length) (nc:=(ptZ r.p pws).map .val) O O O O hPR hp0 hpz (ptZ_one GP) V5 V5 V3 V3 O V3 O dO ?_;refine U2 ?_);(refine bG O O O O hb1 hA1 dO ?_;refine U2 ?_;refine rgD mixed ?_;refine U9 ?_;refine aZ (zs:=[]) (sz:=3) (e:=82) V5 O O O O O O dO ?_;refine U2 ?_;refine K.appendXa (by_:=24) (e2:=82) (news:=nmsV p.val) (nl:=p.val.length) (nc:=(nmsV p.val).map .val) O O O O (nums_reads2 hN) hv0 hnm (nmsV_one _) V5 V5 V3 V3 O V3 O dO ?_;refine U2 ?_;refine bG O O O O hb2 hA3 dO ?_;refine U6 ?_;refine bG O O O O O (nl6 O O O O O O O) dO ?_;refine U5 ?_);(refine U3 ?_))
 rw [← hsn]
 refine cC (σ':=⟨[(6,Lp 6),(7,Ln .i64 0)],[(56,some ⟨50,((ptZ r.p pws).take (k*2+1)).map .val ++ .slc 71 0 p.val.length 3::((ptZ r.p pws).drop (k*2+2)).map .val,true⟩),(71,some ⟨82,(nmsV p.val).map .val,true⟩),(47,some ⟨120,((tbZ t.l ws).take (i*2+1)).map .val ++ .slc 56 0 r.p.length 2::((tbZ t.l ws).drop (i*2+2)).map .val,true⟩),utB 6 (TcsM t (some ⟨cb,co,none⟩) cap iad icap 47 (setT t i k p).l.length)],joinM X (fun _=>none)⟩) (by rw [joinM_nil];exact Le.ofR [(47,47),(56,56),(71,71)] VA V1 V2 V2 V0 V2 V2) ?_
 refine Leads.closeCell (OwnedM.nil C X) hnm O bT bT (by repeat' (first|refine bS ?_ ?_|rfl|exact bT|exact bV O)) O O fun b1 o1 v1 e1 _ hO1 hv1 => ?_
 obtain ⟨xad,xcap,hx1,hx2⟩:=nms_leads hv1 hN.in2
 have hz:((ptZ r.p pws).take (k*2+1)).map CV.val++CV.val v1::((ptZ r.p pws).drop (k*2+2)).map CV.val=(ptZ (r.p.set k p) (pws.set k v1)).map CV.val:=by
  rw [ptZ_one2 (p':=p) (v:=v1) hq hpw hqc.symm];simp
 rw [hz]
 have GP1:PartsH (joinM X (withBlock (fun _=>none) b1 o1)) (pws.set k v1) (r.p.set k p):=(GP.mono fun _ _ h=>joinM_has hO1 h).set ⟨xad,xcap,hx1,⟨hx2.rows.mono fun _ _ h=>joinM_in h,hx2.in2⟩⟩
 have hps:∀ x∈r.p.set k p,smallP x:=fun x hx=>by
  rcases List.mem_or_eq_of_mem_set hx with hx|hx
  ·exact hPI.small x hx
  ·rw [hx]
   have:=hPI.small q (dA hq)
   unfold smallP
   rw [← hqc];exact this
 have hsl2:(r.p.set k p).length=r.p.length:=List.length_set ..
 refine cC (σ':=⟨[(6,Lp 6),(7,Ln .i64 0)],[(47,some ⟨120,((tbZ t.l ws).take (i*2+1)).map .val ++ .slc 56 0 r.p.length 2::((tbZ t.l ws).drop (i*2+2)).map .val,true⟩),(56,some ⟨50,(ptZ (r.p.set k p) (pws.set k v1)).map .val,true⟩),utB 6 (TcsM t (some ⟨cb,co,none⟩) cap iad icap 47 (setT t i k p).l.length)],joinM X (withBlock (fun _=>none) b1 o1)⟩) (Le.ofR [(47,47),(56,56)] VA V1 V2 V2 V0 V2 V2) ?_
 refine Leads.closeCell hO1 (by rw [ptZ_len GP1.len,hsl2]) rfl bT bT (by repeat' (first|refine bS ?_ ?_|rfl|exact bT|exact bV rfl)) rfl rfl fun b2 o2 v2 e2 e3 hO2 hv2 => ?_
 have hmono:∀ b o,joinM X (withBlock (fun _=>none) b1 o1) b=some o→joinM X (withBlock (withBlock (fun _=>none) b1 o1) b2 o2) b=some o:=fun b o h=>by
  rw [← joinM_with]
  exact cG (by rw [joinM_out e2];exact e3) b o h
 obtain ⟨yad,ycap,hy1,hy2⟩:=prt_leads hv2 (fun _ _ h=>joinM_in (X:=X) h) (GP1.mono hmono) hps
 have hz2:((tbZ t.l ws).take (i*2+1)).map CV.val++CV.val v2::((tbZ t.l ws).drop (i*2+2)).map CV.val=(tbZ (t.l.set i (setR r k p)) (ws.set i v2)).map CV.val:=by
  rw [tbZ_one2 (r':=setR r k p) (v:=v2) hr hw rfl];simp
 rw [hz2]
 refine Leads.spare fun sp=>tbs_shut hO2 ((G.mono fun _ _ h=>joinM_has hO2 h).set ⟨yad,ycap,hy1,hy2⟩) (cA ?_)
 rw [← hsl]
 exact ⟨[(1000001,47)],⟨[_,_],⟨⟨_,_,O,O,O,.inl ⟨AggT.h,O⟩⟩,O,trivial⟩,O⟩,V1,O,O⟩
end Go.Proofs.YtbpdbclndfmcgaaGreatDoor
end
section
set_option maxHeartbeats 12800000
set_option maxRecDepth 100000
namespace Go.Lg.Col
open Go Go.Lg Go.RowKit
abbrev Ext (X Y:Nat→Option Obj):Prop := ∀ b o,X b=some o→Y b=some o
theorem one_in {Y:Nat→Option Obj} {blk:Nat} {arr:Array Value} {el:TypeId} {fr:Nat×Nat} {vs:List Value} (hY:Y blk=some (.cells arr el fr)) (hsp:∃ sp,arr.toList=vs++sp):OneIn Y (some ⟨blk,0,none⟩) vs:=fun i v hi=>by
 obtain ⟨sp,e⟩:=hsp
 refine ⟨blk,0,arr,el,fr,O,hY,?_⟩
 rw [← Array.getElem?_toList,e,Nat.zero_add,dN (wl hi)]
 exact hi
theorem snoc {α:Type} {l:List α} {i:Nat} {f:α} (h:l[i]? = some f):l.take (i+1)=l.take i++[f]:=by
 obtain ⟨hi,e⟩:=List.getElem?_eq_some_iff.1 h
 rw [List.take_add_one,h];rfl
def swapL (L:List (List UInt8)) (i:Nat):List (List UInt8):=match L[L.length-1]? with|some l=>(L.set i l).take (L.length-1)|none=>L
theorem swapL_at {L:List (List UInt8)} {i:Nat} {l:List UInt8} (h:L[L.length-1]? = some l):swapL L i=(L.set i l).take (L.length-1):=by unfold swapL;rw [h]
theorem swapL_len {L:List (List UInt8)} {i:Nat} (h:0<L.length):(swapL L i).length=L.length-1:=by
 obtain ⟨l,hl⟩:∃ l,L[L.length-1]? = some l:=wg V3
 rw [swapL_at hl,cX,List.length_set];omega
end Go.Lg.Col
namespace Go.Proofs.YtbpdbclndfmcgaaGreatDoor
open Go Go.Lg Go.Lg.Col
set_option maxRecDepth 100000
variable (X:Nat→Option Obj)
end Go.Proofs.YtbpdbclndfmcgaaGreatDoor
end
section
set_option maxHeartbeats 12800000
set_option maxRecDepth 100000
namespace Go.Lg.Col
open Go Go.Lg
def byV (l:List UInt8):List Value:=l.map fun c=>.int .u8 (c.toNat:Nat)
theorem byV_bc (l:List UInt8):(byV l).map CV.val=l.map bc:=by unfold byV;rw [List.map_map];rfl
theorem byV_len (l:List UInt8):(byV l).length=l.length:=cU _
theorem mid_of {α:Type} {l:List α} {i:Nat} {x:α} (h:l[i]? = some x):l=l.take i++x::l.drop (i+1):=by
 obtain ⟨hi,e⟩:=List.getElem?_eq_some_iff.1 h
 rw [← e,List.getElem_cons_drop,List.take_append_drop]
theorem splice_len {α:Type} {b:List α} {p:Nat} {r:List α} (h:p+r.length≤b.length):(splice b p r).length=b.length:=by
 unfold splice;simp only [cT,cX,cY];omega
theorem splice_at {α:Type} {b:List α} {p:Nat} {r:List α} (h:p+r.length≤b.length):((splice b p r).drop p).take r.length=r:=by
 unfold splice
 have hp:(b.take p).length=p:=by rw [cX];omega
 rw [dJ]
 conv=>lhs;arg 2;arg 1;rw [← hp]
 rw [List.drop_left,List.take_left]
theorem splice_out {α:Type} {b:List α} {p k:Nat} {r:List α} (h:p+r.length≤b.length) (hk:k<p∨p+r.length≤k):(splice b p r)[k]? = b[k]? := by
 unfold splice
 have hp:(b.take p).length=p:=by rw [cX];omega
 rcases hk with hk|hk
 ·rw [dJ,dN V3,List.getElem?_take,if_pos hk]
 ·rw [List.getElem?_append_right (by rw [cT];omega),cT,hp,List.getElem?_drop]
  congr 1;omega
def rowOf (B:List (List UInt8)) (z i:Nat):List UInt8:=((B.getD (i/16) []).drop (i%16*z)).take z
theorem place_fit (i z:Nat):i%16*z+z≤16*z:=by
 have h:(i%16+1)*z≤16*z:=Nat.mul_le_mul_right z V3
 rw [Nat.succ_mul] at h;exact h
theorem getD_at {α:Type} {B:List α} {p:Nat} {d:α} (h:p<B.length):B[p]? = some (B.getD p d):=by
 rw [List.getD_eq_getElem?_getD,cV h];rfl
theorem wide_at {B:List (List UInt8)} {w p:Nat} (hw:∀ b∈B,b.length=w) (h:p<B.length):(B.getD p []).length=w:=hw _ (dA (getD_at h))
def wr (B:List (List UInt8)) (z i:Nat) (row:List UInt8):List (List UInt8):=B.set (i/16) (splice (B.getD (i/16) []) (i%16*z) row)
theorem wr_len (B:List (List UInt8)) (z i:Nat) (row:List UInt8):(wr B z i row).length=B.length:=List.length_set ..
theorem wr_wide {B:List (List UInt8)} {z i:Nat} {row:List UInt8} (hw:∀ b∈B,b.length=16*z) (hi:i/16<B.length) (hr:row.length=z):∀ b∈wr B z i row,b.length=16*z:=fun b hb=>by
 rcases List.mem_or_eq_of_mem_set hb with hb|rfl
 ·exact hw b hb
 ·have:=place_fit i z
  rw [splice_len (by rw [wide_at hw hi,hr];omega),wide_at hw hi]
theorem wr_same {B:List (List UInt8)} {z i:Nat} {row:List UInt8} (hw:∀ b∈B,b.length=16*z) (hi:i/16<B.length) (hr:row.length=z):rowOf (wr B z i row) z i=row:=by
 unfold rowOf wr
 have:=place_fit i z
 rw [List.getD_eq_getElem?_getD,List.getElem?_set_self hi,Option.getD_some]
 conv=>lhs;arg 1;rw [← hr]
 rw [hr]
 have h:=splice_at (b:=B.getD (i/16) []) (p:=i%16*z) (r:=row) (by rw [wide_at hw hi,hr];omega)
 rw [hr] at h;exact h
theorem wr_other {B:List (List UInt8)} {z i j:Nat} {row:List UInt8} (hw:∀ b∈B,b.length=16*z) (hi:i/16<B.length) (hr:row.length=z) (hj:j≠i):rowOf (wr B z i row) z j=rowOf B z j:=by
 unfold rowOf wr
 have hf:=place_fit i z
 by_cases e:i/16=j/16
 ·rw [← e,List.getD_eq_getElem?_getD,List.getElem?_set_self hi,Option.getD_some]
  apply List.ext_getElem?
  intro t
  rw [List.getElem?_take,List.getElem?_take]
  by_cases ht:t<z
  ·rw [if_pos ht,if_pos ht,List.getElem?_drop,List.getElem?_drop]
   refine splice_out (by rw [wide_at hw hi,hr];omega) ?_
   rw [hr]
   have hne:j%16≠i%16:=fun h=>hj V3
   rcases Nat.lt_or_gt_of_ne hne with h|h
   ·left
    have h2:(j%16+1)*z≤i%16*z:=Nat.mul_le_mul_right z h
    rw [Nat.succ_mul] at h2;omega
   ·right
    have h2:(i%16+1)*z≤j%16*z:=Nat.mul_le_mul_right z h
    rw [Nat.succ_mul] at h2;omega
  ·rw [if_neg ht,if_neg ht]
 ·rw [List.getD_eq_getElem?_getD,List.getElem?_set_ne e,← List.getD_eq_getElem?_getD]
structure Packed (z q:Nat) (L B:List (List UInt8)):Prop where
 nb:B.length=(L.length+15)/16
 wide:∀ b∈B,b.length=16*z
 row:∀ (i:Nat) (l:List UInt8),L[i]? = some l→rowOf B z i=l
 rows:∀ r∈L,r.length=z
 fit:L.length≤q
 small:z≤256∧q≤65536
section
variable {z q:Nat} {L B:List (List UInt8)}
theorem Packed.nil (h:z≤256∧q≤65536):Packed z q [] []:=⟨rfl,fun b hb=>(by cases hb),fun i l hl=>(by cases hl),fun b hb=>(by cases hb),Nat.zero_le _,h⟩
theorem Packed.chunk (h:Packed z q L B) {i:Nat} (hi:i<L.length):i/16<B.length:=by rw [h.nb];omega
theorem Packed.len_at (h:Packed z q L B) {p:Nat} (hp:p<B.length):(B.getD p []).length=16*z:=wide_at h.wide hp
theorem Packed.set (h:Packed z q L B) {i:Nat} (hi:i<L.length) {row:List UInt8} (hr:row.length=z):Packed z q (L.set i row) (wr B z i row):=by
 have hp:=h.chunk hi
 refine ⟨by rw [wr_len,List.length_set];exact h.nb,wr_wide h.wide hp hr,fun j l hl => ?_,fun r hr' => ?_,by rw [List.length_set];exact h.fit,h.small⟩
 ·by_cases e:j=i
  ·subst e
   rw [List.getElem?_set_self hi] at hl
   simp only [Option.some.injEq] at hl
   rw [wr_same h.wide hp hr,hl]
  ·rw [List.getElem?_set_ne (fun e'=>e e'.symm)] at hl
   rw [wr_other h.wide hp hr e];exact h.row j l hl
 ·rcases List.mem_or_eq_of_mem_set hr' with hr'|rfl
  ·exact h.rows r hr'
  ·exact hr
theorem Packed.push (h:Packed z q L B) {row:List UInt8} (hr:row.length=z) (hf:L.length<q) (hn:L.length%16≠0):Packed z q (L++[row]) (wr B z L.length row):=by
 have hp:L.length/16<B.length:=by rw [h.nb];omega
 refine ⟨by rw [wr_len,cT,h.nb];simp only [cW];omega,wr_wide h.wide hp hr,fun j l hl => ?_,fun r hr' => ?_,by rw [cT];exact hf,h.small⟩
 ·by_cases e:j=L.length
  ·subst e
   rw [List.getElem?_append_right (dK _),Nat.sub_self] at hl
   simp only [List.getElem?_cons_zero,Option.some.injEq] at hl
   rw [wr_same h.wide hp hr,hl]
  ·have h1:=(wl hl)
   rw [cT] at h1
   simp only [cW] at h1
   rw [dN (by omega)] at hl
   rw [wr_other h.wide hp hr e];exact h.row j l hl
 ·rcases List.mem_append.1 hr' with hr'|hr'
  ·exact h.rows r hr'
  ·rw [List.mem_singleton.1 hr'];exact hr
theorem Packed.push_new (h:Packed z q L B) {row:List UInt8} (hr:row.length=z) (hf:L.length<q) (hn:L.length%16=0):Packed z q (L++[row]) (wr (B++[List.replicate (16*z) 0]) z L.length row):=by
 have hb:B.length=L.length/16:=by rw [h.nb];omega
 have hw:∀ b∈B++[List.replicate (16*z) (0:UInt8)],b.length=16*z:=fun b hb=>by
  rcases List.mem_append.1 hb with hb|hb
  ·exact h.wide b hb
  ·rw [List.mem_singleton.1 hb,dB]
 have hp:L.length/16<(B++[List.replicate (16*z) (0:UInt8)]).length:=by rw [cT];simp only [cW];omega
 refine ⟨by rw [wr_len,cT,cT,hb];simp only [cW];omega,wr_wide hw hp hr,fun j l hl => ?_,fun r hr' => ?_,by rw [cT];exact hf,h.small⟩
 ·by_cases e:j=L.length
  ·subst e
   rw [List.getElem?_append_right (dK _),Nat.sub_self] at hl
   simp only [List.getElem?_cons_zero,Option.some.injEq] at hl
   rw [wr_same hw hp hr,hl]
  ·have h1:=(wl hl)
   rw [cT] at h1
   simp only [cW] at h1
   rw [dN (by omega)] at hl
   rw [wr_other hw hp hr e,← h.row j l hl]
   unfold rowOf
   rw [List.getD_eq_getElem?_getD,dN (by omega),← List.getD_eq_getElem?_getD]
 ·rcases List.mem_append.1 hr' with hr'|hr'
  ·exact h.rows r hr'
  ·rw [List.mem_singleton.1 hr'];exact hr
theorem Packed.take (h:Packed z q L B) {n:Nat} (hn:n≤L.length):Packed z q (L.take n) (B.take ((n+15)/16)):=by
 refine ⟨by rw [cX,cX,h.nb];omega,fun b hb=>h.wide b (List.mem_of_mem_take hb),fun j l hl => ?_,fun r hr=>h.rows r (List.mem_of_mem_take hr),by have:=h.fit;rw [cX];omega,h.small⟩
 rw [List.getElem?_take] at hl
 split at hl
 ·rw [← h.row j l hl]
  unfold rowOf
  rw [List.getD_eq_getElem?_getD,List.getElem?_take,if_pos (by omega),← List.getD_eq_getElem?_getD]
 ·cases hl
theorem Packed.swap (h:Packed z q L B) {i:Nat} (hi:i<L.length) {l:List UInt8} (hl:L[L.length-1]? = some l):Packed z q (swapL L i) ((wr B z i l).take ((L.length-1+15)/16)):=by
 rw [swapL_at hl]
 exact (h.set hi (h.rows l (dA hl))).take (by rw [List.length_set];omega)
end
structure ColIn (H:Nat→Option Obj) (st:TypeId) (z q:Nat) (L B:List (List UInt8)) (v:Value) (cells:List Value):Prop where
 grid:Grid H st 5 v cells (B.map byV)
 pk:Packed z q L B
section
variable {H:Nat→Option Obj} {st:TypeId} {z q:Nat} {L B:List (List UInt8)} {v:Value} {cells:List Value}
theorem ColIn.len (h:ColIn H st z q L B v cells):cells.length=B.length:=by rw [h.grid.len,cU]
theorem ColIn.slice (h:ColIn H st z q L B v cells):∃ ad cap,v = .slice ad B.length cap:=by
 rcases h.grid with ⟨db,hd,G⟩|⟨rfl,rfl,hb⟩
 ·obtain ⟨len,cap,arr,fr,rfl,h2,_⟩:=hd
  rw [h.len] at h2
  have e:len=B.length:=by omega
  rw [e];exact ⟨_,_,rfl⟩
 ·have:B.length=0:=by rw [← cU (f:=byV),hb];rfl
  rw [this];exact ⟨none,0,rfl⟩
theorem ColIn.place (h:ColIn H st z q L B v cells) {p:Nat} (hp:p<B.length):∃ (db cap:Nat) (arr:Array Value) (fr:Nat×Nat) (b cap2:Nat) (arr2:Array Value) (fr2:Nat×Nat) (sp:List Value),
  v = .slice (some ⟨db,0,none⟩) B.length cap∧H db=some (.cells arr st fr)∧arr[p]? = some (.slice (some ⟨b,0,none⟩) (16*z) cap2)∧16*z≤cap2∧H b=some (.cells arr2 5 fr2)∧arr2.toList=byV (B.getD p [])++sp:=by
 obtain ⟨db,hd,G⟩:=h.grid.real (fun e=>by
  have:B.length=0:=by rw [← cU (f:=byV),e];rfl
  omega)
 obtain ⟨len,cap,arr,fr,rfl,h2,h3,h4,h5,spd,h6⟩:=hd
 rw [h.len] at h2
 have e:len=B.length:=by omega
 subst e
 obtain ⟨c,hc⟩:∃ c,cells[p]? = some c:=⟨_,cV (by rw [h.len];exact hp)⟩
 obtain ⟨b,hb⟩:=G.at_ p c (byV (B.getD p [])) V24 hc (by rw [dI,getD_at (d:=[]) hp];rfl)
 obtain ⟨len2,cap2,arr2,fr2,rfl,g2,g3,g4,g5,sp,g6⟩:=hb
 rw [byV_len,h.pk.len_at hp] at g2
 have e:len2=16*z:=by omega
 subst e
 refine ⟨db,cap,arr,fr,b,cap2,arr2,fr2,sp,O,h5,?_,g3,(cutM_some g5).2,g6⟩
 rw [← Array.getElem?_toList,h6,dN (wl hc)];exact hc
theorem chunk_read {arr:Array Value} {ch:List UInt8} {sp:List Value} {p z:Nat} (h:arr.toList=byV ch++sp) (hp:p+z≤ch.length):p+z≤arr.size∧(arr.toList.drop p).take z=byV ((ch.drop p).take z):=by
 have hl:p+z≤(byV ch).length:=by rw [byV_len];exact hp
 refine ⟨by rw [← Array.length_toList,h,cT];omega,?_⟩
 rw [h,List.drop_append_of_le_length (by omega),List.take_append_of_le_length (by rw [cY];omega)]
 unfold byV
 rw [List.map_take,List.map_drop]
end
end Go.Lg.Col
namespace Go.Proofs.YtbpdbclndfmcgaaGreatDoor
open Go Go.Lg Go.Lg.Col
set_option maxRecDepth 100000
def stV (z q n:Nat) (v:Value):List Value:=[.int .i64 (z:Nat),.int .i64 (q:Nat),.int .i64 (n:Nat),v]
def colR (z q:Nat) (L:List (List UInt8)):Rsc:=⟨fun ρ H=>ρ.2=4∧∃ (fr:Nat×Nat) (v:Value) (cells:List Value) (B:List (List UInt8)),
 H ρ.1=some (.cells (stV z q L.length v).toArray 143 fr)∧ColIn (cutM H ρ.1) 151 z q L B v cells⟩
abbrev cB (k size cap:Nat) (L:List (List UInt8)):Nat×Option Box:=(k,some ⟨0,[],.res (colR size cap L)⟩)
theorem root_ok (z q:Nat) (L:List (List UInt8)):∀ ρ H,(colR z q L).holds ρ H→∃ vals el fr,H ρ.1=some (.cells vals el fr)∧vals.size=ρ.2:=fun ρ H h=>by
 obtain ⟨h1,fr,v,cells,B,h2,_⟩:=h
 exact ⟨_,_,fr,h2,by rw [h1];rfl⟩
abbrev sB (k z q n:Nat) (v:CV):Nat×Option Box:=(k,some ⟨143,[.val (.int .i64 (z:Nat)),.val (.int .i64 (q:Nat)),.val (.int .i64 (n:Nat)),v],false⟩)
abbrev oBr (z q m p:Nat) (cells:List Value) (ch:List UInt8) (r:Bool):List (Nat×Option Box):=
 [sB 1000000 z q m (.slc 900001 0 cells.length),(900001,some ⟨151,(cells.take p).map .val ++ .slc 900002 0 ch.length::(cells.drop (p+1)).map .val,true⟩),(900002,some ⟨5,ch.map bc,r⟩)]
abbrev oB (z q m p:Nat) (cells:List Value) (ch:List UInt8):List (Nat×Option Box):=oBr z q m p cells ch true
section
variable {P:Program} {n:Nat} {C:Ctx} {c:Code} {Q:Exit→St→Prop} {X:Nat→Option Obj} {s:List (Nat×LV)} {bx:List (Nat×Option Box)} {k:Nat}
theorem col_open {z q:Nat} {L:List (List UInt8)}
  (h:∀ (H:Nat→Option Obj) (v:Value) (cells:List Value) (B:List (List UInt8)),OwnedM C X H→ColIn H 151 z q L B v cells→LWP P n C c Q ⟨s,sB k z q L.length (.val v)::bx,joinM X H⟩):
  LWP P n C c Q ⟨s,cB k z q L::bx,X⟩:=by
 refine LWP.openRes (root_ok z q L) fun ρ H vals el fr hR hv hO => ?_
 obtain ⟨h1,fr',v,cells,B,h2,h3⟩:=hR
 rw [hv] at h2
 simp only [Option.some.injEq,Obj.cells.injEq] at h2
 obtain ⟨rfl,rfl,rfl⟩:=h2
 exact h (cutM H ρ.1) v cells B (hO.cut _) h3
theorem col_shut {Mid:St→Prop} {z q:Nat} {L B:List (List UInt8)} {H:Nat→Option Obj} {v:Value} {cells:List Value} (hO:OwnedM C X H) (hI:ColIn H 151 z q L B v cells)
  (h:Leads n C Mid ⟨s,cB k z q L::bx,X⟩):Leads n C Mid ⟨s,sB k z q L.length (.val v)::bx,joinM X H⟩:=by
 refine Leads.closeRes (vals:=stV z q L.length v) hO (fun ρ fr h1 h2 h3 => ?_) h
 refine ⟨h3,fr,v,cells,B,cK _ _ _,?_⟩
 rw [cut_with h1];exact hI
theorem chunk_open {z q m p:Nat} {L B:List (List UInt8)} {H:Nat→Option Obj} {v:Value} {cells:List Value} (hO:OwnedM C X H) (hI:ColIn H 151 z q L B v cells) (hp:p<B.length)
  (hs2:∀ v,s.all (fun p=>p.2.inUse [sB 1000000 z q m (.val v)])=true) (hs3:∀ nc b,s.all (fun p=>p.2.inUse [(900001,b),sB 1000000 z q m (.slc 900001 0 nc)])=true)
  (h:∀ (H0:Nat→Option Obj),OwnedM C X H0→Cells H0 5 [p] cells (B.map byV)→(∀ (j:Nat) (c:Value),j≠p→cells[j]? = some c→∃ (b cap:Nat) (arr:Array Value) (fr:Nat×Nat) (sp:List Value),c = .slice (some ⟨b,0,none⟩) (16*z) cap∧16*z≤cap∧H0 b=some (.cells arr 5 fr)∧arr.toList=byV (B.getD j [])++sp) →
   LWP P n C c Q ⟨s,oB z q m p cells (B.getD p []),joinM X H0⟩):
  LWP P n C c Q ⟨s,[sB 1000000 z q m (.val v)],joinM X H⟩:=by
 obtain ⟨db,hd,G⟩:=hI.grid.real (fun e=>by
  have:B.length=0:=by rw [← cU (f:=byV),e];rfl
  omega)
 have hcl:cells.length=B.length:=hI.len
 obtain ⟨cell,hcell⟩:∃ c,cells[p]? = some c:=wg V3
 obtain ⟨b,hb⟩:=G.at_ _ _ _ V24 hcell (by rw [dI,getD_at (d:=[]) hp];rfl)
 have G2:=G.openAt (p:=p) V24 hcell hb.blk
 have hO2:=(hO.cut db).cut b
 refine LWP.openCell (A:=[.val (.int .i64 (z:Nat)),.val (.int .i64 (q:Nat)),.val (.int .i64 (m:Nat))]) (B:=[]) (k:=900001) (sz:=1) (len:=cells.length) hO hd V3 V3 (hs2 v) O O O O ?_
 have hmid:cells.map CV.val=(cells.take p).map .val ++ .val cell::(cells.drop (p+1)).map .val:=by
  conv=>lhs;rw [mid_of hcell]
  simp
 refine LWP.le (σ':=⟨s,[(900001,some ⟨151,(cells.take p).map .val ++ .val cell::(cells.drop (p+1)).map .val,true⟩),sB 1000000 z q m (.slc 900001 0 cells.length)],joinM X (cutM H db)⟩) ?_ ?_
 ·rw [← hmid]
  exact Le.same ⟨fun _=>O,fun j=>look_swap O,O⟩
 refine LWP.openCell (k:=900002) (sz:=1) (len:=(B.getD p []).length) (hO.cut db) hb (by rw [byV_len];omega) V3 (hs3 _ _) V4 O O O ?_
 rw [byV_bc]
 refine LWP.le (σ':=⟨s,oB z q m p cells (B.getD p []),joinM X (cutM (cutM H db) b)⟩) ?_ (h _ hO2 G2 (fun j c hj hc => ?_))
 ·exact Le.same ⟨fun _=>rfl,fun j=>look_rot rfl rfl,rfl⟩
 ·have hjl:j<B.length:=by rw [← hcl];exact (wl hc)
  obtain ⟨b',len',cap',arr,fr,rfl,g2,g3,g4,g5,sp,g6⟩:=G2.at_ j c (byV (B.getD j [])) (by simpa using hj) hc (by rw [dI,getD_at (d:=[]) hjl];rfl)
  rw [byV_len,hI.pk.len_at hjl] at g2
  have e:len'=16*z:=by omega
  subst e
  exact ⟨b',cap',arr,fr,sp,O,g3,g5,g6⟩
theorem chunk_shut {Mid:St→Prop} {r:Bool} {z q m p:Nat} {H0:Nat→Option Obj} {cells:List Value} {ch:List UInt8} {B:List (List UInt8)} (hp:p<cells.length) (hO:OwnedM C X H0) (G:Cells H0 5 [p] cells (B.map byV))
  (hs:s.all (fun p=>p.2.inUse [(900001,none),sB 1000000 z q m (.slc 900001 0 cells.length)])=true) (hs2:s.all (fun p=>p.2.inUse [(1000000,none)])=true)
  (h:∀ (H:Nat→Option Obj) (v:Value) (cells:List Value),OwnedM C X H→Grid H 151 5 v cells ((B.set p ch).map byV)→Leads n C Mid ⟨s,[sB 1000000 z q m (.val v)],joinM X H⟩):Leads n C Mid ⟨s,oBr z q m p cells ch r,joinM X H0⟩:=by
 refine cC (σ':=⟨s,[(900001,some ⟨151,(cells.take p).map .val ++ .slc 900002 0 ch.length::(cells.drop (p+1)).map .val,true⟩),(900002,some ⟨5,(byV ch).map .val,r⟩),sB 1000000 z q m (.slc 900001 0 cells.length)],joinM X H0⟩) ?_ ?_
 ·rw [byV_bc]
  exact Le.same ⟨fun _=>O,fun j=>(look_rot O O).symm,O⟩
 refine Leads.closeCell hO (by rw [byV_len];omega) hs bT bT V4 rfl rfl fun b1 o1 v1 h1 _ hO3 hv1 => ?_
 have G3:=G.shutAt hp h1 hv1
 have hset:(cells.take p).map CV.val ++ .val v1::(cells.drop (p+1)).map .val=(cells.set p v1).map .val:=by
  rw [List.set_eq_take_append_cons_drop,if_pos (by omega)];simp
 rw [hset]
 refine cC (σ':=⟨s,[(1000000,some ⟨143,[.val (.int .i64 (z:Nat)),.val (.int .i64 (q:Nat)),.val (.int .i64 (m:Nat))] ++ .slc 900001 0 cells.length::[],false⟩),(900001,some ⟨151,(cells.set p v1).map .val,true⟩)],joinM X (withBlock H0 b1 o1)⟩) ?_ ?_
 ·exact Le.same ⟨fun _=>rfl,fun j=>look_swap rfl,rfl⟩
 refine Leads.closeCell hO3 (by rw [List.length_set];omega) hs2 rfl rfl rfl rfl rfl fun d1 o2 v2 h2 _ hO4 hv2 => ?_
 refine h _ v2 (cells.set p v1) hO4 ?_
 rw [List.map_set]
 exact Grid.shut G3 h2 hv2
end
end Go.Proofs.YtbpdbclndfmcgaaGreatDoor
end
section
set_option maxHeartbeats 12800000
set_option maxRecDepth 100000
namespace Go.Proofs.YtbpdbclndfmcgaaGreatDoor
open Go Go.Lg Go.Lg.Col
set_option maxRecDepth 100000
variable (X:Nat→Option Obj)
theorem seek_ok (z q m:Nat) (v:Value) (i:Nat) (h:i<m):MSpec Tryz.prog X 86 [Lp 1000000,Ln .i64 (i:Nat)] [sB 1000000 z q m (.val v)] (Ln .i64 0) [sB 1000000 z q m (.val v)]:=by
 refine cE Tryz.func86 rfl V5 rfl rfl V4 rfl rfl ?_
 intro C
 (refine U8 ?_;refine K.ptrNil O V5 (.inl ⟨O,O⟩) dO ?_;refine U11 ?_;refine bI O (dP O O) ?_;refine U2 ?_;refine bD O O (cL V3) (dP O O) ?_;refine U9 ?_)
 exact ⟨[],⟨[_],⟨O,trivial⟩,O⟩,V1,O,O⟩
theorem h0_of {p z cl:Nat} (i:Nat) (hp:i%16*z=p) (h:p+z≤cl):p<cl∨p=0:=by
 rcases Nat.eq_zero_or_pos z with h0|h0
 ·right;rw [← hp,h0,Nat.mul_zero]
 ·left;omega
theorem at_X (z q m i:Nat) {db nc ccap b cl cap:Nat} {arr:Array Value} {fr:Nat×Nat} (hz:z≤256) (hi:i<65536) (hin:i/16<nc) (hX:X db=some (.cells arr 151 fr)) (hc:arr[i/16]? = some (.slice (some ⟨b,0,none⟩) cl cap)) (hlen:i%16*z+z≤cl) (hcap:cl≤cap):
  MSpec Tryz.prog X 85 [Lp 1000000,Ln .i64 (i:Nat)] [sB 1000000 z q m (.val (.slice (some ⟨db,0,none⟩) nc ccap))] (.sv (.one (.val (.slice (some ⟨b,i%16*z,none⟩) z (cap-i%16*z)))))
   [sB 1000000 z q m (.val (.slice (some ⟨db,0,none⟩) nc ccap))]:=by
 refine cE Tryz.func85 rfl V5 rfl rfl V4 rfl rfl ?_
 intro C
 have h1:((i:Nat):Int).tmod 16=((i%16:Nat):Int):=by rw [Int.tmod_eq_emod_of_nonneg V3];omega
 have h16:i%16*z≤15*256:=Nat.mul_le_mul V3 hz
 have h2:IntKind.i64.wrap (((i%16:Nat):Int)*(z:Nat))=((i%16*z:Nat):Int):=by rw [← Int.natCast_mul,cF V3]
 have h3:IntKind.i64.wrap (((i:Nat):Int).tdiv 16)=((i/16:Nat):Int):=by rw [quo_i64 V3 V3];omega
 have h4:IntKind.i64.wrap (((i%16*z:Nat):Int)+(z:Nat))=((i%16*z+z:Nat):Int):=by rw [cF V3];omega
 have hix:0+Int.toNat ((i/16:Nat):Int)*1=i/16:=by rw [dD];omega
 have h0:=h0_of (cl:=cl) i rfl hlen
 generalize hp:i%16*z=p at *
 (refine U7 ?_;refine K.rem O O V11 h1 dO ?_;refine U4 ?_;refine bL O O h2 dO ?_;refine U3 ?_;refine rgD mixed ?_;refine U5 ?_;refine K.quo O O V11 h3 dO ?_;refine U9 ?_;refine K.cut2X (sz:=1) (l:=p) (h:=p+z) (off':=p) (len':=z) (cap':=cap-p) O O O V5 V3 V3 h0 hcap V3 V3 O dO ?_;refine U4 ?_)
 exact ⟨[],⟨[_],⟨O,trivial⟩,O⟩,V1,O,O⟩
theorem at_B (z q m:Nat) (l:List UInt8) (i:Nat) (nc cl:Nat) (A B:List Value) (r1 r2:Bool) (hz:z≤256) (hi:i<65536) (hA:A.length=i/16) (hin:i/16<nc) (hlen:i%16*z+z≤cl):
  MSpec Tryz.prog X 85 [Lp 1000000,Ln .i64 (i:Nat)] [sB 1000000 z q m (.slc 1000001 0 nc),(1000001,some ⟨151,A.map .val ++ .slc 1000002 0 cl::B.map .val,r1⟩),(1000002,some ⟨5,l.map bc,r2⟩)] (.sv (.one (.slc 1000002 (i%16*z) z)))
   [sB 1000000 z q m (.slc 1000001 0 nc),(1000001,some ⟨151,A.map .val ++ .slc 1000002 0 cl::B.map .val,r1⟩),(1000002,some ⟨5,l.map bc,r2⟩)]:=by
 refine cE Tryz.func85 rfl V5 rfl rfl V4 rfl rfl ?_
 intro C
 have h1:((i:Nat):Int).tmod 16=((i%16:Nat):Int):=by rw [Int.tmod_eq_emod_of_nonneg V3];omega
 have h16:i%16*z≤15*256:=Nat.mul_le_mul V3 hz
 have h2:IntKind.i64.wrap (((i%16:Nat):Int)*(z:Nat))=((i%16*z:Nat):Int):=by rw [← Int.natCast_mul,cF V3]
 have h3:IntKind.i64.wrap (((i:Nat):Int).tdiv 16)=((i/16:Nat):Int):=by rw [quo_i64 V3 V3];omega
 have h4:IntKind.i64.wrap (((i%16*z:Nat):Int)+(z:Nat))=((i%16*z+z:Nat):Int):=by rw [cF V3];omega
 have hix:0+Int.toNat ((i/16:Nat):Int)*1=i/16:=by rw [dD];omega
 have hcell:(A.map CV.val ++ .slc 1000002 0 cl::B.map CV.val)[i/16]? = some (.slc 1000002 0 cl):=mid_get (by rw [cU];exact hA)
 have h0:=h0_of (cl:=cl) i rfl hlen
 generalize hp:i%16*z=p at *
 (refine U7 ?_;refine K.rem O O V11 h1 dO ?_;refine U4 ?_;refine bL O O h2 dO ?_;refine U3 ?_;refine rgD mixed ?_;refine U5 ?_;refine K.quo O O V11 h3 dO ?_;refine U9 ?_;refine K.cut2Slc (l:=p) (h:=p+z) (off':=p) (len':=z) O O O V5 V3 V3 h0 V3 V3 dO ?_;refine U4 ?_)
 exact ⟨[],⟨[_],⟨O,trivial⟩,O⟩,V1,O,O⟩
theorem at_V (z q m:Nat) (l:List UInt8) (i:Nat) (nc cl cl2 b cap:Nat) (A B:List Value) (r1 r2:Bool) (hz:z≤256) (hi:i<65536) (hin:i/16<nc) (hlen:i%16*z+z≤cl) (hcap:cl≤cap) (hcell:(A.map CV.val ++ .slc 1000002 0 cl2::B.map CV.val)[i/16]? = some (.val (.slice (some ⟨b,0,none⟩) cl cap))):
  MSpec Tryz.prog X 85 [Lp 1000000,Ln .i64 (i:Nat)] [sB 1000000 z q m (.slc 1000001 0 nc),(1000001,some ⟨151,A.map .val ++ .slc 1000002 0 cl2::B.map .val,r1⟩),(1000002,some ⟨5,l.map bc,r2⟩)] (.sv (.one (.val (.slice (some ⟨b,i%16*z,none⟩) z (cap-i%16*z)))))
   [sB 1000000 z q m (.slc 1000001 0 nc),(1000001,some ⟨151,A.map .val ++ .slc 1000002 0 cl2::B.map .val,r1⟩),(1000002,some ⟨5,l.map bc,r2⟩)]:=by
 refine cE Tryz.func85 rfl V5 rfl rfl V4 rfl rfl ?_
 intro C
 have h1:((i:Nat):Int).tmod 16=((i%16:Nat):Int):=by rw [Int.tmod_eq_emod_of_nonneg V3];omega
 have h16:i%16*z≤15*256:=Nat.mul_le_mul V3 hz
 have h2:IntKind.i64.wrap (((i%16:Nat):Int)*(z:Nat))=((i%16*z:Nat):Int):=by rw [← Int.natCast_mul,cF V3]
 have h3:IntKind.i64.wrap (((i:Nat):Int).tdiv 16)=((i/16:Nat):Int):=by rw [quo_i64 V3 V3];omega
 have h4:IntKind.i64.wrap (((i%16*z:Nat):Int)+(z:Nat))=((i%16*z+z:Nat):Int):=by rw [cF V3];omega
 have hix:0+Int.toNat ((i/16:Nat):Int)*1=i/16:=by rw [dD];omega
 have h0:=h0_of (cl:=cl) i rfl hlen
 generalize hp:i%16*z=p at *
 (refine U7 ?_;refine K.rem O O V11 h1 dO ?_;refine U4 ?_;refine bL O O h2 dO ?_;refine U3 ?_;refine rgD mixed ?_;refine U5 ?_;refine K.quo O O V11 h3 dO ?_;refine U9 ?_;refine K.cut2X (sz:=1) (l:=p) (h:=p+z) (off':=p) (len':=z) (cap':=cap-p) O O O V5 V3 V3 h0 hcap V3 V3 O dO ?_;refine U4 ?_)
 exact ⟨[],⟨[_],⟨O,trivial⟩,O⟩,V1,O,O⟩
theorem cNew_ok (size cap:Nat) (hs:size≤256) (h1:1≤cap) (hc:cap≤65536):MSpec Tryz.prog X 40 [Ln .i64 (size:Nat),Ln .i64 (cap:Nat)] [] (Lp 1000001) [cB 1000001 size cap []]:=by
 refine cE Tryz.func40 rfl V5 rfl rfl V4 rfl rfl ?_
 intro C
 refine LWP.ends ?_
 (refine U11 ?_;refine aS O O (cL V3) (dP O O) ?_;refine U3 ?_;refine bK O O (cL V3) (dP O O) ?_;refine U3 ?_;refine aS O O (cL V3) (dP O O) ?_;refine U8 ?_;refine aT O O V2 V23 dO ?_;refine U4 ?_)
 refine cC (σ':=⟨[(4,Lp 22)],[sB 22 size cap ([]:List (List UInt8)).length (.val (.slice none 0 0))],joinM X (fun _=>none)⟩) (by rw [joinM_nil];exact Le.of VF VF V2 V2 V0) ?_
 refine col_shut (cells:=[]) (B:=[]) (OwnedM.nil C X) ⟨Grid.empty _ _ _,Packed.nil ⟨hs,hc⟩⟩ (cA ?_)
 exact ⟨[(1000001,22)],⟨[_],⟨O,trivial⟩,O⟩,V1,O,O⟩
set_option maxHeartbeats 1600000 in
theorem cGet_ok (size cap:Nat) (L:List (List UInt8)) (i:Nat) (l:List UInt8) (h:L[i]? = some l):
  MSpec Tryz.prog X 52 [Lp 1000000,Ln .i64 (i:Nat)] [cB 1000000 size cap L] (.tup [Ss l,Sn .i64 0]) [cB 1000000 size cap L]:=by
 refine cE Tryz.func52 rfl V5 rfl rfl V4 rfl rfl ?_
 intro C
 have hi:=(wl h)
 refine LWP.ends (col_open fun H v cells B hO hI => ?_)
 have hs:=seek_ok (joinM X H) size cap L.length v i hi
 have hp:=hI.pk.chunk hi
 have hfit:=place_fit i size
 have hsm:=hI.pk.small
 have hq:=hI.pk.fit
 obtain ⟨db,ccap,arr,fr,b,cap2,arr2,fr2,sp,rfl,h1,h2,h3,h4,h5⟩:=hI.place hp
 obtain ⟨h6,h7⟩:=chunk_read (p:=i%16*size) (z:=size) h5 (by rw [hI.pk.len_at hp];exact hfit)
 have hat:=at_X (joinM X H) size cap L.length i (ccap:=ccap) hsm.1 V3 hp (joinM_in h1) h2 hfit h3
 have hl:(arr2.toList.drop (i%16*size)).take size=l.map fun c=>Value.int .u8 (c.toNat:Nat):=by
  rw [h7]
  have:=hI.pk.row i l h
  unfold rowOf at this
  rw [this];rfl
 have hX2:=joinM_in (X:=X) h4
 generalize i%16*size=p at *
 (refine U10 ?_;refine K.callR [(1000000,1000000)] (hs) O O V7 (by exact (bS (bS O (bS O (bS O (bS O O)))) O)) O O O O dO ?_;refine U13 ?_;refine K.callR [(1000000,1000000)] (hat) O O V7 (by exact (bS (bS O (bS O (bS O (bS O O)))) O)) O O O O dO<|K.convStrX (l:=l) O hX2 V5 StrT.u h6 hl dO ?_;refine U4 ?_)
 refine col_shut hO hI (cA ?_)
 exact ⟨[],⟨[_,_],⟨O,O,trivial⟩,O⟩,V1,O,O⟩
end Go.Proofs.YtbpdbclndfmcgaaGreatDoor
end
section
set_option maxHeartbeats 12800000
set_option maxRecDepth 100000
namespace Go.Lg.Col
open Go Go.Lg
def appE (size cap n:Nat) (row:List UInt8):Int:=if row.length≠size then 4 else if cap≤n then 5 else 0
theorem appE_ok {size cap n:Nat} {row:List UInt8} (h:appE size cap n row=0):row.length=size∧n<cap:=by
 unfold appE at h
 split at h
 ·omega
 ·split at h<;>omega
theorem splice_bc (ch:List UInt8) (p:Nat) (row:List UInt8):splice (ch.map bc) p (row.map bc)=(splice ch p row).map bc:=by unfold splice;simp
end Go.Lg.Col
namespace Go.Proofs.YtbpdbclndfmcgaaGreatDoor
open Go Go.Lg Go.Lg.Col
set_option maxRecDepth 100000
variable (X:Nat→Option Obj)
set_option maxHeartbeats 1600000 in
theorem cSet_ok (size cap:Nat) (L:List (List UInt8)) (i:Nat) (row:List UInt8) (hi:i<L.length) (h:row.length=size):
  MSpec Tryz.prog X 53 [Lp 1000000,Ln .i64 (i:Nat),Ls row] [cB 1000000 size cap L] (Ln .i64 0) [cB 1000000 size cap (L.set i row)]:=by
 refine cE Tryz.func53 rfl V5 rfl rfl V4 rfl rfl ?_
 intro C
 refine LWP.ends (col_open fun H v cells B hO hI => ?_)
 have hs:=seek_ok (joinM X H) size cap L.length v i hi
 have hp:=hI.pk.chunk hi
 have hfit:=place_fit i size
 have hsm:=hI.pk.small
 have hq:=hI.pk.fit
 have hcl:=hI.len
 have hbl:=hI.pk.len_at hp
 have hne:(((row.length:Nat):Int) != (size:Nat))=false:=by rw [bne_eq_false_iff_eq,h]
 (refine U9 ?_;refine K.callR [(1000000,1000000)] (hs) O O V7 (by exact (bS (bS O (bS O (bS O (bS O O)))) O)) O O O O dO ?_;refine U18 ?_;refine kne O O hne ?_;refine U4 ?_)
 refine chunk_open hO hI hp (fun _=>O) (fun _ _=>O) fun H0 hO0 G _ => ?_
 have hat:=at_B (joinM X H0) size cap L.length (B.getD (i/16) []) i cells.length (B.getD (i/16) []).length (cells.take (i/16)) (cells.drop (i/16+1)) true true hsm.1 V3 V25 V3 V3
 have hcp:i%16*size+row.length≤((B.getD (i/16) []).map bc).length:=by rw [cU,h,hbl];exact hfit
 (refine U3 ?_;refine bE [(1000000,1000000),(1000001,900001),(1000002,900002)] (.sv (.one (.slc 900002 (i%16*size) size))) (oB size cap L.length (i/16) cells (B.getD (i/16) [])) (hat) O O V19 V14 O O O O V1F dO<|kmv O<|K.copyStr (e:=5) O O O V5 V5 V3 hcp O (splice_bc _ _ _) dO ?_;refine U6 ?_)
 refine cC (σ':=⟨[(6,Ln .i64 0)],oB size cap (L.set i row).length (i/16) cells (splice (B.getD (i/16) []) (i%16*size) row),joinM X H0⟩) ?_ ?_
 ·unfold oB oBr
  rw [splice_len (by rw [hbl,h];exact hfit),List.length_set]
  exact Le.of VF V9 V2 V2 V0
 refine chunk_shut V3 hO0 G O O fun H' v' cells' hO' G' => ?_
 refine col_shut hO' ⟨G',hI.pk.set hi h⟩ (cA ?_)
 exact ⟨[],⟨[_],⟨O,trivial⟩,O⟩,V1,O,O⟩
set_option maxHeartbeats 3200000 in
theorem cAppend_in (size cap:Nat) (L:List (List UInt8)) (row:List UInt8) (h:row.length=size) (hn:L.length<cap) (h16:L.length%16≠0):
  MSpec Tryz.prog X 47 [Lp 1000000,Ls row] [cB 1000000 size cap L] (Ln .i64 0) [cB 1000000 size cap (L++[row])]:=by
 refine cE Tryz.func47 rfl V5 rfl rfl V4 rfl rfl ?_
 intro C
 refine LWP.ends (col_open fun H v cells B hO hI => ?_)
 have hnb:=hI.pk.nb
 have hp:L.length/16<B.length:=by omega
 have hfit:=place_fit L.length size
 have hsm:=hI.pk.small
 have hcl:=hI.len
 have hbl:=hI.pk.len_at hp
 have hne:(((row.length:Nat):Int) != (size:Nat))=false:=by rw [bne_eq_false_iff_eq,h]
 have hmul:IntKind.i64.wrap (((B.length:Nat):Int)*16)=((B.length*16:Nat):Int):=by rw [cF V3];omega
 have heq:(((L.length:Nat):Int)==((B.length*16:Nat):Int))=false:=by rw [beq_eq_false_iff_ne];omega
 have hadd:IntKind.i64.wrap (((L.length:Nat):Int)+1)=((L.length+1:Nat):Int):=by rw [cF V3];omega
 have hsub:IntKind.i64.wrap (((L.length+1:Nat):Int)-1)=((L.length:Nat):Int):=by rw [cF V3];omega
 obtain ⟨ad,ccap,hv⟩:=hI.slice
 rw [hv]
 (refine U9 ?_;refine K.ptrNil O V5 (.inl ⟨O,O⟩) dO ?_;refine U11 ?_;refine kne O O hne ?_;refine U4 ?_;refine rgD mixed ?_;refine U8 ?_;refine bD O O (cL V3) dO ?_;refine U7 ?_;refine rgD mixed ?_;refine U9 ?_;refine bL O O hmul dO<|keq O O heq ?_;refine U13 ?_;refine bG O O O O O (nl4 O O O O O) dO ?_;refine U2 ?_)
 refine LWP.le (σ':=⟨[(0,Lp 1000000),(1,Ls row)],[sB 1000000 size cap (L.length+1) (.val (.slice ad B.length ccap))],joinM X H⟩) (Le.of VA VF V2 V2 V0) ?_
 rw [← hv]
 refine chunk_open (m:=L.length+1) hO hI hp (fun _=>O) (fun _ _=>O) fun H0 hO0 G _ => ?_
 have hat:=at_B (joinM X H0) size cap (L.length+1) (B.getD (L.length/16) []) L.length cells.length (B.getD (L.length/16) []).length (cells.take (L.length/16)) (cells.drop (L.length/16+1)) true true hsm.1 V3 V25 V3 V3
 have hcp:L.length%16*size+row.length≤((B.getD (L.length/16) []).map bc).length:=by rw [cU,h,hbl];exact hfit
 (refine U7 ?_;refine bE [(1000000,1000000),(1000001,900001),(1000002,900002)] (.sv (.one (.slc 900002 (L.length%16*size) size))) (oB size cap (L.length+1) (L.length/16) cells (B.getD (L.length/16) [])) (hat) O O V19 V14 O O O O V1F dO<|kmv O<|K.copyStr (e:=5) O O O V5 V5 V3 hcp O (splice_bc _ _ _) dO ?_;refine U6 ?_)
 refine cC (σ':=⟨[(4,Ln .i64 0)],oB size cap (L++[row]).length (L.length/16) cells (splice (B.getD (L.length/16) []) (L.length%16*size) row),joinM X H0⟩) ?_ ?_
 ·unfold oB oBr
  rw [splice_len (by rw [hbl,h];exact hfit),cT]
  exact Le.of VF V9 V2 V2 V0
 refine chunk_shut V3 hO0 G O O fun H' v' cells' hO' G' => ?_
 refine col_shut hO' ⟨G',hI.pk.push h hn h16⟩ (cA ?_)
 exact ⟨[],⟨[_],⟨O,trivial⟩,O⟩,V1,O,O⟩
end Go.Proofs.YtbpdbclndfmcgaaGreatDoor
end
section
set_option maxHeartbeats 12800000
set_option maxRecDepth 100000
namespace Go.Proofs.YtbpdbclndfmcgaaGreatDoor
open Go Go.Lg Go.Lg.Col
set_option maxRecDepth 100000
abbrev zs0 (z:Nat):List UInt8:=List.replicate (16*z) 0
section
variable {n:Nat} {C:Ctx} {X:Nat→Option Obj} {s:List (Nat×LV)}
theorem new_shut {Mid:St→Prop} {z q:Nat} {L B:List (List UInt8)} {row:List UInt8} {H0:Nat→Option Obj} {cells:List Value} (hO:OwnedM C X H0) (G:Cells H0 5 [] cells (B.map byV)) (pk:Packed z q L B) (hr:row.length=z) (hf:L.length<q) (hn:L.length%16=0)
  (h:Leads n C Mid ⟨[(4,Ln .i64 0)],[cB 1000000 z q (L++[row])],X⟩):
  Leads n C Mid ⟨[(4,Ln .i64 0)],oBr z q (L++[row]).length cells.length (cells++[nilSlc]) (splice (zs0 z) (L.length%16*z) row) false,joinM X H0⟩:=by
 have hcl:cells.length=B.length:=by rw [G.len,cU]
 have hb:B.length=L.length/16:=by rw [pk.nb];omega
 have G2:Cells H0 5 [cells.length] (cells++[nilSlc]) ((B++[zs0 z]).map byV):=by
  rw [dE];exact G.snoc nilSlc (byV (zs0 z))
 refine chunk_shut (by rw [cT];exact Nat.lt_succ_self _) hO G2 rfl rfl fun H' v' cells' hO' G' => ?_
 have hw:(B++[zs0 z]).set cells.length (splice (zs0 z) (L.length%16*z) row)=wr (B++[zs0 z]) z L.length row:=by
  unfold wr
  rw [hcl,hb]
  congr 2
  rw [← hb,List.getD_eq_getElem?_getD,List.getElem?_append_right (dK _),Nat.sub_self];rfl
 rw [hw] at G'
 exact col_shut hO' ⟨G',pk.push_new hr hf hn⟩ h
end
variable (X:Nat→Option Obj)
set_option maxHeartbeats 6400000 in
theorem cAppend_new (size cap:Nat) (L:List (List UInt8)) (row:List UInt8) (h:row.length=size) (hn:L.length<cap) (h16:L.length%16=0):
  MSpec Tryz.prog X 47 [Lp 1000000,Ls row] [cB 1000000 size cap L] (Ln .i64 0) [cB 1000000 size cap (L++[row])]:=by
 refine cE Tryz.func47 rfl V5 rfl rfl V4 rfl rfl ?_
 intro C
 refine LWP.ends (col_open fun H v cells B hO hI => ?_)
 have hnb:=hI.pk.nb
 have hfit:=place_fit L.length size
 have hsm:=hI.pk.small
 have hcl:=hI.len
 have hne:(((row.length:Nat):Int) != (size:Nat))=false:=by rw [bne_eq_false_iff_eq,h]
 have hmul:IntKind.i64.wrap (((B.length:Nat):Int)*16)=((B.length*16:Nat):Int):=by rw [cF V3];omega
 have heq:(((L.length:Nat):Int)==((B.length*16:Nat):Int))=true:=by rw [beq_iff_eq];omega
 have hadd:IntKind.i64.wrap (((L.length:Nat):Int)+1)=((L.length+1:Nat):Int):=by rw [cF V3];omega
 have hsub:IntKind.i64.wrap (((L.length+1:Nat):Int)-1)=((L.length:Nat):Int):=by rw [cF V3];omega
 have hmz:IntKind.i64.wrap (((size:Nat):Int)*16)=((16*size:Nat):Int):=by rw [cF V3];omega
 have hmk:slcBuild Tryz.prog 151 (16*size)=some (List.replicate (16*size) (.int .u8 0),1,5):=slcBuild_one V5 V5 V3
 have hz0:(List.replicate (16*size) (Value.int .u8 0)).map CV.val=(zs0 size).map bc:=by unfold zs0;rw [List.map_replicate,List.map_replicate];rfl
 have hzl:(zs0 size).length=16*size:=dB
 have hspl:(splice (zs0 size) (L.length%16*size) row).length=16*size:=by rw [splice_len (by rw [hzl,h];exact hfit),hzl]
 have hcp:L.length%16*size+row.length≤((zs0 size).map bc).length:=by rw [cU,h,hzl];exact hfit
 obtain ⟨ad,ccap,hv⟩:=hI.slice
 rw [hv]
 (refine U9 ?_;refine K.ptrNil O V5 (.inl ⟨O,O⟩) dO ?_;refine U11 ?_;refine kne O O hne ?_;refine U4 ?_;refine rgD mixed ?_;refine U8 ?_;refine bD O O (cL V3) dO ?_;refine U7 ?_;refine rgD mixed ?_;refine U9 ?_;refine bL O O hmul dO<|keq O O heq ?_;refine U3 ?_)
 refine LWP.le (σ':=⟨[(0,Lp 1000000),(1,Ls row)],[sB 1000000 size cap L.length (.val (.slice ad B.length ccap))],joinM X H⟩) (Le.of VA VF V2 V2 V0) ?_
 rw [← hv]
 rcases hI.grid with ⟨db,hd,G⟩|⟨rfl,rfl,hB0⟩
 ·have hat:=at_B (joinM X (cutM H db)) size cap (L.length+1) (zs0 size) L.length (cells.length+1) (16*size) cells [] true false hsm.1 V3 V3 V3 hfit
  have hcl1:(cells.map CV.val).length=cells.length*1:=by rw [cU,Nat.mul_one]
  refine LWP.openCell (A:=[.val (.int .i64 (size:Nat)),.val (.int .i64 (cap:Nat)),.val (.int .i64 (L.length:Nat))]) (B:=[]) (k:=900001) (sz:=1) (len:=cells.length) hO hd V3 V3 O O O O O ?_
  (refine rgD mixed ?_;refine U9 ?_;refine bL O O hmz dO<|K.makeSlc (m:=16*size) (bytes:=1) O O hmk V5 V3 hz0 O dO<|aZ (zs:=[.slice none 0 0]) (sz:=1) (e:=151) (cs':=[.slc 47 0 (16*size)]) V5 O O O O O O dO<|bP (by_:=24) (e2:=151) (l2:=[.slc 47 0 (16*size)]) (nl:=cells.length+1) (nc:=cells.map .val++[.slc 47 0 (16*size)]) O O hcl1 O O (dK _) O O V5 V5 V3 V3 O O O dO ?_;refine U2 ?_;refine bG O O O O O (nl4 O O O O O) dO ?_;refine U11 ?_;refine bG O O O O O (nl4 O O O O O) dO ?_;refine U9 ?_;refine bE [(1000000,1000000),(1000001,49),(1000002,47)] (.sv (.one (.slc 47 (L.length%16*size) size))) [sB 1000000 size cap (L.length+1) (.slc 49 0 (cells.length+1)),(49,some ⟨151,cells.map .val++[.slc 47 0 (16*size)],true⟩),(47,some ⟨5,(zs0 size).map bc,false⟩)] (hat) O O V19 V14 O O O O V1F dO<|kmv O<|K.copyStr (e:=5) O O O V5 V5 V3 hcp O (splice_bc _ _ _) dO ?_;refine U6 ?_)
  refine cC (σ':=⟨[(4,Ln .i64 0)],oBr size cap (L++[row]).length cells.length (cells++[nilSlc]) (splice (zs0 size) (L.length%16*size) row) false,joinM X (cutM H db)⟩) ?_ ?_
  ·unfold oBr
   rw [hspl,cT,cT,List.take_left,List.drop_eq_nil_of_le (by rw [cT];exact dK _)]
   exact Le.ofR [(900001,49),(900002,47)] VF V1 V2 V2 V0 V2 V2
  refine new_shut (hO.cut db) G hI.pk h hn h16 (cA ?_)
  exact ⟨[],⟨[_],⟨O,trivial⟩,O⟩,V1,O,O⟩
 ·have hB:B=[]:=List.map_eq_nil_iff.1 hB0
  subst hB
  have hat:=at_B (joinM X H) size cap (L.length+1) (zs0 size) L.length 1 (16*size) [] [] true false hsm.1 V3 (by rw [dL] at *;omega) (by rw [dL] at *;omega) hfit
  (refine rgD mixed ?_;refine U9 ?_;refine bL O O hmz dO<|K.makeSlc (m:=16*size) (bytes:=1) O O hmk V5 V3 hz0 O dO<|aZ (zs:=[.slice none 0 0]) (sz:=1) (e:=151) (cs':=[.slc 47 0 (16*size)]) V5 O O O O O O dO<|K.appendNil (by_:=24) (e:=151) (e2:=151) (l2:=[.slc 47 0 (16*size)]) O O O (dK _) O O V11 V5 V5 V3 V3 O dO ?_;refine U2 ?_;refine bG O O O O O (nl4 O O O O O) dO ?_;refine U11 ?_;refine bG O O O O O (nl4 O O O O O) dO ?_;refine U9 ?_;refine bE [(1000000,1000000),(1000001,49),(1000002,47)] (.sv (.one (.slc 47 (L.length%16*size) size))) [sB 1000000 size cap (L.length+1) (.slc 49 0 1),(49,some ⟨151,[.slc 47 0 (16*size)],true⟩),(47,some ⟨5,(zs0 size).map bc,false⟩)] (hat) O O (by exact (cN ⟨_,O,O⟩ (cN ⟨_,O,O⟩ (cN ⟨_,O,(bW _ _ _ _)⟩ trivial)))) (by exact (bS (bS O (bS O (bS O (bS O O)))) (bS (bS O O) (bS bytes_inUse O)))) O O O O (by exact (.box O O (.box O O (.box O (bW _ _ _ _) .nil)))) dO<|kmv O<|K.copyStr (e:=5) O O O V5 V5 V3 hcp O (splice_bc _ _ _) dO ?_;refine U6 ?_)
  refine cC (σ':=⟨[(4,Ln .i64 0)],oBr size cap (L++[row]).length ([]:List Value).length ([]++[nilSlc]) (splice (zs0 size) (L.length%16*size) row) false,joinM X H⟩) ?_ ?_
  ·unfold oBr
   rw [hspl,cT]
   exact Le.ofR [(900001,49),(900002,47)] VF V1 V2 V2 V0 V2 V2
  refine new_shut (B:=[]) hO (Cells.nil H 5 []) hI.pk h hn h16 (cA ?_)
  exact ⟨[],⟨[_],⟨O,trivial⟩,O⟩,V1,O,O⟩
theorem cAppend_ok (size cap:Nat) (L:List (List UInt8)) (row:List UInt8) (h:appE size cap L.length row=0):
  MSpec Tryz.prog X 47 [Lp 1000000,Ls row] [cB 1000000 size cap L] (Ln .i64 0) [cB 1000000 size cap (L++[row])]:=by
 obtain ⟨h1,h2⟩:=appE_ok h
 by_cases h16:L.length%16=0
 ·exact cAppend_new X size cap L row h1 h2 h16
 ·exact cAppend_in X size cap L row h1 h2 h16
end Go.Proofs.YtbpdbclndfmcgaaGreatDoor
end
section
set_option maxHeartbeats 12800000
set_option maxRecDepth 100000
namespace Go.Proofs.YtbpdbclndfmcgaaGreatDoor
open Go Go.Lg Go.Lg.Col
set_option maxRecDepth 100000
theorem mid_other {α β:Type} {f:α→β} {cells:List α} {p j:Nat} {x:β} {c:α} (hp:p<cells.length) (hj:p≠j) (hc:cells[j]? = some c):((cells.take p).map f++x::(cells.drop (p+1)).map f)[j]? = some (f c):=by
 have e:(cells.take p).map f++x::(cells.drop (p+1)).map f=(cells.map f).set p x:=by
  rw [List.set_eq_take_append_cons_drop,if_pos (by rw [cU];exact hp),List.map_take,List.map_drop]
 rw [e,List.getElem?_set_ne hj,dI,hc];rfl
variable (X:Nat→Option Obj)
theorem drop_spec (z q m:Nat) (A:List Value) (w:Value) (hA:A.length<65536):
  MSpec Tryz.prog X 87 [Lp 1000000] [sB 1000000 z q m (.slc 1000001 0 (A.length+1)),(1000001,some ⟨151,A.map .val ++ .val w::([]:List Value).map .val,true⟩)] (.tup [])
   [sB 1000000 z q m (.slc 1000001 0 A.length),(1000001,some ⟨151,A.map .val ++ .val nilSlc::([]:List Value).map .val,true⟩)]:=by
 refine cE Tryz.func87 rfl V5 rfl rfl V4 rfl rfl ?_
 intro C
 have hsub:IntKind.i64.wrap (((A.length+1:Nat):Int)-1)=((A.length:Nat):Int):=by rw [cF V3];omega
 have hix:0+Int.toNat ((A.length:Nat):Int)*1=A.length:=by rw [dD];omega
 have hblt:Nat.blt A.length (A.map CV.val ++ .val w::([]:List Value).map CV.val).length=true:=by rw [Nat.blt_eq,cT,cU];simp
 have hput:(A.map CV.val ++ .val w::([]:List Value).map CV.val).set A.length (.val nilSlc)=A.map CV.val ++ .val nilSlc::([]:List Value).map CV.val:=by
  rw [List.set_append_right _ _ (by rw [cU];exact dK _),cU,Nat.sub_self];rfl
 (refine U18 ?_;refine bG O O O O hblt hput dO ?_;refine U8 ?_;refine K.cutSlc O O bZ V3 dO ?_;refine U2 ?_;refine bG O O O O O (nl4 O O O O O) dO ?_;refine U1 ?_)
 exact ⟨[],⟨[],trivial,O⟩,V1,O,O⟩
set_option maxHeartbeats 6400000 in
theorem cSwap_ok (size cap:Nat) (L:List (List UInt8)) (i:Nat) {M:List (List UInt8)} (h:i<L.length) (hM:swapL L i=M):
  MSpec Tryz.prog X 49 [Lp 1000000,Ln .i64 (i:Nat)] [cB 1000000 size cap L] (.tup [Sn .i64 (L.length-1:Nat),Sn .i64 0]) [cB 1000000 size cap M]:=by
 subst hM
 refine cE Tryz.func49 rfl V5 rfl rfl V4 rfl rfl ?_
 intro C
 refine LWP.ends (col_open fun H v cells B hO hI => ?_)
 obtain ⟨l,hl⟩:∃ l,L[L.length-1]? = some l:=wg V3
 have hlen:=hI.pk.rows l (dA hl)
 have hs:=seek_ok (joinM X H) size cap L.length v i h
 have hnb:=hI.pk.nb
 have hp:i/16<B.length:=by omega
 have hp1:(L.length-1)/16<B.length:=by omega
 have hfit:=place_fit i size
 have hfit1:=place_fit (L.length-1) size
 have hsm:=hI.pk.small
 have hq:=hI.pk.fit
 have hcl:=hI.len
 have hbl:=hI.pk.len_at hp
 have hbl1:=hI.pk.len_at hp1
 have hrow:=hI.pk.row _ l hl
 unfold rowOf at hrow
 have hsw:=hI.pk.swap h hl
 have hswl:=swapL_len (L:=L) (i:=i) V3
 have hsub:IntKind.i64.wrap (((L.length:Nat):Int)-1)=((L.length-1:Nat):Int):=by rw [cF V3];omega
 have hone:(byV l).all Value.oneCell'=true:=by unfold byV;rw [List.all_map];exact List.all_eq_true.2 fun _ _=>rfl
 (refine U10 ?_;refine K.callR [(1000000,1000000)] (hs) O O V7 (by exact (bS (bS O (bS O (bS O (bS O O)))) O)) O O O O dO ?_;refine U19 ?_)
 generalize hn1:L.length-1=n1 at *
 refine LWP.meetL (fun σ=>∃ (H':Nat→Option Obj) (v':Value) (cells':List Value),OwnedM C X H'∧Grid H' 151 5 v' cells' ((wr B size i l).map byV)∧σ=⟨[(0,Lp 1000000),(7,Ln .i64 (n1:Nat))],[sB 1000000 size cap L.length (.val v')],joinM X H'⟩) ?_ ?_
 ·refine chunk_open hO hI hp (fun _=>rfl) (fun _ _=>rfl) fun H0 hO0 G hoth => ?_
  have hat:=at_B (joinM X H0) size cap L.length (B.getD (i/16) []) i cells.length (B.getD (i/16) []).length (cells.take (i/16)) (cells.drop (i/16+1)) true true hsm.1 V3 V25 V3 V3
  have hcp:i%16*size+size≤((B.getD (i/16) []).map bc).length:=by rw [cU,hbl];exact hfit
  have hspl:splice ((B.getD (i/16) []).map bc) (i%16*size) ((byV l).map CV.val)=(splice (B.getD (i/16) []) (i%16*size) l).map bc:=by rw [byV_bc];exact splice_bc _ _ _
  have hend:(splice (B.getD (i/16) []) (i%16*size) l).length=(B.getD (i/16) []).length:=splice_len (by rw [hlen,hbl];exact hfit)
  by_cases hsame:i/16=n1/16
  ·have hat2:=at_B (joinM X H0) size cap L.length (B.getD (i/16) []) n1 cells.length (B.getD (i/16) []).length (cells.take (i/16)) (cells.drop (i/16+1)) true true hsm.1 V3 V25 V3 V3
   have hsrc:(((B.getD (i/16) []).map bc).drop (n1%16*size)).take size=(byV l).map CV.val:=by rw [← List.map_drop,← List.map_take,hsame,hrow,byV_bc]
   have hcp2:n1%16*size+size≤((B.getD (i/16) []).map bc).length:=by rw [cU,hbl];exact hfit1
   (refine U3 ?_;refine bE [(1000000,1000000),(1000001,900001),(1000002,900002)] (.sv (.one (.slc 900002 (i%16*size) size))) (oB size cap L.length (i/16) cells (B.getD (i/16) [])) (hat) O O V19 V14 O O O O V1F dO ?_;refine U2 ?_;refine bE [(1000000,1000000),(1000001,900001),(1000002,900002)] (.sv (.one (.slc 900002 (n1%16*size) size))) (oB size cap L.length (i/16) cells (B.getD (i/16) [])) (hat2) O O V19 V14 O O O O V1F dO<|K.copySlc (e:=5) (m:=size) (byV l) O O O O V5 V5 (Nat.min_self _) hcp hcp2 hsrc hone hspl dO ?_;refine U1 ?_)
   refine cC (σ':=⟨[(0,Lp 1000000),(7,Ln .i64 (n1:Nat))],oB size cap L.length (i/16) cells (splice (B.getD (i/16) []) (i%16*size) l),joinM X H0⟩) ?_ ?_
   ·unfold oB oBr
    rw [hend]
    exact Le.of VA V9 V2 V2 V0
   exact chunk_shut V3 hO0 G O O fun H' v' cells' hO' G'=>cA ⟨H',v',cells',hO',G',O⟩
  ·obtain ⟨c,hc⟩:∃ c,cells[n1/16]? = some c:=wg V3
   obtain ⟨b,ccap,arr,fr,sp,rfl,g1,g2,g3⟩:=hoth (n1/16) c (fun e=>hsame e.symm) hc
   have hcell:((cells.take (i/16)).map CV.val ++ .slc 1000002 0 (B.getD (i/16) []).length::(cells.drop (i/16+1)).map CV.val)[n1/16]? = some (.val (.slice (some ⟨b,0,none⟩) (16*size) ccap)):=mid_other V3 hsame hc
   have hat2:=at_V (joinM X H0) size cap L.length (B.getD (i/16) []) n1 cells.length (16*size) (B.getD (i/16) []).length b ccap (cells.take (i/16)) (cells.drop (i/16+1)) true true hsm.1 V3 V3 hfit1 g1 hcell
   obtain ⟨r1,r2⟩:=chunk_read (p:=n1%16*size) (z:=size) g3 (by rw [hbl1];exact hfit1)
   rw [hrow] at r2
   have hX2:=joinM_in (X:=X) g2
   (refine U3 ?_;refine bE [(1000000,1000000),(1000001,900001),(1000002,900002)] (.sv (.one (.slc 900002 (i%16*size) size))) (oB size cap L.length (i/16) cells (B.getD (i/16) [])) (hat) O O V19 V14 O O O O V1F dO ?_;refine U2 ?_;refine K.callR [(1000000,1000000),(1000001,900001),(1000002,900002)] (hat2) O O V19 V14 O O O O dO<|K.copyX (e:=5) (m:=size) (byV l) O O O hX2 V5 V5 (Nat.min_self _) hcp r1 r2 hone hspl dO ?_;refine U1 ?_)
   refine cC (σ':=⟨[(0,Lp 1000000),(7,Ln .i64 (n1:Nat))],oB size cap L.length (i/16) cells (splice (B.getD (i/16) []) (i%16*size) l),joinM X H0⟩) ?_ ?_
   ·unfold oB oBr
    rw [hend]
    exact Le.of VA V9 V2 V2 V0
   exact chunk_shut V3 hO0 G O O fun H' v' cells' hO' G'=>cA ⟨H',v',cells',hO',G',O⟩
 ·rintro σ ⟨H',v',cells',hO',G',rfl⟩
  have hrem:((n1:Nat):Int).tmod 16=((n1%16:Nat):Int):=by rw [Int.tmod_eq_emod_of_nonneg V3];omega
  have hcl':cells'.length=B.length:=by rw [G'.len,cU,wr_len]
  by_cases hd:n1%16=0
  ·have hz:(((n1%16:Nat):Int)==0)=true:=by rw [beq_iff_eq];omega
   (refine U6 ?_;refine bG O O O O O (nl4 O O O O O) dO ?_;refine U5 ?_;refine K.rem O O V11 hrem dO<|keq O O hz ?_;refine U2 ?_)
   refine LWP.le (σ':=⟨[(0,Lp 1000000),(7,Ln .i64 (n1:Nat))],[sB 1000000 size cap n1 (.val v')],joinM X H'⟩) (Le.of VA VF V2 V2 V0) ?_
   obtain ⟨db,hdb,Gc⟩:=G'.real (fun e=>by
    have:((wr B size i l).map byV).length=0:=by rw [e];rfl
    rw [cU,wr_len] at this;omega)
   refine LWP.openCell (A:=[.val (.int .i64 (size:Nat)),.val (.int .i64 (cap:Nat)),.val (.int .i64 (n1:Nat))]) (B:=[]) (k:=900001) (sz:=1) (len:=cells'.length) hO' hdb V3 V3 O O O O O ?_
   obtain ⟨w,hw⟩:∃ w,cells'[n1/16]? = some w:=wg V3
   have hAl:(cells'.take (n1/16)).length=n1/16:=by rw [cX];omega
   have hdr:cells'.drop (n1/16+1)=[]:=List.drop_eq_nil_of_le V3
   have hmid:cells'.map CV.val=(cells'.take (n1/16)).map .val ++ .val w::([]:List Value).map .val:=by
    conv=>lhs;rw [mid_of hw,hdr]
    simp
   have htk:=Gc.take (n1/16)
   have hlen1:cells'.length=(cells'.take (n1/16)).length+1:=by rw [hAl];omega
   rw [hmid,hlen1]
   have hdrop:=drop_spec (joinM X (cutM H' db)) size cap n1 (cells'.take (n1/16)) w V3
   generalize cells'.take (n1/16)=A at *
   (refine U2 ?_;refine aU [(1000000,1000000),(1000001,900001)] [sB 1000000 size cap n1 (.slc 900001 0 A.length),(900001,some ⟨151,A.map .val ++ .val nilSlc::([]:List Value).map .val,true⟩)] (hdrop) O O (by exact (cN ⟨_,O,O⟩ (cN ⟨_,O,(Box.ren_mid O)⟩ trivial))) (by exact (bS (bS O (bS O (bS O (bS O O)))) (bS (bV O) O))) O O O O (by exact (.box O O (.box O (Box.ren_mid O) .nil))) dO ?_;refine U8 ?_)
   refine cC (σ':=⟨[(4,Ln .i64 (n1:Nat)),(5,Ln .i64 0)],[(900001,some ⟨151,A.map .val ++ .val nilSlc::([]:List Value).map .val,true⟩),sB 1000000 size cap n1 (.slc 900001 0 A.length)],joinM X (cutM H' db)⟩) (Le.of VA VA V2 V2 V0) ?_
   refine cC Le.trim ?_
   refine cC (σ':=⟨[(4,Ln .i64 (n1:Nat)),(5,Ln .i64 0)],[(1000000,some ⟨143,[.val (.int .i64 (size:Nat)),.val (.int .i64 (cap:Nat)),.val (.int .i64 (n1:Nat))] ++ .slc 900001 0 A.length::[],false⟩),(900001,some ⟨151,A.map .val,true⟩)],joinM X (cutM H' db)⟩) ?_ ?_
   ·exact Le.same ⟨fun _=>rfl,fun j=>look_swap rfl,rfl⟩
   refine Leads.closeCell (hO'.cut db) V3 O O O O O O fun d1 o2 v2 h2 _ hO4 hv2 => ?_
   have hgr:=Grid.shut htk h2 hv2
   rw [← List.map_take] at hgr
   rw [← hswl]
   refine col_shut hO4 (cells:=A) (B:=(wr B size i l).take ((n1+15)/16)) ⟨?_,hsw⟩ (cA ?_)
   ·rw [show (n1+15)/16=n1/16 by omega];exact hgr
   ·exact ⟨[],⟨[_,_],⟨rfl,rfl,trivial⟩,rfl⟩,V1,rfl,rfl⟩
  ·have hz:(((n1%16:Nat):Int)==0)=false:=by rw [beq_eq_false_iff_ne];omega
   (refine U6 ?_;refine bG O O O O O (nl4 O O O O O) dO ?_;refine U5 ?_;refine K.rem O O V11 hrem dO<|keq O O hz ?_;refine U10 ?_)
   refine cC (σ':=⟨[(4,Ln .i64 (n1:Nat)),(5,Ln .i64 0)],[sB 1000000 size cap (swapL L i).length (.val v')],joinM X H'⟩) (by rw [hswl];exact Le.of VA VF V2 V2 V0) ?_
   rw [List.take_of_length_le (by rw [wr_len];omega)] at hsw
   refine col_shut hO' ⟨G',hsw⟩ (cA ?_)
   exact ⟨[],⟨[_,_],⟨O,O,trivial⟩,O⟩,V1,O,O⟩
end Go.Proofs.YtbpdbclndfmcgaaGreatDoor
end
section
set_option maxHeartbeats 12800000
set_option maxRecDepth 100000
namespace Go.Lg.Col
open Go Go.Lg
theorem joinM_keeps {C:Ctx} {Y H:Nat→Option Obj} (hO:OwnedM C Y H) {b:Nat} {o:Obj} (h:Y b=some o):joinM Y H b=some o:=by
 cases hb:H b with
 | none=>rw [joinM_out hb];exact h
 | some o'=>have:=(hO.own b o' hb).2.2;rw [this] at h;cases h
theorem fill_put {α:Type} {l:List α} {m i:Nat} {z x:α} (hl:l.length=i) (hi:i<m):(l++List.replicate (m-i) z).set i x=l++x::List.replicate (m-(i+1)) z:=by
 rw [List.set_append_right _ _ (by omega),hl,Nat.sub_self,show m-i=(m-(i+1))+1 by omega,List.replicate_succ];rfl
end Go.Lg.Col
namespace Go.Proofs.YtbpdbclndfmcgaaGreatDoor
open Go Go.Lg Go.Lg.Col
set_option maxRecDepth 100000
variable (X:Nat→Option Obj)
theorem copy_spec {b len cap:Nat} {arr:Array Value} {fr:Nat×Nat} {ch:List UInt8} {sp:List Value} (hX:X b=some (.cells arr 5 fr)) (ha:arr.toList=byV ch++sp) (hl:ch.length=len) (hb:len≤65536):
  MSpec Tryz.prog X 90 [.sv (.one (.val (.slice (some ⟨b,0,none⟩) len cap)))] [] (.sv (.one (.slc 1000001 0 len))) [(1000001,some ⟨5,ch.map bc,true⟩)]:=by
 refine cE Tryz.func90 rfl V5 rfl rfl V4 rfl rfl ?_
 intro C
 have hin:OneIn X (some ⟨b,0,none⟩) (byV ch):=one_in hX ⟨sp,ha⟩
 have hnl:(byV ch).length=len*1:=by rw [byV_len];omega
 have hone:∀ u∈byV ch,u.oneCell'=true:=fun u hu=>by
  obtain ⟨c,_,rfl⟩:=List.mem_map.1 hu
  rfl
 (refine U8 ?_;refine K.slcNil (r:=false) O bZ (.inl ⟨O,O⟩) dO ?_;refine U5 ?_;refine aZ (zs:=[]) (sz:=1) (e:=5) V5 O O O O O O dO<|kmv O<|K.appendX (by_:=1) (e2:=5) (news:=byV ch) (nl:=len) (nc:=ch.map bc) O O O O ⟨hin⟩ hnl hone V5 V5 V3 V3 O V3 (by rw [byV_bc];rfl) dO ?_;refine U3 ?_)
 exact ⟨[(1000001,7)],⟨[_],⟨O,trivial⟩,O⟩,V1,O,O⟩
end Go.Proofs.YtbpdbclndfmcgaaGreatDoor
end
section
set_option maxHeartbeats 12800000
set_option maxRecDepth 100000
namespace Go.Proofs.YtbpdbclndfmcgaaGreatDoor
open Go Go.Lg Go.Lg.Col
set_option maxRecDepth 100000
abbrev nilsV (k:Nat):List Value:=List.replicate k nilSlc
abbrev clSt (z q n nb i:Nat) (v:Value) (cells2:List Value) (Y:Nat→Option Obj):St:=
 ⟨[(0,Lp 1000000),(3,Lp 3),(21,.sv (.one (.val v))),(22,Ln .i64 (nb:Nat)),(23,Ln .i64 (i:Nat))],[(16,some ⟨151,(cells2++nilsV (nb-i)).map .val,false⟩),sB 3 z q n (.slc 16 0 nb),sB 1000000 z q n (.val v)],Y⟩
variable (X:Nat→Option Obj)
set_option maxHeartbeats 6400000 in
theorem cClone_spec (size cap:Nat) (L:List (List UInt8)):MSpec Tryz.prog X 56 [Lp 1000000] [cB 1000000 size cap L] (Lp 1000001) [cB 1000000 size cap L,cB 1000001 size cap L]:=by
 refine cE Tryz.func56 rfl V5 rfl rfl V4 rfl rfl ?_
 intro C
 refine LWP.ends (col_open fun H v cells B hO hI => ?_)
 have hnb:=hI.pk.nb
 have hsm:=hI.pk.small
 have hq:=hI.pk.fit
 have hmk:slcBuild Tryz.prog 141 B.length=some (nilsV B.length,1,151):=slcBuild_one V5 V5 V3
 obtain ⟨ad,ccap,hv⟩:=hI.slice
 rw [hv]
 (refine U8 ?_;refine K.ptrNil O V5 (.inl ⟨O,O⟩) dO ?_;refine U18 ?_;refine K.makeSlc (m:=B.length) (bytes:=24) O O hmk V5 V3 O O dO ?_;refine U1 ?_;refine bG O O O O O (nl4 O O O O O) dO ?_;refine U12 ?_)
 rw [← hv]
 refine cJ (fun m σ=>∃ (i:Nat) (cells2:List Value) (H2:Nat→Option Obj),i≤B.length∧m=B.length-i∧OwnedM C (joinM X H) H2∧Cells H2 5 [] cells2 ((B.take i).map byV)∧σ=clSt size cap L.length B.length i v cells2 (joinM (joinM X H) H2)) B.length
  (cC (σ':=clSt size cap L.length B.length 0 v [] (joinM X H)) ?_ (cA ⟨0,[],fun _=>none,by omega,by omega,OwnedM.nil _ _,Cells.nil _ _ _,rfl⟩)) ?_
 ·exact Le.of V12 V9 V2 V2 V0
 rintro m σ ⟨i,cells2,H2,hi,rfl,hO2,G2,rfl⟩
 have hc2:cells2.length=i:=by rw [G2.len,cU,cX];omega
 by_cases hlt:i<B.length
 ·obtain ⟨db,ccap',arr,fr,b,cap2,arr2,fr2,sp,hv',h1,h2,h3,h4,h5⟩:=hI.place hlt
  have hbl:=hI.pk.len_at hlt
  have hX1:=joinM_keeps hO2 (joinM_in (X:=X) h1)
  have hX2:=joinM_keeps hO2 (joinM_in (X:=X) h4)
  have hcp:=copy_spec (joinM (joinM X H) H2) (cap:=cap2) hX2 h5 hbl V3
  have hix:0+Int.toNat ((i:Nat):Int)*1=i:=by rw [dD];omega
  have hblt:Nat.blt i ((cells2++nilsV (B.length-i)).map CV.val).length=true:=by rw [Nat.blt_eq,cU,cT,dB];omega
  have hput:((cells2++nilsV (B.length-i)).map CV.val).set i (.slc 32 0 (16*size))=cells2.map .val ++ .slc 32 0 (16*size)::(nilsV (B.length-(i+1))).map .val:=by
   rw [dE,List.map_replicate,List.map_replicate]
   exact fill_put (by rw [cU];exact hc2) hlt
  rw [hv']
  (refine U17 ?_;refine rgD mixed ?_;refine U4 ?_;refine bE [(1000001,32)] (.sv (.one (.slc 32 0 (16*size)))) [(32,some ⟨5,(B.getD i []).map bc,true⟩)] (hcp) O O V15 O O O O O (by exact (.box O (bW _ _ _ _) .nil)) dO ?_;refine U1 ?_;refine bG O O O O hblt hput dO ?_;refine U6 ?_)
  refine cC (σ':=⟨[(0,Lp 1000000),(3,Lp 3),(21,.sv (.one (.val v))),(22,Ln .i64 (B.length:Nat)),(23,Ln .i64 (i+1:Nat))],[(16,some ⟨151,cells2.map .val ++ .slc 32 0 (16*size)::(nilsV (B.length-(i+1))).map .val,false⟩),(32,some ⟨5,(byV (B.getD i [])).map .val,true⟩),sB 3 size cap L.length (.slc 16 0 B.length),sB 1000000 size cap L.length (.val v)],joinM (joinM X H) H2⟩) ?_ ?_
  ·rw [hv',byV_bc]
   exact Le.of V12 VD V2 V2 V0
  refine Leads.closeCell hO2 (by rw [byV_len,hbl];omega) rfl bT bT rfl rfl rfl fun b1 o1 v1 g1 _ hO3 hv1=>cA ⟨B.length-(i+1),by omega,i+1,cells2++[v1],withBlock H2 b1 o1,by omega,rfl,hO3,?_,?_⟩
  ·have G3:=(G2.snoc nilSlc []).shutAt (by rw [cT];simp) g1 hv1
   have e1:(cells2++[nilSlc]).set cells2.length v1=cells2++[v1]:=by rw [List.set_append_right _ _ (dK _),Nat.sub_self];rfl
   have e2:((B.take i).map byV++[([]:List Value)]).set cells2.length (byV (B.getD i []))=(B.take (i+1)).map byV:=by
    rw [G2.len,List.set_append_right _ _ (dK _),Nat.sub_self,snoc (getD_at (d:=[]) hlt),dE];rfl
   rw [e1,e2] at G3
   exact G3
  ·unfold clSt
   rw [← hv',dJ,dE];rfl
 ·have e:i=B.length:=by omega
  subst e
  refine U12 ?_
  refine cC (σ':=⟨[(2,Lp 3)],[(3,some ⟨143,[.val (.int .i64 (size:Nat)),.val (.int .i64 (cap:Nat)),.val (.int .i64 (L.length:Nat))] ++ .slc 16 0 cells2.length::[],false⟩),(16,some ⟨151,cells2.map .val,false⟩),sB 1000000 size cap L.length (.val v)],joinM (joinM X H) H2⟩) ?_ ?_
  ·rw [Nat.sub_self,show nilsV 0=[] from rfl,dG,hc2]
   exact Le.of VF V9 V2 V2 V0
  refine Leads.closeCell hO2 V3 O O O O O O fun d1 o2 v2 g1 _ hO4 hv2 => ?_
  rw [dC] at G2
  refine col_shut hO4 (cells:=cells2) (B:=B) ⟨Grid.shut G2 g1 hv2,hI.pk⟩ ?_
  refine cC (σ':=⟨[(2,Lp 3)],[sB 1000000 size cap L.length (.val v),cB 3 size cap L],joinM X H⟩) ?_ ?_
  ·exact Le.same ⟨fun _=>rfl,fun j=>look_swap rfl,rfl⟩
  refine col_shut hO hI (cA ?_)
  exact ⟨[(1000001,3)],⟨[_],⟨O,trivial⟩,O⟩,V1,O,O⟩
end Go.Proofs.YtbpdbclndfmcgaaGreatDoor
end
section
set_option maxHeartbeats 12800000
set_option maxRecDepth 100000
namespace Go.Lg.Sg
open Go Go.Lg
def digS (n:Int) (c:UInt8):Option Int:=if c.toNat<48∨57<c.toNat∨n=0∨99<n∨(n<0∧c.toNat=48) then none else some ((if n<0 then 0 else n)*10+((c.toNat:Int)-48))
def sepS (q:List Int×Int):Option (List Int×Int):=if q.2<1∨24<q.2∨(q.1.getLast?.any fun y=>decide (q.2≤y))=true then none else some (q.1++[q.2],-1)
def chS (q:List Int×Int) (c:UInt8):Option (List Int×Int):=if c=43 then sepS q else (digS q.2 c).map fun n=>(q.1,n)
def runS (q:List Int×Int) (s:List UInt8):Option (List Int×Int):=s.foldlM chS q
def parseA (s:List UInt8):Option Nat:=if s=[45] then some 0 else ((runS ([],-1) s).bind sepS).map fun q=>ofN q.1
def rising (l:List Int):Prop:=l.Pairwise (fun x y=>x<y)
theorem idsTo_rising (a n:Nat):rising (idsTo a n):=by
 unfold rising idsTo
 rw [List.pairwise_map]
 refine List.Pairwise.imp (fun {x y} (h:x<y)=>by omega) (List.Pairwise.filter _ List.pairwise_lt_range)
theorem ids_ofN {l:List Int} (h:∀ x∈l,okJ x=true) (hr:rising l):idsL (ofN l)=l:=by
 refine Fld.sorted_eq (fun x:Int=>x) (idsTo_rising _ _) hr fun x => ?_
 unfold idsL
 rw [mem_ids]
 constructor
 ·rintro ⟨h1,h2,h3⟩
  rw [ofN_bit,List.any_eq_true] at h3
  obtain ⟨y,hy,e⟩:=h3
  have:=okI_iff.1 (h y hy)
  have:=beq_iff_eq.1 e
  rw [show x=y by omega]
  exact hy
 ·intro hx
  have:=okI_iff.1 (h x hx)
  exact ⟨this.1,this.2,by rw [ofN_bit,List.any_eq_true];exact ⟨x,hx,cS rfl⟩⟩
theorem isB_ext {a b:Nat} (ha:isB a=true) (hb:isB b=true) (ha2:a<4294967296) (hb2:b<4294967296) (h:idsL a=idsL b):a=b:=by
 rw [isB_iff] at ha hb
 refine Nat.eq_of_testBit_eq fun i => ?_
 by_cases hi:i<32
 ·have key:∀ {p q:Nat},(∀ i,i<32→p.testBit i=true→1≤i∧i≤24)→idsL p=idsL q→p.testBit i=true→q.testBit i=true:=fun {p q} hp e ht=>by
   obtain ⟨h1,h2⟩:=hp i hi ht
   have hm:(i:Int)∈idsL p:=mem_ids.2 ⟨by omega,by omega,ht⟩
   rw [e] at hm
   exact (mem_ids.1 hm).2.2
  cases h1:a.testBit i with
  | true=>exact (key ha h h1).symm
  | false =>
   cases h2:b.testBit i with
   | false=>rfl
   | true=>rw [key hb h.symm h2] at h1;cases h1
 ·have big:∀ {p:Nat},p<4294967296→p.testBit i=false:=fun {p} hp=>Nat.testBit_lt_two_pow (Nat.lt_of_lt_of_le hp (show 2^32≤2^i from Nat.pow_le_pow_right V11 V3))
  rw [big ha2,big hb2]
theorem idsL_ok {a:Nat}:∀ x∈idsL a,1≤x∧x≤24:=fun x hx=>by
 obtain ⟨h1,h2,_⟩:=mem_ids.1 hx
 exact ⟨h1,by omega⟩
theorem ofN_ids {a:Nat} (h:isB a=true) (h2:a<4294967296):ofN (idsL a)=a:=by
 have hok:∀ x∈idsL a,okJ x=true:=fun x hx=>okI_iff.2 (idsL_ok x hx)
 exact isB_ext (ofN_isB hok) h (by have:=ofN_lt hok;omega) h2 (ids_ofN hok (idsTo_rising a 24))
def preT (ids:List Int):List UInt8:=(txF ids).1++if ids=[] then [] else [43]
def digT (n:Int):List UInt8:=if n<0 then [] else Lib.itoa n
structure Rd (p:List UInt8) (q:List Int×Int):Prop where
 text:p=preT q.1++digT q.2
 ids:∀ y∈q.1,1≤y∧y≤24
 rise:rising q.1
 num:q.2 = -1∨(1≤q.2∧q.2≤999)
end Go.Lg.Sg
end
section
set_option maxHeartbeats 12800000
set_option maxRecDepth 100000
namespace Go.Lg.Sg
open Go Go.Lg
theorem take_cons {α:Type} {l:List α} {i:Nat} {x:α} (h:l[i]? = some x):l=l.take i++x::l.drop (i+1):=by
 obtain ⟨hi,e⟩:=List.getElem?_eq_some_iff.1 h
 rw [← e,← List.drop_eq_getElem_cons hi,List.take_append_drop]
end Go.Lg.Sg
namespace Go.Proofs.YtbpdbclndfmcgaaGreatDoor
open Go Go.Lg Go.Lg.Fld Go.Lg.Sg
set_option maxRecDepth 100000
variable (X:Nat→Option Obj)
end Go.Proofs.YtbpdbclndfmcgaaGreatDoor
end
section
set_option maxHeartbeats 12800000
set_option maxRecDepth 100000
namespace Go.Lg.Sg
open Go Go.Lg Go.Lg.Fld
def withN (a:Nat) (id:Int):Nat:=if okJ id=true then a ||| 2^id.toNat else a
def withinB (a b:Nat):Bool:=(idsL a).all (hasB b)
def twiceTo (l:List Int) (n:Nat):Bool:=(List.range n).any fun k=>match l[k]? with|some x=>(l.take k).any (fun y=>y==x)|none=>false
def ofE (ids:List Int):Int:=if okIds ids=true then 0 else 1
def prE (ids:List Int):Int:=if okIds ids=true then (if twiceTo ids ids.length=true then 7 else 0) else 1
def prN (ids:List Int):Nat:=if prE ids=0 then ofN ids else 0
theorem lt32_of_bits {a:Nat} (h:∀ j,32≤j→a.testBit j=false):a<4294967296:=Nat.lt_pow_two_of_testBit (n:=32) _ h
theorem bits32 {a:Nat} (h:a<4294967296) {j:Nat} (hj:32≤j):a.testBit j=false:=Nat.testBit_lt_two_pow (Nat.lt_of_lt_of_le h (show 2^32≤2^j from Nat.pow_le_pow_right V11 hj))
end Go.Lg.Sg
end
section
set_option maxHeartbeats 12800000
set_option maxRecDepth 100000
namespace Go.Lg.Sg
open Go Go.Lg Go.Lg.Fld
def allN:Nat:=33554430
theorem allN_bit (j:Nat):allN.testBit j=(decide (1≤j)&&decide (j≤24)):=by
 by_cases h:j<32
 ·have hd:∀ k:Fin 32,allN.testBit k.val=(decide (1≤k.val)&&decide (k.val≤24)):=by decide
  exact hd ⟨j,h⟩
 ·rw [Nat.testBit_lt_two_pow (Nat.lt_of_lt_of_le (show allN<2^32 by decide) (Nat.pow_le_pow_right V11 V3)),cL (show ¬ j≤24 by omega),Bool.and_false]
theorem nz_bit {x:Nat}:x≠0↔∃ j,x.testBit j=true:=by
 constructor
 ·intro h
  by_cases he:∃ j,x.testBit j=true
  ·exact he
  ·refine absurd (Nat.eq_of_testBit_eq fun i => ?_) h
   rw [Nat.zero_testBit]
   cases hb:x.testBit i with
   | false=>rfl
   | true=>exact absurd ⟨i,hb⟩ he
 ·rintro ⟨j,hj⟩ rfl
  rw [Nat.zero_testBit] at hj
  cases hj
theorem ne0_is {x:Nat} {b:Bool} (h:b=true↔∃ j,x.testBit j=true):((((x:Nat):Int) != 0))=b:=by
 rw [Bool.eq_iff_iff,bne_iff_ne,h,← nz_bit]
 omega
theorem eq0_is {x:Nat} {b:Bool} (h:b=false↔∃ j,x.testBit j=true):((((x:Nat):Int)==0))=b:=by
 rw [← nz_bit] at h
 by_cases hx:x=0
 ·subst hx
  cases b with
  | true=>rfl
  | false=>exact absurd rfl (h.1 rfl)
 ·rw [h.2 hx,cO V3]
theorem andN_32 {a b:Nat} (ha:a<4294967296) (hb:b<4294967296):bits .and .u32 ((a:Nat):Int) ((b:Nat):Int)=((a &&& b:Nat):Int):=u32_and_nat _ _ ha hb
theorem orN_32 {a b:Nat} (ha:a<4294967296) (hb:b<4294967296):bits .or .u32 ((a:Nat):Int) ((b:Nat):Int)=((a ||| b:Nat):Int):=u32_or_nat _ _ ha hb
theorem notN_bit (a b i:Nat):(a ^^^ (a &&& b)).testBit i=(a.testBit i && !b.testBit i):=by
 rw [Nat.testBit_xor,Nat.testBit_and]
 cases a.testBit i<;>cases b.testBit i<;>rfl
theorem notN_lt {a b:Nat} (ha:a<4294967296):a ^^^ (a &&& b)<4294967296:=lt32_of_bits fun j hj=>by
 rw [notN_bit,bits32 ha hj,Bool.false_and]
theorem notN_bits {a b:Nat} (ha:a<4294967296):(BitVec.ofNat 32 a &&& ~~~ BitVec.ofNat 32 b).toNat=a ^^^ (a &&& b):=by
 apply Nat.eq_of_testBit_eq
 intro i
 rw [BitVec.testBit_toNat,BitVec.getLsbD_and,BitVec.getLsbD_not,BitVec.getLsbD_ofNat,BitVec.getLsbD_ofNat,notN_bit]
 by_cases hi:i<32
 ·simp [hi]
 ·have h:=bits32 ha (show 32≤i by omega)
  simp [hi,h]
theorem notN_32 {a b:Nat} (ha:a<4294967296):bits .andNot .u32 ((a:Nat):Int) ((b:Nat):Int)=((a ^^^ (a &&& b):Nat):Int):=by
 have h1:bits .andNot .u32 ((a:Nat):Int) ((b:Nat):Int)=IntKind.u32.wrap (((BitVec.ofNat 32 a &&& ~~~ BitVec.ofNat 32 b).toNat:Nat):Int):=rfl
 rw [h1,notN_bits ha]
 have:=notN_lt (b:=b) ha
 exact wrap_u32 ⟨Int.natCast_nonneg _,by omega⟩
def bitN (id:Int):Nat:=if okJ id=true then 2^id.toNat else 0
theorem bitN_bit (id:Int) (j:Nat):(bitN id).testBit j=(okJ id&&decide (id.toNat=j)):=by
 unfold bitN
 by_cases h:okJ id=true
 ·rw [if_pos h,h,Nat.testBit_two_pow,Bool.true_and]
 ·rw [if_neg h,show okJ id=false by simpa using h,Nat.zero_testBit,Bool.false_and]
theorem bitN_lt (id:Int):bitN id<4294967296:=lt32_of_bits fun j hj=>by
 rw [bitN_bit]
 by_cases ho:okJ id=true
 ·have:=okI_iff.1 ho
  rw [cL (by omega),Bool.and_false]
 ·rw [show okJ id=false by simpa using ho,Bool.false_and]
theorem shl_bit {id:Int} (h:okJ id=true):IntKind.u32.wrap (1*2^(min id.toNat IntKind.u32.bits))=((bitN id:Nat):Int):=by
 have hi:=okI_iff.1 h
 have hm:min id.toNat IntKind.u32.bits=id.toNat:=by
  show min id.toNat 32=id.toNat
  omega
 have hb:=bitN_lt id
 have he:bitN id=2^id.toNat:=if_pos h
 rw [he] at hb ⊢
 rw [hm,Int.one_mul,show ((2:Int)^id.toNat)=((2^id.toNat:Nat):Int) by rw [Int.natCast_pow];rfl]
 exact wrap_u32 ⟨Int.natCast_nonneg _,by omega⟩
theorem is_bits {a:Nat} (ha:a<4294967296):((((a ^^^ (a &&& allN):Nat):Int))==0)=isB a:=by
 refine eq0_is ?_
 constructor
 ·intro h
  have hn:¬ isB a=true:=by rw [h];decide
  rw [isB_iff] at hn
  simp only [Classical.not_forall] at hn
  obtain ⟨i,hi,hb,hno⟩:=hn
  refine ⟨i,?_⟩
  rw [notN_bit,hb,allN_bit]
  by_cases h1:1≤i
  ·rw [cL (show ¬ i≤24 by omega),Bool.and_false];rfl
  ·rw [cL h1];rfl
 ·rintro ⟨j,hj⟩
  rw [notN_bit,allN_bit,Bool.and_eq_true] at hj
  cases hb:isB a with
  | false=>rfl
  | true =>
   rw [isB_iff] at hb
   have hj32:j<32:=by
    by_cases h:j<32
    ·exact h
    ·rw [bits32 ha V3] at hj;cases hj.1
   obtain ⟨h1,h2⟩:=hb j hj32 hj.1
   rw [cM h1,cM h2] at hj
   cases hj.2
theorem has_bits (a:Nat) (id:Int):((((a &&& bitN id:Nat):Int)) != 0)=hasB a id:=by
 refine ne0_is ?_
 unfold hasB
 constructor
 ·intro h
  rw [Bool.and_eq_true] at h
  exact ⟨id.toNat,by rw [Nat.testBit_and,bitN_bit,h.1,h.2,cM rfl];rfl⟩
 ·rintro ⟨j,hj⟩
  rw [Nat.testBit_and,bitN_bit,Bool.and_eq_true,Bool.and_eq_true] at hj
  obtain ⟨h1,h2,h3⟩:=hj
  rw [h2,of_decide_eq_true h3,h1];rfl
theorem with_bits (a:Nat) (id:Int):a ||| bitN id=withN a id:=by
 unfold bitN withN
 by_cases h:okJ id=true
 ·rw [if_pos h,if_pos h]
 ·rw [if_neg h,if_neg h,Nat.or_zero]
theorem within_bits (a b:Nat):(((((a &&& allN) ^^^ ((a &&& allN) &&& b):Nat):Int))==0)=withinB a b:=by
 refine eq0_is ?_
 unfold withinB
 rw [List.all_eq_false]
 constructor
 ·rintro ⟨x,hx,hn⟩
  obtain ⟨h1,h2,h3⟩:=mem_ids.1 hx
  refine ⟨x.toNat,?_⟩
  have ho:okJ x=true:=okI_iff.2 ⟨h1,by omega⟩
  unfold hasB at hn
  rw [ho,Bool.true_and] at hn
  rw [notN_bit,Nat.testBit_and,allN_bit,h3,cM (show 1≤x.toNat by omega),cM (show x.toNat≤24 by omega),show b.testBit x.toNat=false by simpa using hn]
  rfl
 ·rintro ⟨j,hj⟩
  rw [notN_bit,Nat.testBit_and,allN_bit,Bool.and_eq_true,Bool.and_eq_true,Bool.and_eq_true] at hj
  obtain ⟨⟨h1,h2,h3⟩,h4⟩:=hj
  have h2:=of_decide_eq_true h2
  have h3:=of_decide_eq_true h3
  refine ⟨(j:Int),mem_ids.2 ⟨by omega,by omega,h1⟩,?_⟩
  unfold hasB
  rw [show ((j:Int)).toNat=j from rfl]
  cases hb:b.testBit j with
  | false=>rw [Bool.and_false];decide
  | true=>rw [hb] at h4;cases h4
def cntB (x:Nat):Nat:=(List.range 32).countP x.testBit
def pc8 (x:Nat):Nat:=(List.range 8).countP x.testBit
theorem pc8_le (x:Nat):pc8 x≤8:=Nat.le_trans List.countP_le_length (by rw [List.length_range];exact dK _)
theorem countP_range_add (p:Nat→Bool) (a b:Nat):(List.range (a+b)).countP p=(List.range a).countP p+(List.range b).countP (fun j=>p (a+j)):=by
 rw [List.range_add,List.countP_append,List.countP_map]
 rfl
theorem countP_range_congr {p q:Nat→Bool} {n:Nat} (h:∀ j,j<n→p j=q j):(List.range n).countP p=(List.range n).countP q:=
 List.countP_congr fun x hx=>by rw [h x (List.mem_range.1 hx)]
theorem pc8_part (x k:Nat):pc8 (x/2^k%256)=(List.range 8).countP (fun j=>x.testBit (k+j)):=by
 refine countP_range_congr fun j hj => ?_
 rw [show (256:Nat)=2^8 from rfl,Nat.testBit_mod_two_pow,cM hj,Bool.true_and,Nat.testBit_div_two_pow,Nat.add_comm]
theorem cntB_parts {x:Nat} (hx:x<4294967296):pc8 (x/16777216)+pc8 (x/65536%256)+pc8 (x/256%256)+pc8 (x%256)=cntB x:=by
 have h3:=pc8_part x 24
 have h2:=pc8_part x 16
 have h1:=pc8_part x 8
 have h0:=pc8_part x 0
 rw [show x/2^24%256=x/16777216 from Nat.mod_eq_of_lt (by omega)] at h3
 rw [show x/2^0%256=x%256 by rw [Nat.pow_zero,Nat.div_one]] at h0
 rw [h3,show x/65536%256=x/2^16%256 from rfl,h2,show x/256%256=x/2^8%256 from rfl,h1,h0]
 unfold cntB
 rw [show 32=8+(8+(8+8)) from rfl,countP_range_add,countP_range_add,countP_range_add]
 have e0:(List.range 8).countP (fun j=>x.testBit (0+j))=(List.range 8).countP x.testBit:=countP_range_congr fun j _=>by rw [Nat.zero_add]
 have e2:(List.range 8).countP (fun j=>x.testBit (16+j))=(List.range 8).countP (fun j=>x.testBit (8+(8+j))):=countP_range_congr fun j _=>by rw [show 16+j=8+(8+j) by omega]
 have e3:(List.range 8).countP (fun j=>x.testBit (24+j))=(List.range 8).countP (fun j=>x.testBit (8+(8+(8+j)))):=countP_range_congr fun j _=>by rw [show 24+j=8+(8+(8+j)) by omega]
 rw [e0,e2,e3]
 omega
theorem cnt_ids (a:Nat):cntB (a &&& allN)=(idsL a).length:=by
 unfold cntB idsL idsTo
 rw [cU,← List.countP_eq_length_filter,show 32=1+(24+7) from rfl,countP_range_add,countP_range_add]
 have e0:(List.range 1).countP (a &&& allN).testBit=0:=by
  rw [List.countP_eq_zero]
  intro j hj
  have:=List.mem_range.1 hj
  rw [Nat.testBit_and,allN_bit,cL (show ¬ 1≤j by omega)]
  simp
 have e2:(List.range 7).countP (fun j=>(a &&& allN).testBit (1+(24+j)))=0:=by
  rw [List.countP_eq_zero]
  intro j _
  rw [Nat.testBit_and,allN_bit,cL (show ¬ 1+(24+j)≤24 by omega)]
  simp
 have e1:(List.range 24).countP (fun j=>(a &&& allN).testBit (1+j))=(List.range 24).countP (fun j=>a.testBit (j+1)):=countP_range_congr fun j hj=>by
  rw [Nat.testBit_and,allN_bit,cM (show 1≤1+j by omega),cM (show 1+j≤24 by omega),Bool.and_self,Bool.and_true,Nat.add_comm]
 rw [e0,e1,e2]
 omega
theorem ofN_snoc (l:List Int) (x:Int):ofN (l++[x])=ofN l ||| 2^x.toNat:=by
 unfold ofN
 rw [List.foldl_append]
 rfl
theorem with_snoc {l:List Int} {x:Int} (h:okJ x=true):withN (ofN l) x=ofN (l++[x]):=by
 rw [ofN_snoc]
 exact if_pos h
theorem okIds_no {l:List Int} {i:Nat} {x:Int} (hx:l[i]? = some x) (h:okJ x=false):okIds l=false:=by
 unfold okIds
 rw [List.all_eq_false]
 exact ⟨x,dA hx,by rw [h];decide⟩
theorem sub_len:∀ {l1 l2:List Int},l1.Nodup→(∀ x∈l1,x∈l2)→l1.length≤l2.length
 | [],_,_,_=>Nat.zero_le _
 | x::t,l2,hn,hs=>by
  rw [List.nodup_cons] at hn
  have hx:=hs x (List.mem_cons_self ..)
  have h1:t.length≤(l2.erase x).length:=sub_len hn.2 fun y hy=>by
   have hne:y≠x:=fun e=>hn.1 (e▸hy)
   exact (List.mem_erase_of_ne hne).2 (hs y (List.mem_cons_of_mem _ hy))
  have h2:=List.length_erase_of_mem hx
  have h3:=List.length_pos_of_mem hx
  rw [dF]
  omega
theorem idsTo_nodup (a n:Nat):(idsTo a n).Nodup:=(idsTo_rising a n).imp fun {x y} (h:x<y)=>by omega
theorem mem_ofN {l:List Int} (h:okIds l=true) (x:Int):x∈idsL (ofN l)↔x∈l:=by
 have hok:∀ y∈l,okJ y=true:=List.all_eq_true.1 h
 unfold idsL
 rw [mem_ids]
 constructor
 ·rintro ⟨h1,h2,h3⟩
  rw [ofN_bit,List.any_eq_true] at h3
  obtain ⟨y,hy,e⟩:=h3
  have:=okI_iff.1 (hok y hy)
  have:=beq_iff_eq.1 e
  rw [show x=y by omega]
  exact hy
 ·intro hx
  have:=okI_iff.1 (hok x hx)
  exact ⟨this.1,this.2,by rw [ofN_bit,List.any_eq_true];exact ⟨x,hx,cS rfl⟩⟩
theorem twice_len {l:List Int} (h:okIds l=true):((((idsL (ofN l)).length:Nat):Int) != ((l.length:Nat):Int))=twiceTo l l.length:=by
 have hm:=mem_ofN h
 have h1:(idsL (ofN l)).length≤l.length:=sub_len (idsTo_nodup _ _) fun x hx=>(hm x).1 hx
 cases ht:twiceTo l l.length with
 | true =>
  unfold twiceTo at ht
  rw [List.any_eq_true] at ht
  obtain ⟨k,hk,hc⟩:=ht
  have hk:=List.mem_range.1 hk
  obtain ⟨x,hx⟩:=wg hk
  rw [hx] at hc
  have hc:((l.take k).any fun y=>y==x)=true:=hc
  rw [List.any_eq_true] at hc
  obtain ⟨y,hy,e⟩:=hc
  have e:=beq_iff_eq.1 e
  subst e
  have hl:l=l.take k++y::l.drop (k+1):=take_cons hx
  have h2:(idsL (ofN l)).length≤(l.take k++l.drop (k+1)).length:=sub_len (idsTo_nodup _ _) fun z hz=>by
   have hz:=(hm z).1 hz
   rw [hl] at hz
   rcases List.mem_append.1 hz with hz|hz
   ·exact List.mem_append_left _ hz
   ·rcases List.mem_cons.1 hz with rfl|hz
    ·exact List.mem_append_left _ hy
    ·exact List.mem_append_right _ hz
  rw [cT,cX,cY] at h2
  rw [bne_iff_ne]
  omega
 | false =>
  have hn:l.Nodup:=by
   unfold List.Nodup
   rw [List.pairwise_iff_getElem]
   intro i j hi hj hij e
   unfold twiceTo at ht
   rw [List.any_eq_false] at ht
   refine ht j (List.mem_range.2 hj) ?_
   rw [cV hj]
   show ((l.take j).any fun y=>y==l[j])=true
   rw [List.any_eq_true]
   exact ⟨l[i],List.mem_iff_getElem?.2 ⟨i,by rw [List.getElem?_take,if_pos hij,cV hi]⟩,cS e⟩
  have h2:l.length≤(idsL (ofN l)).length:=sub_len hn fun x hx=>(hm x).2 hx
  rw [bne_eq_false_iff_eq]
  omega
def Unread (s:List UInt8) (ids:List Int) (l:List UInt8):Prop:=(runS ([],-1) s).bind sepS=(runS (ids,-1) l).bind sepS
def cutM (s:List UInt8):Bool:=decide (0≤Lib.indexByte s 43)
end Go.Lg.Sg
end
section
set_option maxHeartbeats 12800000
set_option maxRecDepth 100000
namespace Go.Lg.Sg
open Go Go.Lg Go.Lg.Fld
theorem okI_eq (id:Int):okJ id=(decide (1≤id)&&decide (id≤24)):=rfl
def popB (i:Nat):UInt8:=UInt8.ofNat (pc8 i)
theorem popB_nat (i:Nat):(popB i).toNat=pc8 i:=by
 unfold popB
 have:=pc8_le i
 rw [UInt8.toNat_ofNat']
 omega
end Go.Lg.Sg
namespace Go.Proofs.YtbpdbclndfmcgaaGreatDoor
open Go Go.Lg Go.Lg.Fld Go.Lg.Sg
set_option maxRecDepth 100000
variable (X:Nat→Option Obj)
theorem zIsId (id:Int):PSpec Tryz.prog X 96 [Ln .i64 id] (Lb (okJ id)):=by
 refine cD Tryz.func96 rfl V5 rfl rfl ?_
 intro C
 by_cases h1:1≤id
 ·rw [okI_eq,cM h1,Bool.true_and]
  (refine U7 ?_;refine bD O O (cM h1) dO ?_;refine U2 ?_;refine K.leq O O (r:=decide (id≤24)) O (dP O O) ?_;refine U4 ?_)
  exact V6
 ·rw [okI_eq,cL h1,Bool.false_and]
  (refine U7 ?_;refine bD O O (cL h1) dO ?_;refine U7 ?_)
  exact V6
theorem zBit (id:Int):PSpec Tryz.prog X 98 [Ln .i64 id] (Ln .u32 (bitN id:Nat)):=by
 have hI:=zIsId X id
 refine cD Tryz.func98 rfl V5 rfl rfl ?_
 intro C
 cases h:okJ id with
 | false =>
  have hz:bitN id=0:=if_neg (by rw [h];decide)
  rw [h] at hI
  rw [hz]
  refine U17 ?_
  exact V6
 | true =>
  have hs:=shl_bit h
  have h0:=(okI_iff.1 h).1
  rw [h] at hI
  generalize bitN id=b at *
  (refine U16 ?_;refine K.shl O O V3 hs dO ?_;refine U3 ?_)
  exact V6
section
variable (a b:Nat) (ha:a<4294967296) (hb:b<4294967296) (id:Int)
include ha
theorem gIs:PSpec Tryz.prog X 68 [Ln .u32 (a:Nat)] (Lb (isB a)):=by
 have h1:=notN_32 (b:=allN) ha
 have h2:=is_bits ha
 refine cD Tryz.func68 rfl V5 rfl rfl ?_
 intro C
 generalize a ^^^ (a &&& allN)=c at *
 (refine U7 ?_;refine K.bitop V24 O O h1 dO<|keq O O h2 ?_;refine U3 ?_)
 exact V6
theorem gHas:PSpec Tryz.prog X 72 [Ln .u32 (a:Nat),Ln .i64 id] (Lb (hasB a id)):=by
 have h1:=andN_32 ha (bitN_lt id)
 have h2:=has_bits a id
 have hB:=zBit X id
 refine cD Tryz.func72 rfl V5 rfl rfl ?_
 intro C
 generalize a &&& bitN id=c at *
 generalize bitN id=d at *
 (refine U9 ?_;refine K.bitop V24 O O h1 dO<|kne O O h2 ?_;refine U3 ?_)
 exact V6
theorem gWith:PSpec Tryz.prog X 97 [Ln .u32 (a:Nat),Ln .i64 id] (Ln .u32 (withN a id:Nat)):=by
 have h1:=orN_32 ha (bitN_lt id)
 rw [with_bits] at h1
 have hB:=zBit X id
 refine cD Tryz.func97 rfl V5 rfl rfl ?_
 intro C
 generalize withN a id=c at *
 generalize bitN id=d at *
 (refine U9 ?_;refine K.bitop V24 O O h1 dO ?_;refine U3 ?_)
 exact V6
theorem gWithin (_:b<4294967296):PSpec Tryz.prog X 69 [Ln .u32 (a:Nat),Ln .u32 (b:Nat)] (Lb (withinB a b)):=by
 have h1:=andN_32 ha (show allN<4294967296 by decide)
 have hm:a &&& allN<4294967296:=Nat.lt_of_le_of_lt Nat.and_le_left ha
 have h2:=notN_32 (b:=b) hm
 have h3:=within_bits a b
 refine cD Tryz.func69 rfl V5 rfl rfl ?_
 intro C
 generalize (a &&& allN) ^^^ ((a &&& allN) &&& b)=d at *
 generalize a &&& allN=c at *
 (refine U7 ?_;refine K.bitop V24 O O h1 dO<|kmv O<|K.bitop V24 O O h2 dO<|keq O O h3 ?_;refine U3 ?_)
 exact V6
include hb
end
end Go.Proofs.YtbpdbclndfmcgaaGreatDoor
end
section
set_option maxHeartbeats 12800000
set_option maxRecDepth 100000
namespace Go.Lg.Sg
open Go Go.Lg Go.Lg.Fld
def popT:ByteArray:=⟨((([0,1,1,2,1,2,2,3,1,2,2,3,2,3,3,4,1,2,2,3,2,3,3,4,2,3,3,4,3,4,4,5,1,2,2,3,2,3,3,4,2,3,3,4,3,4,4,5,2,3,3,4,3,4,4,5,3,4,4,5,4,5,5,6]:List UInt8).append [1,2,2,3,2,3,3,4,2,3,3,4,3,4,4,5,2,3,3,4,3,4,4,5,3,4,4,5,4,5,5,6,2,3,3,4,3,4,4,5,3,4,4,5,4,5,5,6,3,4,4,5,4,5,5,6,4,5,5,6,5,6,6,7]).append (([1,2,2,3,2,3,3,4,2,3,3,4,3,4,4,5,2,3,3,4,3,4,4,5,3,4,4,5,4,5,5,6,2,3,3,4,3,4,4,5,3,4,4,5,4,5,5,6,3,4,4,5,4,5,5,6,4,5,5,6,5,6,6,7]:List UInt8).append [2,3,3,4,3,4,4,5,3,4,4,5,4,5,5,6,3,4,4,5,4,5,5,6,4,5,5,6,5,6,6,7,3,4,4,5,4,5,5,6,4,5,5,6,5,6,6,7,4,5,5,6,5,6,6,7,5,6,6,7,6,7,7,8])).toArray⟩
theorem pop_fin:∀ k:Fin 256,popT[k.val]? = some (popB k.val):=by decide +kernel
theorem pop_at {i:Nat} (h:i<256):popT[(((i:Nat):Int)).toNat]? = some (popB i):=pop_fin ⟨i,h⟩
theorem pop_shr (x k:Nat) (hk:k<32):((x:Nat):Int).fdiv (2^(min (Int.toNat (k:Int)) IntKind.u32.bits))=((x/2^k:Nat):Int):=by
 have hm:min (Int.toNat (k:Int)) IntKind.u32.bits=k:=by
  show min k 32=k
  omega
 rw [hm,Int.fdiv_eq_ediv_of_nonneg _ (by have:=Int.pow_pos (n:=(2:Int)) (m:=k) (by decide);omega),Int.natCast_ediv,Int.natCast_pow]
 rfl
theorem pop_and {m:Nat} (h:m<4294967296):bits .and .u32 ((m:Nat):Int) 255=((m%256:Nat):Int):=by
 rw [show (255:Int)=((255:Nat):Int) from rfl,u32_and_nat _ _ h (by decide)]
 rw [show m &&& 255=m%256 from Nat.and_two_pow_sub_one_eq_mod m 8]
theorem pop_add {i j n:Nat} (h:i+j=n) (hn:n<256):IntKind.u8.wrap (((i:Nat):Int)+((j:Nat):Int))=((n:Nat):Int):=by
 rw [IntKind.wrap_u8]
 omega
end Go.Lg.Sg
namespace Go.Proofs.YtbpdbclndfmcgaaGreatDoor
open Go Go.Lg Go.Lg.Fld Go.Lg.Sg
set_option maxRecDepth 100000
variable (X:Nat→Option Obj)
set_option maxHeartbeats 1600000 in
theorem zOnes (x:Nat) (hx:x<4294967296):PSpec Tryz.prog X 117 [Ln .u32 (x:Nat)] (Ln .i64 (cntB x:Nat)):=by
 refine cD Tryz.func117 rfl V5 rfl rfl ?_
 intro C
 have hsum:=cntB_parts hx
 have s3:=pop_shr x 24 V11
 have s2:=pop_shr x 16 V11
 have s1:=pop_shr x 8 V11
 rw [show x/2^24=x/16777216 from rfl] at s3
 rw [show x/2^16=x/65536 from rfl] at s2
 rw [show x/2^8=x/256 from rfl] at s1
 have a2:=pop_and (m:=x/65536) V3
 have a1:=pop_and (m:=x/256) V3
 have a0:=pop_and hx
 have p3:=pop_at (i:=x/16777216) V3
 have p2:=pop_at (i:=x/65536%256) V3
 have p1:=pop_at (i:=x/256%256) V3
 have p0:=pop_at (i:=x%256) V3
 have b3:=popB_nat (x/16777216)
 have b2:=popB_nat (x/65536%256)
 have b1:=popB_nat (x/256%256)
 have b0:=popB_nat (x%256)
 have l3:=pc8_le (x/16777216)
 have l2:=pc8_le (x/65536%256)
 have l1:=pc8_le (x/256%256)
 have l0:=pc8_le (x%256)
 rw [← b3,← b2,← b1,← b0] at hsum
 rw [← b3] at l3
 rw [← b2] at l2
 rw [← b1] at l1
 rw [← b0] at l0
 have d1:=pop_add (i:=(popB (x/16777216)).toNat) (j:=(popB (x/65536%256)).toNat) rfl V3
 have d2:=pop_add (i:=(popB (x/16777216)).toNat+(popB (x/65536%256)).toNat) (j:=(popB (x/256%256)).toNat) rfl V3
 have d3:=pop_add (i:=(popB (x/16777216)).toNat+(popB (x/65536%256)).toNat+(popB (x/256%256)).toNat) (j:=(popB (x%256)).toNat) hsum V3
 have hcv:IntKind.i64.wrap ((cntB x:Nat):Int)=((cntB x:Nat):Int):=cF V3
 generalize cntB x=n at *
 generalize popB (x/16777216)=q3 at *
 generalize popB (x/65536%256)=q2 at *
 generalize popB (x/256%256)=q1 at *
 generalize popB (x%256)=q0 at *
 have i3:(0:Int)≤((x/16777216:Nat):Int):=Int.natCast_nonneg _
 have i2:(0:Int)≤((x/65536%256:Nat):Int):=Int.natCast_nonneg _
 have i1:(0:Int)≤((x/256%256:Nat):Int):=Int.natCast_nonneg _
 have i0:(0:Int)≤((x%256:Nat):Int):=Int.natCast_nonneg _
 (refine U5 ?_;refine rgD mixed<|kmv O<|bN O O V11 s3 dO<|bB O O i3 p3 dO<|kmv O<|bN O O V11 s2 dO<|K.bitop V24 O O a2 dO<|bB O O i2 p2 dO ?_;refine U2 ?_;refine bN O O V11 s1 dO<|K.bitop V24 O O a1 dO<|bB O O i1 p1 dO ?_;refine U2 ?_;refine K.bitop V24 O O a0 dO<|bB O O i0 p0 dO ?_;refine U1 ?_;refine kcv O hcv ?_;refine U4 ?_)
 exact V6
theorem gLen (a:Nat) (ha:a<4294967296):PSpec Tryz.prog X 101 [Ln .u32 (a:Nat)] (Ln .i64 ((idsL a).length:Nat)):=by
 have h1:=andN_32 ha (show allN<4294967296 by decide)
 have hm:a &&& allN<4294967296:=Nat.lt_of_le_of_lt Nat.and_le_left ha
 have hO:=zOnes X (a &&& allN) hm
 rw [cnt_ids] at hO
 refine cD Tryz.func101 rfl V5 rfl rfl ?_
 intro C
 generalize a &&& allN=c at *
 (refine U7 ?_;refine K.bitop V24 O O h1 dO ?_;refine U4 ?_)
 exact V6
end Go.Proofs.YtbpdbclndfmcgaaGreatDoor
end
section
set_option maxHeartbeats 12800000
set_option maxRecDepth 100000
namespace Go.Proofs.YtbpdbclndfmcgaaGreatDoor
open Go Go.Lg Go.Lg.Fld Go.Lg.Sg
set_option maxRecDepth 100000
variable (X:Nat→Option Obj)
set_option maxHeartbeats 1600000 in
theorem gOf (ids:List Int) (ad:Option Addr) (cap:Nat) (hin:NuIn X ad ids) (hbig:ids.length<4611686018427387904):
  PSpec Tryz.prog X 66 [Vn ad ids.length cap] (.tup [Sn .u32 (ofA ids:Nat),Sn .i64 (ofE ids)]):=by
 refine cD Tryz.func66 rfl V5 rfl rfl ?_
 intro C
 refine U17 ?_
 refine cH (fun m σ=>∃ i:Nat,i≤ids.length∧m=ids.length-i∧(∀ id∈ids.take i,okJ id=true)∧σ=⟨[(4,Ln .u32 (ofN (ids.take i):Nat)),(7,Vn ad ids.length cap),(8,Ln .i64 (ids.length:Nat)),(9,Ln .i64 (i:Nat))],[],X⟩) ids.length
  ⟨⟨[(4,Ln .u32 (ofN (ids.take 0):Nat)),(7,Vn ad ids.length cap),(8,Ln .i64 (ids.length:Nat)),(9,Ln .i64 (0:Nat))],[],X⟩,Le.of VD V15 V2 V2 V0,0,by omega,rfl,fun id h=>by simp at h,rfl⟩ ?_
 rintro m σ ⟨i,hi,rfl,hpre,rfl⟩
 by_cases hlt:i<ids.length
 ·obtain ⟨x,hx⟩:=wg hlt
  obtain ⟨blk,off,arr,el,fr,rfl,hX,hc⟩:=hin.at hx
  have hio:=wo off i 1
  have hI:=zIsId X x
  cases hk:okJ x with
  | false =>
   have hno:=okIds_no hx hk
   rw [show ofA ids=0 by unfold ofA;rw [hno];rfl,show ofE ids=1 by unfold ofE;rw [hno];rfl]
   rw [hk] at hI
   refine U29 ?_
   exact V1A
  | true =>
   have hlt32:=ofN_lt hpre
   have hW:=gWith X (ofN (ids.take i)) V3 x
   rw [with_snoc hk,← take_snoc hx] at hW
   rw [hk] at hI
   have hadd:=wi i V3
   refine U34 ?_
   exact ⟨_,⟨[(4,Ln .u32 (ofN (ids.take (i+1)):Nat)),(7,Vn (some ⟨blk,off,none⟩) ids.length cap),(8,Ln .i64 (ids.length:Nat)),(9,Ln .i64 (i+1:Nat))],[],X⟩,by omega,Le.of VD V15 V2 V2 V0,i+1,by omega,O,(fun id h=>by
    rw [take_snoc hx] at h
    rcases List.mem_append.1 h with h|h
    ·exact hpre id h
    ·rw [List.mem_singleton.1 h];exact hk),rfl⟩
 ·have e:i=ids.length:=by omega
  subst e
  rw [dC] at hpre ⊢
  have hok:okIds ids=true:=List.all_eq_true.2 hpre
  rw [show ofA ids=ofN ids from if_pos hok,show ofE ids=0 from if_pos hok]
  refine U14 ?_
  exact V1A
theorem of_lent {S:Nat→Option (Option Box)} {l:List Int} {k:Nat} {el:TypeId} {row:Bool} (hbig:l.length<4611686018427387904) (hk:S k=some (some ⟨el,(nuV l).map .val,row⟩)):
  ∀ (Y:Nat→Option Obj) (us:List Value),(∀ b o,X b=some o→Y b=some o)→LentLs S Y [.sv (.one (.slc k 0 l.length))] us→PSpec Tryz.prog Y 66 (us.map toLV) (.tup [Sn .u32 (ofA l:Nat),Sn .i64 (ofE l)]):=by
 intro Y us hY hL
 obtain ⟨u1,us1,rfl,⟨b,blk,cap2,m,hk',rfl,hc,hfit,hB⟩,rfl⟩:=hL
 rw [hk] at hk'
 simp only [Option.some.injEq] at hk'
 subst hk'
 obtain ⟨arr,fr,us',sp,hYb,hsz,harr,hv⟩:=hB
 have:=hv _ rfl
 subst this
 have hN:NuIn Y (some ⟨blk,0,none⟩) l:=by
  have hr:=rows_frozen (X:=Y) (blk:=blk) (arr:=arr) (el:=el) (fr:=fr) (sz:=1) (rows:=l.map fun n=>[Value.int .i64 n]) (fun r hr=>by obtain ⟨x,_,rfl⟩:=List.mem_map.1 hr;rfl) ⟨sp,by rw [nu_flat];exact harr⟩
  have e:withBlock Y blk (.cells arr el fr)=Y:=by
   funext b
   unfold withBlock
   by_cases hb:b=blk
   ·rw [if_pos hb,hb,hYb]
   ·rw [if_neg hb]
  rw [e] at hr
  exact hr
 exact gOf Y l (some ⟨blk,0,none⟩) cap2 hN hbig
abbrev ppSt (ad:Option Addr) (n cap:Nat) (ids:List Int) (i:Nat) (Y:Nat→Option Obj):St:=
 ⟨[(0,Vn ad n cap),(4,.sv (.one (.slc 500 0 n))),(12,Vn ad n cap),(13,Ln .i64 (n:Nat)),(14,Ln .i64 (i:Nat))],[(500,some ⟨3,(nuV (ids.take i)++List.replicate (n-i) (Value.int .i64 0)).map .val,false⟩)],Y⟩
set_option maxHeartbeats 3200000 in
theorem gParts (ps:List Pt) (ad:Option Addr) (cap:Nat) (hin:PartsIn X ad ps) (hbig:ps.length≤40):
  PSpec Tryz.prog X 78 [Vn ad ps.length cap] (.tup [Sn .u32 (prN (ps.map fun p=>p.comp):Nat),Sn .i64 (prE (ps.map fun p=>p.comp))]):=by
 have hmk:slcBuild Tryz.prog 58 ps.length=some (List.replicate ps.length (.int .i64 0),1,3):=slcBuild_one V5 V5 V3
 refine cD Tryz.func78 rfl V5 rfl rfl ?_
 intro C
 have hil:(ps.map fun p=>p.comp).length=ps.length:=cU _
 have hia:∀ (i:Nat) (p:Pt),ps[i]? = some p→(ps.map fun p=>p.comp)[i]? = some p.comp:=fun i p h=>by rw [dI,h];rfl
 generalize (ps.map fun p=>p.comp)=ids at *
 (refine U9 ?_;refine K.makeSlc (m:=ps.length) (bytes:=8) O O hmk V5 V3 O O dO ?_;refine U10 ?_)
 refine cH (fun m σ=>∃ i:Nat,i≤ps.length∧m=ps.length-i∧σ=ppSt ad ps.length cap ids i X) ps.length
  ⟨ppSt ad ps.length cap ids 0 X,Le.ofR [(500,11)] V12 V1 V2 V2 V0 V2 V2,0,by omega,by omega,rfl⟩ ?_
 rintro m σ ⟨i,hi,rfl,rfl⟩
 by_cases hlt:i<ps.length
 ·obtain ⟨p,hp⟩:=wg hlt
  obtain ⟨blk,off,arr,el,fr,vad,vcap,rfl,hX,hsz,hcs,_,_,hN⟩:=hin.get hp
  have hio:=wo off i 2
  have hxi:=hia i p hp
  have hpl:(nuV (ids.take i)).length=i:=by unfold nuV;rw [cU,cX];omega
  have hix:0+Int.toNat (i:Int)*1=i:=by rw [dD];omega
  have hroom:i+1≤((nuV (ids.take i)++List.replicate (ps.length-i) (Value.int .i64 0)).map CV.val).length:=by rw [cU,cT,hpl,dB];omega
  have hspl:splice ((nuV (ids.take i)++List.replicate (ps.length-i) (Value.int .i64 0)).map CV.val) i [.val (.int .i64 p.comp)]=(nuV (ids.take (i+1))++List.replicate (ps.length-(i+1)) (Value.int .i64 0)).map CV.val:=by
   rw [take_snoc hxi,show ps.length-i=(ps.length-(i+1))+1 by omega,List.replicate_succ,show nuV (ids.take i++[p.comp])=nuV (ids.take i)++[.int .i64 p.comp] by unfold nuV;simp]
   unfold splice
   simp only [dE,dJ]
   have hml:((nuV (ids.take i)).map CV.val).length=i:=by rw [cU,hpl]
   generalize (nuV (ids.take i)).map CV.val=R at *
   rw [← hml,List.take_left,List.drop_length_add_append]
   simp
  have hadd:=wi i V3
  (refine U24 ?_;refine K.store O O O O V5 hroom hspl dO ?_;refine U5 ?_)
  exact ⟨_,ppSt (some ⟨blk,off,none⟩) ps.length cap ids (i+1) X,by omega,Le.of V12 VF V2 V2 V0,i+1,by omega,O,O⟩
 ·have e:i=ps.length:=by omega
  subst e
  unfold ppSt
  rw [← hil,dC,Nat.sub_self,List.replicate_zero,dG]
  have hO:∀ {S:Nat→Option (Option Box)} {k:Nat} {el:TypeId} {row:Bool},S k=some (some ⟨el,(nuV ids).map .val,row⟩)→∀ (Y:Nat→Option Obj) (us:List Value),(∀ b o,X b=some o→Y b=some o)→LentLs S Y [.sv (.one (.slc k 0 ids.length))] us→PSpec Tryz.prog Y 66 (us.map toLV) (.tup [Sn .u32 (ofA ids:Nat),Sn .i64 (ofE ids)]):=fun hk=>of_lent X (l:=ids) V3 hk
  cases hk:okIds ids with
  | false =>
   have hE:ofE ids=1:=by unfold ofE;rw [hk];rfl
   have hA:ofA ids=0:=by unfold ofA;rw [hk];rfl
   rw [hE,hA] at hO
   have hP:prE ids=1:=by unfold prE;rw [hk];rfl
   rw [show prN ids=0 by unfold prN;rw [hP];rfl,hP]
   (refine U10 ?_;refine K.callL [500] O O O (hO O) dO ?_;refine U10 ?_;refine keq O O (r:=false) O ?_;refine U18 ?_)
   exact V1A
  | true =>
   have hE:ofE ids=0:=if_pos hk
   have hA:ofA ids=ofN ids:=if_pos hk
   rw [hE,hA] at hO
   have hok:∀ id∈ids,okJ id=true:=List.all_eq_true.1 hk
   have hlt:=ofN_lt hok
   have hL:=gLen X (ofN ids) V3
   have hne:=twice_len hk
   cases ht:twiceTo ids ids.length with
   | true =>
    have hP:prE ids=7:=by unfold prE;rw [hk,ht];rfl
    rw [show prN ids=0 by unfold prN;rw [hP];rfl,hP]
    rw [ht] at hne
    generalize (idsL (ofN ids)).length=q at *
    (refine U10 ?_;refine K.callL [500] O O O (hO O) dO ?_;refine U10 ?_;refine keq O O (r:=true) O ?_;refine U5 ?_;refine aX O O hne (dP O O) ?_;refine U9 ?_)
    exact V1A
   | false =>
    have hP:prE ids=0:=by unfold prE;rw [hk,ht];rfl
    rw [show prN ids=ofN ids by unfold prN;rw [hP];rfl,hP]
    rw [ht] at hne
    generalize (idsL (ofN ids)).length=q at *
    (refine U10 ?_;refine K.callL [500] O O O (hO O) dO ?_;refine U10 ?_;refine keq O O (r:=true) O ?_;refine U5 ?_;refine aX O O hne (dP O O) ?_;refine U12 ?_)
    exact V1A
end Go.Proofs.YtbpdbclndfmcgaaGreatDoor
end
section
set_option maxHeartbeats 12800000
set_option maxRecDepth 100000
namespace Go.Proofs.YtbpdbclndfmcgaaGreatDoor
open Go Go.Lg Go.Lg.Fld Go.Lg.Sg Go.Lg.Col
set_option maxRecDepth 100000
def onlyC (cs:List Cp) (set:Nat):List Cp:=cs.filter fun c=>hasB set c.id
def valR (r:Rw) (k:Nat):List (Bool×Int):=match r.p[k]? with|some p=>p.val|none=>[]
def colL (l:List Rw) (k:Nat) (c:Cp):List (List UInt8):=l.map fun r=>packB c.fs (valR r k)
def colsG (f:Nat→Cp→List (List UInt8)) (most:Nat) (cs:List Cp):List Rsc:=cs.mapIdx fun k c=>colR (rowSize c.fs) most (f k c)
def colsT (t:Tb):List Rsc:=colsG (colL t.l) t.most (onlyC t.sc.cs t.set)
theorem colsG_at {f:Nat→Cp→List (List UInt8)} {most:Nat} {cs:List Cp} {k:Nat} {c:Cp} (h:cs[k]? = some c):(colsG f most cs)[k]? = some (colR (rowSize c.fs) most (f k c)):=by
 unfold colsG;rw [List.getElem?_mapIdx,h];rfl
theorem colsG_len (f:Nat→Cp→List (List UInt8)) (most:Nat) (cs:List Cp):(colsG f most cs).length=cs.length:=by unfold colsG;rw [List.length_mapIdx]
theorem colsG_set {f g:Nat→Cp→List (List UInt8)} {most:Nat} {cs:List Cp} {k:Nat} {c:Cp} (h:cs[k]? = some c) (hk:∀ j d,j≠k→cs[j]? = some d→g j d=f j d):
  (colsG f most cs).set k (colR (rowSize c.fs) most (g k c))=colsG g most cs:=by
 refine List.ext_getElem? fun j => ?_
 have hlt:=(wl h)
 by_cases e:j=k
 ·subst e
  rw [List.getElem?_set_self (by rw [colsG_len];exact hlt),colsG_at h]
 ·rw [List.getElem?_set_ne (fun e'=>e e'.symm)]
  unfold colsG
  rw [List.getElem?_mapIdx,List.getElem?_mapIdx]
  cases hd:cs[j]? with
  | none=>rfl
  | some d=>simp only [Option.map_some];rw [hk j d e hd]
theorem colsG_congr {f g:Nat→Cp→List (List UInt8)} {most:Nat} {cs:List Cp} (h:∀ j d,cs[j]? = some d→g j d=f j d):colsG g most cs=colsG f most cs:=by
 refine List.ext_getElem? fun j => ?_
 unfold colsG
 rw [List.getElem?_mapIdx,List.getElem?_mapIdx]
 cases hd:cs[j]? with
 | none=>rfl
 | some d=>simp only [Option.map_some];rw [h j d hd]
theorem sorted_ext:∀ {a b:List Int},a.Pairwise (· < ·)→b.Pairwise (· < ·)→(∀ x,x∈a↔x∈b)→a=b
 | [],[],_,_,_=>rfl
 | [],y::b,_,_,h=>absurd ((h y).2 (List.mem_cons_self ..)) V24
 | x::a,[],_,_,h=>absurd ((h x).1 (List.mem_cons_self ..)) V24
 | x::a,y::b,ha,hb,h=>by
  obtain ⟨ha1,ha2⟩:=List.pairwise_cons.1 ha
  obtain ⟨hb1,hb2⟩:=List.pairwise_cons.1 hb
  have e:x=y:=by
   rcases List.mem_cons.1 ((h x).1 (List.mem_cons_self ..)) with e|h1
   ·exact e
   ·rcases List.mem_cons.1 ((h y).2 (List.mem_cons_self ..)) with e|h2
    ·exact e.symm
    ·have:=hb1 x h1;have:=ha1 y h2;omega
  subst e
  rw [sorted_ext ha2 hb2 fun z => ?_]
  constructor
  ·intro hz
   rcases List.mem_cons.1 ((h z).1 (List.mem_cons_of_mem _ hz)) with e|h1
   ·have:=ha1 z hz;omega
   ·exact h1
  ·intro hz
   rcases List.mem_cons.1 ((h z).2 (List.mem_cons_of_mem _ hz)) with e|h1
   ·have:=hb1 z hz;omega
   ·exact h1
theorem idsL_sorted (a:Nat):(idsL a).Pairwise (· < ·):=by
 unfold idsL idsTo
 rw [List.pairwise_map]
 refine List.Pairwise.imp (R:=fun i j=>i<j) (fun {i j} (h:i<j)=>by omega) (List.Pairwise.filter _ List.pairwise_lt_range)
theorem goodC16 {s:Sc} (h:chkE s=0):Fld.Good s.cs:=by
 unfold chkE at h
 split at h
 ·cases h
 ·exact good_of h
theorem pair16 {cs:List Cp} (h:Fld.Good cs):cs.Pairwise (fun c d=>c.id<d.id):=by
 rw [List.pairwise_iff_getElem]
 intro i j hi hj hij
 exact (h.two i j _ _ hij (cV hi) (cV hj)).1
theorem lay16 {s:Sc} (h:chkE s=0) {c:Cp} (hc:c∈s.cs):layErr c.fs=0:=by
 obtain ⟨i,hi⟩:=List.mem_iff_getElem?.1 hc
 exact ((goodC16 h).one i c hi).2.2.2.2
theorem only_mem {cs:List Cp} {set:Nat} {c:Cp} (h:c∈onlyC cs set):c∈cs∧hasB set c.id=true:=List.mem_filter.1 h
theorem only_ids {s:Sc} {set:Nat} (h:chkE s=0) (hh:∀ id∈idsL set,hasC s.cs id=true):(onlyC s.cs set).map Cp.id=idsL set:=by
 refine sorted_ext ?_ (idsL_sorted set) fun x => ?_
 ·rw [List.pairwise_map]
  exact (pair16 (goodC16 h)).filter _
 ·have hx:x∈idsL set↔hasB set x=true:=by
   rw [← any_ids,List.any_eq_true]
   exact ⟨fun h=>⟨x,h,cS rfl⟩,fun ⟨y,h1,h2⟩=>by rw [← beq_iff_eq.1 h2];exact h1⟩
  rw [List.mem_map]
  constructor
  ·rintro ⟨c,hc,rfl⟩
   exact hx.2 (only_mem hc).2
  ·intro hm
   have h1:=hh x hm
   unfold hasC at h1
   rw [List.any_eq_true] at h1
   obtain ⟨c,hc,he⟩:=h1
   rw [beq_iff_eq] at he
   exact ⟨c,List.mem_filter.2 ⟨hc,by rw [he];exact hx.1 hm⟩,he⟩
theorem find_of {cs:List Cp} (h:cs.Pairwise (fun c d=>c.id<d.id)) {c:Cp} (hc:c∈cs):cs.find? (fun d=>d.id==c.id)=some c:=by
 induction cs with
 | nil=>cases hc
 | cons d t ih =>
  obtain ⟨h1,h2⟩:=List.pairwise_cons.1 h
  rcases List.mem_cons.1 hc with e|hm
  ·subst e;rw [List.find?_cons,beq_self_eq_true]
  ·have:=h1 c hm
   rw [List.find?_cons,show (d.id==c.id)=false by rw [beq_eq_false_iff_ne];omega]
   exact ih h2 hm
section
variable {t:Tb} (hk:TbOk t)
include hk
theorem t_ids:(onlyC t.sc.cs t.set).map Cp.id=idsL t.set:=only_ids hk.sc hk.has
theorem t_len:(onlyC t.sc.cs t.set).length=(idsL t.set).length:=by rw [← t_ids hk,cU]
theorem t_len24:(onlyC t.sc.cs t.set).length≤24:=by rw [t_len hk];exact ids_le _
theorem t_place (comp:Int):findI (fun c=>c.id==comp) (onlyC t.sc.cs t.set)=match placeT t.set comp with|some k=>(k:Nat)|none => -1:=by
 unfold findI placeT
 rw [← t_ids hk,List.findIdx?_map]
 rfl
theorem t_at {comp:Int} {k:Nat} (h:placeT t.set comp=some k):∃ c,(onlyC t.sc.cs t.set)[k]? = some c∧c.id=comp∧fsAt t.sc.cs comp=c.fs∧hasB t.set comp=true:=by
 have h1:=place_at h
 rw [← t_ids hk,dI] at h1
 obtain ⟨c,hc,he⟩:=Option.map_eq_some_iff.1 h1
 obtain ⟨hm,hb⟩:=only_mem (dA hc)
 refine ⟨c,hc,he,?_,by rw [← he];exact hb⟩
 unfold fsAt
 rw [← he,find_of (pair16 (goodC16 hk.sc)) hm]
omit hk in
theorem t_has (set:Nat) (comp:Int):hasB set comp=(placeT set comp).isSome:=by
 rw [← any_ids]
 unfold placeT
 rw [List.findIdx?_isSome]
theorem t_lay {k:Nat} {c:Cp} (h:(onlyC t.sc.cs t.set)[k]? = some c):layErr c.fs=0:=lay16 hk.sc (only_mem (dA h)).1
theorem t_size {k:Nat} {c:Cp} (h:(onlyC t.sc.cs t.set)[k]? = some c):c.fs.length≤8∧rowSize c.fs≤256∧∀ ns,(packB c.fs ns).length=rowSize c.fs:=by
 obtain ⟨h1,h2,h3⟩:=layErr_facts (t_lay hk h)
 exact ⟨h1,h3,fun ns=>packB_len h2 ns⟩
theorem t_row {k i:Nat} {c:Cp} {r:Rw} (h:(onlyC t.sc.cs t.set)[k]? = some c) (hr:t.l[i]? = some r):∃ p,r.p[k]? = some p∧p.comp=c.id∧fitErr c.fs p.val=0∧(colL t.l k c)[i]? = some (packB c.fs p.val):=by
 have hR:=hk.rows r (dA hr)
 obtain ⟨p,hp,he⟩:=hR.at (k:=k) (id:=c.id) (by rw [← t_ids hk,dI,h];rfl)
 refine ⟨p,hp,he,?_,?_⟩
 ·have hf:=hR.fit p (dA hp)
  have:fsAt t.sc.cs p.comp=c.fs:=by
   unfold fsAt
   rw [he,find_of (pair16 (goodC16 hk.sc)) (only_mem (dA h)).1]
  rw [this] at hf;exact hf
 ·unfold colL
  rw [dI,hr]
  simp only [Option.map_some,valR,hp]
end
def entV (l:List Nat):List Value:=l.map fun e=>.int .u64 (e:Nat)
def EntsAt (H:Nat→Option Obj) (v:Value) (l:List Nat):Prop:=(v=nilSlc∧l=[])∨∃ db,LeadsTo H db v 37 1 (entV l)
def PtrsIn (X:Nat→Option Obj) (v:Value) (ps:List Nat):Prop := ∃ (pad:Option Addr) (cap:Nat),v = .slice pad ps.length cap∧∀ (i b:Nat),ps[i]? = some b →
 ∃ (blk:Nat) (arr:Array Value) (el:TypeId) (fr:Nat×Nat),pad=some ⟨blk,0,none⟩∧X blk=some (.cells arr el fr)∧arr[i]? = some (.pointer (some ⟨b,0,none⟩))
theorem PtrsIn.mono {X Y:Nat→Option Obj} {v:Value} {ps:List Nat} (h:PtrsIn X v ps) (hXY:∀ b o,X b=some o→Y b=some o):PtrsIn Y v ps:=by
 obtain ⟨pad,cap,h1,h2⟩:=h
 refine ⟨pad,cap,h1,fun i b hb => ?_⟩
 obtain ⟨blk,arr,el,fr,g1,g2,g3⟩:=h2 i b hb
 exact ⟨blk,arr,el,fr,g1,hXY _ _ g2,g3⟩
theorem EntsAt.slice {H:Nat→Option Obj} {v:Value} {l:List Nat} (h:EntsAt H v l):∃ ad cap,v = .slice ad l.length cap:=by
 rcases h with ⟨rfl,rfl⟩|⟨db,len,cap,arr,fr,rfl,h2,_⟩
 ·exact ⟨none,0,rfl⟩
 ·have:len=l.length:=by unfold entV at h2;rw [cU] at h2;omega
  rw [this];exact ⟨_,cap,rfl⟩
structure TabIn (t:Tb) (Hs He Hr:Nat→Option Obj) (vE vC vP:Value) (ps:List Nat):Prop where
 sc:∃ (cb cc:Nat),vC = .slice (some ⟨cb,0,none⟩) (onlyC t.sc.cs t.set).length cc∧CompsIn Hs (some ⟨cb,0,none⟩) (onlyC t.sc.cs t.set)
 ptrs:PtrsIn Hs vP ps
 refs:Refs Hr ps (colsT t)
 ents:EntsAt He vE (t.l.map Rw.e)
 two:∀ r∈t.l,∀ p∈r.p,∀ u∈p.val,In2 u.2
abbrev tblV (t:Tb) (vE vC vP:Value):List Value:=[.int .u32 (t.set:Nat),.int .i64 (t.most:Nat),.int .i64 (t.kept:Nat),vE,.int .i64 t.sc.ver,vC,vP]
def tbM (m:Bool) (t:Tb):Rsc:=⟨fun ρ H=>ρ.2=7∧∃ (fr:Nat×Nat) (Hs He Hr:Nat→Option Obj) (vE vC vP:Value) (ps:List Nat),H ρ.1=some (.cells (tblV t vE vC vP).toArray 92 fr) ∧
 cutM H ρ.1=joinM (joinM Hs He) Hr∧(∀ b,He b≠none→Hs b=none)∧(∀ b,Hr b≠none→joinM Hs He b=none)∧TabIn t Hs He Hr vE vC vP ps∧(m=true↔vE≠nilSlc)⟩
def tbR (t:Tb):Rsc:=⟨fun ρ H=>∃ m,(tbM m t).holds ρ H⟩
abbrev tB (k:Nat) (t:Tb):Nat×Option Box:=(k,some ⟨0,[],.res (tbR t)⟩)
abbrev tM (k:Nat) (m:Bool) (t:Tb):Nat×Option Box:=(k,some ⟨0,[],.res (tbM m t)⟩)
abbrev tS (k:Nat) (t:Tb) (vE:CV) (vC vP:Value):Nat×Option Box:=(k,some ⟨92,[.val (.int .u32 (t.set:Nat)),.val (.int .i64 (t.most:Nat)),.val (.int .i64 (t.kept:Nat)),vE,.val (.int .i64 t.sc.ver),.val vC,.val vP],false⟩)
abbrev tH (X Hs He Hr:Nat→Option Obj):Nat→Option Obj:=joinM (joinM (joinM X Hs) He) Hr
section
variable {P:Program} {n:Nat} {C:Ctx} {c:Code} {Q:Exit→St→Prop} {X:Nat→Option Obj} {s:List (Nat×LV)} {bx:List (Nat×Option Box)} {k:Nat}
theorem own_join {H A B:Nat→Option Obj} (h:OwnedM C X H) (e:H=joinM A B) (hd:∀ b,B b≠none→A b=none):OwnedM C X A∧OwnedM C (joinM X A) B:=by
 subst e
 refine ⟨⟨fun b o hb => ?_⟩,⟨fun b o hb => ?_⟩⟩
 ·refine h.own b o ?_
  cases hc:B b with
  | none=>rw [joinM_out hc];exact hb
  | some o'=>have:=hd b (by rw [hc];simp);rw [hb] at this;cases this
 ·obtain ⟨h1,h2,h3⟩:=h.own b o (joinM_in hb)
  exact ⟨h1,h2,by rw [joinM_out (hd b (by rw [hb];simp))];exact h3⟩
theorem own_far {A B:Nat→Option Obj} (h:OwnedM C (joinM X A) B) {b:Nat} (hb:B b≠none):A b=none:=by
 cases ho:B b with
 | none=>exact absurd ho hb
 | some o=>exact (joinM_none (h.own b o ho).2.2).1
theorem tabM_open {m:Bool} {t:Tb}
  (h:∀ (Hs He Hr:Nat→Option Obj) (vE vC vP:Value) (ps:List Nat),OwnedM C X Hs→OwnedM C (joinM X Hs) He→OwnedM C (joinM (joinM X Hs) He) Hr→TabIn t Hs He Hr vE vC vP ps→(m=true↔vE≠nilSlc) →
   LWP P n C c Q ⟨s,tS k t (.val vE) vC vP::bx,tH X Hs He Hr⟩):LWP P n C c Q ⟨s,tM k m t::bx,X⟩:=by
 refine LWP.openRes (fun ρ H h => ?_) fun ρ H vals el fr hR hv hO => ?_
 ·obtain ⟨h1,fr,_,_,_,_,_,_,_,h2,_⟩:=h
  exact ⟨_,_,fr,h2,by rw [h1];rfl⟩
 ·obtain ⟨h1,fr',Hs,He,Hr,vE,vC,vP,ps,h2,h3,h4,h5,h6,h7⟩:=hR
  rw [hv] at h2
  simp only [Option.some.injEq,Obj.cells.injEq] at h2
  obtain ⟨rfl,rfl,rfl⟩:=h2
  have hO1:=hO.cut ρ.1
  rw [h3] at hO1 ⊢
  obtain ⟨hA,hB⟩:=own_join hO1 rfl h5
  obtain ⟨hA1,hA2⟩:=own_join hA rfl h4
  rw [← joinM_join,← joinM_join]
  exact h Hs He Hr vE vC vP ps hA1 hA2 (by rw [joinM_join];exact hB) h6 h7
theorem tab_open {t:Tb}
  (h:∀ (Hs He Hr:Nat→Option Obj) (vE vC vP:Value) (ps:List Nat),OwnedM C X Hs→OwnedM C (joinM X Hs) He→OwnedM C (joinM (joinM X Hs) He) Hr→TabIn t Hs He Hr vE vC vP ps →
   LWP P n C c Q ⟨s,tS k t (.val vE) vC vP::bx,tH X Hs He Hr⟩):LWP P n C c Q ⟨s,tB k t::bx,X⟩:=
 LWP.resEx (fun m=>tbM m t) (fun _ _ h=>h) fun m=>tabM_open fun Hs He Hr vE vC vP ps h1 h2 h3 h4 _=>h Hs He Hr vE vC vP ps h1 h2 h3 h4
theorem tabM_shut {Mid:St→Prop} {m:Bool} {t:Tb} {Hs He Hr:Nat→Option Obj} {vE vC vP:Value} {ps:List Nat} (h1:OwnedM C X Hs) (h2:OwnedM C (joinM X Hs) He) (h3:OwnedM C (joinM (joinM X Hs) He) Hr) (hI:TabIn t Hs He Hr vE vC vP ps) (hm:m=true↔vE≠nilSlc)
  (h:Leads n C Mid ⟨s,tM k m t::bx,X⟩):Leads n C Mid ⟨s,tS k t (.val vE) vC vP::bx,tH X Hs He Hr⟩:=by
 unfold tH
 rw [joinM_join X Hs He,joinM_join]
 have h3':OwnedM C (joinM X (joinM Hs He)) Hr:=by rw [← joinM_join];exact h3
 refine Leads.closeRes (vals:=tblV t vE vC vP) ((h1.join h2).join h3' ) (fun ρ fr g1 g2 g3 => ?_) h
 refine ⟨g3,fr,Hs,He,Hr,vE,vC,vP,ps,cK _ _ _,?_,fun b hb=>own_far h2 hb,fun b hb=>own_far h3' hb,hI,hm⟩
 rw [cut_with g1]
theorem tab_shut {Mid:St→Prop} {t:Tb} {Hs He Hr:Nat→Option Obj} {vE vC vP:Value} {ps:List Nat} (h1:OwnedM C X Hs) (h2:OwnedM C (joinM X Hs) He) (h3:OwnedM C (joinM (joinM X Hs) He) Hr) (hI:TabIn t Hs He Hr vE vC vP ps)
  (h:Leads n C Mid ⟨s,tB k t::bx,X⟩):Leads n C Mid ⟨s,tS k t (.val vE) vC vP::bx,tH X Hs He Hr⟩:=by
 refine tabM_shut (m:=(open Classical in decide (vE≠nilSlc))) h1 h2 h3 hI V24 (Leads.resTo (R2:=tbR t) (fun ρ H hh=>⟨_,hh⟩) h)
theorem tH_s {Hs He Hr:Nat→Option Obj} (h2:OwnedM C (joinM X Hs) He) (h3:OwnedM C (joinM (joinM X Hs) He) Hr):∀ b o,Hs b=some o→tH X Hs He Hr b=some o:=fun b o h=>joinM_has h3 (joinM_has h2 (joinM_in h))
theorem tH_e {Hs He Hr:Nat→Option Obj} (h3:OwnedM C (joinM (joinM X Hs) He) Hr):∀ b o,He b=some o→tH X Hs He Hr b=some o:=fun b o h=>joinM_has h3 (joinM_in h)
theorem tH_x {Hs He Hr:Nat→Option Obj} (h1:OwnedM C X Hs) (h2:OwnedM C (joinM X Hs) He) (h3:OwnedM C (joinM (joinM X Hs) He) Hr):∀ b o,X b=some o→tH X Hs He Hr b=some o:=fun b o h=>joinM_has h3 (joinM_has h2 (joinM_has h1 h))
end
end Go.Proofs.YtbpdbclndfmcgaaGreatDoor
end
section
set_option maxHeartbeats 12800000
set_option maxRecDepth 100000
namespace Go.Proofs.YtbpdbclndfmcgaaGreatDoor
open Go Go.Lg Go.Lg.Fld Go.Lg.Sg Go.Lg.Col
set_option maxRecDepth 100000
abbrev LnilT:LV:=.sv (.one (.val (.pointer none)))
abbrev Vstr (l:List UInt8):SV:=.one (.val (.string ⟨l.toArray⟩))
abbrev vS (ad:Option Addr) (n cap:Nat):CV:=.val (.slice ad n cap)
variable (X:Nat→Option Obj)
section
variable (t:Tb) (ad:Option Addr) (n cap:Nat) (vC vP:Value)
theorem len0:MSpec Tryz.prog X 18 [Lp 1000000] [tS 1000000 t (vS ad n cap) vC vP] (Ln .i64 (n:Nat)) [tS 1000000 t (vS ad n cap) vC vP]:=by
 refine cE Tryz.func18 rfl V5 rfl rfl V4 rfl rfl ?_
 intro C
 (refine U8 ?_;refine K.ptrNil O V5 (.inl ⟨O,O⟩) dO ?_;refine U13 ?_)
 exact ⟨[],⟨[_],⟨O,trivial⟩,O⟩,V1,O,O⟩
theorem room0 (hr:n+t.kept≤t.most) (hm:t.most≤256):MSpec Tryz.prog X 20 [Lp 1000000] [tS 1000000 t (vS ad n cap) vC vP] (Ln .i64 (t.most-n-t.kept:Nat)) [tS 1000000 t (vS ad n cap) vC vP]:=by
 refine cE Tryz.func20 rfl V5 rfl rfl V4 rfl rfl ?_
 intro C
 have h0:=len0 X t ad n cap vC vP
 have h1:IntKind.i64.wrap (((t.most:Nat):Int)-(n:Nat))=((t.most-n:Nat):Int):=by rw [cF V3];omega
 have h2:IntKind.i64.wrap (((t.most-n:Nat):Int)-(t.kept:Nat))=((t.most-n-t.kept:Nat):Int):=by rw [cF V3];omega
 (refine U8 ?_;refine K.ptrNil O V5 (.inl ⟨O,O⟩) dO ?_;refine U4 ?_;refine rgD mixed ?_;refine U5 ?_;refine K.callR [(1000000,1000000)] (h0) O O V7 V8 O O O O dO ?_;refine U10 ?_)
 exact ⟨[],⟨[_],⟨O,trivial⟩,O⟩,V1,O,O⟩
theorem seek0_nil (row:Int):PSpec Tryz.prog X 48 [LnilT,Ln .i64 row] (Ln .i64 2):=by
 refine cD Tryz.func48 rfl V5 rfl rfl ?_
 intro C
 (refine U9 ?_;refine K.nilNil O V5 (.inl ⟨O,O⟩) dO ?_;refine U8 ?_)
 exact V6
theorem seek0_no (row:Int) (h:row<0∨(n:Int)≤row):MSpec Tryz.prog X 48 [Lp 1000000,Ln .i64 row] [tS 1000000 t (vS ad n cap) vC vP] (Ln .i64 3) [tS 1000000 t (vS ad n cap) vC vP]:=by
 refine cE Tryz.func48 rfl V5 rfl rfl V4 rfl rfl ?_
 intro C
 by_cases h0:row<0
 ·(refine U9 ?_;refine K.ptrNil O V5 (.inl ⟨O,O⟩) dO ?_;refine U6 ?_;refine klt O O (cM h0) ?_;refine U17 ?_)
  exact ⟨[],⟨[_],⟨O,trivial⟩,O⟩,V1,O,O⟩
 ·have h1:(n:Int)≤row:=by omega
  (refine U9 ?_;refine K.ptrNil O V5 (.inl ⟨O,O⟩) dO ?_;refine U6 ?_;refine klt O O (cL h0) ?_;refine U3 ?_;refine bI O (dP O O) ?_;refine U3 ?_;refine bD O O (cM h1) (dP O O) ?_;refine U9 ?_)
  exact ⟨[],⟨[_],⟨O,trivial⟩,O⟩,V1,O,O⟩
theorem seek0 (i:Nat) (h:i<n):MSpec Tryz.prog X 48 [Lp 1000000,Ln .i64 (i:Nat)] [tS 1000000 t (vS ad n cap) vC vP] (Ln .i64 0) [tS 1000000 t (vS ad n cap) vC vP]:=by
 refine cE Tryz.func48 rfl V5 rfl rfl V4 rfl rfl ?_
 intro C
 (refine U9 ?_;refine K.ptrNil O V5 (.inl ⟨O,O⟩) dO ?_;refine U10 ?_;refine bI O (dP O O) ?_;refine U3 ?_;refine bD O O (cL V3) (dP O O) ?_;refine U10 ?_)
 exact ⟨[],⟨[_],⟨O,trivial⟩,O⟩,V1,O,O⟩
end
theorem place1_spec (c:Cp) (fad:Option Addr) (fcap:Nat) (id:Int) {b:Nat} {arr:Array Value} {el:TypeId} {fr:Nat×Nat} (hX:X b=some (.cells arr el fr)) (h0:arr[0]? = some (.int .i64 id)):
  PSpec Tryz.prog X 81 [Cx c fad fcap,Vp b] (Lb (c.id==id)):=by
 refine cD Tryz.func81 rfl V5 rfl rfl ?_
 intro C
 (refine U10 ?_;refine keq rfl rfl rfl ?_;refine U3 ?_)
 exact V6
theorem place0 (t:Tb) (v:Value) (vP:Value) (cs:List Cp) (cad:Option Addr) (cc:Nat) (id:Int) (hin:CompsIn X cad cs) (hbig:cs.length<4611686018427387904):
  MSpec Tryz.prog X 45 [Lp 1000000,Ln .i64 id] [tS 1000000 t (.val v) (.slice cad cs.length cc) vP] (Ln .i64 (findI (fun c=>c.id==id) cs)) [tS 1000000 t (.val v) (.slice cad cs.length cc) vP]:=by
 refine cE Tryz.func45 rfl V5 rfl rfl V4 rfl rfl ?_
 intro C
 (refine U2 ?_;refine K.box1 O O O dO ?_;refine U3 ?_)
 refine LWP.le (σ':=⟨[(3,Lp 3),(0,Lp 1000000)],[(3,some ⟨3,[Value.int .i64 id].map .val,false⟩),tS 1000000 t (.val v) (.slice cad cs.length cc) vP],X⟩) (Le.of VA VA V2 V2 V0) ?_
 refine LWP.freezePtr V27 V27 V27 fun b arr0 fr0 hn _ h0 => ?_
 have hin':=hin.mono (cG (o:=.cells arr0 3 fr0) hn)
 have hp:=fun (c:Cp) (_:c∈cs) (fad:Option Addr) (fcap:Nat)=>place1_spec _ c fad fcap id (cK X b (.cells arr0 3 fr0)) (at_zero h0)
 have hq:=idxC_spec _ cad cc cs hin' hbig 81 [.pointer (some ⟨b,0,none⟩)] (fun c=>c.id==id) hp
 (refine U6 ?_;refine K.makeFunc O O dO ?_;refine U4 ?_)
 exact ⟨[],⟨[_],⟨O,trivial⟩,O⟩,V1,O,O⟩
end Go.Proofs.YtbpdbclndfmcgaaGreatDoor
end
section
set_option maxHeartbeats 12800000
set_option maxRecDepth 100000
namespace Go.Proofs.YtbpdbclndfmcgaaGreatDoor
open Go Go.Lg Go.Lg.Fld Go.Lg.Sg Go.Lg.Col
set_option maxRecDepth 100000
theorem colR_root (z q:Nat) (L:List (List UInt8)):∀ ρ H,(colR z q L).holds ρ H→H ρ.1≠none:=fun ρ H h=>by
 obtain ⟨_,_,_,_,_,h2,_⟩:=h
 rw [h2];simp
section
variable {P:Program} {n:Nat} {C:Ctx} {c:Code} {Q:Exit→St→Prop} {Y:Nat→Option Obj} {s:List (Nat×LV)} {bx:List (Nat×Option Box)}
theorem tcol_open {Hr:Nat→Option Obj} {ps:List Nat} {Rs:List Rsc} {k kk:Nat} {R:Rsc} (hO:OwnedM C Y Hr) (hR:Refs Hr ps Rs) (hi:Rs[k]? = some R)
  (hs:s.all (fun p=>p.2.inUse bx)=true) (hb:bx.all (fun p=>match p.2 with|some b=>b.cells.all (CV.inUse bx)|none=>true)=true) (hk:Go.Lg.look kk bx=none) (hlt:kk<1000000)
  (h:∀ (b:Nat) (H0:Nat→Option Obj),ps[k]? = some b→OwnedM C Y H0→(∀ (R':Rsc) (m':Nat) (Hc':Nat→Option Obj),R'.holds (b,m') Hc'→Hc' b≠none→OwnedM C (joinM Y H0) Hc'→Refs (joinM H0 Hc') ps (Rs.set k R')) →
   LWP P n C c Q ⟨s,(kk,some ⟨0,[],.res (atR b R)⟩)::bx,joinM Y H0⟩):LWP P n C c Q ⟨s,bx,joinM Y Hr⟩:=by
 obtain ⟨b,m,Hc,h1,h2,h3,h4,h5⟩:=hR.take hi
 exact LWP.takeRes hO h4 h2 h3 hs hb hk hlt (h b (minusM Hr Hc) h1 (hO.minus Hc) fun R' m' Hc' g1 g2 g3=>h5 R' m' Hc' g1 g2 fun x hx=>own_far g3 hx)
theorem tcol_shut {Mid:St→Prop} {H0:Nat→Option Obj} {b kk:Nat} {R':Rsc} (hO:OwnedM C Y H0) (hroot:∀ ρ H,R'.holds ρ H→H ρ.1≠none)
  (hs:s.all (fun p=>p.2.inUse bx)=true) (hb:bx.all (fun p=>match p.2 with|some b=>b.cells.all (CV.inUse bx)|none=>true)=true) (hk:Go.Lg.look kk bx=none)
  (h:∀ (m':Nat) (Hc':Nat→Option Obj),R'.holds (b,m') Hc'→Hc' b≠none→OwnedM C (joinM Y H0) Hc'→OwnedM C Y (joinM H0 Hc')→Leads n C Mid ⟨s,bx,joinM Y (joinM H0 Hc')⟩):Leads n C Mid ⟨s,(kk,some ⟨0,[],.res (atR b R')⟩)::bx,joinM Y H0⟩:=by
 refine Leads.fixAlone hs hb hk fun ρ H hh hO2 => ?_
 obtain ⟨b',m'⟩:=ρ
 obtain ⟨rfl,hR⟩:=hh
 rw [joinM_join]
 exact h m' H hR (hroot _ _ hR) hO2 (hO.join hO2)
end
abbrev atB (k b z q:Nat) (L:List (List UInt8)):Nat×Option Box:=(k,some ⟨0,[],.res (atR b (colR z q L))⟩)
theorem tget_small (t:Tb) (row comp:Int):tgetE t row comp=0∨tgetE t row comp=3∨tgetE t row comp=6:=by unfold tgetE;(repeat' split)<;>omega
variable (X:Nat→Option Obj)
theorem find0_nil (row comp:Int):PSpec Tryz.prog X 50 [LnilT,Ln .i64 row,Ln .i64 comp] (.tup [Sn .i64 0,Sn .i64 2]):=by
 refine cD Tryz.func50 rfl V5 rfl rfl ?_
 intro C
 have hs:=seek0_nil X row
 refine U26 ?_
 exact V1A
section
variable (t:Tb) (hk:TbOk t) (ad:Option Addr) (cap:Nat) (vP:Value) (row comp:Int)
include hk
theorem find0_no (vC:Value) (h:tgetE t row comp≠0):MSpec Tryz.prog X 50 [Lp 1000000,Ln .i64 row,Ln .i64 comp] [tS 1000000 t (vS ad t.l.length cap) vC vP] (.tup [Sn .i64 0,Sn .i64 (tgetE t row comp)]) [tS 1000000 t (vS ad t.l.length cap) vC vP]:=by
 refine cE Tryz.func50 rfl V5 rfl rfl V4 rfl rfl ?_
 intro C
 unfold tgetE at h ⊢
 by_cases hr:rowB t row=true
 ·rw [if_pos hr] at h ⊢
  unfold rowB at hr
  rw [Bool.and_eq_true,decide_eq_true_iff,decide_eq_true_iff] at hr
  obtain ⟨i,rfl⟩:∃ i:Nat,row=i:=⟨row.toNat,by omega⟩
  have hs:=seek0 X t ad t.l.length cap vC vP i V3
  cases hp:(placeT t.set comp).isSome with
  | true=>rw [hp] at h;exact absurd rfl h
  | false =>
   have hh:=gHas X t.set hk.set.1 comp
   rw [t_has,hp] at hh
   (refine U10 ?_;refine K.callR [(1000000,1000000)] (hs) O O V7 V8 O O O O dO ?_;refine U27 ?_)
   exact ⟨[],⟨[_,_],⟨O,O,trivial⟩,O⟩,V1,O,O⟩
 ·rw [if_neg hr]
  have hs:=seek0_no X t ad t.l.length cap vC vP row (by unfold rowB at hr;rw [Bool.and_eq_true,decide_eq_true_iff,decide_eq_true_iff] at hr;omega)
  (refine U10 ?_;refine K.callR [(1000000,1000000)] (hs) O O V7 V8 O O O O dO ?_;refine U15 ?_)
  exact ⟨[],⟨[_,_],⟨O,O,trivial⟩,O⟩,V1,O,O⟩
theorem find0 (i k:Nat) (cad:Option Addr) (cc:Nat) (hin:CompsIn X cad (onlyC t.sc.cs t.set)) (hi:i<t.l.length) (hp:placeT t.set comp=some k):
  MSpec Tryz.prog X 50 [Lp 1000000,Ln .i64 (i:Nat),Ln .i64 comp] [tS 1000000 t (vS ad t.l.length cap) (.slice cad (onlyC t.sc.cs t.set).length cc) vP] (.tup [Sn .i64 (k:Nat),Sn .i64 0]) [tS 1000000 t (vS ad t.l.length cap) (.slice cad (onlyC t.sc.cs t.set).length cc) vP]:=by
 refine cE Tryz.func50 rfl V5 rfl rfl V4 rfl rfl ?_
 intro C
 have hs:=seek0 X t ad t.l.length cap (.slice cad (onlyC t.sc.cs t.set).length cc) vP i hi
 have hh:=gHas X t.set hk.set.1 comp
 rw [t_has,hp] at hh
 have hpl:=place0 X t (.slice ad t.l.length cap) vP (onlyC t.sc.cs t.set) cad cc comp hin (by have:=t_len24 hk;omega)
 rw [t_place hk,hp] at hpl
 generalize (onlyC t.sc.cs t.set).length=nc at *
 (refine U10 ?_;refine K.callR [(1000000,1000000)] (hs) O O V7 V8 O O O O dO ?_;refine U26 ?_;refine K.callR [(1000000,1000000)] (hpl) O O V7 V8 O O O O dO ?_;refine U4 ?_)
 exact ⟨[],⟨[_,_],⟨O,O,trivial⟩,O⟩,V1,O,O⟩
end
theorem nsV_nms (zs:List Int):nsV zs=nmsV (zs.map qn):=by unfold nsV nmsV;rw [List.map_map];rfl
set_option maxHeartbeats 3200000 in
theorem value0 (t:Tb) (v:Value) (cs:List Cp) (cad:Option Addr) (cc:Nat) (vP:Value) (ps:List Nat) (i k b z q:Nat) (L:List (List UInt8)) (c:Cp) (ns:List (Bool×Int)) (hin:CompsIn X cad cs) (hP:PtrsIn X vP ps) (hb:ps[k]? = some b) (hc:cs[k]? = some c) (hL:L[i]? = some (packB c.fs ns)) (hf:fitErr c.fs ns=0) (h2:∀ u∈ns,In2 u.2) (h8:c.fs.length≤8) (hbig:cs.length≤24):
  MSpec Tryz.prog X 51 [Lp 1000000,Ln .i64 (i:Nat),Ln .i64 (k:Nat)] [tS 1000000 t (.val v) (.slice cad cs.length cc) vP,atB 1000001 b z q L] (.tup [.one (.slc 1000002 0 ns.length 3),Sn .i64 0]) [tS 1000000 t (.val v) (.slice cad cs.length cc) vP,atB 1000001 b z q L,nmsB 1000002 ns true]:=by
 obtain ⟨pad,pcap,rfl,hP⟩:=hP
 have hkl:=(wl hb)
 have hkc:=(wl hc)
 obtain ⟨pblk,parr,pel,pfr,rfl,hPX,hPa⟩:=hP k b hb
 obtain ⟨blk,off,arr,el,fr,fad,fcap,rfl,hX,hsz,hcs,_,_,g3,hF⟩:=hin.get hc
 have hg:=(cGet_ok X z q L i _ hL).at (b:=b)
 obtain ⟨hu1,hu2⟩:=pack_back h2 hf
 have hU:=lUnpack_ok X fad fcap c.fs (packB c.fs ns) hF V3 hu1
 have hlen:(unpZ c.fs (packB c.fs ns)).length=ns.length:=by rw [← cU (f:=qn),hu2]
 rw [hlen,nsV_nms,hu2] at hU
 generalize packB c.fs ns=B at *
 refine cE Tryz.func51 rfl V5 rfl rfl V4 rfl rfl ?_
 intro C
 have hio:0+Int.toNat (k:Int)*1=k:=by simp
 have hio2:=wo off k 3
 refine LWP.ends ?_
 (refine U15 ?_;refine K.callR [(1000000,1000001)] (hg) O O V7 VE O O O O dO ?_;refine U26 ?_;refine bE [(1000001,601)] (.tup [.one (.slc 601 0 ns.length 3),Sn .i64 0]) [(601,some ⟨82,(nmsV ns).map .val,false⟩)] (hU) O O V15 O O O O O V18 dO ?_;refine U6 ?_)
 refine cC (σ':=⟨[(6,.sv (.one (.slc 601 0 ns.length 3))),(7,Ln .i64 0)],[nmsB 601 ns false,tS 1000000 t (.val v) (.slice (some ⟨blk,off,none⟩) cs.length cc) (.slice (some ⟨pblk,0,none⟩) ps.length pcap),atB 1000001 b z q L],X⟩) (Le.of VA V9 V2 V2 V0) ?_
 refine cC Le.loose (cA ?_)
 exact ⟨[(1000002,601)],⟨[_,_],⟨O,O,trivial⟩,O⟩,V1,O,O⟩
theorem tGet_nil (row comp:Int):PSpec Tryz.prog X 12 [LnilT,Ln .i64 row,Ln .i64 comp] (.tup [Vnil,Sn .i64 2]):=by
 refine cD Tryz.func12 rfl V5 rfl rfl ?_
 intro C
 have hs:=find0_nil X row comp
 refine U31 ?_
 exact V1A
theorem tGet_no (t:Tb) (hk:TbOk t) (row comp:Int) (h:tgetE t row comp≠0):MSpec Tryz.prog X 12 [Lp 1000000,Ln .i64 row,Ln .i64 comp] [tB 1000000 t] (.tup [Vnil,Sn .i64 (tgetE t row comp)]) [tB 1000000 t]:=by
 refine cE Tryz.func12 rfl V5 rfl rfl V4 rfl rfl ?_
 intro C
 refine LWP.ends (tab_open fun Hs He Hr vE vC vP ps h1 h2 h3 hI => ?_)
 obtain ⟨ad,cap,rfl⟩:=hI.ents.slice
 rw [cU] at hI ⊢
 have hs:=find0_no (tH X Hs He Hr) t hk ad cap vP row comp vC h
 have hsm:=tget_small t row comp
 generalize tgetE t row comp=e at *
 (refine U10 ?_;refine K.callR [(1000000,1000000)] (hs) O O V7 V8 O O O O dO ?_;refine U10 ?_;refine kne O O (r:=true) (cR h) ?_;refine U9 ?_)
 refine tab_shut h1 h2 h3 hI (cA ?_)
 exact ⟨[],⟨[_,_],⟨O,O,trivial⟩,O⟩,V1,O,O⟩
theorem tBytes_nil (row comp:Int):PSpec Tryz.prog X 14 [LnilT,Ln .i64 row,Ln .i64 comp] (.tup [Vstr [],Sn .i64 2]):=by
 refine cD Tryz.func14 rfl V5 rfl rfl ?_
 intro C
 have hs:=find0_nil X row comp
 refine U31 ?_
 exact V1A
theorem tBytes_no (t:Tb) (hk:TbOk t) (row comp:Int) (h:tgetE t row comp≠0):MSpec Tryz.prog X 14 [Lp 1000000,Ln .i64 row,Ln .i64 comp] [tB 1000000 t] (.tup [Vstr [],Sn .i64 (tgetE t row comp)]) [tB 1000000 t]:=by
 refine cE Tryz.func14 rfl V5 rfl rfl V4 rfl rfl ?_
 intro C
 refine LWP.ends (tab_open fun Hs He Hr vE vC vP ps h1 h2 h3 hI => ?_)
 obtain ⟨ad,cap,rfl⟩:=hI.ents.slice
 rw [cU] at hI ⊢
 have hs:=find0_no (tH X Hs He Hr) t hk ad cap vP row comp vC h
 have hsm:=tget_small t row comp
 generalize tgetE t row comp=e at *
 (refine U10 ?_;refine K.callR [(1000000,1000000)] (hs) O O V7 V8 O O O O dO ?_;refine U10 ?_;refine kne O O (r:=true) (cR h) ?_;refine U9 ?_)
 refine tab_shut h1 h2 h3 hI (cA ?_)
 exact ⟨[],⟨[_,_],⟨O,O,trivial⟩,O⟩,V1,O,O⟩
theorem tget_ok {t:Tb} (hk:TbOk t) {row comp:Int} (h:tgetE t row comp=0):∃ (i k:Nat) (c:Cp) (r:Rw) (p:Pt),row=i∧i<t.l.length∧placeT t.set comp=some k∧(onlyC t.sc.cs t.set)[k]? = some c∧c.id=comp∧t.l[i]? = some r∧r.p[k]? = some p∧fitErr c.fs p.val=0∧(colL t.l k c)[i]? = some (packB c.fs p.val)∧getV t row comp=p.val∧bytesT t row comp=packB c.fs p.val:=by
 unfold tgetE at h
 by_cases hr:rowB t row=true
 case neg=>rw [if_neg hr] at h;cases h
 rw [if_pos hr] at h
 unfold rowB at hr
 rw [Bool.and_eq_true,decide_eq_true_iff,decide_eq_true_iff] at hr
 obtain ⟨i,rfl⟩:∃ i:Nat,row=i:=⟨row.toNat,by omega⟩
 cases hp:placeT t.set comp with
 | none=>rw [hp] at h;cases h
 | some k =>
  obtain ⟨c,hc,hid,hfs,_⟩:=t_at hk hp
  obtain ⟨r,hr'⟩:∃ r,t.l[i]? = some r:=wg V3
  obtain ⟨p,hp1,_,hp3,hp4⟩:=t_row hk hc hr'
  have hv:getV t (i:Nat) comp=p.val:=by unfold getV valT;rw [hp];simp only [dD,hr',hp1]
  exact ⟨i,k,c,r,p,rfl,by omega,rfl,hc,hid,hr',hp1,hp3,hp4,hv,by unfold bytesT;rw [hfs,hv]⟩
set_option maxHeartbeats 3200000 in
theorem tGetM (t:Tb) (hk:TbOk t) (row comp:Int) (h:tgetE t row comp=0):MSpec Tryz.prog X 12 [Lp 1000000,Ln .i64 row,Ln .i64 comp] [tB 1000000 t] (.tup [.one (.slc 1000001 0 (getV t row comp).length 3),Sn .i64 0]) [tB 1000000 t,nmsB 1000001 (getV t row comp) true]:=by
 obtain ⟨i,k,c,r,p,rfl,hi,hp,hc,_,hr,hp1,hf,hL,hv,_⟩:=tget_ok hk h
 rw [hv]
 have hsz:=t_size hk hc
 have h24:=t_len24 hk
 refine cE Tryz.func12 rfl V5 rfl rfl V4 rfl rfl ?_
 intro C
 refine LWP.ends (tab_open fun Hs He Hr vE vC vP ps h1 h2 h3 hI => ?_)
 obtain ⟨ad,cap,rfl⟩:=hI.ents.slice
 obtain ⟨cb,cc,rfl,hin⟩:=hI.sc
 rw [cU] at hI ⊢
 have hs:=find0 (tH X Hs He Hr) t hk ad cap vP comp i k (some ⟨cb,0,none⟩) cc (hin.mono (tH_s h2 h3)) hi hp
 (refine U10 ?_;refine K.callR [(1000000,1000000)] (hs) O O V7 V8 O O O O dO ?_;refine U15 ?_)
 refine LWP.le (σ':=⟨[(0,Lp 1000000),(1,Ln .i64 (i:Nat)),(8,Ln .i64 (k:Nat))],[tS 1000000 t (vS ad t.l.length cap) (.slice (some ⟨cb,0,none⟩) (onlyC t.sc.cs t.set).length cc) vP],tH X Hs He Hr⟩) (Le.of V9 VF V2 V2 V0) ?_
 refine tcol_open (kk:=501) h3 hI.refs (colsG_at hc) O O O V3 fun b H0 hb hO0 hback => ?_
 have hq:=value0 (joinM (joinM (joinM X Hs) He) H0) t (.slice ad t.l.length cap) (onlyC t.sc.cs t.set) (some ⟨cb,0,none⟩) cc vP ps i k b (rowSize c.fs) t.most (colL t.l k c) c p.val (hin.mono (tH_s h2 hO0)) (hI.ptrs.mono (tH_s h2 hO0)) hb hc hL hf (hI.two r (dA hr) p (dA hp1)) hsz.1 h24
 have hcol:=colR_root (rowSize c.fs) t.most (colL t.l k c)
 have hset:(colsT t).set k (colR (rowSize c.fs) t.most (colL t.l k c))=colsT t:=colsG_set hc fun _ _ _ _=>rfl
 generalize p.val=N at *
 (refine U4 ?_;refine bE [(1000000,1000000),(1000001,501),(1000002,601)] (.tup [.one (.slc 601 0 N.length 3),Sn .i64 0]) [tS 1000000 t (vS ad t.l.length cap) (.slice (some ⟨cb,0,none⟩) (onlyC t.sc.cs t.set).length cc) vP,atB 501 b (rowSize c.fs) t.most (colL t.l k c),nmsB 601 N true] (hq) O O (by exact (cN ⟨_,O,O⟩ (cN ⟨_,O,O⟩ trivial))) (by exact (bS (bS O (bS O (bS O (bS O (bS O (bS O (bS O O))))))) (bS O O))) O O O O (by exact (.box O O (.box O O (.box O (bX _ _ _ _) .nil)))) dO ?_;refine U6 ?_)
 refine cC (σ':=⟨[(6,.sv (.one (.slc 601 0 N.length 3))),(7,Ln .i64 0)],[atB 501 b (rowSize c.fs) t.most (colL t.l k c),tS 1000000 t (vS ad t.l.length cap) (.slice (some ⟨cb,0,none⟩) (onlyC t.sc.cs t.set).length cc) vP,nmsB 601 N true],joinM (joinM (joinM X Hs) He) H0⟩) (Le.of VA V9 V2 V2 V0) ?_
 refine tcol_shut hO0 hcol O V16 O fun m' Hc' g1 g2 g3 g4 => ?_
 have hB:=hback _ m' Hc' g1 g2 g3
 rw [hset] at hB
 refine tab_shut h1 h2 g4 ⟨⟨cb,cc,O,hin⟩,hI.ptrs,hB,hI.ents,hI.two⟩ (cA ?_)
 exact ⟨[(1000001,601)],⟨[_,_],⟨O,O,trivial⟩,O⟩,V1,O,O⟩
set_option maxHeartbeats 3200000 in
theorem tBytes (t:Tb) (hk:TbOk t) (row comp:Int) (h:tgetE t row comp=0):MSpec Tryz.prog X 14 [Lp 1000000,Ln .i64 row,Ln .i64 comp] [tB 1000000 t] (.tup [Vstr (bytesT t row comp),Sn .i64 0]) [tB 1000000 t]:=by
 obtain ⟨i,k,c,r,p,rfl,hi,hp,hc,_,hr,hp1,hf,hL,_,hv⟩:=tget_ok hk h
 rw [hv]
 have h24:=t_len24 hk
 refine cE Tryz.func14 rfl V5 rfl rfl V4 rfl rfl ?_
 intro C
 refine LWP.ends (tab_open fun Hs He Hr vE vC vP ps h1 h2 h3 hI => ?_)
 obtain ⟨ad,cap,rfl⟩:=hI.ents.slice
 obtain ⟨cb,cc,rfl,hin⟩:=hI.sc
 rw [cU] at hI ⊢
 have hs:=find0 (tH X Hs He Hr) t hk ad cap vP comp i k (some ⟨cb,0,none⟩) cc (hin.mono (tH_s h2 h3)) hi hp
 (refine U10 ?_;refine K.callR [(1000000,1000000)] (hs) O O V7 V8 O O O O dO ?_;refine U15 ?_)
 refine LWP.le (σ':=⟨[(0,Lp 1000000),(1,Ln .i64 (i:Nat)),(8,Ln .i64 (k:Nat))],[tS 1000000 t (vS ad t.l.length cap) (.slice (some ⟨cb,0,none⟩) (onlyC t.sc.cs t.set).length cc) vP],tH X Hs He Hr⟩) (Le.of V9 VF V2 V2 V0) ?_
 refine tcol_open (kk:=501) h3 hI.refs (colsG_at hc) O O O V3 fun b H0 hb hO0 hback => ?_
 have hg:=(cGet_ok (joinM (joinM (joinM X Hs) He) H0) (rowSize c.fs) t.most _ i _ hL).at (b:=b)
 have hcol:=colR_root (rowSize c.fs) t.most (colL t.l k c)
 have hset:(colsT t).set k (colR (rowSize c.fs) t.most (colL t.l k c))=colsT t:=colsG_set hc fun _ _ _ _=>rfl
 obtain ⟨pad,pcap,rfl,hP⟩:=hI.ptrs.mono (tH_s h2 hO0)
 have hkl:=(wl hb)
 obtain ⟨pblk,parr,pel,pfr,rfl,hPX,hPa⟩:=hP k b hb
 have hio:0+Int.toNat (k:Int)*1=k:=by simp
 generalize packB c.fs p.val=B at *
 (refine U9 ?_;refine K.callR [(1000000,501)] (hg) O O V7 VE O O O O dO ?_;refine U6 ?_)
 refine cC (σ':=⟨[(6,.sv (Vstr B)),(7,Ln .i64 0)],[atB 501 b (rowSize c.fs) t.most (colL t.l k c),tS 1000000 t (vS ad t.l.length cap) (.slice (some ⟨cb,0,none⟩) (onlyC t.sc.cs t.set).length cc) (.slice (some ⟨pblk,0,none⟩) ps.length pcap)],joinM (joinM (joinM X Hs) He) H0⟩) (Le.of VA VA V2 V2 V0) ?_
 refine tcol_shut hO0 hcol O O O fun m' Hc' g1 g2 g3 g4 => ?_
 have hB:=hback _ m' Hc' g1 g2 g3
 rw [hset] at hB
 refine tab_shut h1 h2 g4 ⟨⟨cb,cc,O,hin⟩,hI.ptrs,hB,hI.ents,hI.two⟩ (cA ?_)
 exact ⟨[],⟨[_,_],⟨O,O,trivial⟩,O⟩,V1,O,O⟩
end Go.Proofs.YtbpdbclndfmcgaaGreatDoor
end
section
set_option maxHeartbeats 12800000
set_option maxRecDepth 100000
namespace Go.Proofs.YtbpdbclndfmcgaaGreatDoor
open Go Go.Lg Go.Lg.Fld Go.Lg.Sg Go.Lg.Col
set_option maxRecDepth 100000
abbrev entsT (t:Tb):List Nat:=t.l.map Rw.e
abbrev enB (k:Nat) (L:List Nat):Nat×Option Box:=(k,some ⟨37,(L.map fun h=>Value.int .u64 (h:Nat)).map .val,true⟩)
theorem EntsAt.at {H:Nat→Option Obj} {v:Value} {l:List Nat} (h:EntsAt H v l) {i e:Nat} (hi:l[i]? = some e):∃ (db cap:Nat) (arr:Array Value) (fr:Nat×Nat),v = .slice (some ⟨db,0,none⟩) l.length cap∧H db=some (.cells arr 37 fr)∧arr[i]? = some (.int .u64 (e:Nat)):=by
 rcases h with ⟨_,rfl⟩|⟨db,len,cap,arr,fr,rfl,h2,_,_,h5,sp,h6⟩
 ·simp at hi
 ·have hl:len=l.length:=by unfold entV at h2;rw [cU] at h2;omega
  refine ⟨db,cap,arr,fr,by rw [hl],h5,?_⟩
  rw [← Array.getElem?_toList,h6,dN (by unfold entV;rw [cU];exact (wl hi))]
  unfold entV
  rw [dI,hi];rfl
variable (X:Nat→Option Obj)
theorem tSig_nil:PSpec Tryz.prog X 23 [LnilT] (Ln .u32 0):=by
 refine cD Tryz.func23 rfl V5 rfl rfl ?_
 intro C
 (refine U8 ?_;refine K.nilNil O V5 (.inl ⟨O,O⟩) dO ?_;refine U7 ?_)
 exact V6
theorem tSig (t:Tb) (hk:TbOk t):MSpec Tryz.prog X 23 [Lp 1000000] [tB 1000000 t] (Ln .u32 (t.set:Nat)) [tB 1000000 t]:=by
 have hk1:=hk.most
 refine cE Tryz.func23 rfl V5 rfl rfl V4 rfl rfl ?_
 intro C
 refine LWP.ends (tab_open fun Hs He Hr vE vC vP ps h1 h2 h3 hI => ?_)
 (refine U8 ?_;refine K.ptrNil O V5 (.inl ⟨O,O⟩) dO ?_;refine U12 ?_)
 refine tab_shut h1 h2 h3 hI (cA ?_)
 exact ⟨[],⟨[_],⟨O,trivial⟩,O⟩,V1,O,O⟩
theorem tKept_nil:PSpec Tryz.prog X 19 [LnilT] (Ln .i64 0):=by
 refine cD Tryz.func19 rfl V5 rfl rfl ?_
 intro C
 (refine U8 ?_;refine K.nilNil O V5 (.inl ⟨O,O⟩) dO ?_;refine U7 ?_)
 exact V6
theorem tKept (t:Tb) (hk:TbOk t):MSpec Tryz.prog X 19 [Lp 1000000] [tB 1000000 t] (Ln .i64 (t.kept:Nat)) [tB 1000000 t]:=by
 have hk1:=hk.most
 refine cE Tryz.func19 rfl V5 rfl rfl V4 rfl rfl ?_
 intro C
 refine LWP.ends (tab_open fun Hs He Hr vE vC vP ps h1 h2 h3 hI => ?_)
 (refine U8 ?_;refine K.ptrNil O V5 (.inl ⟨O,O⟩) dO ?_;refine U12 ?_)
 refine tab_shut h1 h2 h3 hI (cA ?_)
 exact ⟨[],⟨[_],⟨O,trivial⟩,O⟩,V1,O,O⟩
theorem tLen_nil:PSpec Tryz.prog X 18 [LnilT] (Ln .i64 0):=by
 refine cD Tryz.func18 rfl V5 rfl rfl ?_
 intro C
 (refine U8 ?_;refine K.nilNil O V5 (.inl ⟨O,O⟩) dO ?_;refine U7 ?_)
 exact V6
theorem tLen (t:Tb) (hk:TbOk t):MSpec Tryz.prog X 18 [Lp 1000000] [tB 1000000 t] (Ln .i64 (t.l.length:Nat)) [tB 1000000 t]:=by
 have hk1:=hk.most
 refine cE Tryz.func18 rfl V5 rfl rfl V4 rfl rfl ?_
 intro C
 refine LWP.ends (tab_open fun Hs He Hr vE vC vP ps h1 h2 h3 hI => ?_)
 obtain ⟨ad,cap,rfl⟩:=hI.ents.slice
 rw [cU] at *
 (refine U8 ?_;refine K.ptrNil O V5 (.inl ⟨O,O⟩) dO ?_;refine U13 ?_)
 refine tab_shut h1 h2 h3 hI (cA ?_)
 exact ⟨[],⟨[_],⟨O,trivial⟩,O⟩,V1,O,O⟩
theorem tRoom_nil:PSpec Tryz.prog X 20 [LnilT] (Ln .i64 0):=by
 refine cD Tryz.func20 rfl V5 rfl rfl ?_
 intro C
 (refine U8 ?_;refine K.nilNil O V5 (.inl ⟨O,O⟩) dO ?_;refine U7 ?_)
 exact V6
theorem tRoom (t:Tb) (hk:TbOk t):MSpec Tryz.prog X 20 [Lp 1000000] [tB 1000000 t] (Ln .i64 (roomT t:Nat)) [tB 1000000 t]:=by
 have hk1:=hk.most
 refine cE Tryz.func20 rfl V5 rfl rfl V4 rfl rfl ?_
 intro C
 refine LWP.ends (tab_open fun Hs He Hr vE vC vP ps h1 h2 h3 hI => ?_)
 obtain ⟨ad,cap,rfl⟩:=hI.ents.slice
 rw [cU] at *
 have h0:=len0 (tH X Hs He Hr) t ad t.l.length cap vC vP
 have hr:=hk.room
 have h4:IntKind.i64.wrap (((t.most:Nat):Int)-(t.l.length:Nat))=((t.most-t.l.length:Nat):Int):=by rw [cF V3];omega
 have h5:IntKind.i64.wrap (((t.most-t.l.length:Nat):Int)-(t.kept:Nat))=((roomT t:Nat):Int):=by unfold roomT;rw [cF V3];omega
 generalize roomT t=rm at *
 (refine U8 ?_;refine K.ptrNil O V5 (.inl ⟨O,O⟩) dO ?_;refine U4 ?_;refine rgD mixed ?_;refine U5 ?_;refine K.callR [(1000000,1000000)] (h0) O O V7 V8 O O O O dO ?_;refine U10 ?_)
 refine tab_shut h1 h2 h3 hI (cA ?_)
 exact ⟨[],⟨[_],⟨O,trivial⟩,O⟩,V1,O,O⟩
theorem tKeep_nil:PSpec Tryz.prog X 16 [LnilT] (Ln .i64 2):=by
 refine cD Tryz.func16 rfl V5 rfl rfl ?_
 intro C
 (refine U9 ?_;refine K.nilNil O V5 (.inl ⟨O,O⟩) dO ?_;refine U8 ?_)
 exact V6
theorem tKeep_no (t:Tb) (hk:TbOk t) (h:roomT t=0):MSpec Tryz.prog X 16 [Lp 1000000] [tB 1000000 t] (Ln .i64 5) [tB 1000000 t]:=by
 refine cE Tryz.func16 rfl V5 rfl rfl V4 rfl rfl ?_
 intro C
 refine LWP.ends (tab_open fun Hs He Hr vE vC vP ps h1 h2 h3 hI => ?_)
 obtain ⟨ad,cap,rfl⟩:=hI.ents.slice
 rw [cU] at *
 have h0:=room0 (tH X Hs He Hr) t ad t.l.length cap vC vP hk.room hk.most.2
 rw [show t.most-t.l.length-t.kept=roomT t from rfl] at h0
 (refine U9 ?_;refine K.ptrNil O V5 (.inl ⟨O,O⟩) dO ?_;refine U6 ?_;refine K.callR [(1000000,1000000)] (h0) O O V7 V8 O O O O dO<|keq O O (r:=true) (by rw [h];rfl) ?_;refine U8 ?_)
 refine tab_shut h1 h2 h3 hI (cA ?_)
 exact ⟨[],⟨[_],⟨O,trivial⟩,O⟩,V1,O,O⟩
theorem tKeep (t:Tb) (hk:TbOk t) (h:roomT t≠0):MSpec Tryz.prog X 16 [Lp 1000000] [tB 1000000 t] (Ln .i64 0) [tB 1000000 { t with kept:=t.kept+1 }]:=by
 have hr:=hk.room
 have hm:=hk.most
 have hadd:IntKind.i64.wrap (((t.kept:Nat):Int)+1)=((t.kept+1:Nat):Int):=by rw [cF V3];omega
 refine cE Tryz.func16 rfl V5 rfl rfl V4 rfl rfl ?_
 intro C
 refine LWP.ends (tab_open fun Hs He Hr vE vC vP ps h1 h2 h3 hI => ?_)
 obtain ⟨ad,cap,rfl⟩:=hI.ents.slice
 rw [cU] at *
 have h0:=room0 (tH X Hs He Hr) t ad t.l.length cap vC vP hk.room hk.most.2
 rw [show t.most-t.l.length-t.kept=roomT t from rfl] at h0
 (refine U9 ?_;refine K.ptrNil O V5 (.inl ⟨O,O⟩) dO ?_;refine U6 ?_;refine K.callR [(1000000,1000000)] (h0) O O V7 V8 O O O O dO<|keq O O (r:=false) (cO V3) ?_;refine U13 ?_;refine bG O O O O O (nl7 O O O O O O O O) dO ?_;refine U6 ?_)
 refine tab_shut (t:={ t with kept:=t.kept+1 }) h1 h2 h3 ⟨hI.sc,hI.ptrs,hI.refs,hI.ents,hI.two⟩ (cA ?_)
 exact ⟨[],⟨[_],⟨O,trivial⟩,O⟩,V1,O,O⟩
theorem tYield_nil:PSpec Tryz.prog X 17 [LnilT] (Ln .i64 2):=by
 refine cD Tryz.func17 rfl V5 rfl rfl ?_
 intro C
 (refine U9 ?_;refine K.nilNil O V5 (.inl ⟨O,O⟩) dO ?_;refine U8 ?_)
 exact V6
theorem tYield_no (t:Tb) (hk:TbOk t) (h:t.kept=0):MSpec Tryz.prog X 17 [Lp 1000000] [tB 1000000 t] (Ln .i64 6) [tB 1000000 t]:=by
 refine cE Tryz.func17 rfl V5 rfl rfl V4 rfl rfl ?_
 intro C
 refine LWP.ends (tab_open fun Hs He Hr vE vC vP ps h1 h2 h3 hI => ?_)
 obtain ⟨ad,cap,rfl⟩:=hI.ents.slice
 rw [cU] at *
 (refine U9 ?_;refine K.ptrNil O V5 (.inl ⟨O,O⟩) dO ?_;refine U9 ?_;refine keq O O (r:=true) (by rw [h];rfl) ?_;refine U8 ?_)
 refine tab_shut h1 h2 h3 hI (cA ?_)
 exact ⟨[],⟨[_],⟨O,trivial⟩,O⟩,V1,O,O⟩
theorem tYield (t:Tb) (hk:TbOk t) (h:t.kept≠0):MSpec Tryz.prog X 17 [Lp 1000000] [tB 1000000 t] (Ln .i64 0) [tB 1000000 { t with kept:=t.kept-1 }]:=by
 have hr:=hk.room
 have hm:=hk.most
 have hadd:IntKind.i64.wrap (((t.kept:Nat):Int)-1)=((t.kept-1:Nat):Int):=by rw [cF V3];omega
 refine cE Tryz.func17 rfl V5 rfl rfl V4 rfl rfl ?_
 intro C
 refine LWP.ends (tab_open fun Hs He Hr vE vC vP ps h1 h2 h3 hI => ?_)
 obtain ⟨ad,cap,rfl⟩:=hI.ents.slice
 rw [cU] at *
 (refine U9 ?_;refine K.ptrNil O V5 (.inl ⟨O,O⟩) dO ?_;refine U9 ?_;refine keq O O (r:=false) (cO V3) ?_;refine U13 ?_;refine bG O O O O O (nl7 O O O O O O O O) dO ?_;refine U6 ?_)
 refine tab_shut (t:={ t with kept:=t.kept-1 }) h1 h2 h3 ⟨hI.sc,hI.ptrs,hI.refs,hI.ents,hI.two⟩ (cA ?_)
 exact ⟨[],⟨[_],⟨O,trivial⟩,O⟩,V1,O,O⟩
theorem tEnt_nil (row:Int):PSpec Tryz.prog X 22 [LnilT,Ln .i64 row] (Ln .u64 0):=by
 refine cD Tryz.func22 rfl V5 rfl rfl ?_
 intro C
 have hs:=seek0_nil X row
 refine U18 ?_
 exact V6
theorem ent0 (t:Tb) (v vC vP:Value) (L:List Nat) (row:Int) (hE:EntsAt X v L) (hb:L.length≤256):
  MSpec Tryz.prog X 22 [Lp 1000000,Ln .i64 row] [tS 1000000 t (.val v) vC vP] (Ln .u64 ((if 0≤row∧row<L.length then L.getD row.toNat 0 else 0:Nat):Nat)) [tS 1000000 t (.val v) vC vP]:=by
 refine cE Tryz.func22 rfl V5 rfl rfl V4 rfl rfl ?_
 intro C
 by_cases hr:0≤row∧row<L.length
 ·rw [if_pos hr]
  obtain ⟨i,rfl⟩:∃ i:Nat,row=i:=⟨row.toNat,by omega⟩
  have hi:i<L.length:=by omega
  have hx:L[i]? = some (L.getD i 0):=by rw [List.getD_eq_getElem?_getD,cV hi];rfl
  rw [dD]
  obtain ⟨db,cap,arr,fr,rfl,hX,ha⟩:=hE.at hx
  have hs:=seek0 X t (some ⟨db,0,none⟩) L.length cap vC vP i hi
  have hio:0+Int.toNat (i:Int)*1=i:=by simp
  generalize L.getD i 0=e at *
  (refine U9 ?_;refine K.callR [(1000000,1000000)] (hs) O O V7 V8 O O O O dO ?_;refine U16 ?_)
  exact ⟨[],⟨[_],⟨O,trivial⟩,O⟩,V1,O,O⟩
 ·rw [if_neg hr]
  obtain ⟨ad,cap,rfl⟩:=hE.slice
  have hs:=seek0_no X t ad L.length cap vC vP row V3
  (refine U9 ?_;refine K.callR [(1000000,1000000)] (hs) O O V7 V8 O O O O dO ?_;refine U8 ?_)
  exact ⟨[],⟨[_],⟨O,trivial⟩,O⟩,V1,O,O⟩
theorem EntsAt.mono {H Y:Nat→Option Obj} {v:Value} {l:List Nat} (h:EntsAt H v l) (hY:∀ b o,H b=some o→Y b=some o):EntsAt Y v l:=by
 rcases h with h|⟨db,len,cap,arr,fr,g1,g2,g3,g4,g5,g6⟩
 ·exact .inl h
 ·exact .inr ⟨db,len,cap,arr,fr,g1,g2,g3,g4,hY _ _ g5,g6⟩
theorem ent_eq (t:Tb) (row:Int):(if 0≤row∧row<(t.l.map Rw.e).length then (t.l.map Rw.e).getD row.toNat 0 else 0)=if rowB t row=true then entT t row.toNat else 0:=by
 unfold rowB entT
 rw [cU]
 by_cases h:0≤row∧row<t.l.length
 ·rw [if_pos h,if_pos (by rw [cM h.1,cM h.2];rfl),List.getD_eq_getElem?_getD,dI]
  cases t.l[row.toNat]? <;> rfl
 ·rw [if_neg h,if_neg (by rw [Bool.and_eq_true,decide_eq_true_iff,decide_eq_true_iff];exact h)]
theorem tEnt (t:Tb) (hk:TbOk t) (row:Int):MSpec Tryz.prog X 22 [Lp 1000000,Ln .i64 row] [tB 1000000 t] (Ln .u64 ((if rowB t row=true then entT t row.toNat else 0:Nat):Nat)) [tB 1000000 t]:=by
 have hm:=hk.most
 have hr:=hk.room
 refine cE Tryz.func22 rfl V5 rfl rfl V4 rfl rfl ?_
 intro C
 refine LWP.ends (tab_open fun Hs He Hr vE vC vP ps h1 h2 h3 hI => ?_)
 rw [← ent_eq]
 by_cases hrow:0≤row∧row<(t.l.map Rw.e).length
 ·rw [if_pos hrow]
  obtain ⟨i,rfl⟩:∃ i:Nat,row=i:=⟨row.toNat,by omega⟩
  have hi:i<(t.l.map Rw.e).length:=by omega
  have hx:(t.l.map Rw.e)[i]? = some ((t.l.map Rw.e).getD i 0):=by rw [List.getD_eq_getElem?_getD,cV hi];rfl
  rw [dD]
  obtain ⟨db,cap,arr,fr,rfl,hX,ha⟩:=hI.ents.at hx
  have hX:=tH_e (X:=X) (Hs:=Hs) h3 _ _ hX
  have hs:=seek0 (tH X Hs He Hr) t (some ⟨db,0,none⟩) (t.l.map Rw.e).length cap vC vP i hi
  have hio:0+Int.toNat (i:Int)*1=i:=by simp
  generalize (t.l.map Rw.e).getD i 0=e at *
  rw [cU] at *
  (refine U9 ?_;refine K.callR [(1000000,1000000)] (hs) O O V7 V8 O O O O dO ?_;refine U16 ?_)
  refine tab_shut h1 h2 h3 hI (cA ?_)
  exact ⟨[],⟨[_],⟨O,trivial⟩,O⟩,V1,O,O⟩
 ·rw [if_neg hrow]
  obtain ⟨ad,cap,rfl⟩:=hI.ents.slice
  have hs:=seek0_no (tH X Hs He Hr) t ad (t.l.map Rw.e).length cap vC vP row V3
  rw [cU] at *
  (refine U9 ?_;refine K.callR [(1000000,1000000)] (hs) O O V7 V8 O O O O dO ?_;refine U8 ?_)
  refine tab_shut h1 h2 h3 hI (cA ?_)
  exact ⟨[],⟨[_],⟨O,trivial⟩,O⟩,V1,O,O⟩
theorem tEnts_nil:PSpec Tryz.prog X 21 [LnilT] (.sv (.one (.val (.slice none 0 0)))):=by
 refine cD Tryz.func21 rfl V5 rfl rfl ?_
 intro C
 (refine U8 ?_;refine K.nilNil O V5 (.inl ⟨O,O⟩) dO ?_;refine U7 ?_)
 exact V6
theorem entV_reads {Y H:Nat→Option Obj} {v:Value} {l:List Nat} (h:EntsAt H v l) (hne:v≠nilSlc) (hY:∀ b o,H b=some o→Y b=some o):∃ db cap,v = .slice (some ⟨db,0,none⟩) l.length cap∧ReadsX Y (some ⟨db,0,none⟩) (entV l):=by
 rcases h with ⟨h,_⟩|⟨db,len,cap,arr,fr,rfl,g2,_,_,g5,sp,g6⟩
 ·exact absurd h hne
 ·have hl:len=l.length:=by unfold entV at g2;rw [cU] at g2;omega
  exact ⟨db,cap,by rw [hl],⟨fun i u hu=>⟨db,0,arr,_,fr,rfl,hY _ _ g5,by rw [← Array.getElem?_toList,g6,Nat.zero_add,dN (wl hu)];exact hu⟩⟩⟩
theorem entV_one (l:List Nat):∀ u∈entV l,u.oneCell'=true:=fun u hu=>by
 unfold entV at hu
 obtain ⟨x,_,rfl⟩:=List.mem_map.1 hu
 rfl
theorem kClEn_nil (cap:Nat):PSpec Tryz.prog X 54 [.sv (.one (vS none 0 cap))] (.sv (.one (.val nilSlc))):=by
 refine cD Tryz.func54 rfl V5 rfl rfl ?_
 intro C
 (refine U8 ?_;refine K.slcNil (r:=true) O bZ (.inl ⟨O,O⟩) dO ?_;refine U7 ?_)
 exact V6
theorem kClEn (db cap:Nat) (l:List Nat) (hR:ReadsX X (some ⟨db,0,none⟩) (entV l)) (hb:l.length≤256):
  MSpec Tryz.prog X 54 [.sv (.one (vS (some ⟨db,0,none⟩) l.length cap))] [] (.sv (.one (.slc 1000001 0 l.length 1))) [enB 1000001 l]:=by
 have hlen:(entV l).length=l.length*1:=by unfold entV;rw [cU];omega
 refine cE Tryz.func54 rfl V5 rfl rfl V4 rfl rfl ?_
 intro C
 (refine U8 ?_;refine K.slcNil (r:=false) O bZ (.inl ⟨O,O⟩) dO ?_;refine U5 ?_;refine aZ (zs:=[]) (sz:=1) (e:=37) V5 O O O O O O dO<|kmv O<|K.appendX (by_:=8) (e2:=37) (news:=entV l) (nl:=l.length) (nc:=(entV l).map .val) O O O O hR hlen (entV_one l) V5 V5 V3 V3 O V3 O dO ?_;refine U3 ?_)
 exact ⟨[(1000001,7)],⟨[_],⟨O,trivial⟩,O⟩,V1,O,O⟩
theorem tEnts_none (t:Tb) (hk:TbOk t):MSpec Tryz.prog X 21 [Lp 1000000] [tM 1000000 false t] (.sv (.one (.val (.slice none 0 0)))) [tM 1000000 false t]:=by
 have _:=hk
 refine cE Tryz.func21 rfl V5 rfl rfl V4 rfl rfl ?_
 intro C
 refine LWP.ends (tabM_open fun Hs He Hr vE vC vP ps h1 h2 h3 hI hm => ?_)
 obtain rfl:vE=nilSlc:=Classical.byContradiction fun e=>by have:=hm.2 e;cases this
 have hC:=kClEn_nil (tH X Hs He Hr) 0
 unfold nilSlc at *
 (refine U8 ?_;refine K.ptrNil O V5 (.inl ⟨O,O⟩) dO ?_;refine U13 ?_)
 refine tabM_shut h1 h2 h3 hI hm (cA ?_)
 exact ⟨[],⟨[_],⟨O,trivial⟩,O⟩,V1,O,O⟩
theorem tEnts (t:Tb) (hk:TbOk t):MSpec Tryz.prog X 21 [Lp 1000000] [tM 1000000 true t] (.sv (.one (.slc 1000001 0 t.l.length 1))) [tM 1000000 true t,enB 1000001 (entsT t)]:=by
 have hr:=hk.room
 have hmo:=hk.most
 refine cE Tryz.func21 rfl V5 rfl rfl V4 rfl rfl ?_
 intro C
 refine LWP.ends (tabM_open fun Hs He Hr vE vC vP ps h1 h2 h3 hI hm => ?_)
 obtain ⟨db,cap,rfl,hR⟩:=entV_reads (Y:=tH X Hs He Hr) hI.ents (hm.1 rfl) (tH_e h3)
 have hC:=kClEn (tH X Hs He Hr) db cap (t.l.map Rw.e) hR V26
 have hll:(t.l.map Rw.e).length=t.l.length:=cU _
 rw [← hll]
 show LWP _ _ _ _ _ _
 unfold entsT
 generalize t.l.map Rw.e=l at *
 (refine U8 ?_;refine K.ptrNil O V5 (.inl ⟨O,O⟩) dO ?_;refine U9 ?_;refine bE [(1000001,601)] (.sv (.one (.slc 601 0 l.length 1))) [enB 601 l] (hC) O O V15 O O O O O V18 dO ?_;refine U3 ?_)
 refine cC (σ':=⟨[(2,.sv (.one (.slc 601 0 l.length 1)))],[tS 1000000 t (vS (some ⟨db,0,none⟩) l.length cap) vC vP,enB 601 l],tH X Hs He Hr⟩) (Le.of VF VA V2 V2 V0) ?_
 refine tabM_shut h1 h2 h3 hI hm (cA ?_)
 exact ⟨[(1000001,601)],⟨[_],⟨O,trivial⟩,O⟩,V1,O,O⟩
theorem tM_nil {t:Tb} {ρ:Nat×Nat} {H:Nat→Option Obj} (h:(tbM false t).holds ρ H):t.l=[]:=by
 obtain ⟨_,_,_,_,_,vE,_,_,_,_,_,_,_,hI,hm⟩:=h
 have hv:vE=nilSlc:=Classical.byContradiction fun e=>by have:=hm.2 e;cases this
 rcases hI.ents with ⟨_,h⟩|⟨db,len,cap,arr,fr,rfl,_⟩
 ·exact List.map_eq_nil_iff.1 h
 ·cases hv
end Go.Proofs.YtbpdbclndfmcgaaGreatDoor
end
