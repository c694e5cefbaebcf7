/- A piece of a proof over this program: contracts of its functions, and a logic to prove them by. -/
import Derived.Test.YtjifibloagkeeaaGreatQ3
import Derived.Test.YtjifibloagkeeaaGreatQ4
import Derived.Test.YtjifibloagkeeaaGreatQ5
import Derived.Test.YtjifibloagkeeaaGreatQ6
import Derived.Test.YtjifibloagkeeaaGreatQ7
section
namespace Go.Proofs.YtjifibloagkeeaaGreat
open Go Go.Lg Go.Lg.Fld Go.Lg.Sg
set_option maxRecDepth 100000
instance:ArrB Tryz.prog 97 [Value.int .i64 0,.int .i64 0,.bool false,.int .i64 0,.int .i64 0,.bool false] 3:=⟨by kernel_rfl⟩
def wyVs (w:List Wy):List Value:=(w.map wyV).flatten
theorem wyVs_len (w:List Wy):(wyVs w).length=w.length*3:=by
  unfold wyVs
  rw [flat_lenN (n:=3) (fun x hx=>by obtain ⟨y,_,rfl⟩:=List.mem_map.1 hx;rfl),cV]
theorem wyVs_one (w:List Wy):∀ u∈wyVs w,u.oneCell'=true:=fun u hu=>by
  unfold wyVs at hu
  obtain ⟨x,hx,hu⟩:=List.mem_flatten.1 hu
  obtain ⟨y,_,rfl⟩:=List.mem_map.1 hx
  simp only [wyV,List.mem_cons,List.not_mem_nil,or_false] at hu
  rcases hu with rfl|rfl|rfl<;>rfl
theorem wyVs_add (w:List Wy) (x:Wy):wyVs (w++[x])=wyVs w++wyV x:=by
  unfold wyVs
  rw [dF,List.flatten_append]
  simp
theorem way_reads {X:Nat→Option Obj} {ad:Option Addr} {w:List Wy} (h:WysIn X ad w):ReadsX X ad (wyVs w)∧(ad=none→w.length=0):=by
  refine ⟨reads_rows (by decide) (fun r hr=>by obtain ⟨x,_,rfl⟩:=List.mem_map.1 hr;rfl) h,fun e => ?_⟩
  subst e
  have:=rowsIn_none h
  rw [List.map_eq_nil_iff] at this
  rw [this];rfl
theorem way_leads {H:Nat→Option Obj} {b:Nat} {v:Value} {el:TypeId} {w:List Wy} (h:LeadsTo H b v el 3 (wyVs w)):∃ wc,v = .slice (some ⟨b,0,none⟩) w.length wc∧WysIn H (some ⟨b,0,none⟩) w:=by
  obtain ⟨len,cap,arr,fr,h1,h2,h3,h4,h5,h6⟩:=h
  rw [wyVs_len] at h2
  have e:len=w.length:=by omega
  subst e
  exact ⟨cap,h1,rows_in h5 (fun r hr=>by obtain ⟨x,_,rfl⟩:=List.mem_map.1 hr;rfl) h6⟩
theorem has_div {s m:Nat} (hm:1≤m∧m≤24):(s/2^m%2==1)=hasB s (m:Nat):=by
  unfold hasB okJ
  rw [cN (show (1:Int)≤(m:Nat) by omega),cN (show ((m:Nat):Int)≤24 by omega),Bool.true_and,Bool.true_and,dE,Nat.testBit_eq_decide_div_mod_eq]
  rfl
theorem next_add {s m:Nat} (hm:1≤m∧m≤24) (h:hasB s (m:Nat)=false):nextS s (m:Nat) true=s+2^m:=by
  have ho:okJ (m:Nat)=true:=by unfold okJ;rw [cN (show (1:Int)≤(m:Nat) by omega),cN (show ((m:Nat):Int)≤24 by omega)];rfl
  unfold hasB at h
  rw [ho,Bool.true_and,dE] at h
  unfold nextS withN
  rw [if_pos rfl,if_pos ho,dE,or_pow h]
theorem next_sub {s m:Nat} (h:hasB s (m:Nat)=true):nextS s (m:Nat) false=s-2^m∧2^m≤s:=by
  have hb:s.testBit m=true:=by unfold hasB at h;rw [dE] at h;exact (Bool.and_eq_true_iff.1 h).2
  refine ⟨?_,Nat.ge_two_pow_of_testBit hb⟩
  unfold nextS withoutN
  rw [if_neg (by decide),if_pos h,dE,xor_pow hb]
def wq17 (u:Gr) (x y:Wy):Nat→List Wy
  | 0=>u.w
  | 1=>addW u.w x
  | _=>addW (addW u.w x) y
variable (X:Nat→Option Obj)
set_option maxHeartbeats 25600000 in
theorem kStep (g:Gr) (i c:Int) (a:Bool) (ad:Option Addr) (cap:Nat) (hin:CompsIn X ad g.sc.cs) (hcs:g.sc.cs.length≤30) (hk:GrOk g) (hw:g.w.length≤1000000):
    MSpec Tryz.prog X 20 [Lp 1000000,.sv (.agg [.val (.int .i64 i),.val (.int .i64 c),.val (.bool a)])] [rgB 1000000 ad cap g] (.tup [Sn .i64 (stepN g i c a:Nat),Sn .i64 (stepE g i c a)]) [rgB 1000000 ad cap (stepG g i c a)]:=by
  have hm:=hk.archs
  have hro:=hk.room
  have hE:stepE g i c a≠0→stepN g i c a=0∧stepG g i c a=g:=fun he=>⟨by unfold stepN;rw [if_neg he],by unfold stepG;rw [if_neg he]⟩
  refine cE Tryz.func20 rfl (by kernel_rfl) rfl rfl (by exact (by repeat' (first|refine bR ?_ ?_|rfl|exact bT|exact bS|exact bU rfl))) rfl rfl ?_
  intro C
  refine LWP.ends (rg_open fun H lad lc wad wc hO hL hW => ?_)
  cases hr:rowG g i with
  | false =>
    have he:stepE g i c a=3:=by unfold stepE;rw [hr];rfl
    obtain ⟨e1,e2⟩:=hE (by rw [he];decide)
    rw [he,e1,e2]
    unfold rowG at hr
    by_cases c1:0≤i
    · have c2:¬ i<g.l.length:=by
        rw [cN c1,Bool.true_and] at hr
        exact of_decide_eq_false hr
      (refine aA<|rgN<|aL O O O dP<|kas O<|kas O<|aB<|aA<|aA<|rgD mixed<|kfa O O ?_;refine kl1 O O O<|klt O O (cL (by omega))<|kmv O<|aN O O (dQ O O) ?_;refine aO O O O (dQ O O) ?_;refine gmv O O O<|bI O (dQ O O) ?_;refine aN O O (dQ O O) ?_;refine aO O O O (dQ O O) ?_;refine aQ O bY O (dQ O O) ?_;refine bD O O (cN (by omega)) (dQ O O) ?_;refine kpf O O<|aB<|rgA ?_;refine aE O ?_;refine aA<|rgN<|kas O<|kas O<|aB<|aI ?_)
      refine cA (σ':=⟨[(4,Ln .i64 0),(5,Ln .i64 3)],[rgO 1000000 g ad cap lad lc wad wc],joinM X H⟩) (Le.of (by exact ⟨O,O,trivial⟩) (by exact ⟨O,trivial⟩) (by exact O) (by exact O) (by repeat' (first|refine bR ?_ ?_|rfl|exact bT|exact bS|exact bU O))) ?_
      refine rg_shut hO hL hW (bZ ?_)
      exact ⟨[],⟨[_,_],⟨rfl,rfl,trivial⟩,rfl⟩,(by repeat' (first|exact trivial|refine cO ⟨_,rfl,?_⟩ ?_|refine cO ⟨_,rfl⟩ ?_|rfl|exact bV _ _ _ _|exact bW _ _ _ _|exact bX rfl)),rfl,rfl⟩
    · (refine aA<|rgN<|aL O O O dP<|kas O<|kas O<|aB<|aA<|aA<|rgD mixed<|kfa O O ?_;refine kl1 O O O<|klt O O (cN (by omega))<|kmv O<|aC O O O<|aC O O O<|aC O O O<|aC O O O<|aC O O O<|aC O O O<|aC O O O<|aC O O O<|kpt O O<|aB<|rgA ?_;refine aE O ?_;refine aA<|rgN<|kas O<|kas O<|aB<|aI ?_)
      refine cA (σ':=⟨[(4,Ln .i64 0),(5,Ln .i64 3)],[rgO 1000000 g ad cap lad lc wad wc],joinM X H⟩) (Le.of (by exact ⟨O,O,trivial⟩) (by exact ⟨O,trivial⟩) (by exact O) (by exact O) (by repeat' (first|refine bR ?_ ?_|rfl|exact bT|exact bS|exact bU O))) ?_
      refine rg_shut hO hL hW (bZ ?_)
      exact ⟨[],⟨[_,_],⟨rfl,rfl,trivial⟩,rfl⟩,(by repeat' (first|exact trivial|refine cO ⟨_,rfl,?_⟩ ?_|refine cO ⟨_,rfl⟩ ?_|rfl|exact bV _ _ _ _|exact bW _ _ _ _|exact bX rfl)),rfl,rfl⟩
  | true =>
  obtain ⟨k,s,rfl,hs⟩:=rowG_at hr
  have hkl:=(List.getElem?_eq_some_iff.1 hs).1
  have hFx:=sFind_spec (joinM X H) g.sc.ver ad cap g.sc.cs c (hin.mono fun b o h=>joinM_has hO h) (by omega)
  have hFl:=findI_lt g.sc.cs c
  cases hc:hasC g.sc.cs c with
  | false =>
    rw [hc] at hFl
    have he:stepE g (k:Nat) c a=6:=by unfold stepE;rw [hr,if_pos rfl,hc];rfl
    obtain ⟨e1,e2⟩:=hE (by rw [he];decide)
    rw [he,e1,e2]
    generalize findI (fun x=>x.id==c) g.sc.cs=f at *
    (refine aA<|rgN<|aL O O O dP<|kas O<|kas O<|aB<|aA<|aA<|rgD mixed<|kfa O O ?_;refine kl1 O O O<|klt O O (cL (by omega))<|kmv O<|aN O O (dQ O O) ?_;refine aO O O O (dQ O O) ?_;refine gmv O O O<|bI O (dQ O O) ?_;refine aN O O (dQ O O) ?_;refine aO O O O (dQ O O) ?_;refine aQ O bY O (dQ O O) ?_;refine bD O O (cL (by omega)) (dQ O O) ?_;refine kpf O O<|aB<|rgA ?_;refine aF O ?_;refine aH ?_;refine aA<|aA<|rgD mixed<|kmv O<|bI O dP<|kfa O O ?_;refine bJ O O O (by exact nl2 O O O) dP ?_;refine kfa O O ?_;refine kl1 O O O<|kca O O hFx<|klt O O hFl<|aB<|rgA ?_;refine aE O ?_;refine aA<|rgN<|kas O<|kas O<|aB<|aI ?_)
    refine cA (σ':=⟨[(4,Ln .i64 0),(5,Ln .i64 6)],[rgO 1000000 g ad cap lad lc wad wc],joinM X H⟩) (Le.of (by exact ⟨O,O,trivial⟩) (by exact ⟨O,trivial⟩) (by exact O) (by exact O) (by repeat' (first|refine bR ?_ ?_|rfl|exact bT|exact bS|exact bU O))) ?_
    refine rg_shut hO hL hW (bZ ?_)
    exact ⟨[],⟨[_,_],⟨rfl,rfl,trivial⟩,rfl⟩,(by repeat' (first|exact trivial|refine cO ⟨_,rfl,?_⟩ ?_|refine cO ⟨_,rfl⟩ ?_|rfl|exact bV _ _ _ _|exact bW _ _ _ _|exact bX rfl)),rfl,rfl⟩
  | true =>
  rw [hc] at hFl
  have hj:=okJ_of hk.sc hc
  obtain ⟨m,rfl,hm1⟩:∃ m:Nat,c=(m:Int)∧1≤m∧m≤24:=by
    unfold okJ at hj
    rw [Bool.and_eq_true,decide_eq_true_eq,decide_eq_true_eq] at hj
    exact ⟨c.toNat,by omega,by omega⟩
  have hs32:=(hk.can s (dB hs)).2
  obtain ⟨lb,lo,larr,lel,lfr,hlad,hX,hJ⟩:=row_at1 (hL.mono (joinM_mono (X:=X))) hs
  have hlo:lo+Int.toNat ((k:Nat):Int)*1=lo+k*1:=by simp
  have hsE:stepE g (k:Nat) (m:Nat) a=if hasB s (m:Nat)=a then 7 else makeE g (nextS s (m:Nat) a):=by unfold stepE;rw [hr,if_pos rfl,hc,if_pos rfl,setAt_of hs]
  generalize findI (fun x=>x.id==(m:Int)) g.sc.cs=f at *
  subst hlad
  ((refine aA<|rgN<|aL O O O dP<|kas O<|kas O<|aB<|aA<|aA<|rgD mixed<|kfa O O ?_;refine kl1 O O O<|klt O O (cL (by omega))<|kmv O<|aN O O (dQ O O) ?_;refine aO O O O (dQ O O) ?_;refine gmv O O O<|bI O (dQ O O) ?_;refine aN O O (dQ O O) ?_;refine aO O O O (dQ O O) ?_;refine aQ O bY O (dQ O O) ?_;refine bD O O (cL (by omega)) (dQ O O) ?_;refine kpf O O<|aB<|rgA ?_;refine aF O ?_;refine aH ?_;refine aA<|aA<|rgD mixed<|kmv O<|bI O dP<|kfa O O ?_);(refine bJ O O O (by exact nl2 O O O) dP ?_;refine kfa O O ?_;refine kl1 O O O<|kca O O hFx<|klt O O hFl<|aB<|rgA ?_;refine aF O ?_;refine aH ?_;refine aA<|rgD mixed<|kmv O<|bI O dP<|kfa O O ?_;refine kl1 O O O<|kfa O O ?_;refine kl1 O O O<|aR O O bY (by omega) hlo dP<|aW O hX O hJ dP<|kas O<|aB<|rgA ?_;refine aA<|rgN<|kas O<|aB<|aA<|aA<|rgN<|kas O<|aB<|aG ?_))
  clear hFx hFl hX hJ
  generalize (some ⟨lb,lo,none⟩:Option Addr)=lad at *
  refine LWP.le (σ':=⟨[(0,Lp 1000000),(3,Lp 3),(6,Ln .u32 (s:Nat)),(7,Ln .u32 (2^0:Nat)),(8,Ln .i64 (0:Nat))],[(3,some ⟨58,[.val (.int .i64 ((k:Nat):Int)),.val (.int .i64 (m:Nat)),.val (.bool a)],false⟩),rgO 1000000 g ad cap lad lc wad wc],joinM X H⟩) (Le.of (by exact ⟨O,O,O,O,O,trivial⟩) (by exact ⟨O,O,trivial⟩) (by exact O) (by exact O) (by repeat' (first|refine bR ?_ ?_|rfl|exact bT|exact bS|exact bU O))) ?_
  refine cH (fun z σ=>∃ j:Nat,j≤m∧z=m-j∧σ=⟨[(0,Lp 1000000),(3,Lp 3),(6,Ln .u32 (s:Nat)),(7,Ln .u32 (2^j:Nat)),(8,Ln .i64 (j:Nat))],[(3,some ⟨58,[.val (.int .i64 ((k:Nat):Int)),.val (.int .i64 (m:Nat)),.val (.bool a)],false⟩),rgO 1000000 g ad cap lad lc wad wc],joinM X H⟩) m
    ⟨_,Le.of (by exact ⟨rfl,rfl,rfl,rfl,rfl,trivial⟩) (by exact ⟨rfl,rfl,trivial⟩) (by exact rfl) (by exact rfl) (by repeat' (first|refine bR ?_ ?_|rfl|exact bT|exact bS|exact bU rfl)),0,by omega,by omega,rfl⟩ ?_
  rintro z σ ⟨j,hjm,rfl,rfl⟩
  by_cases hlt:j<m
  case pos =>
    have hadd:IntKind.i64.wrap (((j:Nat):Int)+1)=((j+1:Nat):Int):=by rw [cF (by omega)];omega
    have hp:2^(j+1)≤2^24:=Nat.pow_le_pow_right (by decide) (by omega)
    have hmul:IntKind.u32.wrap (((2^j:Nat):Int)*2)=((2^(j+1):Nat):Int):=by
      have e:2^(j+1)=2^j*2:=Nat.pow_succ ..
      refine (wrap_u32 ⟨?_,?_⟩).trans ?_<;>omega
    generalize hq:2^(j+1)=q at *
    generalize 2^j=r at *
    (refine aA<|aA<|rgN<|kmv O<|kfa O O ?_;refine kl1 O O O<|klt O O (cN (by omega))<|aB<|aE O ?_;refine aH ?_;refine aA<|aG<|rgN<|kmv O<|bL O O hmul dP<|kas O<|aB<|rgN<|kmv O<|kad O O hadd<|kas O<|aB ?_)
    subst hq
    exact ⟨m-(j+1),⟨[(0,Lp 1000000),(3,Lp 3),(6,Ln .u32 (s:Nat)),(7,Ln .u32 (2^(j+1):Nat)),(8,Ln .i64 (j+1:Nat))],[(3,some ⟨58,[.val (.int .i64 ((k:Nat):Int)),.val (.int .i64 (m:Nat)),.val (.bool a)],false⟩),rgO 1000000 g ad cap lad lc wad wc],joinM X H⟩,by omega,Le.of (by exact ⟨O,O,O,O,O,trivial⟩) (by exact ⟨O,O,trivial⟩) (by exact O) (by exact O) (by repeat' (first|refine bR ?_ ?_|rfl|exact bT|exact bS|exact bU O)),j+1,by omega,O,O⟩
  have ej:j=m:=by omega
  subst ej
  have hpp:0<2^j:=Nat.two_pow_pos j
  have hp24:2^j≤2^24:=Nat.pow_le_pow_right (by decide) hm1.2
  have hq1:IntKind.u32.wrap ((s:Int).tdiv ((2^j:Nat):Int))=((s/2^j:Nat):Int):=by
    have hd:s/2^j≤s:=Nat.div_le_self _ _
    rw [← Int.ofNat_tdiv]
    generalize s/2^j=y at *
    exact wrap_u32 ⟨by omega,by omega⟩
  have hq2:(((s/2^j:Nat):Int)).tmod 2=((s/2^j%2:Nat):Int):=by rw [show (2:Int)=((2:Nat):Int) from rfl,← Int.ofNat_tmod]
  have hq3:((((s/2^j%2:Nat):Int))==1)=hasB s (j:Nat):=by
    rw [← has_div hm1]
    generalize s/2^j=y
    rw [Bool.eq_iff_iff,beq_iff_eq,beq_iff_eq]
    omega
  by_cases hne:hasB s (j:Nat)=a
  · rw [if_pos hne] at hsE
    obtain ⟨e1,e2⟩:=hE (by rw [hsE];decide)
    rw [hsE,e1,e2]
    rw [hne] at hq3
    generalize s/2^j=y at *
    generalize 2^j=r at *
    (refine aA<|aA<|rgN<|kmv O<|kfa O O ?_;refine kl1 O O O<|klt O O (cL (by omega))<|aB<|aF O ?_;refine aJ<|aA<|rgN<|kmv O<|kmv O<|K.quo O O (by omega) hq1 dP<|K.rem O O (by decide) hq2 dP<|keq O O hq3<|kas O<|aB<|aA<|aA<|rgN<|kmv O ?_;refine kfa O O ?_;refine kl1 O O O<|K.eqlB O O (r:=true) (beq_self_eq_true a) dP<|aB<|aE O ?_;refine aA<|rgN<|kas O<|kas O<|aB<|aI ?_)
    refine cA (σ':=⟨[(4,Ln .i64 0),(5,Ln .i64 7)],[rgO 1000000 g ad cap lad lc wad wc],joinM X H⟩) (Le.of (by exact ⟨O,O,trivial⟩) (by exact ⟨O,trivial⟩) (by exact O) (by exact O) (by repeat' (first|refine bR ?_ ?_|rfl|exact bT|exact bS|exact bU O))) ?_
    refine rg_shut hO hL hW (bZ ?_)
    exact ⟨[],⟨[_,_],⟨rfl,rfl,trivial⟩,rfl⟩,(by repeat' (first|exact trivial|refine cO ⟨_,rfl,?_⟩ ?_|refine cO ⟨_,rfl⟩ ?_|rfl|exact bV _ _ _ _|exact bW _ _ _ _|exact bX rfl)),rfl,rfl⟩
  rw [if_neg hne] at hsE
  obtain ⟨nx,hnx⟩:∃ nx,nextS s (j:Nat) a=nx:=⟨_,rfl⟩
  have hnx32:nx<4294967296:=by rw [← hnx];exact next_lt hs32
  obtain ⟨v,hv⟩:∃ v:Int,IntKind.u32.wrap ((s:Int)+((2^j:Nat):Int))=v:=⟨_,rfl⟩
  have hvn:hasB s (j:Nat)=false→v=(nx:Nat):=fun hb=>by
    have ea:a=true:=by cases a with
      | false=>exact absurd hb hne
      | true=>rfl
    have e:=next_add hm1 hb
    rw [← ea,hnx] at e
    rw [← hv,e]
    exact wrap_u32 ⟨by omega,by omega⟩
  have hsn:hasB s (j:Nat)=true→IntKind.u32.wrap ((s:Int)-((2^j:Nat):Int))=((nx:Nat):Int):=fun hb=>by
    have ea:a=false:=by cases a with
      | true=>exact absurd hb hne
      | false=>rfl
    obtain ⟨e,hle⟩:=next_sub hb
    rw [← ea,hnx] at e
    rw [e]
    refine (wrap_u32 ⟨?_,?_⟩).trans ?_<;>omega
  have hS:makeE g nx=0→Stepped g (k:Nat) (j:Nat) a k s:=fun h=>⟨rfl,hs,hc,hne,by rw [hnx];exact h⟩
  rw [hnx] at hsE
  have hne2:(hasB s (j:Nat)==a)=false:=cP hne
  clear hne
  generalize hh:hasB s (j:Nat)=hb at *
  clear hh hm1 hp24
  generalize s/2^j=y at *
  generalize 2^j=r at *
  (refine aA<|aA<|rgN<|kmv O<|kfa O O ?_;refine kl1 O O O<|klt O O (cL (by omega))<|aB<|aF O ?_;refine aJ<|aA<|rgN<|kmv O<|kmv O<|K.quo O O (by omega) hq1 dP<|K.rem O O (by decide) hq2 dP<|keq O O hq3<|kas O<|aB<|aA<|aA<|rgN<|kmv O ?_;refine kfa O O ?_;refine kl1 O O O<|K.eqlB O O (r:=false) hne2 dP<|aB<|aF O ?_;refine aH ?_;refine aA ?_)
  refine LWP.meetL (fun σ=>σ=⟨[(10,Ln .u32 v),(9,Lb hb),(0,Lp 1000000),(3,Lp 3),(6,Ln .u32 (s:Nat)),(7,Ln .u32 (r:Nat))],[rgO 1000000 g ad cap lad lc wad wc,(3,some ⟨58,[.val (.int .i64 ((k:Nat):Int)),.val (.int .i64 (j:Nat)),.val (.bool a)],false⟩)],joinM X H⟩) ?_ ?_
  · (refine rgN<|kmv O<|kmv O<|kad O O hv<|kas O<|aB ?_)
    exact Leads.here (σ':=⟨[(10,Ln .u32 v),(9,Lb hb),(0,Lp 1000000),(3,Lp 3),(6,Ln .u32 (s:Nat)),(7,Ln .u32 (r:Nat))],[rgO 1000000 g ad cap lad lc wad wc,(3,some ⟨58,[.val (.int .i64 ((k:Nat):Int)),.val (.int .i64 (j:Nat)),.val (.bool a)],false⟩)],joinM X H⟩) (Le.of (by exact ⟨O,O,O,O,O,O,trivial⟩) (by exact ⟨O,O,trivial⟩) (by exact O) (by exact O) (by repeat' (first|refine bR ?_ ?_|rfl|exact bT|exact bS|exact bU O))) O
  rintro σ rfl
  refine aA ?_
  refine LWP.meetL (fun σ=>σ=⟨[(0,Lp 1000000),(3,Lp 3),(10,Ln .u32 (nx:Nat))],[rgO 1000000 g ad cap lad lc wad wc,(3,some ⟨58,[.val (.int .i64 ((k:Nat):Int)),.val (.int .i64 (j:Nat)),.val (.bool a)],false⟩)],joinM X H⟩) ?_ ?_
  · cases hb with
    | false =>
      rw [hvn rfl]
      (refine aA<|rgN<|kmv O<|aB<|aF O ?_;refine aH ?_)
      exact Leads.here (σ':=⟨[(0,Lp 1000000),(3,Lp 3),(10,Ln .u32 (nx:Nat))],[rgO 1000000 g ad cap lad lc wad wc,(3,some ⟨58,[.val (.int .i64 ((k:Nat):Int)),.val (.int .i64 (j:Nat)),.val (.bool a)],false⟩)],joinM X H⟩) (Le.of (by exact ⟨O,O,O,trivial⟩) (by exact ⟨O,O,trivial⟩) (by exact O) (by exact O) (by repeat' (first|refine bR ?_ ?_|rfl|exact bT|exact bS|exact bU O))) O
    | true =>
      (refine aA<|rgN<|kmv O<|aB<|aE O ?_;refine rgN<|kmv O<|kmv O<|bA O O (hsn O) dP<|kas O<|aB ?_)
      exact Leads.here (σ':=⟨[(0,Lp 1000000),(3,Lp 3),(10,Ln .u32 (nx:Nat))],[rgO 1000000 g ad cap lad lc wad wc,(3,some ⟨58,[.val (.int .i64 ((k:Nat):Int)),.val (.int .i64 (j:Nat)),.val (.bool a)],false⟩)],joinM X H⟩) (Le.of (by exact ⟨O,O,O,trivial⟩) (by exact ⟨O,O,trivial⟩) (by exact O) (by exact O) (by repeat' (first|refine bR ?_ ?_|rfl|exact bT|exact bS|exact bU O))) O
  rintro σ rfl
  clear hvn hsn hv hq1 hq2 hq3 hne2
  refine rg_shutL hO hL hW ?_
  have hMk:=kMake X g nx ad cap hin hcs hk hnx32
  by_cases hz:makeE g nx=0
  case neg =>
    rw [hsE]
    obtain ⟨e1,e2⟩:=hE (by rw [hsE];exact hz)
    rw [e1,e2]
    rw [show makeG g nx=g by unfold makeG;rw [(make_no hz).1]] at hMk
    generalize makeE g nx=e at *
    generalize makeN g nx=nn at *
    (refine aA<|rgN<|kmv O<|kmv O<|aU [] [rgB 1000000 ad cap g] (hMk) O O (by exact (cO ⟨_,O,O⟩ trivial)) (by exact (bR O O)) O O O O (by exact (.box O O .nil)) dP<|kmv O<|kex O O<|kex O O<|kas O<|kas O<|aB<|aA<|aA<|rgN ?_;refine kmv O<|kne O O (r:=true) (cR hz)<|aB<|aE O ?_;refine aA<|rgN<|kmv O<|kas O<|kas O<|aB<|aI ?_)
    refine cA (σ':=⟨[(4,Ln .i64 0),(5,Ln .i64 e)],[rgB 1000000 ad cap g],X⟩) (Le.of (by exact ⟨O,O,trivial⟩) (by exact ⟨O,trivial⟩) (by exact O) (by exact O) (by repeat' (first|refine bR ?_ ?_|rfl|exact bT|exact bS|exact bU O))) (bZ ?_)
    exact ⟨[],⟨[_,_],⟨rfl,rfl,trivial⟩,rfl⟩,(by repeat' (first|exact trivial|refine cO ⟨_,rfl,?_⟩ ?_|refine cO ⟨_,rfl⟩ ?_|rfl|exact bV _ _ _ _|exact bW _ _ _ _|exact bX rfl)),rfl,rfl⟩
  obtain ⟨g1,g2⟩:=(hS hz).step
  rw [hnx] at g1 g2
  rw [hsE,hz]
  rw [hz] at hMk
  have hG:stepG g (k:Nat) (j:Nat) a={ makeG g nx with w:=wq17 (makeG g nx) (((k:Nat),(j:Nat),a):Wy) ((makeN g nx:Nat),(j:Nat),!a) 2 }:=by rw [g1];rfl
  rw [hG,g2]
  have huw:(makeG g nx).w.length≤1000000:=hw
  generalize makeN g nx=to at *
  generalize makeG g nx=u at *
  clear hS g1 g2 hG hE hsE hO hL hW hs hro hk hm hin hcs hw
  (refine aA<|rgN<|kmv O<|kmv O<|aU [] [rgB 1000000 ad cap u] (hMk) O O (by exact (cO ⟨_,O,O⟩ trivial)) (by exact (bR O O)) O O O O (by exact (.box O O .nil)) dP<|kmv O<|kex O O<|kex O O<|kas O<|kas O<|aB<|aA<|aA<|rgN ?_;refine kmv O<|kne O O (r:=false) O<|aB<|aF O ?_;refine aH ?_;refine aA<|rgN<|aK O O O dP ?_;refine kmv O<|kfa O O ?_;refine kl1 O O O<|kfa O O ?_;refine kl1 O O O<|aV O O dP<|aT O O (by exact O) (by exact nl3 O O O O) dP ?_;refine K.buildArr O O (by exact O) O dP ?_;refine aP O dP ?_;refine aM O O O O O O dP ?_;refine aB<|aA<|aA<|rgN<|kas O<|aB<|aG ?_)
  clear hMk hz
  refine LWP.le (σ':=⟨[(0,Lp 1000000),(11,Ln .i64 (to:Nat)),(13,Lp 13),(14,Ln .i64 0)],[rgB 1000000 ad cap { u with w:=u.w },(13,some ⟨97,[.val (.int .i64 (k:Nat)),.val (.int .i64 (j:Nat)),.val (.bool a),.val (.int .i64 (to:Nat)),.val (.int .i64 (j:Nat)),.val (.bool (!a))],false⟩)],X⟩) (Le.of (by exact ⟨O,O,O,O,trivial⟩) (by exact ⟨O,O,trivial⟩) (by exact O) (by exact O) (by repeat' (first|refine bR ?_ ?_|rfl|exact bT|exact bS|exact bU O))) ?_
  refine cJ (fun z σ=>∃ q:Nat,q≤2∧z=2-q∧σ=⟨[(0,Lp 1000000),(11,Ln .i64 (to:Nat)),(13,Lp 13),(14,Ln .i64 (q:Nat))],[rgB 1000000 ad cap { u with w:=wq17 u (((k:Nat),(j:Nat),a):Wy) (((to:Nat),(j:Nat),!a):Wy) q },(13,some ⟨97,[.val (.int .i64 (k:Nat)),.val (.int .i64 (j:Nat)),.val (.bool a),.val (.int .i64 (to:Nat)),.val (.int .i64 (j:Nat)),.val (.bool (!a))],false⟩)],X⟩) 2
    (bZ ⟨0,by omega,by omega,rfl⟩) ?_
  rintro z σ ⟨q,hq,rfl,rfl⟩
  have h3:q=0∨q=1∨q=2:=by omega
  clear hq
  rcases h3 with rfl|rfl|rfl
  · refine LWP.le (σ':=⟨[(0,Lp 1000000),(11,Ln .i64 (to:Nat)),(13,Lp 13),(14,Ln .i64 0)],[rgB 1000000 ad cap { u with w:=u.w },(13,some ⟨97,[.val (.int .i64 (k:Nat)),.val (.int .i64 (j:Nat)),.val (.bool a),.val (.int .i64 (to:Nat)),.val (.int .i64 (j:Nat)),.val (.bool (!a))],false⟩)],X⟩) (Le.of (by exact ⟨O,O,O,O,trivial⟩) (by exact ⟨O,O,trivial⟩) (by exact O) (by exact O) (by repeat' (first|refine bR ?_ ?_|rfl|exact bT|exact bS|exact bU O))) ?_
    refine (?_:∀ g2:Gr,({ u with w:=u.w }:Gr)=g2→LWP _ _ _ _ _ ⟨[(0,Lp 1000000),(11,Ln .i64 (to:Nat)),(13,Lp 13),(14,Ln .i64 0)],[rgB 1000000 ad cap g2,(13,some ⟨97,[.val (.int .i64 (k:Nat)),.val (.int .i64 (j:Nat)),.val (.bool a),.val (.int .i64 (to:Nat)),.val (.int .i64 (j:Nat)),.val (.bool (!a))],false⟩)],X⟩) _ O
    intro g2 hg2
    have hgw:g2.w=u.w:=by rw [← hg2]
    have hgl:g2.w.length≤1000010:=by rw [hgw];have:=addW_len u.w (((k:Nat),(j:Nat),a):Wy);omega
    refine rg_open fun H2 lad2 lc2 wad2 wc2 hO2 hL2 hW2 => ?_
    have hKn:=kKnows (joinM X H2) g2 (((k:Nat),(j:Nat),a):Wy) ad lad2 wad2 cap lc2 wc2 (hW2.mono joinM_mono) (by omega)
    cases hkn:knowsW g2.w (((k:Nat),(j:Nat),a):Wy) with
    | true =>
      rw [hkn] at hKn
      have hnx:u.w=addW (u.w) (((k:Nat),(j:Nat),a):Wy):=by rw [← hgw];exact (add_same hkn).symm
      (refine aA<|aA<|rgN<|kmv O<|klt O O (r:=true) (by decide)<|aB<|aE O ?_;refine aH ?_;refine aA<|aG<|aA<|rgN<|kmv O<|kmv O<|K.indexArr O O (by decide) O dP ?_;refine bJ O O O (by exact nl3 O O O O) dP ?_;refine aU [] [rgO 1000000 g2 ad cap lad2 lc2 wad2 wc2] (hKn) O O (by exact (cO ⟨_,O,O⟩ trivial)) (by exact (bR (bR O (bR O (bR O (bR O (bR O O))))) O)) O O O O (by exact (.box O O .nil)) dP<|aV O O dP<|aB<|aF O ?_;refine aH ?_;refine rgN<|kmv O<|kad O O (c:=1) (by decide)<|kas O<|aB ?_)
      refine cA (σ':=⟨[(0,Lp 1000000),(11,Ln .i64 (to:Nat)),(13,Lp 13),(14,Ln .i64 1)],[rgO 1000000 g2 ad cap lad2 lc2 wad2 wc2,(13,some ⟨97,[.val (.int .i64 (k:Nat)),.val (.int .i64 (j:Nat)),.val (.bool a),.val (.int .i64 (to:Nat)),.val (.int .i64 (j:Nat)),.val (.bool (!a))],false⟩)],joinM X H2⟩) (Le.of (by exact ⟨O,O,O,O,trivial⟩) (by exact ⟨O,O,trivial⟩) (by exact O) (by exact O) (by repeat' (first|refine bR ?_ ?_|rfl|exact bT|exact bS|exact bU O))) ?_
      refine rg_shut hO2 hL2 hW2 ?_
      exact bZ ⟨2-(0+1),by omega,1,by omega,O,by
        rw [show g2=({ u with w:=wq17 u (((k:Nat),(j:Nat),a):Wy) (((to:Nat),(j:Nat),!a):Wy) 1 }:Gr) from hg2.symm.trans (congrArg (fun w=>({ u with w:=w }:Gr)) hnx)];rfl⟩
    | false =>
      rw [hkn] at hKn
      have hnx:u.w++([(((k:Nat),(j:Nat),a):Wy)]:List Wy)=addW (u.w) (((k:Nat),(j:Nat),a):Wy):=by rw [← hgw];unfold addW;rw [if_neg (by rw [hkn];decide)]
      have hg3:({ g2 with w:=g2.w++([(((k:Nat),(j:Nat),a):Wy)]:List Wy) }:Gr)={ u with w:=wq17 u (((k:Nat),(j:Nat),a):Wy) (((to:Nat),(j:Nat),!a):Wy) 1 }:=by
        subst hg2
        exact congrArg (fun w=>({ u with w:=w }:Gr)) hnx
      obtain ⟨hRd,h0⟩:=way_reads (hW2.mono (joinM_mono (X:=X)))
      have hzl:=wyVs_len g2.w
      have hcl:((wyVs g2.w).map CV.val).length=g2.w.length*3:=by rw [cV,hzl]
      have hnl:g2.w.length+1=(g2.w++([(((k:Nat),(j:Nat),a):Wy)]:List Wy)).length:=by rw [cU];rfl
      (refine aA<|aA<|rgN<|kmv O<|klt O O (r:=true) (by decide)<|aB<|aE O ?_;refine aH ?_;refine aA<|aG<|aA<|rgN<|kmv O<|kmv O<|K.indexArr O O (by decide) O dP ?_;refine bJ O O O (by exact nl3 O O O O) dP ?_;refine aU [] [rgO 1000000 g2 ad cap lad2 lc2 wad2 wc2] (hKn) O O (by exact (cO ⟨_,O,O⟩ trivial)) (by exact (bR (bR O (bR O (bR O (bR O (bR O O))))) O)) O O O O (by exact (.box O O .nil)) dP<|aV O O dP<|aB<|aE O ?_;refine rgD mixed<|kmv O<|aZ (zs:=[]) (sz:=3) (e:=58) (by kernel_rfl) O O O O O O dP<|kmv O<|bI O dP<|kfa O O ?_;refine kl1 O O O<|K.appendXa (by_:=24) (e2:=58) (news:=wyVs g2.w) (nl:=g2.w.length) (nc:=(wyVs g2.w).map .val) O O O O hRd h0 hzl (wyVs_one g2.w) (by kernel_rfl) (by kernel_rfl) (by omega) (by omega) O (by omega) O dP ?_;refine kmv O<|K.indexArr O O (by decide) O dP ?_;refine bJ O O O (by exact nl3 O O O O) dP ?_;refine aZ (zs:=[.int .i64 0,.int .i64 0,.bool false]) (sz:=3) (e:=58) (cs':=[.val (.int .i64 (k:Nat)),.val (.int .i64 (j:Nat)),.val (.bool a)]) (by kernel_rfl) O O O O O O dP<|bO (by_:=24) (e2:=58) (l2:=[.val (.int .i64 (k:Nat)),.val (.int .i64 (j:Nat)),.val (.bool a)]) (nl:=(g2.w++([(((k:Nat),(j:Nat),a):Wy)]:List Wy)).length) (nc:=(wyVs (g2.w++([(((k:Nat),(j:Nat),a):Wy)]:List Wy))).map .val) O O hcl O O (dL _) O O (by kernel_rfl) (by kernel_rfl) (by omega) (by omega) O hnl (by rw [wyVs_add,dF];rfl) dP<|bI O dP<|kfa O O ?_;refine bG O O O O O (nl5 O O O O O O) dP<|aB<|rgA ?_;refine rgN<|kmv O<|kad O O (c:=1) (by decide)<|kas O<|aB ?_)
      refine cA (σ':=⟨[(0,Lp 1000000),(11,Ln .i64 (to:Nat)),(13,Lp 13),(14,Ln .i64 1)],[(1000000,some ⟨51,[.val (.int .i64 g2.sc.ver),.val (.slice ad g2.sc.cs.length cap),.val (.int .i64 (g2.archs:Nat)),.val (.slice lad2 g2.l.length lc2)] ++ .slc 107 0 (g2.w++([(((k:Nat),(j:Nat),a):Wy)]:List Wy)).length 3::[],false⟩),(107,some ⟨58,(wyVs (g2.w++([(((k:Nat),(j:Nat),a):Wy)]:List Wy))).map .val,true⟩),(13,some ⟨97,[.val (.int .i64 (k:Nat)),.val (.int .i64 (j:Nat)),.val (.bool a),.val (.int .i64 (to:Nat)),.val (.int .i64 (j:Nat)),.val (.bool (!a))],false⟩)],joinM X H2⟩) (Le.ofR [(1000000,1000000),(107,107),(13,13)] (by exact ⟨rfl,rfl,rfl,rfl,trivial⟩) (by repeat' (first|exact trivial|refine cO ⟨_,rfl,?_⟩ ?_|refine cO ⟨_,rfl⟩ ?_|rfl|exact bV _ _ _ _|exact bW _ _ _ _|exact bX rfl)) (by exact rfl) (by exact rfl) (by repeat' (first|refine bR ?_ ?_|rfl|exact bT|exact bS|exact bU rfl)) (by exact rfl) (by exact rfl)) ?_
      refine Leads.closeCell hO2 (wyVs_len _) (by repeat' (first|refine bR ?_ ?_|rfl|exact bS)) O O O O O fun b o v h1 _ hO3 hv => ?_
      obtain ⟨wc3,rfl,hW3⟩:=way_leads hv
      refine rg_shut (g:={ g2 with w:=g2.w++([(((k:Nat),(j:Nat),a):Wy)]:List Wy) }) hO3 (hL2.mono (withBlock_more h1)) hW3 ?_
      exact bZ ⟨2-(0+1),by omega,1,by omega,rfl,by rw [hg3];rfl⟩
  · refine LWP.le (σ':=⟨[(0,Lp 1000000),(11,Ln .i64 (to:Nat)),(13,Lp 13),(14,Ln .i64 1)],[rgB 1000000 ad cap { u with w:=addW u.w (((k:Nat),(j:Nat),a):Wy) },(13,some ⟨97,[.val (.int .i64 (k:Nat)),.val (.int .i64 (j:Nat)),.val (.bool a),.val (.int .i64 (to:Nat)),.val (.int .i64 (j:Nat)),.val (.bool (!a))],false⟩)],X⟩) (Le.of (by exact ⟨O,O,O,O,trivial⟩) (by exact ⟨O,O,trivial⟩) (by exact O) (by exact O) (by repeat' (first|refine bR ?_ ?_|rfl|exact bT|exact bS|exact bU O))) ?_
    refine (?_:∀ g2:Gr,({ u with w:=addW u.w (((k:Nat),(j:Nat),a):Wy) }:Gr)=g2→LWP _ _ _ _ _ ⟨[(0,Lp 1000000),(11,Ln .i64 (to:Nat)),(13,Lp 13),(14,Ln .i64 1)],[rgB 1000000 ad cap g2,(13,some ⟨97,[.val (.int .i64 (k:Nat)),.val (.int .i64 (j:Nat)),.val (.bool a),.val (.int .i64 (to:Nat)),.val (.int .i64 (j:Nat)),.val (.bool (!a))],false⟩)],X⟩) _ O
    intro g2 hg2
    have hgw:g2.w=addW u.w (((k:Nat),(j:Nat),a):Wy):=by rw [← hg2]
    have hgl:g2.w.length≤1000010:=by rw [hgw];have:=addW_len u.w (((k:Nat),(j:Nat),a):Wy);omega
    refine rg_open fun H2 lad2 lc2 wad2 wc2 hO2 hL2 hW2 => ?_
    have hKn:=kKnows (joinM X H2) g2 (((to:Nat),(j:Nat),!a):Wy) ad lad2 wad2 cap lc2 wc2 (hW2.mono joinM_mono) (by omega)
    cases hkn:knowsW g2.w (((to:Nat),(j:Nat),!a):Wy) with
    | true =>
      rw [hkn] at hKn
      have hnx:addW u.w (((k:Nat),(j:Nat),a):Wy)=addW (addW u.w (((k:Nat),(j:Nat),a):Wy)) (((to:Nat),(j:Nat),!a):Wy):=by rw [← hgw];exact (add_same hkn).symm
      (refine aA<|aA<|rgN<|kmv O<|klt O O (r:=true) (by decide)<|aB<|aE O ?_;refine aH ?_;refine aA<|aG<|aA<|rgN<|kmv O<|kmv O<|K.indexArr O O (by decide) O dP ?_;refine bJ O O O (by exact nl3 O O O O) dP ?_;refine aU [] [rgO 1000000 g2 ad cap lad2 lc2 wad2 wc2] (hKn) O O (by exact (cO ⟨_,O,O⟩ trivial)) (by exact (bR (bR O (bR O (bR O (bR O (bR O O))))) O)) O O O O (by exact (.box O O .nil)) dP<|aV O O dP<|aB<|aF O ?_;refine aH ?_;refine rgN<|kmv O<|kad O O (c:=2) (by decide)<|kas O<|aB ?_)
      refine cA (σ':=⟨[(0,Lp 1000000),(11,Ln .i64 (to:Nat)),(13,Lp 13),(14,Ln .i64 2)],[rgO 1000000 g2 ad cap lad2 lc2 wad2 wc2,(13,some ⟨97,[.val (.int .i64 (k:Nat)),.val (.int .i64 (j:Nat)),.val (.bool a),.val (.int .i64 (to:Nat)),.val (.int .i64 (j:Nat)),.val (.bool (!a))],false⟩)],joinM X H2⟩) (Le.of (by exact ⟨O,O,O,O,trivial⟩) (by exact ⟨O,O,trivial⟩) (by exact O) (by exact O) (by repeat' (first|refine bR ?_ ?_|rfl|exact bT|exact bS|exact bU O))) ?_
      refine rg_shut hO2 hL2 hW2 ?_
      exact bZ ⟨2-(1+1),by omega,2,by omega,O,by
        rw [show g2=({ u with w:=wq17 u (((k:Nat),(j:Nat),a):Wy) (((to:Nat),(j:Nat),!a):Wy) 2 }:Gr) from hg2.symm.trans (congrArg (fun w=>({ u with w:=w }:Gr)) hnx)];rfl⟩
    | false =>
      rw [hkn] at hKn
      have hnx:addW u.w (((k:Nat),(j:Nat),a):Wy)++([(((to:Nat),(j:Nat),!a):Wy)]:List Wy)=addW (addW u.w (((k:Nat),(j:Nat),a):Wy)) (((to:Nat),(j:Nat),!a):Wy):=by rw [← hgw];unfold addW;rw [if_neg (by rw [hkn];decide)]
      have hg3:({ g2 with w:=g2.w++([(((to:Nat),(j:Nat),!a):Wy)]:List Wy) }:Gr)={ u with w:=wq17 u (((k:Nat),(j:Nat),a):Wy) (((to:Nat),(j:Nat),!a):Wy) 2 }:=by
        subst hg2
        exact congrArg (fun w=>({ u with w:=w }:Gr)) hnx
      obtain ⟨hRd,h0⟩:=way_reads (hW2.mono (joinM_mono (X:=X)))
      have hzl:=wyVs_len g2.w
      have hcl:((wyVs g2.w).map CV.val).length=g2.w.length*3:=by rw [cV,hzl]
      have hnl:g2.w.length+1=(g2.w++([(((to:Nat),(j:Nat),!a):Wy)]:List Wy)).length:=by rw [cU];rfl
      (refine aA<|aA<|rgN<|kmv O<|klt O O (r:=true) (by decide)<|aB<|aE O ?_;refine aH ?_;refine aA<|aG<|aA<|rgN<|kmv O<|kmv O<|K.indexArr O O (by decide) O dP ?_;refine bJ O O O (by exact nl3 O O O O) dP ?_;refine aU [] [rgO 1000000 g2 ad cap lad2 lc2 wad2 wc2] (hKn) O O (by exact (cO ⟨_,O,O⟩ trivial)) (by exact (bR (bR O (bR O (bR O (bR O (bR O O))))) O)) O O O O (by exact (.box O O .nil)) dP<|aV O O dP<|aB<|aE O ?_;refine rgD mixed<|kmv O<|aZ (zs:=[]) (sz:=3) (e:=58) (by kernel_rfl) O O O O O O dP<|kmv O<|bI O dP<|kfa O O ?_;refine kl1 O O O<|K.appendXa (by_:=24) (e2:=58) (news:=wyVs g2.w) (nl:=g2.w.length) (nc:=(wyVs g2.w).map .val) O O O O hRd h0 hzl (wyVs_one g2.w) (by kernel_rfl) (by kernel_rfl) (by omega) (by omega) O (by omega) O dP ?_;refine kmv O<|K.indexArr O O (by decide) O dP ?_;refine bJ O O O (by exact nl3 O O O O) dP ?_;refine aZ (zs:=[.int .i64 0,.int .i64 0,.bool false]) (sz:=3) (e:=58) (cs':=[.val (.int .i64 (to:Nat)),.val (.int .i64 (j:Nat)),.val (.bool (!a))]) (by kernel_rfl) O O O O O O dP<|bO (by_:=24) (e2:=58) (l2:=[.val (.int .i64 (to:Nat)),.val (.int .i64 (j:Nat)),.val (.bool (!a))]) (nl:=(g2.w++([(((to:Nat),(j:Nat),!a):Wy)]:List Wy)).length) (nc:=(wyVs (g2.w++([(((to:Nat),(j:Nat),!a):Wy)]:List Wy))).map .val) O O hcl O O (dL _) O O (by kernel_rfl) (by kernel_rfl) (by omega) (by omega) O hnl (by rw [wyVs_add,dF];rfl) dP<|bI O dP<|kfa O O ?_;refine bG O O O O O (nl5 O O O O O O) dP<|aB<|rgA ?_;refine rgN<|kmv O<|kad O O (c:=2) (by decide)<|kas O<|aB ?_)
      refine cA (σ':=⟨[(0,Lp 1000000),(11,Ln .i64 (to:Nat)),(13,Lp 13),(14,Ln .i64 2)],[(1000000,some ⟨51,[.val (.int .i64 g2.sc.ver),.val (.slice ad g2.sc.cs.length cap),.val (.int .i64 (g2.archs:Nat)),.val (.slice lad2 g2.l.length lc2)] ++ .slc 107 0 (g2.w++([(((to:Nat),(j:Nat),!a):Wy)]:List Wy)).length 3::[],false⟩),(107,some ⟨58,(wyVs (g2.w++([(((to:Nat),(j:Nat),!a):Wy)]:List Wy))).map .val,true⟩),(13,some ⟨97,[.val (.int .i64 (k:Nat)),.val (.int .i64 (j:Nat)),.val (.bool a),.val (.int .i64 (to:Nat)),.val (.int .i64 (j:Nat)),.val (.bool (!a))],false⟩)],joinM X H2⟩) (Le.ofR [(1000000,1000000),(107,107),(13,13)] (by exact ⟨rfl,rfl,rfl,rfl,trivial⟩) (by repeat' (first|exact trivial|refine cO ⟨_,rfl,?_⟩ ?_|refine cO ⟨_,rfl⟩ ?_|rfl|exact bV _ _ _ _|exact bW _ _ _ _|exact bX rfl)) (by exact rfl) (by exact rfl) (by repeat' (first|refine bR ?_ ?_|rfl|exact bT|exact bS|exact bU rfl)) (by exact rfl) (by exact rfl)) ?_
      refine Leads.closeCell hO2 (wyVs_len _) (by repeat' (first|refine bR ?_ ?_|rfl|exact bS)) O O O O O fun b o v h1 _ hO3 hv => ?_
      obtain ⟨wc3,rfl,hW3⟩:=way_leads hv
      refine rg_shut (g:={ g2 with w:=g2.w++([(((to:Nat),(j:Nat),!a):Wy)]:List Wy) }) hO3 (hL2.mono (withBlock_more h1)) hW3 ?_
      exact bZ ⟨2-(1+1),by omega,2,by omega,rfl,by rw [hg3];rfl⟩
  · refine LWP.le (σ':=⟨[(0,Lp 1000000),(11,Ln .i64 (to:Nat)),(13,Lp 13),(14,Ln .i64 2)],[rgB 1000000 ad cap { u with w:=addW (addW u.w (((k:Nat),(j:Nat),a):Wy)) (((to:Nat),(j:Nat),!a):Wy) },(13,some ⟨97,[.val (.int .i64 (k:Nat)),.val (.int .i64 (j:Nat)),.val (.bool a),.val (.int .i64 (to:Nat)),.val (.int .i64 (j:Nat)),.val (.bool (!a))],false⟩)],X⟩) (Le.of (by exact ⟨O,O,O,O,trivial⟩) (by exact ⟨O,O,trivial⟩) (by exact O) (by exact O) (by repeat' (first|refine bR ?_ ?_|rfl|exact bT|exact bS|exact bU O))) ?_
    show LWP _ _ _ _ (thenQ _ _) _
    rw [show wq17 u (((k:Nat),(j:Nat),a):Wy) (((to:Nat),(j:Nat),!a):Wy) 2=addW (addW u.w (((k:Nat),(j:Nat),a):Wy)) (((to:Nat),(j:Nat),!a):Wy) from rfl]
    generalize ({ u with w:=addW (addW u.w (((k:Nat),(j:Nat),a):Wy)) (((to:Nat),(j:Nat),!a):Wy) }:Gr)=g3
    (refine aA<|aA<|rgN<|kmv O<|klt O O (r:=false) (by decide)<|aB<|aF O ?_;refine aJ<|aA<|rgN<|kmv O<|kas O<|kas O<|aB<|aI ?_)
    refine cA (σ':=⟨[(4,Ln .i64 (to:Nat)),(5,Ln .i64 0)],[rgB 1000000 ad cap g3],X⟩) (Le.of (by exact ⟨O,O,trivial⟩) (by exact ⟨O,trivial⟩) (by exact O) (by exact O) (by repeat' (first|refine bR ?_ ?_|rfl|exact bT|exact bS|exact bU O))) (bZ ?_)
    exact ⟨[],⟨[_,_],⟨rfl,rfl,trivial⟩,rfl⟩,(by repeat' (first|exact trivial|refine cO ⟨_,rfl,?_⟩ ?_|refine cO ⟨_,rfl⟩ ?_|rfl|exact bV _ _ _ _|exact bW _ _ _ _|exact bX rfl)),rfl,rfl⟩
end Go.Proofs.YtjifibloagkeeaaGreat
end
section
namespace Go.Proofs.YtjifibloagkeeaaGreat
open Go Go.Lg Go.Lg.Fld Go.Lg.Sg Go.Lg.Col
set_option maxRecDepth 100000
theorem set_same {α:Type} {l:List α} {i:Nat} {x:α} (h:l[i]? = some x):l.set i x=l:=by
  apply List.ext_getElem?
  intro j
  rw [List.getElem?_set]
  by_cases e:i=j
  · subst e
    rw [if_pos rfl,h,if_pos (List.getElem?_eq_some_iff.1 h).1]
  · rw [if_neg e]
theorem isClone_maps:isClone Tryz.prog 61:=by
  refine ⟨_,O,?_,?_,?_,?_⟩<;>kernel_rfl
variable (X:Nat→Option Obj)
theorem hMapClone (mb:Nat) (m:List (Value×Value)) (hm:MapIn Tryz.prog WK X mb m):MSpec Tryz.prog X 39 [.sv (.one (.val (.map (some mb))))] [] (.sv (.one (.mp 1000001))) [(1000001,some ⟨0,[],.res (mapR Tryz.prog WK m)⟩)]:=by
  refine cE Tryz.func39 rfl (by kernel_rfl) rfl rfl rfl rfl rfl ?_
  intro C
  (refine aA<|rgN<|kas O<|aB<|aA<|aA<|rgN<|kmv O<|K.mapNilX (kt:=WK) (et:=3) O (by kernel_rfl) dP ?_;refine aB<|aF O ?_;refine aH ?_;refine aA<|rgN<|kmv O<|K.mkIface O (by kernel_rfl) dP ?_;refine K.cloneMap WK O hm isClone_maps O dP ?_;refine K.assertM O O (by kernel_rfl) dP ?_;refine kas O<|aB<|aI ?_)
  exact ⟨[(1000001,7)],⟨[_],⟨rfl,trivial⟩,rfl⟩,(by repeat' (first|exact trivial|refine cO ⟨_,rfl,?_⟩ ?_|refine cO ⟨_,rfl⟩ ?_|rfl|exact bV _ _ _ _|exact bW _ _ _ _|exact bX rfl)),rfl,rfl⟩
theorem gSchema_nil:PSpec Tryz.prog X 18 [LnilG] (Sx 0 none 0 0):=by
  refine cD Tryz.func18 rfl (by kernel_rfl) rfl rfl ?_
  intro C
  (refine aA<|rgN<|aP O dP ?_;refine aB<|aA<|aA<|rgN<|kmv O<|K.nilNil O (by kernel_rfl) (.inl ⟨O,O⟩) dP<|aB<|aE O ?_;refine aA<|rgN<|aT O O (by exact O) (by exact nl2 O O O) dP ?_;refine aM O O O O O O dP ?_;refine aB<|aI ?_)
  exact ⟨[_],⟨⟨_,_,O,O,O,.inl ⟨AggT.h,O⟩⟩,trivial⟩,O⟩
theorem gSchema {vals:List Value} {g:Gr} (hI:GrIn X vals g):MSpec Tryz.prog X 18 [Lp 1000000] [gO 1000000 vals] (.sv (.agg [.val (.int .i64 g.sc.ver),.slc 1000001 0 g.sc.cs.length 3])) [gO 1000000 vals,scB 1000001 g.sc.cs]:=by
  obtain ⟨vC,vT,mb,ps,m,rfl,hX⟩:=hI
  obtain ⟨cb,cc,rfl,hin⟩:=hX.sc
  have hfew:=hX.few
  have hCl:=pCloneBig X g.sc.ver (some ⟨cb,0,none⟩) cc g.sc.cs hin (by omega) fun c hc=>by have:=hfew.2 c hc;omega
  show MSpec Tryz.prog X 18 [Lp 1000000] [gS 1000000 g (.val (.slice (some ⟨cb,0,none⟩) g.sc.cs.length cc)) (.val vT) (mV mb)] (.sv (.agg [.val (.int .i64 g.sc.ver),.slc 1000001 0 g.sc.cs.length 3])) [gS 1000000 g (.val (.slice (some ⟨cb,0,none⟩) g.sc.cs.length cc)) (.val vT) (mV mb),scB 1000001 g.sc.cs]
  generalize g.sc.cs.length=nc at *
  refine cE Tryz.func18 rfl (by kernel_rfl) rfl rfl (by exact (by repeat' (first|refine bR ?_ ?_|rfl|exact bT|exact bS|exact bU rfl))) rfl rfl ?_
  intro C
  (refine aA<|rgN<|aP O dP ?_;refine aB<|aA<|aA<|rgN<|kmv O<|K.ptrNil O (by kernel_rfl) (.inl ⟨O,O⟩) dP<|aB<|aF O ?_;refine aH ?_;refine aA<|rgN<|kmv O<|bI O dP<|kfa O O ?_;refine bJ O O O (by exact nl2 O O O) dP ?_;refine bE [(1000001,602)] (.sv (.agg [.val (.int .i64 g.sc.ver),.slc 602 0 nc 3])) [scB 602 g.sc.cs] (hCl) O O (by exact trivial) O O O O O (by exact (.box O O .nil)) dP<|aM O O O O O O dP ?_;refine aB<|aI ?_)
  exact ⟨[(1000001,602)],⟨[_],⟨⟨_,_,rfl,rfl,rfl,.inl ⟨AggT.h,rfl⟩⟩,trivial⟩,rfl⟩,(by repeat' (first|exact trivial|refine cO ⟨_,rfl,?_⟩ ?_|refine cO ⟨_,rfl⟩ ?_|rfl|exact bV _ _ _ _|exact bW _ _ _ _|exact bX rfl)),rfl,rfl⟩
theorem gClone_nil:PSpec Tryz.prog X 17 [LnilG] LnilG:=by
  refine cD Tryz.func17 rfl (by kernel_rfl) rfl rfl ?_
  intro C
  (refine aA<|rgN<|kas O<|aB<|aA<|aA<|rgN<|kmv O<|K.nilNil O (by kernel_rfl) (.inl ⟨O,O⟩) dP<|aB<|aE O ?_;refine aA<|rgN<|kas O<|aB<|aI ?_)
  exact ⟨[_],⟨O,trivial⟩,O⟩
abbrev ptL (k:Nat) (l:List CV):Nat×Option Box:=(k,some ⟨PT,l,false⟩)
abbrev atT (k b:Nat) (t:Tb):Nat×Option Box:=(k,some ⟨0,[],.res (atR b (tbR t))⟩)
set_option maxHeartbeats 12800000 in
theorem gClone (g:Gr) (hk:GrOk g):MSpec Tryz.prog X 17 [Lp 1000000] [gB 1000000 g] (Lp 1000001) [gB 1000000 g,gB 1000001 g]:=by
  have hroom:=hk.room
  have harch:=hk.archs
  refine cE Tryz.func17 rfl (by kernel_rfl) rfl rfl (by exact (by repeat' (first|refine bR ?_ ?_|rfl|exact bT|exact bS|exact bU rfl))) rfl rfl ?_
  intro C
  refine LWP.ends ?_
  refine g_open fun H vals hO hH => ?_
  obtain ⟨Hs,Hm,Hr,Ha,vC,vT,mb,ps,m,rfl,hHS⟩:=hH
  obtain ⟨o1,o2,o3,o4,e⟩:=own4 hO hHS.mem hHS.a1 hHS.a2 hHS.a3
  rw [e]
  have hG:=hHS.to
  obtain ⟨pad,pcap,hvT⟩:=hG.arr.slice
  subst hvT
  obtain ⟨cb,cc,hvC,hin⟩:=hG.sc
  subst hvC
  obtain ⟨mn,hmn⟩:=hG.map
  obtain ⟨hmI,_,_⟩:=MapIn.of hmn
  have hfew:=hG.few
  have hps:ps.length=g.l.length:=by rw [hG.refs.len,tabs_len]
  obtain ⟨pad',pcap',he,hPt⟩:=hG.arr.ptrs
  simp only [Value.slice.injEq,true_and] at he
  obtain ⟨rfl,rfl⟩:=he
  obtain ⟨o4',o3',e2⟩:=OwnedM.swap o3 o4
  rw [e2]
  have hYs:∀ b o,Hs b=some o→joinM (joinM (joinM X Hs) Hm) Ha b=some o:=fun b o hb=>joinM_has o4' (joinM_has o2 (joinM_in hb))
  have hYm:∀ b o,Hm b=some o→joinM (joinM (joinM X Hs) Hm) Ha b=some o:=fun b o hb=>joinM_has o4' (joinM_in hb)
  have hCl:=pCloneBig (joinM (joinM (joinM (joinM X Hs) Hm) Ha) Hr) g.sc.ver (some ⟨cb,0,none⟩) cc g.sc.cs (hin.mono fun b o hb=>joinM_has o3' (hYs b o hb)) (by omega) fun c hc=>by have:=hfew.2 c hc;omega
  have hMc:=hMapClone (joinM (joinM (joinM (joinM X Hs) Hm) Ha) Hr) mb m (hmI.mono fun b o hb=>joinM_has o3' (hYm b o hb))
  generalize hnc:g.sc.cs.length=nc at *
  refine LWP.le (σ':=⟨enumL 0 [Lp 1000000],[gS 1000000 g (vS' (some ⟨cb,0,none⟩) nc cc) (vS' pad ps.length pcap) (mV mb)],joinM (joinM (joinM (joinM X Hs) Hm) Ha) Hr⟩) (by rw [← hnc];exact Le.of (by exact ⟨O,trivial⟩) (by exact ⟨O,trivial⟩) (by exact O) (by exact O) (by repeat' (first|refine bR ?_ ?_|rfl|exact bT|exact bS|exact bU O))) ?_
  have hso:[CV.val (.int .i64 g.sc.ver),vS' (some ⟨cb,0,none⟩) nc cc,.val (.int .i64 (g.archs:Nat)),.val (.int .i64 (g.rows:Nat)),vS' pad ps.length pcap,mV mb].all CV.solid=true:=rfl
  (refine aA<|rgN<|kas O<|aB<|aA<|aA<|rgN<|kmv O<|K.ptrNil O (by kernel_rfl) (.inl ⟨O,O⟩) dP<|aB<|aF O ?_;refine aH ?_;refine aA<|rgN<|kmv O<|bI O dP<|aK O O O dP ?_;refine aP O dP ?_;refine aM O O O hso O O dP ?_;refine aB<|aA<|rgN<|kmv O<|bI O dP<|kfa O O ?_;refine bJ O O O (by exact nl2 O O O) dP ?_;refine bE [(1000001,602)] (.sv (.agg [.val (.int .i64 g.sc.ver),.slc 602 0 nc 3])) [scB 602 g.sc.cs] (hCl) O O (by exact trivial) O O O O O (by exact (.box O O .nil)) dP<|kfa O O ?_;refine K.store O O O O (by kernel_rfl) (Nat.le_of_ble_eq_true O) O dP<|aB<|aA<|rgN<|kmv O<|bI O dP<|kfa O O ?_;refine kl1 O O O<|bE [(1000001,604)] (.sv (.one (.mp 604))) [(604,some ⟨0,[],.res (mapR Tryz.prog WK m)⟩)] (hMc) O O (by exact trivial) O O O O O (by exact (.box O O .nil)) dP<|kfa O O ?_;refine bG O O O O O (nl6 O O O O O O O) dP<|aB<|aA ?_)
  refine LWP.le (σ':=⟨[(0,Lp 1000000),(3,Lp 3)],[(3,some ⟨75,[.val (.int .i64 g.sc.ver)] ++ .slc 602 0 nc 3::[.val (.int .i64 (g.archs:Nat)),.val (.int .i64 (g.rows:Nat)),vS' pad ps.length pcap,.mp 604],false⟩),scB 602 g.sc.cs,(604,some ⟨0,[],.res (mapR Tryz.prog WK m)⟩),gS 1000000 g (vS' (some ⟨cb,0,none⟩) nc cc) (vS' pad ps.length pcap) (mV mb)],joinM (joinM (joinM (joinM X Hs) Hm) Ha) Hr⟩) (Le.of (by exact ⟨O,O,trivial⟩) (by exact ⟨O,O,O,O,trivial⟩) (by exact O) (by exact O) (by repeat' (first|refine bR ?_ ?_|rfl|exact bT|exact bS|exact bU O))) ?_
  refine LWP.fixCell O O O O O O fun ρ H2 cc2 hsc hO2 hcc2 _ => ?_
  obtain ⟨cb2,cm2⟩:=ρ
  have hin2:CompsIn H2 (some ⟨cb2,0,none⟩) g.sc.cs:=scR_in hsc fun _ _ h=>h
  obtain ⟨b1,b2,b3⟩:=OwnedM.swap o3' hO2
  rw [b3]
  refine LWP.fixRsc (k:=604) (s:=[(0,Lp 1000000),(3,Lp 3)]) (bx:=[gS 1000000 g (vS' (some ⟨cb,0,none⟩) nc cc) (vS' pad ps.length pcap) (mV mb)]) (s0:=[]) (b0:=[(3,some ⟨75,[.val (.int .i64 g.sc.ver),.val (.slice (some ⟨cb2,0,none⟩) nc cc2),.val (.int .i64 (g.archs:Nat)),.val (.int .i64 (g.rows:Nat)),vS' pad ps.length pcap,.mp 604],false⟩)]) (by rfl) (by rfl) (by rfl) (by rfl) (by rfl) fun ρ H3 hm3 hO3 => ?_
  obtain ⟨mb2,mn2⟩:=ρ
  obtain ⟨c1,c2,c3⟩:=OwnedM.swap b2 hO3
  rw [c3]
  have hmk:slcBuild Tryz.prog 73 ps.length=some (npt ps.length,1,PT):=slcBuild_one (by kernel_rfl) (by kernel_rfl) (by omega)
  refine LWP.le (σ':=⟨[(0,Lp 1000000),(3,Lp 3)],[gS 3 g (vS' (some ⟨cb2,0,none⟩) nc cc2) (vS' pad ps.length pcap) (mV mb2),gS 1000000 g (vS' (some ⟨cb,0,none⟩) nc cc) (vS' pad ps.length pcap) (mV mb)],joinM (joinM (joinM (joinM (joinM (joinM X Hs) Hm) Ha) H2) H3) Hr⟩) (Le.of (by exact ⟨O,O,trivial⟩) (by exact ⟨O,O,trivial⟩) (by exact O) (by exact O) (by repeat' (first|refine bR ?_ ?_|rfl|exact bT|exact bS|exact bU O))) ?_
  (refine rgN<|kmv O<|bI O dP<|kfa O O ?_;refine kl1 O O O<|aQ O bY O dP ?_;refine K.makeSlc (m:=ps.length) (bytes:=8) O O hmk (by kernel_rfl) (by omega) O O dP<|kfa O O ?_;refine bG O O O O O (nl6 O O O O O O O) dP<|aB<|aA<|aA<|rgN<|kmv O<|bI O dP<|kfa O O ?_;refine kl1 O O O<|aQ O bY O dP ?_;refine kmv O<|aB<|aG ?_)
  refine cJ (fun z σ=>∃ (j:Nat) (qs:List Nat) (Hn H:Nat→Option Obj),j≤ps.length∧z=ps.length-j∧OwnedM C (joinM (joinM (joinM (joinM (joinM X Hs) Hm) Ha) H2) H3) Hn∧OwnedM C (joinM (joinM (joinM (joinM (joinM (joinM X Hs) Hm) Ha) H2) H3) Hn) H∧Refs H ps (tabsG g)∧Refs Hn qs ((tabsG g).take j)∧σ=⟨[(0,Lp 1000000),(3,Lp 3),(33,.sv (.one (vS' pad ps.length pcap))),(34,Ln .i64 (ps.length:Nat)),(35,Ln .i64 (j:Nat))],[ptL 603 ((pvs qs++npt (ps.length-j)).map .val),gS 3 g (vS' (some ⟨cb2,0,none⟩) nc cc2) (.slc 603 0 ps.length 1) (mV mb2),gS 1000000 g (vS' (some ⟨cb,0,none⟩) nc cc) (vS' pad ps.length pcap) (mV mb)],joinM (joinM (joinM (joinM (joinM (joinM (joinM X Hs) Hm) Ha) H2) H3) Hn) H⟩) ps.length
    (cA (σ':=⟨[(0,Lp 1000000),(3,Lp 3),(33,.sv (.one (vS' pad ps.length pcap))),(34,Ln .i64 (ps.length:Nat)),(35,Ln .i64 (0:Nat))],[ptL 603 ((pvs []++npt (ps.length-0)).map .val),gS 3 g (vS' (some ⟨cb2,0,none⟩) nc cc2) (.slc 603 0 ps.length 1) (mV mb2),gS 1000000 g (vS' (some ⟨cb,0,none⟩) nc cc) (vS' pad ps.length pcap) (mV mb)],joinM (joinM (joinM (joinM (joinM (joinM X Hs) Hm) Ha) H2) H3) Hr⟩) (Le.ofR [(603,28)] (by exact ⟨rfl,rfl,rfl,rfl,rfl,trivial⟩) (by repeat' (first|exact trivial|refine cO ⟨_,rfl,?_⟩ ?_|refine cO ⟨_,rfl⟩ ?_|rfl|exact bV _ _ _ _|exact bW _ _ _ _|exact bX rfl)) (by exact rfl) (by exact rfl) (by repeat' (first|refine bR ?_ ?_|rfl|exact bT|exact bS|exact bU rfl)) (by exact rfl) (by exact rfl)) (bZ ⟨0,[],fun _=>none,Hr,by omega,by omega,OwnedM.nil _ _,by rw [joinM_nil];exact c2,hG.refs,Refs.nil _,by rw [joinM_nil]⟩)) ?_
  rintro z σ ⟨j,qs,Hn,H,hj,rfl,hOn,hOH,hR,hRn,rfl⟩
  have htl:=tabs_len g
  have hqs:qs.length=j:=by rw [hRn.len,cY];omega
  by_cases hlt:j<ps.length
  · obtain ⟨s,hs⟩:∃ s,g.l[j]? = some s:=⟨_,cW (by omega)⟩
    obtain ⟨b,hb⟩:∃ b,ps[j]? = some b:=⟨_,cW hlt⟩
    obtain ⟨_,hTok⟩:=tblOk_of hk (dB hs)
    obtain ⟨pblk,parr,pel,pfr,rfl,hPX,hPa⟩:=hPt j b hb
    have hPX2:joinM (joinM (joinM (joinM (joinM (joinM (joinM X Hs) Hm) Ha) H2) H3) Hn) H pblk=some (.cells parr pel pfr):=joinM_has hOH (joinM_has hOn (joinM_has c1 (joinM_has b1 (joinM_in hPX))))
    have hio:0+Int.toNat (j:Int)*1=j:=by simp
    have hadd:IntKind.i64.wrap (((j:Nat):Int)+1)=((j+1:Nat):Int):=by rw [cF (by omega)];omega
    (refine aA<|rgN<|klt O O (cN (by omega))<|aB<|aA<|aE O ?_;refine aH ?_;refine aA<|aG<|aA<|rgN<|kmv O<|aR O O bY (by omega) hio dP<|aW O hPX2 O hPa dP<|kas O<|kas O<|aB ?_)
    refine LWP.le (σ':=⟨[(4,Ln .i64 (j:Nat)),(5,Vp b),(0,Lp 1000000),(3,Lp 3),(33,.sv (.one (vS' (some ⟨pblk,0,none⟩) ps.length pcap))),(34,Ln .i64 (ps.length:Nat)),(35,Ln .i64 (j:Nat))],[ptL 603 ((pvs qs++npt (ps.length-j)).map .val),gS 3 g (vS' (some ⟨cb2,0,none⟩) nc cc2) (.slc 603 0 ps.length 1) (mV mb2),gS 1000000 g (vS' (some ⟨cb,0,none⟩) nc cc) (vS' (some ⟨pblk,0,none⟩) ps.length pcap) (mV mb)],joinM (joinM (joinM (joinM (joinM (joinM (joinM X Hs) Hm) Ha) H2) H3) Hn) H⟩) (Le.of (by exact ⟨O,O,O,O,O,O,O,trivial⟩) (by exact ⟨O,O,O,trivial⟩) (by exact O) (by exact O) (by repeat' (first|refine bR ?_ ?_|rfl|exact bT|exact bS|exact bU O))) ?_
    refine tcol_open (kk:=501) hOH hR (tabs_at hs) O (by repeat' (first|refine bR ?_ ?_|rfl|exact bS)) O (by omega) fun b' H0 hb' hO0 hback => ?_
    rw [hb] at hb'
    cases hb'
    have hg:=(tClone (joinM (joinM (joinM (joinM (joinM (joinM (joinM X Hs) Hm) Ha) H2) H3) Hn) H0) (tbl g s) hTok).at (b:=b)
    have hroot:=tbR_root (tbl g s)
    have hset:(tabsG g).set j (tbR (tbl g s))=tabsG g:=set_same (tabs_at hs)
    have hblt:Nat.blt j ((pvs qs++npt (ps.length-j)).map CV.val).length=true:=by rw [Nat.blt_eq,cV,cU,pvs_len,dC];omega
    have hput:((pvs qs++npt (ps.length-j)).map CV.val).set j (.ptr 601 0)=(pvs qs).map .val ++ .ptr 601 0::(npt (ps.length-(j+1))).map .val:=by
      rw [dF,List.map_replicate,List.map_replicate]
      exact fill_put (by rw [cV,pvs_len];exact hqs) hlt
    (refine rgD mixed<|kfa O O ?_;refine kl1 O O O<|kmv O<|kmv O<|bE [(1000000,501),(1000001,601)] (Lp 601) [atT 501 b (tbl g s),tB 601 (tbl g s)] (hg) O O (by exact (cO ⟨_,O,O⟩ trivial)) (by exact (bR O O)) O O O O (by exact (.box O O (.box O O .nil))) dP<|K.indexSlc O O (by omega) hio dP ?_;refine bG O O O O hblt hput dP<|aB<|rgA ?_;refine rgN<|kad O O hadd<|kmv O<|aB ?_)
    refine cA (σ':=⟨[(0,Lp 1000000),(3,Lp 3),(33,.sv (.one (vS' (some ⟨pblk,0,none⟩) ps.length pcap))),(34,Ln .i64 (ps.length:Nat)),(35,Ln .i64 (j+1:Nat))],[atT 501 b (tbl g s),ptL 603 ((pvs qs).map .val ++ .ptr 601 0::(npt (ps.length-(j+1))).map .val),tB 601 (tbl g s),gS 3 g (vS' (some ⟨cb2,0,none⟩) nc cc2) (.slc 603 0 ps.length 1) (mV mb2),gS 1000000 g (vS' (some ⟨cb,0,none⟩) nc cc) (vS' (some ⟨pblk,0,none⟩) ps.length pcap) (mV mb)],joinM (joinM (joinM (joinM (joinM (joinM (joinM X Hs) Hm) Ha) H2) H3) Hn) H0⟩) (Le.of (by exact ⟨O,O,O,O,O,trivial⟩) (by exact ⟨O,O,O,O,O,trivial⟩) (by exact O) (by exact O) (by repeat' (first|refine bR ?_ ?_|rfl|exact bT|exact bS|exact bU O))) ?_
    refine tcol_shut hO0 hroot O (by repeat' (first|refine bR ?_ ?_|rfl|exact bS|exact bU O)) O fun m' Hc' g1 g2 g3 g4 => ?_
    have hB:=hback _ m' Hc' g1 g2 g3
    rw [hset] at hB
    refine Leads.fixRsc (k:=601) (s:=[(0,Lp 1000000),(3,Lp 3),(33,.sv (.one (vS' (some ⟨pblk,0,none⟩) ps.length pcap))),(34,Ln .i64 (ps.length:Nat)),(35,Ln .i64 (j+1:Nat))]) (bx:=[gS 3 g (vS' (some ⟨cb2,0,none⟩) nc cc2) (.slc 603 0 ps.length 1) (mV mb2),gS 1000000 g (vS' (some ⟨cb,0,none⟩) nc cc) (vS' (some ⟨pblk,0,none⟩) ps.length pcap) (mV mb)]) (s0:=[]) (b0:=[ptL 603 ((pvs qs).map .val ++ .ptr 601 0::(npt (ps.length-(j+1))).map .val)]) (by rfl) (by rfl) (by rfl) (by rfl) (by refine bR ?_ rfl;exact fixIn_mid _ _) fun ρ Hc2 k1 k2 => ?_
    obtain ⟨bn,mn⟩:=ρ
    obtain ⟨q1,q2,q3⟩:=OwnedM.swap g4 k2
    have hpush:=hRn.push k1 (hroot _ _ k1) fun x hx=>own_far q1 hx
    have htk:(tabsG g).take (j+1)=(tabsG g).take j++[tbR (tbl g s)]:=take_snoc (tabs_at hs)
    rw [q3,joinM_join _ Hn Hc2]
    refine bZ ⟨ps.length-(j+1),by omega,j+1,qs++[bn],joinM Hn Hc2,_,by omega,rfl,hOn.join q1,by rw [← joinM_join];exact q2,hB,by rw [htk];exact hpush,?_⟩
    have hcells:((pvs qs).map CV.val ++ .ptr 601 0::(npt (ps.length-(j+1))).map CV.val).map (CV.fix 601 bn)=(pvs (qs++[bn])++npt (ps.length-(j+1))).map CV.val:=by
      rw [fix_mid]
      unfold pvs
      simp
    show (⟨[]++_,[ptL 603 (((pvs qs).map CV.val ++ .ptr 601 0::(npt (ps.length-(j+1))).map CV.val).map (CV.fix 601 bn))]++_,_⟩:St)=_
    rw [hcells];rfl
  · have e:j=ps.length:=by omega
    subst e
    rw [List.take_of_length_le (by omega)] at hRn
    (refine aA<|rgN<|klt O O (cL (by omega))<|aB<|aA<|aF O ?_;refine aJ<|aA<|rgN<|kas O<|aB<|aI ?_)
    refine cA (σ':=⟨[(2,Lp 3)],[(3,some ⟨75,[.val (.int .i64 g.sc.ver),vS' (some ⟨cb2,0,none⟩) nc cc2,.val (.int .i64 (g.archs:Nat)),.val (.int .i64 (g.rows:Nat))] ++ .slc 603 0 qs.length 1::[mV mb2],false⟩),(603,some ⟨PT,(pvs qs).map .val,false⟩),gS 1000000 g (vS' (some ⟨cb,0,none⟩) nc cc) (vS' pad ps.length pcap) (mV mb)],joinM (joinM (joinM (joinM (joinM (joinM (joinM (joinM X Hs) Hm) Ha) H2) H3) Hn) H) (fun _=>none)⟩) (by
      rw [joinM_nil,hqs]
      rw [Nat.sub_self,show npt 0=[] from rfl,dH]
      exact Le.of (by exact ⟨O,trivial⟩) (by exact ⟨O,O,O,trivial⟩) (by exact O) (by exact O) (by repeat' (first|refine bR ?_ ?_|rfl|exact bT|exact bS|exact bU O))) ?_
    refine Leads.closeCell (OwnedM.nil _ _) (by rw [pvs_len];omega) rfl rfl rfl rfl rfl rfl fun ba oa va _ _ hOa hva => ?_
    generalize withBlock (fun _=>none) ba oa=HA at *
    obtain ⟨⟨p1,p2,p3,p4,p5,p6,p7,p8,_⟩,pe⟩:=ownL_perm (C:=C) (l:=[Hs,Hm,Ha,H2,H3,Hn,H,HA]) (l':=[Hs,Hm,H,Ha,H2,H3,Hn,HA]) ((by decide:[0,1,2,3,4,5,6,7].Perm [0,1,6,2,3,4,5,7]).map fun i:Nat=>[Hs,Hm,Ha,H2,H3,Hn,H,HA].getD i Hs) X ⟨o1,o2,o4',b1,c1,hOn,hOH,hOa,trivial⟩
    rw [show joinM (joinM (joinM (joinM (joinM (joinM (joinM (joinM X Hs) Hm) Ha) H2) H3) Hn) H) HA=joinL X [Hs,Hm,Ha,H2,H3,Hn,H,HA] from rfl,pe]
    obtain ⟨r1,r2,r3⟩:=ap4 p2 p3 p4
    obtain ⟨t1,t2,t3⟩:=ap4 p6 p7 p8
    have w1':GrH (joinM (joinM (joinM Hs Hm) H) Ha) (grV g (.slice (some ⟨cb,0,none⟩) nc cc) (.slice pad ps.length pcap) mb) g:=⟨_,_,_,_,_,_,mb,ps,m,rfl,rfl,r1,r2,r3,⟨cb,cc,by rw [hnc],hin⟩,hG.map,hR,hG.arr,hG.ways,hG.names,hG.few⟩
    have w2':GrH (joinM (joinM (joinM H2 H3) Hn) HA) (grV g (.slice (some ⟨cb2,0,none⟩) nc cc2) va mb2) g:=⟨_,_,_,_,_,_,mb2,qs,m,rfl,rfl,t1,t2,t3,⟨cb2,cc2,by rw [hnc],hin2⟩,⟨mn2,hm3⟩,hRn,.inr ⟨ba,hva⟩,hG.ways,hG.names,hG.few⟩
    refine cA (σ':=⟨[(2,Lp 3)],[gO 3 (grV g (.slice (some ⟨cb2,0,none⟩) nc cc2) va mb2),gO 1000000 (grV g (.slice (some ⟨cb,0,none⟩) nc cc) (.slice pad ps.length pcap) mb)],joinM (joinM (joinM (joinM (joinM X Hs) Hm) H) Ha) (joinM (joinM (joinM H2 H3) Hn) HA)⟩) (by
      rw [← joinM_join,← joinM_join,← joinM_join]
      exact Le.of (by exact ⟨O,trivial⟩) (by exact ⟨O,O,trivial⟩) (by exact O) (by exact O) (by repeat' (first|refine bR ?_ ?_|rfl|exact bT|exact bS|exact bU O))) ?_
    refine g_shut (own4_join p5 p6 p7 p8) w2' ?_
    refine cA (σ':=⟨[(2,Lp 3)],[gO 1000000 (grV g (.slice (some ⟨cb,0,none⟩) nc cc) (.slice pad ps.length pcap) mb),gB 3 g],joinM X (joinM (joinM (joinM Hs Hm) H) Ha)⟩) (by
      rw [← joinM_join,← joinM_join,← joinM_join]
      exact Le.of (by exact ⟨O,trivial⟩) (by exact ⟨O,O,trivial⟩) (by exact O) (by exact O) (by repeat' (first|refine bR ?_ ?_|rfl|exact bT|exact bS|exact bU O))) ?_
    refine g_shut (own4_join p1 p2 p3 p4) w1' (bZ ?_)
    exact ⟨[(1000001,3)],⟨[_],⟨rfl,trivial⟩,rfl⟩,(by repeat' (first|exact trivial|refine cO ⟨_,rfl,?_⟩ ?_|refine cO ⟨_,rfl⟩ ?_|rfl|exact bV _ _ _ _|exact bW _ _ _ _|exact bX rfl)),rfl,rfl⟩
end Go.Proofs.YtjifibloagkeeaaGreat
end
section
namespace Go.Proofs.YtjifibloagkeeaaGreat
open Go Go.Lg Go.Lg.Fld Go.Lg.Sg
set_option maxRecDepth 100000
abbrev gX (k:Nat):Nat×Option Box:=(k,some ⟨0,[],.res ⟨fun _ _=>True⟩⟩)
section
variable (X:Nat→Option Obj)
set_option maxHeartbeats 3200000 in
theorem gTake (g:Gr) (hk:GrOk g) (i s:Nat) (h:g.l[i]? = some s):MSpec Tryz.prog X 15 [Lp 1000000,Ln .i64 (i:Nat)] [gB 1000000 g] (Lp 1000001) [gX 1000000,tB 1000001 (tbl g s)]:=by
  refine cE Tryz.func15 rfl (by kernel_rfl) rfl rfl (by exact (by repeat' (first|refine bR ?_ ?_|rfl|exact bT|exact bS|exact bU rfl))) rfl rfl ?_
  intro C
  refine LWP.ends ?_
  refine g_open fun H vals hO hH => ?_
  have hX:=g_in hO hH
  obtain ⟨Hs,Hm,Hr,Ha,vC,vT,mb,ps,m,rfl,hHS⟩:=hH
  obtain ⟨o1,o2,o3,o4,e⟩:=own4 hO hHS.mem hHS.a1 hHS.a2 hHS.a3
  obtain ⟨pad,pcap,rfl⟩:=hHS.to.arr.slice
  have hI:GrX (joinM X H) g vC (.slice pad ps.length pcap) mb ps m:=by
    rw [e]
    exact hHS.to.x hk (fun b o hb=>joinM_has o4 (joinM_has o3 (joinM_has o2 (joinM_in hb)))) (fun b o hb=>joinM_has o4 (joinM_has o3 (joinM_in hb))) (fun b o hb=>joinM_has o4 (joinM_in hb)) (fun b o hb=>joinM_in hb)
  have hlen:=hI.len
  have hil:=(List.getElem?_eq_some_iff.1 h).1
  obtain ⟨b,mm,Hc,h1,h2,h3,h4,_⟩:=hHS.to.refs.take (tabs_at h)
  have hHr:∀ x o,Hr x=some o→H x=some o:=fun x o hx=>by
    have h5:joinM (joinM Hs Hm) Hr x=some o:=joinM_in hx
    have h6:Ha x=none:=by
      cases hc:Ha x with
      | none=>rfl
      | some o'=>have:=hHS.a3 x (by rw [hc];simp);rw [h5] at this;cases this
    rw [hHS.mem,joinM_out h6];exact h5
  have h0:=hlen0 _ g vC pad pcap mb ps m hI
  obtain ⟨pad',pcap',he,hP⟩:=hI.ptrs
  simp only [Value.slice.injEq,true_and] at he
  obtain ⟨rfl,rfl⟩:=he
  obtain ⟨blk,arr,el,fr,rfl,hXb,hcs⟩:=hP i b h1
  have hio:0+Int.toNat (i:Int)*1=i:=by simp
  refine LWP.le (σ':=⟨enumL 0 [Lp 1000000,Ln .i64 (i:Nat)],[gS 1000000 g (.val vC) (vS' (some ⟨blk,0,none⟩) ps.length pcap) (mV mb)],joinM X H⟩) (Le.of (by exact ⟨O,O,trivial⟩) (by exact ⟨O,trivial⟩) (by exact O) (by exact O) (by repeat' (first|refine bR ?_ ?_|rfl|exact bT|exact bS|exact bU O))) ?_
  (refine aA<|rgN<|kas O<|aB<|aA<|aA<|rgN<|kmv O<|klt O O (cL (by omega))<|kmv O<|gmv O O O<|gmv O O O<|K.callR [(1000000,1000000)] (h0) O O (by exact (cO ⟨_,O,O⟩ trivial)) (by exact (bR (bR O (bR O (bR O (bR O (bR O (bR O O)))))) O)) O O O O (dQ O O) ?_;refine bD O O (cL (by omega)) (dQ O O) ?_;refine kpf O O<|aB<|aF O ?_;refine aH ?_;refine aA<|rgN<|kmv O<|bI O dP<|kfa O O ?_;refine kl1 O O O<|kmv O<|aR O O bY (by omega) hio dP<|aW O hXb O hcs dP<|kas O<|aB<|aI ?_)
  refine cA (σ':=⟨[(4,Vp b)],[gS 1000000 g (.val vC) (vS' (some ⟨blk,0,none⟩) ps.length pcap) (mV mb)],joinM X H⟩) (Le.of (by exact ⟨O,trivial⟩) (by exact ⟨O,trivial⟩) (by exact O) (by exact O) (by repeat' (first|refine bR ?_ ?_|rfl|exact bT|exact bS|exact bU O))) ?_
  refine Leads.takeRes (k:=602) hO (fun x o hx=>hHr x o (h4 x o hx)) h2 h3 O O O (by decide) ?_
  refine Leads.named O ?_
  refine cA (σ':=⟨[(4,Lp 602)],[gO 1000000 (grV g vC (.slice (some ⟨blk,0,none⟩) ps.length pcap) mb),tB 602 (tbl g s)],joinM X (minusM H Hc)⟩) (Le.of (by exact ⟨O,trivial⟩) (by exact ⟨O,O,trivial⟩) (by exact O) (by exact O) (by repeat' (first|refine bR ?_ ?_|rfl|exact bT|exact bS|exact bU O))) ?_
  refine Leads.closeRes (vals:=grV g vC (.slice (some ⟨blk,0,none⟩) ps.length pcap) mb) (R:=⟨fun _ _=>True⟩) (hO.minus Hc) (fun ρ fr _ _ _=>trivial) (bZ ?_)
  exact ⟨[(1000001,602)],⟨[_],⟨rfl,trivial⟩,rfl⟩,(by repeat' (first|exact trivial|refine cO ⟨_,rfl,?_⟩ ?_|refine cO ⟨_,rfl⟩ ?_|rfl|exact bV _ _ _ _|exact bW _ _ _ _|exact bX rfl)),rfl,rfl⟩
end
section
variable {P:Program} {n:Nat} {C:Ctx} {c:Code} {Q:Exit→St→Prop} {X:Nat→Option Obj} {s:List (Nat×LV)} {bx:List (Nat×Option Box)} {k:Nat}
theorem rg_new {ad:Option Addr} {cap:Nat} {g:Gr} (hl:g.l=[]) (hw:g.w=[]) (h:LWP P n C c Q ⟨s,rgB k ad cap g::bx,X⟩):LWP P n C c Q ⟨s,rgO k g ad cap none 0 none 0::bx,X⟩:=by
  have:=rg_shutL (H:=fun _=>none) (lad:=none) (lc:=0) (wad:=none) (wc:=0) (OwnedM.nil C X) (by rw [hl];exact U32In.nil) (by rw [hw];exact WysIn.nil) h
  rw [joinM_nil] at this
  exact this
end
variable (X:Nat→Option Obj)
theorem same_made {S:Nat→Option (Option Box)} {ver:Int} {k:Nat} {cs:List Cp} {ad:Option Addr} {cap:Nat} {e:TypeId} {cc:List CV} (hin:CompsIn X ad cs) (hb:cs.length<4611686018427387904) (hfs:∀ c∈cs,c.fs.length<4611686018427387904) (hk:S k=some (some ⟨e,cc,.res (scR cs)⟩)):
    ∀ (Y:Nat→Option Obj) (us:List Value),(∀ b o,X b=some o→Y b=some o)→LentLs S Y [.sv (.agg [.val (.int .i64 ver),.slc k 0 cs.length 3]),Sx ver ad cs.length cap] us→PSpec Tryz.prog Y 27 (us.map toLV) (Lb true):=by
  intro Y us hXY hL
  obtain ⟨u2,us2,rfl,⟨bs,rfl,b1,bs1,rfl,h3,b2,bs2,rfl,⟨b,blk,cap2,m,hk',rfl,hc,hfit,hB⟩,rfl⟩,u1,us1,rfl,⟨av,rfl,a1,av1,rfl,h1,a2,av2,rfl,h2,rfl⟩,rfl⟩:=hL
  have h1:a1 = .int .i64 ver:=h1
  have h2:a2 = .slice ad cs.length cap:=h2
  have h3:b1 = .int .i64 ver:=h3
  subst h1 h2 h3
  rw [hk] at hk'
  simp only [Option.some.injEq] at hk'
  subst hk'
  obtain ⟨H,hR,hHY⟩:=hB
  exact sSame_spec Y ⟨ver,cs⟩ ⟨ver,cs⟩ (some ⟨blk,0,none⟩) ad cap2 cap (scR_in hR hHY) (hin.mono hXY) hb hfs true (cN O)
end Go.Proofs.YtjifibloagkeeaaGreat
end
section
namespace Go.Proofs.YtjifibloagkeeaaGreat
open Go Go.Lg Go.Lg.Fld Go.Lg.Sg
set_option maxRecDepth 100000
abbrev keyT (r:Rw):Value:=.int .u64 (r.e:Nat)
structure MvI (Y:Nat→Option Obj) (l:List Rw) (n:Nat) (m:List (Value×Value)):Prop where
  len:m.length=l.length
  nd:(l.map Rw.e).Nodup
  small:∀ r∈l,r.e≤n
  has:∀ r∈l,∃ (pad:Option Addr) (cap:Nat),(keyT r,Value.slice pad r.p.length cap)∈m∧PartsIn Y pad r.p
  keys:∀ p∈m,∃ r∈l,p.1=keyT r
  ks:(m.map (·.1)).Nodup
end Go.Proofs.YtjifibloagkeeaaGreat
end
section
namespace Go.Proofs.YtjifibloagkeeaaGreat
open Go Go.Lg Go.Lg.Fld Go.Lg.Sg
set_option maxRecDepth 100000
theorem goodG_cases {s:Sc} {archs rows:Int} (h:goodG s archs rows=false):chkE s≠0∨(chkE s=0∧archs<1)∨(chkE s=0∧1≤archs∧64<archs)∨(chkE s=0∧1≤archs∧archs≤64∧rows<1)∨(chkE s=0∧1≤archs∧archs≤64∧1≤rows∧256<rows):=by
  by_cases c1:chkE s=0
  case neg=>exact .inl c1
  by_cases c2:1≤archs
  case neg=>exact .inr (.inl ⟨c1,by omega⟩)
  by_cases c3:archs≤64
  case neg=>exact .inr (.inr (.inl ⟨c1,c2,by omega⟩))
  by_cases c4:1≤rows
  case neg=>exact .inr (.inr (.inr (.inl ⟨c1,c2,c3,by omega⟩)))
  by_cases c5:rows≤256
  case neg=>exact .inr (.inr (.inr (.inr ⟨c1,c2,c3,c4,by omega⟩)))
  unfold goodG at h
  rw [cN c1,cN c2,cN c3,cN c4,cN c5] at h
  cases h
theorem goodG_facts {s:Sc} {archs rows:Int} (h:goodG s archs rows=true):chkE s=0∧1≤archs∧archs≤64∧1≤rows∧rows≤256:=by
  unfold goodG at h
  simp only [Bool.and_eq_true,decide_eq_true_eq] at h
  omega
theorem parts_nil17 (X:Nat→Option Obj):PartsC X none []:=⟨fun i p h=>by simp at h,fun u hu=>by cases hu⟩
theorem tbl_ok {g:Gr} (hk:GrOk g) {q:Nat} (hq:q∈g.l):TbOk (tbl g q):=by
  obtain ⟨h1,h2⟩:=hk.can q hq
  unfold canG at h1
  rw [Bool.and_eq_true] at h1
  have hr:=hk.rows
  exact TbOk.new h2 (by unfold goodT;rw [cN hk.sc,h1.1,h1.2,cN (show (1:Int)≤(g.rows:Nat) by omega),cN (show ((g.rows:Nat):Int)≤256 by omega)];rfl)
def fN (l:List Nat) (s:Nat):Nat:=match findG l s with|some i=>i|none=>0
variable (X:Nat→Option Obj)
set_option maxHeartbeats 102400000 in
theorem graphExact_law (s:Sc) (archs rows:Int) (acs:List Ag) (ad aad:Option Addr) (cap acap:Nat) (hin:CompsIn X ad s.cs) (hmn:NamesIn s.cs) (hA:AgsIn X aad acs) (hb:acs.length<9223372036854775808):
    PSpec Tryz.prog X 3 [Sx s.ver ad s.cs.length cap,Ln .i64 archs,Ln .i64 rows,.sv (.one (.val (.slice aad acs.length acap)))] (Lb true):=by
  have hW:=awake17_spec X
  have hG:=great17_spec X s.ver ad cap s.cs hin (greatB16 s.cs) rfl
  refine cD Tryz.func3 rfl (by kernel_rfl) rfl rfl ?_
  intro C
  cases hg:greatB16 s.cs with
  | true =>
    rw [hg] at hG
    (refine aA<|rgN<|aL O O O dP<|kas O<|aB<|aA<|aA<|rgN<|kca O O (hW)<|aV O O dP<|aB<|aF O ?_;refine aH ?_;refine aA<|aA<|rgN<|aK O O O dP ?_;refine kca O O hG<|kmv O<|aC O O O<|aC O O O<|aC O O O<|kpt O O<|aB<|aE O ?_;refine aA<|rgN<|kas O<|aB<|aI ?_)
    exact ⟨[_],⟨O,trivial⟩,O⟩
  | false =>
  rw [hg] at hG
  obtain ⟨s1,s2⟩:=greatB16_no hg
  by_cases h100:100<acs.length
  · (refine aA<|rgN<|aL O O O dP<|kas O<|aB<|aA<|aA<|rgN<|kca O O (hW)<|aV O O dP<|aB<|aF O ?_;refine aH ?_;refine aA<|aA<|rgN<|aK O O O dP ?_;refine kca O O hG<|kmv O<|gmv O O O<|aQ O bY O (dQ O O) ?_;refine aS O O (cN (by omega)) (dQ O O) ?_;refine kpf O O<|aB<|aE O ?_;refine aA<|rgN<|kas O<|aB<|aI ?_)
    exact ⟨[_],⟨O,trivial⟩,O⟩
  have hCk:=sCheck_spec X s ad cap hin (by omega) (fun c hc=>by have:=s2 c hc;omega)
  cases hgt:goodG s archs rows with
  | false =>
    have hN:=gNew_no X s archs rows ad cap hin hmn ⟨s1,s2⟩ hgt
    (refine aA<|rgN<|aL O O O dP<|kas O<|aB<|aA<|aA<|rgN<|kca O O (hW)<|aV O O dP<|aB<|aF O ?_;refine aH ?_;refine aA<|aA<|rgN<|aK O O O dP ?_;refine kca O O hG<|kmv O<|gmv O O O<|aQ O bY O (dQ O O) ?_;refine aS O O (cL (by omega)) (dQ O O) ?_;refine kpf O O<|aB<|aF O ?_;refine aH ?_;refine aA<|rgN<|aK O O O dP ?_;refine kmv O<|kmv O<|kca O O hN<|kas O<|aB<|aA<|aA ?_)
    repeat refine aA ?_
    refine LWP.meetL (fun σ=>σ=⟨[(65,Lb true),(1,Ln .i64 archs),(2,Ln .i64 rows),(3,.sv (.one (.val (.slice aad acs.length acap)))),(4,Lp 4),(9,LnilG)],[sxB 4 s.ver ad s.cs.length cap],X⟩) ?_ ?_
    · rcases goodG_cases hgt with c1|⟨c1,c2⟩|⟨c1,c2,c3⟩|⟨c1,c2,c3,c4⟩|⟨c1,c2,c3,c4,c5⟩
      · generalize chkE s=ck at *
        (refine rgN<|aK O O O dP ?_;refine kca O O hCk<|kne O O (r:=true) (cR c1)<|kmv O<|aC O O O<|aC O O O<|kpt O O<|kmv O<|aC O O O<|aC O O O<|kpt O O<|kmv O<|aC O O O<|aC O O O<|kpt O O ?_;refine kmv O<|aC O O O<|aC O O O<|kpt O O<|aB ?_)
        exact Leads.here (σ':=⟨[(65,Lb true),(1,Ln .i64 archs),(2,Ln .i64 rows),(3,.sv (.one (.val (.slice aad acs.length acap)))),(4,Lp 4),(9,LnilG)],[sxB 4 s.ver ad s.cs.length cap],X⟩) (Le.of (by exact ⟨O,O,O,O,O,O,trivial⟩) (by exact ⟨O,trivial⟩) (by exact O) (by exact O) (by repeat' (first|refine bR ?_ ?_|rfl|exact bT|exact bS|exact bU O))) O
      · rw [c1] at hCk
        (refine rgN<|aK O O O dP ?_;refine kca O O hCk<|kne O O (r:=false) O<|kmv O<|gmv O O O<|bK O O (cN (by omega)) (dQ O O) ?_;refine kpf O O<|kmv O<|aC O O O<|aC O O O<|kpt O O<|kmv O<|aC O O O<|aC O O O<|kpt O O<|kmv O<|aC O O O<|aC O O O<|kpt O O<|aB ?_)
        exact Leads.here (σ':=⟨[(65,Lb true),(1,Ln .i64 archs),(2,Ln .i64 rows),(3,.sv (.one (.val (.slice aad acs.length acap)))),(4,Lp 4),(9,LnilG)],[sxB 4 s.ver ad s.cs.length cap],X⟩) (Le.of (by exact ⟨O,O,O,O,O,O,trivial⟩) (by exact ⟨O,trivial⟩) (by exact O) (by exact O) (by repeat' (first|refine bR ?_ ?_|rfl|exact bT|exact bS|exact bU O))) O
      · rw [c1] at hCk
        (refine rgN<|aK O O O dP ?_;refine kca O O hCk<|kne O O (r:=false) O<|kmv O<|gmv O O O<|bK O O (cL (by omega)) (dQ O O) ?_;refine kpf O O<|kmv O<|gmv O O O<|aS O O (cN (by omega)) (dQ O O) ?_;refine kpf O O<|kmv O<|aC O O O<|aC O O O<|kpt O O<|kmv O<|aC O O O<|aC O O O<|kpt O O<|aB ?_)
        exact Leads.here (σ':=⟨[(65,Lb true),(1,Ln .i64 archs),(2,Ln .i64 rows),(3,.sv (.one (.val (.slice aad acs.length acap)))),(4,Lp 4),(9,LnilG)],[sxB 4 s.ver ad s.cs.length cap],X⟩) (Le.of (by exact ⟨O,O,O,O,O,O,trivial⟩) (by exact ⟨O,trivial⟩) (by exact O) (by exact O) (by repeat' (first|refine bR ?_ ?_|rfl|exact bT|exact bS|exact bU O))) O
      · rw [c1] at hCk
        (refine rgN<|aK O O O dP ?_;refine kca O O hCk<|kne O O (r:=false) O<|kmv O<|gmv O O O<|bK O O (cL (by omega)) (dQ O O) ?_;refine kpf O O<|kmv O<|gmv O O O<|aS O O (cL (by omega)) (dQ O O) ?_;refine kpf O O<|kmv O<|gmv O O O<|bK O O (cN (by omega)) (dQ O O) ?_;refine kpf O O<|kmv O<|aC O O O<|aC O O O<|kpt O O<|aB ?_)
        exact Leads.here (σ':=⟨[(65,Lb true),(1,Ln .i64 archs),(2,Ln .i64 rows),(3,.sv (.one (.val (.slice aad acs.length acap)))),(4,Lp 4),(9,LnilG)],[sxB 4 s.ver ad s.cs.length cap],X⟩) (Le.of (by exact ⟨O,O,O,O,O,O,trivial⟩) (by exact ⟨O,trivial⟩) (by exact O) (by exact O) (by repeat' (first|refine bR ?_ ?_|rfl|exact bT|exact bS|exact bU O))) O
      · rw [c1] at hCk
        (refine rgN<|aK O O O dP ?_;refine kca O O hCk<|kne O O (r:=false) O<|kmv O<|gmv O O O<|bK O O (cL (by omega)) (dQ O O) ?_;refine kpf O O<|kmv O<|gmv O O O<|aS O O (cL (by omega)) (dQ O O) ?_;refine kpf O O<|kmv O<|gmv O O O<|bK O O (cL (by omega)) (dQ O O) ?_;refine kpf O O<|kmv O<|gmv O O O<|aS O O (cN (by omega)) (dQ O O) ?_;refine kpf O O<|aB ?_)
        exact Leads.here (σ':=⟨[(65,Lb true),(1,Ln .i64 archs),(2,Ln .i64 rows),(3,.sv (.one (.val (.slice aad acs.length acap)))),(4,Lp 4),(9,LnilG)],[sxB 4 s.ver ad s.cs.length cap],X⟩) (Le.of (by exact ⟨O,O,O,O,O,O,trivial⟩) (by exact ⟨O,trivial⟩) (by exact O) (by exact O) (by repeat' (first|refine bR ?_ ?_|rfl|exact bT|exact bS|exact bU O))) O
    rintro σ rfl
    have n1:=gMake_nil X 0
    have n2:=gStep_nil X 0 1 true
    have n3:=gFind_nil X 0
    have n4:=gLen_nil X
    have n5:=gRoom_nil X
    have n6:=gWays_nil X
    have n7:=gSigs_nil X
    have n8:=gTable_nil X 0
    have n9:=gKnows_nil X 0 1 true
    have n10:=gClone_nil X
    have n11:=gSchema_nil X
    (refine aE O ?_;refine aA<|rgN<|kmv O<|kca O O n1<|kmv O<|kex O O<|kex O O<|kas O<|kas O<|aB<|aA<|rgN<|kmv O<|kca O O n2 ?_;refine kmv O<|kex O O<|kex O O<|kas O<|kas O<|aB<|aA<|rgN<|kmv O<|kca O O n3<|kmv O<|kex O O<|kex O O<|kas O ?_;refine kas O<|aB<|aA<|rgN<|kmv O<|K.nilNil O (by kernel_rfl) (.inl ⟨O,O⟩) dP<|kmv O<|gmv O O O<|bC O O (r:=true) O (dQ O O) ?_;refine kpt O O<|kmv O<|gmv O O O<|bC O O (r:=true) O (dQ O O) ?_;refine kpt O O<|kmv O<|gmv O O O<|aV O O (dQ O O) ?_;refine kpt O O<|kmv O<|gmv O O O<|gca O O n4 O O<|gmv O O O<|gca O O n5 O O<|K.add O O (c:=0) O (dQ O O) ?_;refine gmv O O O<|gca O O n6 O O<|K.add O O (c:=0) O (dQ O O) ?_;refine gmv O O O<|gca O O n7 O O<|aQ O bY O (dQ O O) ?_;refine K.add O O (c:=0) O (dQ O O) ?_;refine bC O O (r:=true) O (dQ O O) ?_;refine kpt O O<|kmv O<|gmv O O O<|gca O O n8 O O<|K.nilNil O (by kernel_rfl) (.inl ⟨O,O⟩) (dQ O O) ?_;refine kpt O O<|kmv O<|gmv O O O<|gca O O n9 O O<|aV O O (dQ O O) ?_;refine kpt O O<|kmv O<|gmv O O O<|gca O O n10 O O<|K.nilNil O (by kernel_rfl) (.inl ⟨O,O⟩) (dQ O O) ?_;refine kpt O O<|kmv O<|gmv O O O<|gca O O n11 O O<|K.fieldOne O Tryz.underlying24 O (by kernel_rfl) O (dQ O O) ?_;refine aQ O bY O (dQ O O) ?_;refine bC O O (r:=true) O (dQ O O) ?_;refine kpt O O<|kas O<|aB<|aI ?_)
    exact ⟨[_],⟨O,trivial⟩,O⟩
  | true =>
  obtain ⟨c1,c2,c3,c4,c5⟩:=goodG_facts hgt
  obtain ⟨archs,rfl⟩:=Int.eq_ofNat_of_zero_le (show 0≤archs by omega)
  obtain ⟨rows,rfl⟩:=Int.eq_ofNat_of_zero_le (show 0≤rows by omega)
  rw [c1] at hCk
  have hN:=gNew X s archs rows ad cap hin hmn ⟨s1,s2⟩ hgt
  (refine aA<|rgN<|aL O O O dP<|kas O<|aB<|aA<|aA<|rgN<|kca O O (hW)<|aV O O dP<|aB<|aF O ?_;refine aH ?_;refine aA<|aA<|rgN<|aK O O O dP ?_;refine kca O O hG<|kmv O<|gmv O O O<|aQ O bY O (dQ O O) ?_;refine aS O O (cL (by omega)) (dQ O O) ?_;refine kpf O O<|aB<|aF O ?_;refine aH ?_;refine aA<|rgN<|aK O O O dP ?_;refine kmv O<|kmv O<|bE [(1000001,500)] (Lp 500) [gB 500 ⟨s,archs,rows,[],[]⟩] (hN) O O (by exact trivial) O O O O O (by exact (.box O O .nil)) dP<|kas O<|aB<|aA<|aA<|rgN<|aK O O O dP ?_;refine kca O O hCk<|kne O O (r:=false) O<|kmv O<|gmv O O O<|bK O O (cL (by omega)) (dQ O O) ?_;refine kpf O O<|kmv O<|gmv O O O<|aS O O (cL (by omega)) (dQ O O) ?_;refine kpf O O<|kmv O<|gmv O O O<|bK O O (cL (by omega)) (dQ O O) ?_;refine kpf O O<|kmv O<|gmv O O O<|aS O O (cL (by omega)) (dQ O O) ?_;refine kpf O O<|aB<|aF O ?_;refine aH ?_;refine aA<|rgN<|aK O O O dP ?_;refine kmv O<|aT O O (by exact O) (by exact nl5 O O O O O O) dP ?_;refine aL O O O dP<|kas O<|aB<|aA<|aA<|rgN<|kas O<|aB<|aG ?_)
  have hOk0:GrOk ⟨s,archs,rows,[],[]⟩:=GrOk.new hgt
  refine LWP.le (σ':=⟨[(1,Ln .i64 (archs:Nat)),(2,Ln .i64 (rows:Nat)),(3,.sv (.one (.val (.slice aad acs.length acap)))),(4,Lp 4),(9,Lp 500),(16,Lp 135),(17,Ln .i64 (0:Nat))],[rgO 135 ⟨s,archs,rows,[],[]⟩ ad cap none 0 none 0,gB 500 ⟨s,archs,rows,[],[]⟩,sxB 4 s.ver ad s.cs.length cap],X⟩) (Le.of (by exact ⟨O,O,O,O,O,O,O,trivial⟩) (by exact ⟨O,O,O,trivial⟩) (by exact O) (by exact O) (by repeat' (first|refine bR ?_ ?_|rfl|exact bT|exact bS|exact bU O))) ?_
  refine rg_new O O ?_
  obtain ⟨g0,hg0⟩:∃ g0:Gr,(⟨s,archs,rows,[],[]⟩:Gr)=g0:=⟨_,rfl⟩
  have hi0:GrOk g0∧g0.sc=s∧g0.archs=archs∧g0.rows=rows∧g0.w.length≤2*0:=by rw [← hg0];exact ⟨hOk0,rfl,rfl,rfl,dL _⟩
  rw [hg0]
  clear hN hW hG hgt hCk hOk0 hg0
  refine LWP.le (σ':=⟨[(1,Ln .i64 (archs:Nat)),(2,Ln .i64 (rows:Nat)),(3,.sv (.one (.val (.slice aad acs.length acap)))),(4,Lp 4),(9,Lp 500),(16,Lp 135),(17,Ln .i64 (0:Nat))],[gB 500 (g0),rgB 135 ad cap (g0),sxB 4 s.ver ad s.cs.length cap],X⟩) (Le.of (by exact ⟨O,O,O,O,O,O,O,trivial⟩) (by exact ⟨O,O,O,trivial⟩) (by exact O) (by exact O) (by repeat' (first|refine bR ?_ ?_|rfl|exact bT|exact bS|exact bU O))) ?_
  refine cJ (fun z σ=>∃ (i:Nat) (g:Gr) (Y:Nat→Option Obj),i≤acs.length∧z=acs.length-i∧(GrOk g∧g.sc=s∧g.archs=archs∧g.rows=rows∧g.w.length≤2*i)∧(∀ b o,X b=some o→Y b=some o)∧σ=⟨[(1,Ln .i64 (archs:Nat)),(2,Ln .i64 (rows:Nat)),(3,.sv (.one (.val (.slice aad acs.length acap)))),(4,Lp 4),(9,Lp 500),(16,Lp 135),(17,Ln .i64 (i:Nat))],[gB 500 (g),rgB 135 ad cap (g),sxB 4 s.ver ad s.cs.length cap],Y⟩) acs.length
    (bZ ⟨0,g0,X,by omega,by omega,hi0,fun _ _ h=>h,rfl⟩) ?_
  clear hi0
  clear g0
  rintro z σ ⟨i,g,Y,hi,rfl,⟨hkg,hgs,hga,hgr,hwl⟩,hXY,rfl⟩
  have hinY:CompsIn Y ad g.sc.cs:=by rw [hgs];exact hin.mono hXY
  have hcs:g.sc.cs.length≤30:=by rw [hgs];exact s1
  by_cases hlt:i<acs.length
  case neg =>
    have hf2:∀ c∈s.cs,c.fs.length<4611686018427387904:=fun c hc=>by have:=s2 c hc;omega
    refine g_open fun H vals hO hI0 => ?_
    have hSc:=gSchema (joinM Y H) (g_in hO hI0)
    rw [hgs] at hSc
    have hinM:CompsIn (joinM Y H) ad s.cs:=(hin.mono hXY).mono fun b o h=>joinM_has hO h
    (refine aA<|aA<|rgN<|kmv O<|kmv O<|aQ O bY O dP ?_;refine klt O O (cL (by omega))<|aB<|aF O ?_;refine aJ<|aA<|rgD mixed<|kmv O<|bE [(1000000,500),(1000001,601)] (.sv (.agg [.val (.int .i64 s.ver),.slc 601 0 s.cs.length 3])) [gO 500 vals,scB 601 s.cs] (hSc) O O (by exact (cO ⟨_,O,(bW _ _ _ _)⟩ trivial)) (by exact (bR bS O)) O O O O (by exact (.box O (bW _ _ _ _) (.box O O .nil))) dP<|aK O O O dP ?_;refine K.callL [601] O O O (same_made (joinM Y H) hinM (by omega) hf2 O) dP ?_;refine kas O<|aB<|rgA ?_;refine aI ?_)
    exact ⟨[_],⟨O,trivial⟩,O⟩
  have hAY:=hA.mono hXY
  obtain ⟨a,ha⟩:∃ a,acs[i]? = some a:=⟨_,cW hlt⟩
  obtain ⟨ab,ao,arr,el,fr,rfl,hX,hsz,hcells⟩:=hAY.at ha
  obtain ⟨ak,aset,ai,ac⟩:=hA.small a (dB ha)
  have hao:ao+Int.toNat (i:Int)*5=ao+i*5:=by simp
  have hadd:IntKind.i64.wrap (((i:Nat):Int)+1)=((i+1:Nat):Int):=by rw [cF (by omega)];omega
  (refine aA<|aA<|rgN<|kmv O<|kmv O<|aQ O bY O dP ?_;refine klt O O (cN (by omega))<|aB<|aE O ?_;refine aH ?_;refine aA<|aG<|aA<|rgN<|kmv O<|kmv O<|aR O O bY (by omega) hao dP<|aY O hX (by kernel_rfl) hsz hcells dP<|aP O dP ?_;refine aM O O O O O O dP ?_;refine aB<|aA<|aA ?_)
  clear hX hsz hcells hao
  repeat refine aA ?_
  refine LWP.meetL (fun σ=>σ=⟨[(147,Ln .i64 a.kind),(1,Ln .i64 (archs:Nat)),(2,Ln .i64 (rows:Nat)),(3,.sv (.one (.val (.slice (some ⟨ab,ao,none⟩) acs.length acap)))),(4,Lp 4),(9,Lp 500),(16,Lp 135),(17,Ln .i64 (i:Nat)),(18,Lp 18)],[gB 500 (g),rgB 135 ad cap (g),sxB 4 s.ver ad s.cs.length cap,(18,some ⟨53,[.val (.int .i64 a.kind),.val (.int .u32 (a.set:Nat)),.val (.int .i64 a.i),.val (.int .i64 a.c),.val (.bool a.a)],false⟩)],Y⟩) ?_ ?_
  · repeat (first|refine aA ?_|refine aG ?_)
    (refine rgN<|kfa O O ?_;refine kl1 O O O<|aB ?_)
    exact Leads.here (σ':=⟨[(147,Ln .i64 a.kind),(1,Ln .i64 (archs:Nat)),(2,Ln .i64 (rows:Nat)),(3,.sv (.one (.val (.slice (some ⟨ab,ao,none⟩) acs.length acap)))),(4,Lp 4),(9,Lp 500),(16,Lp 135),(17,Ln .i64 (i:Nat)),(18,Lp 18)],[gB 500 (g),rgB 135 ad cap (g),sxB 4 s.ver ad s.cs.length cap,(18,some ⟨53,[.val (.int .i64 a.kind),.val (.int .u32 (a.set:Nat)),.val (.int .i64 a.i),.val (.int .i64 a.c),.val (.bool a.a)],false⟩)],Y⟩) (Le.of (by exact ⟨O,O,O,O,O,O,O,O,O,trivial⟩) (by exact ⟨O,O,O,O,trivial⟩) (by exact O) (by exact O) (by repeat' (first|refine bR ?_ ?_|rfl|exact bT|exact bS|exact bU O))) O
  rintro σ rfl
  repeat refine aA ?_
  refine LWP.meetL (fun σ=>∃ u:Gr,GrOk u∧u.sc=s∧u.archs=archs∧u.rows=rows∧u.w.length≤2*i+2∧σ=⟨[(1,Ln .i64 (archs:Nat)),(2,Ln .i64 (rows:Nat)),(3,.sv (.one (.val (.slice (some ⟨ab,ao,none⟩) acs.length acap)))),(4,Lp 4),(9,Lp 500),(16,Lp 135),(17,Ln .i64 (i:Nat)),(18,Lp 18)],[gB 500 (u),rgB 135 ad cap (u),sxB 4 s.ver ad s.cs.length cap,(18,some ⟨53,[.val (.int .i64 a.kind),.val (.int .u32 (a.set:Nat)),.val (.int .i64 a.i),.val (.int .i64 a.c),.val (.bool a.a)],false⟩)],Y⟩) ?_ ?_
  · by_cases c1:a.kind=1
    · have hMa:=gMake Y g hkg a.set aset
      have hRm:=kMake Y g a.set ad cap hinY hcs hkg aset
      have hku:=hkg.make aset
      have hu:(makeG g a.set).sc=s∧(makeG g a.set).archs=archs∧(makeG g a.set).rows=rows∧(makeG g a.set).w.length≤2*i+2:=⟨hgs,hga,hgr,by show g.w.length≤_;omega⟩
      generalize makeE g a.set=e at *
      generalize makeN g a.set=nn at *
      generalize makeG g a.set=u at *
      (refine aG<|aA<|rgN<|keq O O (r:=true) (cS c1)<|kas O<|aB<|aE O ?_;refine aA<|rgN<|kmv O<|kfa O O ?_;refine kl1 O O O<|aU [(1000000,500)] [gB 500 u] (hMa) O O (by exact (cO ⟨_,O,O⟩ trivial)) (by exact (bR O O)) O O O O (by exact (.box O O .nil)) dP<|kmv O<|kex O O<|kex O O<|kas O<|kas O<|aB<|aA<|rgN<|kmv O<|kfa O O ?_;refine kl1 O O O<|aU [(1000000,135)] [rgB 135 ad cap u] (hRm) O O (by exact (cO ⟨_,O,O⟩ trivial)) (by exact (bR O O)) O O O O (by exact (.box O O .nil)) dP<|kmv O<|kex O O<|kex O O<|kas O<|kas O<|aB<|aA<|rgN<|kmv O<|kmv O<|kne O O (r:=false) (cQ O)<|kmv O ?_;refine gmv O O O<|gmv O O O<|aX O O (r:=false) (cQ O) (dQ O O) ?_;refine kpf O O<|aB<|aF O ?_;refine aH ?_)
      exact Leads.here (σ':=⟨[(1,Ln .i64 (archs:Nat)),(2,Ln .i64 (rows:Nat)),(3,.sv (.one (.val (.slice (some ⟨ab,ao,none⟩) acs.length acap)))),(4,Lp 4),(9,Lp 500),(16,Lp 135),(17,Ln .i64 (i:Nat)),(18,Lp 18)],[gB 500 (u),rgB 135 ad cap (u),sxB 4 s.ver ad s.cs.length cap,(18,some ⟨53,[.val (.int .i64 a.kind),.val (.int .u32 (a.set:Nat)),.val (.int .i64 a.i),.val (.int .i64 a.c),.val (.bool a.a)],false⟩)],Y⟩) (Le.of (by exact ⟨O,O,O,O,O,O,O,O,trivial⟩) (by exact ⟨O,O,O,O,trivial⟩) (by exact O) (by exact O) (by repeat' (first|refine bR ?_ ?_|rfl|exact bT|exact bS|exact bU O))) ⟨u,hku,hu.1,hu.2.1,hu.2.2.1,hu.2.2.2,O⟩
    by_cases c234:a.kind=2∨a.kind=3∨a.kind=4
    · have hSt:=gStep Y g hkg a.i a.c a.a ai ac
      have hRs:=kStep Y g a.i a.c a.a ad cap hinY hcs hkg (by omega)
      have hku:=hkg.step a.i a.c a.a
      have hu:(stepG g a.i a.c a.a).sc=s∧(stepG g a.i a.c a.a).archs=archs∧(stepG g a.i a.c a.a).rows=rows∧(stepG g a.i a.c a.a).w.length≤2*i+2:=by
        obtain ⟨e1,e2,e3⟩:=step_same g a.i a.c a.a
        have e4:=step_ways g a.i a.c a.a
        exact ⟨e1.trans hgs,e2.trans hga,e3.trans hgr,by omega⟩
      generalize stepE g a.i a.c a.a=e at *
      generalize stepN g a.i a.c a.a=nn at *
      generalize stepG g a.i a.c a.a=u at *
      by_cases c2:a.kind=2
      · (refine aG<|aA<|rgN<|keq O O (r:=false) (cP c1)<|kas O<|aB<|aF O ?_;refine aA<|aA<|rgN<|keq O O (r:=true) (cS c2)<|kas O<|aB<|aE O ?_;refine aH ?_;refine aE O ?_;refine aA<|rgN<|kmv O<|kfa O O ?_;refine kl1 O O O<|kfa O O ?_;refine kl1 O O O<|kfa O O ?_;refine kl1 O O O<|aU [(1000000,500)] [gB 500 u] (hSt) O O (by exact (cO ⟨_,O,O⟩ trivial)) (by exact (bR O O)) O O O O (by exact (.box O O .nil)) dP<|kmv O<|kex O O<|kex O O<|kas O<|kas O<|aB<|aA<|rgN<|kmv O<|kfa O O ?_;refine kl1 O O O<|kfa O O ?_;refine kl1 O O O<|kfa O O ?_;refine kl1 O O O<|aT O O (by exact O) (by exact nl3 O O O O) dP ?_;refine aU [(1000000,135)] [rgB 135 ad cap u] (hRs) O O (by exact (cO ⟨_,O,O⟩ trivial)) (by exact (bR O O)) O O O O (by exact (.box O O .nil)) dP<|kmv O<|kex O O<|kex O O<|kas O<|kas O<|aB<|aA<|rgN<|kmv O<|kmv O<|kne O O (r:=false) (cQ O)<|kmv O<|gmv O O O ?_;refine gmv O O O<|aX O O (r:=false) (cQ O) (dQ O O) ?_;refine kpf O O<|aB<|aF O ?_;refine aH ?_)
        exact Leads.here (σ':=⟨[(1,Ln .i64 (archs:Nat)),(2,Ln .i64 (rows:Nat)),(3,.sv (.one (.val (.slice (some ⟨ab,ao,none⟩) acs.length acap)))),(4,Lp 4),(9,Lp 500),(16,Lp 135),(17,Ln .i64 (i:Nat)),(18,Lp 18)],[gB 500 (u),rgB 135 ad cap (u),sxB 4 s.ver ad s.cs.length cap,(18,some ⟨53,[.val (.int .i64 a.kind),.val (.int .u32 (a.set:Nat)),.val (.int .i64 a.i),.val (.int .i64 a.c),.val (.bool a.a)],false⟩)],Y⟩) (Le.of (by exact ⟨O,O,O,O,O,O,O,O,trivial⟩) (by exact ⟨O,O,O,O,trivial⟩) (by exact O) (by exact O) (by repeat' (first|refine bR ?_ ?_|rfl|exact bT|exact bS|exact bU O))) ⟨u,hku,hu.1,hu.2.1,hu.2.2.1,hu.2.2.2,O⟩
      by_cases c3:a.kind=3
      · (refine aG<|aA<|rgN<|keq O O (r:=false) (cP c1)<|kas O<|aB<|aF O ?_;refine aA<|aA<|rgN<|keq O O (r:=false) (cP c2)<|kas O<|aB<|aF O ?_;refine aA<|rgN<|keq O O (r:=true) (cS c3)<|kas O<|aB<|aE O ?_;refine aH ?_;refine aE O ?_;refine aA<|rgN<|kmv O<|kfa O O ?_;refine kl1 O O O<|kfa O O ?_;refine kl1 O O O<|kfa O O ?_;refine kl1 O O O<|aU [(1000000,500)] [gB 500 u] (hSt) O O (by exact (cO ⟨_,O,O⟩ trivial)) (by exact (bR O O)) O O O O (by exact (.box O O .nil)) dP<|kmv O<|kex O O<|kex O O<|kas O<|kas O<|aB<|aA<|rgN<|kmv O<|kfa O O ?_;refine kl1 O O O<|kfa O O ?_;refine kl1 O O O<|kfa O O ?_;refine kl1 O O O<|aT O O (by exact O) (by exact nl3 O O O O) dP ?_;refine aU [(1000000,135)] [rgB 135 ad cap u] (hRs) O O (by exact (cO ⟨_,O,O⟩ trivial)) (by exact (bR O O)) O O O O (by exact (.box O O .nil)) dP<|kmv O<|kex O O<|kex O O<|kas O<|kas O<|aB<|aA<|rgN<|kmv O<|kmv O<|kne O O (r:=false) (cQ O)<|kmv O<|gmv O O O ?_;refine gmv O O O<|aX O O (r:=false) (cQ O) (dQ O O) ?_;refine kpf O O<|aB<|aF O ?_;refine aH ?_)
        exact Leads.here (σ':=⟨[(1,Ln .i64 (archs:Nat)),(2,Ln .i64 (rows:Nat)),(3,.sv (.one (.val (.slice (some ⟨ab,ao,none⟩) acs.length acap)))),(4,Lp 4),(9,Lp 500),(16,Lp 135),(17,Ln .i64 (i:Nat)),(18,Lp 18)],[gB 500 (u),rgB 135 ad cap (u),sxB 4 s.ver ad s.cs.length cap,(18,some ⟨53,[.val (.int .i64 a.kind),.val (.int .u32 (a.set:Nat)),.val (.int .i64 a.i),.val (.int .i64 a.c),.val (.bool a.a)],false⟩)],Y⟩) (Le.of (by exact ⟨O,O,O,O,O,O,O,O,trivial⟩) (by exact ⟨O,O,O,O,trivial⟩) (by exact O) (by exact O) (by repeat' (first|refine bR ?_ ?_|rfl|exact bT|exact bS|exact bU O))) ⟨u,hku,hu.1,hu.2.1,hu.2.2.1,hu.2.2.2,O⟩
      have c4:a.kind=4:=by omega
      (refine aG<|aA<|rgN<|keq O O (r:=false) (cP c1)<|kas O<|aB<|aF O ?_;refine aA<|aA<|rgN<|keq O O (r:=false) (cP c2)<|kas O<|aB<|aF O ?_;refine aA<|rgN<|keq O O (r:=false) (cP c3)<|kas O<|aB<|aF O ?_;refine rgN<|keq O O (r:=true) (cS c4)<|kas O<|aB<|aE O ?_;refine aA<|rgN<|kmv O<|kfa O O ?_;refine kl1 O O O<|kfa O O ?_;refine kl1 O O O<|kfa O O ?_;refine kl1 O O O<|aU [(1000000,500)] [gB 500 u] (hSt) O O (by exact (cO ⟨_,O,O⟩ trivial)) (by exact (bR O O)) O O O O (by exact (.box O O .nil)) dP<|kmv O<|kex O O<|kex O O<|kas O<|kas O<|aB<|aA<|rgN<|kmv O<|kfa O O ?_;refine kl1 O O O<|kfa O O ?_;refine kl1 O O O<|kfa O O ?_;refine kl1 O O O<|aT O O (by exact O) (by exact nl3 O O O O) dP ?_;refine aU [(1000000,135)] [rgB 135 ad cap u] (hRs) O O (by exact (cO ⟨_,O,O⟩ trivial)) (by exact (bR O O)) O O O O (by exact (.box O O .nil)) dP<|kmv O<|kex O O<|kex O O<|kas O<|kas O<|aB<|aA<|rgN<|kmv O<|kmv O<|kne O O (r:=false) (cQ O)<|kmv O<|gmv O O O ?_;refine gmv O O O<|aX O O (r:=false) (cQ O) (dQ O O) ?_;refine kpf O O<|aB<|aF O ?_;refine aH ?_)
      exact Leads.here (σ':=⟨[(1,Ln .i64 (archs:Nat)),(2,Ln .i64 (rows:Nat)),(3,.sv (.one (.val (.slice (some ⟨ab,ao,none⟩) acs.length acap)))),(4,Lp 4),(9,Lp 500),(16,Lp 135),(17,Ln .i64 (i:Nat)),(18,Lp 18)],[gB 500 (u),rgB 135 ad cap (u),sxB 4 s.ver ad s.cs.length cap,(18,some ⟨53,[.val (.int .i64 a.kind),.val (.int .u32 (a.set:Nat)),.val (.int .i64 a.i),.val (.int .i64 a.c),.val (.bool a.a)],false⟩)],Y⟩) (Le.of (by exact ⟨O,O,O,O,O,O,O,O,trivial⟩) (by exact ⟨O,O,O,O,trivial⟩) (by exact O) (by exact O) (by repeat' (first|refine bR ?_ ?_|rfl|exact bT|exact bS|exact bU O))) ⟨u,hku,hu.1,hu.2.1,hu.2.2.1,hu.2.2.2,O⟩
    have c2:a.kind≠2:=by omega
    have c3:a.kind≠3:=by omega
    have c4:a.kind≠4:=by omega
    by_cases c5:a.kind=5
    · have hCl:=gClone Y g hkg
      (refine aG<|aA<|rgN<|keq O O (r:=false) (cP c1)<|kas O<|aB<|aF O ?_;refine aA<|aA<|rgN<|keq O O (r:=false) (cP c2)<|kas O<|aB<|aF O ?_;refine aA<|rgN<|keq O O (r:=false) (cP c3)<|kas O<|aB<|aF O ?_;refine rgN<|keq O O (r:=false) (cP c4)<|kas O<|aB<|aF O ?_;refine aA<|rgN<|keq O O (r:=true) (cS c5)<|kas O<|aB<|aE O ?_;refine rgN<|kmv O<|bE [(1000000,500),(1000001,601)] (Lp 601) [gB 500 g,gB 601 g] (hCl) O O (by exact (cO ⟨_,O,O⟩ trivial)) (by exact (bR O O)) O O O O (by exact (.box O O (.box O O .nil))) dP<|kas O<|aB ?_)
      exact Leads.here (σ':=⟨[(1,Ln .i64 (archs:Nat)),(2,Ln .i64 (rows:Nat)),(3,.sv (.one (.val (.slice (some ⟨ab,ao,none⟩) acs.length acap)))),(4,Lp 4),(9,Lp 500),(16,Lp 135),(17,Ln .i64 (i:Nat)),(18,Lp 18)],[gB 500 (g),rgB 135 ad cap (g),sxB 4 s.ver ad s.cs.length cap,(18,some ⟨53,[.val (.int .i64 a.kind),.val (.int .u32 (a.set:Nat)),.val (.int .i64 a.i),.val (.int .i64 a.c),.val (.bool a.a)],false⟩)],Y⟩) (Le.ofR [(500,601)] (by exact ⟨rfl,rfl,rfl,rfl,rfl,rfl,rfl,rfl,trivial⟩) (by repeat' (first|exact trivial|refine cO ⟨_,rfl,?_⟩ ?_|refine cO ⟨_,rfl⟩ ?_|rfl|exact bV _ _ _ _|exact bW _ _ _ _|exact bX rfl)) (by exact rfl) (by exact rfl) (by repeat' (first|refine bR ?_ ?_|rfl|exact bT|exact bS|exact bU rfl)) (by exact rfl) (by exact rfl)) ⟨g,hkg,hgs,hga,hgr,by omega,rfl⟩
    by_cases c6:a.kind=6
    · have hCl:=gClone Y g hkg
      have hMa:=gMake Y g hkg a.set aset
      have hkh:=hkg.make aset
      have hhw:(makeG g a.set).w.length≤2*i:=hwl
      generalize makeE g a.set=e at *
      generalize makeN g a.set=nn at *
      generalize makeG g a.set=h at *
      have hSt:=gStep Y h hkh 0 a.c a.a ⟨by decide,by decide⟩ ac
      have hkj:=hkh.step 0 a.c a.a
      generalize stepE h 0 a.c a.a=e2 at *
      generalize stepN h 0 a.c a.a=nn2 at *
      generalize stepG h 0 a.c a.a=j at *
      (refine aG<|aA<|rgN<|keq O O (r:=false) (cP c1)<|kas O<|aB<|aF O ?_;refine aA<|aA<|rgN<|keq O O (r:=false) (cP c2)<|kas O<|aB<|aF O ?_;refine aA<|rgN<|keq O O (r:=false) (cP c3)<|kas O<|aB<|aF O ?_;refine rgN<|keq O O (r:=false) (cP c4)<|kas O<|aB<|aF O ?_;refine aA<|rgN<|keq O O (r:=false) (cP c5)<|kas O<|aB<|aF O ?_;refine aA<|rgN<|keq O O (r:=true) (cS c6)<|kas O<|aB<|aE O ?_;refine aA<|rgN<|kmv O<|bE [(1000000,500),(1000001,601)] (Lp 601) [gB 500 g,gB 601 g] (hCl) O O (by exact (cO ⟨_,O,O⟩ trivial)) (by exact (bR O O)) O O O O (by exact (.box O O (.box O O .nil))) dP<|kas O<|aB<|aA<|rgN<|kmv O<|kfa O O ?_;refine kl1 O O O<|aU [(1000000,601)] [gB 601 h] (hMa) O O (by exact (cO ⟨_,O,O⟩ trivial)) (by exact (bR O O)) O O O O (by exact (.box O O .nil)) dP<|aB<|aA<|rgN<|kmv O<|kfa O O ?_;refine kl1 O O O<|kfa O O ?_;refine kl1 O O O<|aU [(1000000,601)] [gB 601 j] (hSt) O O (by exact (cO ⟨_,O,O⟩ trivial)) (by exact (bR O O)) O O O O (by exact (.box O O .nil)) dP<|aB ?_)
      cases hl0:j.l[0]? with
      | some q =>
        have hTk:=gTake Y j hkj 0 q hl0
        have hkt:TbOk (tbl j q):=tbl_ok hkj (dB hl0)
        by_cases hz:addE (tbl j q) 1 []=0
        · have hAd:=tAdd Y (tbl j q) hkt 1 (by decide) [] none 0 (parts_nil17 Y) ⟨by decide,fun x hx=>by cases hx⟩ hz
          (refine rgN<|kmv O<|bE [(1000000,601),(1000001,602)] (Lp 602) [gX 601,tB 602 (tbl j q)] (hTk) O O (by exact (cO ⟨_,O,O⟩ trivial)) (by exact (bR O O)) O O O O (by exact (.box O O (.box O O .nil))) dP<|aU [(1000000,602)] [tB 602 (addT (tbl j q) 1 [])] (hAd) O O (by exact (cO ⟨_,O,O⟩ trivial)) (by exact (bR O O)) O O O O (by exact (.box O O .nil)) dP<|aB ?_)
          exact Leads.here (σ':=⟨[(1,Ln .i64 (archs:Nat)),(2,Ln .i64 (rows:Nat)),(3,.sv (.one (.val (.slice (some ⟨ab,ao,none⟩) acs.length acap)))),(4,Lp 4),(9,Lp 500),(16,Lp 135),(17,Ln .i64 (i:Nat)),(18,Lp 18)],[gB 500 (g),rgB 135 ad cap (g),sxB 4 s.ver ad s.cs.length cap,(18,some ⟨53,[.val (.int .i64 a.kind),.val (.int .u32 (a.set:Nat)),.val (.int .i64 a.i),.val (.int .i64 a.c),.val (.bool a.a)],false⟩)],Y⟩) (Le.of (by exact ⟨O,O,O,O,O,O,O,O,trivial⟩) (by exact ⟨O,O,O,O,trivial⟩) (by exact O) (by exact O) (by repeat' (first|refine bR ?_ ?_|rfl|exact bT|exact bS|exact bU O))) ⟨g,hkg,hgs,hga,hgr,by omega,O⟩
        · have hAd:=tAdd_no Y (tbl j q) hkt 1 (by decide) [] none 0 (parts_nil17 Y) ⟨by decide,fun x hx=>by cases hx⟩ hz
          (refine rgN<|kmv O<|bE [(1000000,601),(1000001,602)] (Lp 602) [gX 601,tB 602 (tbl j q)] (hTk) O O (by exact (cO ⟨_,O,O⟩ trivial)) (by exact (bR O O)) O O O O (by exact (.box O O (.box O O .nil))) dP<|aU [(1000000,602)] [tB 602 (tbl j q)] (hAd) O O (by exact (cO ⟨_,O,O⟩ trivial)) (by exact (bR O O)) O O O O (by exact (.box O O .nil)) dP<|aB ?_)
          exact Leads.here (σ':=⟨[(1,Ln .i64 (archs:Nat)),(2,Ln .i64 (rows:Nat)),(3,.sv (.one (.val (.slice (some ⟨ab,ao,none⟩) acs.length acap)))),(4,Lp 4),(9,Lp 500),(16,Lp 135),(17,Ln .i64 (i:Nat)),(18,Lp 18)],[gB 500 (g),rgB 135 ad cap (g),sxB 4 s.ver ad s.cs.length cap,(18,some ⟨53,[.val (.int .i64 a.kind),.val (.int .u32 (a.set:Nat)),.val (.int .i64 a.i),.val (.int .i64 a.c),.val (.bool a.a)],false⟩)],Y⟩) (Le.of (by exact ⟨O,O,O,O,O,O,O,O,trivial⟩) (by exact ⟨O,O,O,O,trivial⟩) (by exact O) (by exact O) (by repeat' (first|refine bR ?_ ?_|rfl|exact bT|exact bS|exact bU O))) ⟨g,hkg,hgs,hga,hgr,by omega,O⟩
      | none =>
        refine LWP.le (σ':=⟨[(1,Ln .i64 (archs:Nat)),(2,Ln .i64 (rows:Nat)),(3,.sv (.one (.val (.slice (some ⟨ab,ao,none⟩) acs.length acap)))),(4,Lp 4),(9,Lp 500),(16,Lp 135),(17,Ln .i64 (i:Nat)),(18,Lp 18),(27,Lp 601)],[gB 601 j,gB 500 (g),rgB 135 ad cap (g),sxB 4 s.ver ad s.cs.length cap,(18,some ⟨53,[.val (.int .i64 a.kind),.val (.int .u32 (a.set:Nat)),.val (.int .i64 a.i),.val (.int .i64 a.c),.val (.bool a.a)],false⟩)],Y⟩) (Le.of (by exact ⟨O,O,O,O,O,O,O,O,O,trivial⟩) (by exact ⟨O,O,O,O,O,trivial⟩) (by exact O) (by exact O) (by repeat' (first|refine bR ?_ ?_|rfl|exact bT|exact bS|exact bU O))) ?_
        refine g_open fun H vals hO hI0 => ?_
        have hT:=gTable_no (joinM Y H) (g_in hO hI0) hkj 0 (by unfold rowG;rw [List.getElem?_eq_none_iff.1 hl0 |> Nat.le_zero.1];rfl)
        have hAd:=tAdd_nil (joinM Y H) 1 none 0 0
        (refine rgN<|kmv O<|aU [(1000000,601)] [gO 601 vals] (hT) O O (by exact (cO ⟨_,O,(bW _ _ _ _)⟩ trivial)) (by exact (bR bS O)) O O O O (by exact (.box O (bW _ _ _ _) .nil)) dP<|kca O O hAd<|aB ?_)
        refine cA (σ':=⟨[(1,Ln .i64 (archs:Nat)),(2,Ln .i64 (rows:Nat)),(3,.sv (.one (.val (.slice (some ⟨ab,ao,none⟩) acs.length acap)))),(4,Lp 4),(9,Lp 500),(16,Lp 135),(17,Ln .i64 (i:Nat)),(18,Lp 18)],[gO 601 vals,gB 500 (g),rgB 135 ad cap (g),sxB 4 s.ver ad s.cs.length cap,(18,some ⟨53,[.val (.int .i64 a.kind),.val (.int .u32 (a.set:Nat)),.val (.int .i64 a.i),.val (.int .i64 a.c),.val (.bool a.a)],false⟩)],joinM Y H⟩) (Le.of (by exact ⟨O,O,O,O,O,O,O,O,trivial⟩) (by exact ⟨O,O,O,O,O,trivial⟩) (by exact O) (by exact O) (by repeat' (first|refine bR ?_ ?_|rfl|exact bT|exact bS|exact bU O))) ?_
        refine g_shut hO hI0 ?_
        exact Leads.here (σ':=⟨[(1,Ln .i64 (archs:Nat)),(2,Ln .i64 (rows:Nat)),(3,.sv (.one (.val (.slice (some ⟨ab,ao,none⟩) acs.length acap)))),(4,Lp 4),(9,Lp 500),(16,Lp 135),(17,Ln .i64 (i:Nat)),(18,Lp 18)],[gB 500 (g),rgB 135 ad cap (g),sxB 4 s.ver ad s.cs.length cap,(18,some ⟨53,[.val (.int .i64 a.kind),.val (.int .u32 (a.set:Nat)),.val (.int .i64 a.i),.val (.int .i64 a.c),.val (.bool a.a)],false⟩)],Y⟩) (Le.of (by exact ⟨O,O,O,O,O,O,O,O,trivial⟩) (by exact ⟨O,O,O,O,trivial⟩) (by exact O) (by exact O) (by repeat' (first|refine bR ?_ ?_|rfl|exact bT|exact bS|exact bU O))) ⟨g,hkg,hgs,hga,hgr,by omega,O⟩
    (refine aG<|aA<|rgN<|keq O O (r:=false) (cP c1)<|kas O<|aB<|aF O ?_;refine aA<|aA<|rgN<|keq O O (r:=false) (cP c2)<|kas O<|aB<|aF O ?_;refine aA<|rgN<|keq O O (r:=false) (cP c3)<|kas O<|aB<|aF O ?_;refine rgN<|keq O O (r:=false) (cP c4)<|kas O<|aB<|aF O ?_;refine aA<|rgN<|keq O O (r:=false) (cP c5)<|kas O<|aB<|aF O ?_;refine aA<|rgN<|keq O O (r:=false) (cP c6)<|kas O<|aB<|aF O ?_;refine aH ?_)
    exact Leads.here (σ':=⟨[(1,Ln .i64 (archs:Nat)),(2,Ln .i64 (rows:Nat)),(3,.sv (.one (.val (.slice (some ⟨ab,ao,none⟩) acs.length acap)))),(4,Lp 4),(9,Lp 500),(16,Lp 135),(17,Ln .i64 (i:Nat)),(18,Lp 18)],[gB 500 (g),rgB 135 ad cap (g),sxB 4 s.ver ad s.cs.length cap,(18,some ⟨53,[.val (.int .i64 a.kind),.val (.int .u32 (a.set:Nat)),.val (.int .i64 a.i),.val (.int .i64 a.c),.val (.bool a.a)],false⟩)],Y⟩) (Le.of (by exact ⟨O,O,O,O,O,O,O,O,trivial⟩) (by exact ⟨O,O,O,O,trivial⟩) (by exact O) (by exact O) (by repeat' (first|refine bR ?_ ?_|rfl|exact bT|exact bS|exact bU O))) ⟨g,hkg,hgs,hga,hgr,by omega,O⟩
  rintro σ ⟨u,hku,hus,hua,hur,huw,rfl⟩
  clear hinY hcs hgs hga hgr hwl hkg hAY ak
  clear g
  repeat refine aA ?_
  refine LWP.meetL (fun σ=>∃ (Z:Nat→Option Obj) (lad0:Option Addr) (lc0:Nat),(∀ b o,Y b=some o→Z b=some o)∧U32In Z lad0 u.l∧σ=⟨[(28,.sv (.one (.val (.slice lad0 u.l.length lc0)))),(1,Ln .i64 (archs:Nat)),(2,Ln .i64 (rows:Nat)),(3,.sv (.one (.val (.slice (some ⟨ab,ao,none⟩) acs.length acap)))),(4,Lp 4),(9,Lp 500),(16,Lp 135),(17,Ln .i64 (i:Nat)),(18,Lp 18)],[gB 500 (u),rgB 135 ad cap (u),sxB 4 s.ver ad s.cs.length cap,(18,some ⟨53,[.val (.int .i64 a.kind),.val (.int .u32 (a.set:Nat)),.val (.int .i64 a.i),.val (.int .i64 a.c),.val (.bool a.a)],false⟩)],Z⟩) ?_ ?_
  · refine g_open fun H vals hO hI0 => ?_
    have hI:=g_in hO hI0
    cases hmm:gMade u.l.length with
    | false =>
      have hE:=gSigs_none (joinM Y H) hI hku hmm
      have hz:=gMade_zero hmm
      (refine rgN<|kmv O<|aU [(1000000,500)] [gO 500 vals] (hE) O O (by exact (cO ⟨_,O,(bW _ _ _ _)⟩ trivial)) (by exact (bR bS O)) O O O O (by exact (.box O (bW _ _ _ _) .nil)) dP<|kas O<|aB ?_)
      refine cA (σ':=⟨[(28,.sv (.one (.val (.slice none 0 0)))),(1,Ln .i64 (archs:Nat)),(2,Ln .i64 (rows:Nat)),(3,.sv (.one (.val (.slice (some ⟨ab,ao,none⟩) acs.length acap)))),(4,Lp 4),(9,Lp 500),(16,Lp 135),(17,Ln .i64 (i:Nat)),(18,Lp 18)],[gO 500 vals,rgB 135 ad cap (u),sxB 4 s.ver ad s.cs.length cap,(18,some ⟨53,[.val (.int .i64 a.kind),.val (.int .u32 (a.set:Nat)),.val (.int .i64 a.i),.val (.int .i64 a.c),.val (.bool a.a)],false⟩)],joinM Y H⟩) (Le.of (by exact ⟨O,O,O,O,O,O,O,O,O,trivial⟩) (by exact ⟨O,O,O,O,trivial⟩) (by exact O) (by exact O) (by repeat' (first|refine bR ?_ ?_|rfl|exact bT|exact bS|exact bU O))) ?_
      refine g_shut hO hI0 ?_
      exact Leads.here (σ':=⟨[(28,.sv (.one (.val (.slice none 0 0)))),(1,Ln .i64 (archs:Nat)),(2,Ln .i64 (rows:Nat)),(3,.sv (.one (.val (.slice (some ⟨ab,ao,none⟩) acs.length acap)))),(4,Lp 4),(9,Lp 500),(16,Lp 135),(17,Ln .i64 (i:Nat)),(18,Lp 18)],[gB 500 (u),rgB 135 ad cap (u),sxB 4 s.ver ad s.cs.length cap,(18,some ⟨53,[.val (.int .i64 a.kind),.val (.int .u32 (a.set:Nat)),.val (.int .i64 a.i),.val (.int .i64 a.c),.val (.bool a.a)],false⟩)],Y⟩) (Le.of (by exact ⟨rfl,rfl,rfl,rfl,rfl,rfl,rfl,rfl,rfl,trivial⟩) (by exact ⟨rfl,rfl,rfl,rfl,trivial⟩) (by exact rfl) (by exact rfl) (by repeat' (first|refine bR ?_ ?_|rfl|exact bT|exact bS|exact bU rfl))) ⟨Y,none,0,fun _ _ h=>h,by rw [List.eq_nil_of_length_eq_zero hz];exact U32In.nil,by rw [hz]⟩
    | true =>
      have hE:=gSigs (joinM Y H) hI hku hmm
      (refine rgN<|kmv O<|bE [(1000000,500),(1000001,601)] (.sv (.one (.slc 601 0 u.l.length 1))) [gO 500 vals,sgB 601 u.l] (hE) O O (by exact (cO ⟨_,O,(bW _ _ _ _)⟩ trivial)) (by exact (bR bS O)) O O O O (by exact (.box O (bW _ _ _ _) (.box O (bW _ _ _ _) .nil))) dP<|kas O<|aB ?_)
      refine cA (σ':=⟨[(28,.sv (.one (.slc 601 0 u.l.length 1))),(1,Ln .i64 (archs:Nat)),(2,Ln .i64 (rows:Nat)),(3,.sv (.one (.val (.slice (some ⟨ab,ao,none⟩) acs.length acap)))),(4,Lp 4),(9,Lp 500),(16,Lp 135),(17,Ln .i64 (i:Nat)),(18,Lp 18)],[gO 500 vals,sgB 601 u.l,rgB 135 ad cap (u),sxB 4 s.ver ad s.cs.length cap,(18,some ⟨53,[.val (.int .i64 a.kind),.val (.int .u32 (a.set:Nat)),.val (.int .i64 a.i),.val (.int .i64 a.c),.val (.bool a.a)],false⟩)],joinM Y H⟩) (Le.of (by exact ⟨O,O,O,O,O,O,O,O,O,trivial⟩) (by exact ⟨O,O,O,O,O,trivial⟩) (by exact O) (by exact O) (by repeat' (first|refine bR ?_ ?_|rfl|exact bT|exact bS|exact bU O))) ?_
      refine g_shut hO hI0 ?_
      refine cA (σ':=⟨[(28,.sv (.one (.slc 601 0 u.l.length 1))),(1,Ln .i64 (archs:Nat)),(2,Ln .i64 (rows:Nat)),(3,.sv (.one (.val (.slice (some ⟨ab,ao,none⟩) acs.length acap)))),(4,Lp 4),(9,Lp 500),(16,Lp 135),(17,Ln .i64 (i:Nat)),(18,Lp 18)],[sgB 601 u.l,gB 500 (u),rgB 135 ad cap (u),sxB 4 s.ver ad s.cs.length cap,(18,some ⟨53,[.val (.int .i64 a.kind),.val (.int .u32 (a.set:Nat)),.val (.int .i64 a.i),.val (.int .i64 a.c),.val (.bool a.a)],false⟩)],Y⟩) (Le.of (by exact ⟨O,O,O,O,O,O,O,O,O,trivial⟩) (by exact ⟨O,O,O,O,O,trivial⟩) (by exact O) (by exact O) (by repeat' (first|refine bR ?_ ?_|rfl|exact bT|exact bS|exact bU O))) ?_
      refine Leads.freeze O (by repeat' (first|refine bR ?_ ?_|rfl|exact bS)) O fun blk c2 arr fr hn _ _ _ hsp => ?_
      exact Leads.here (σ':=⟨[(28,.sv (.one (.val (.slice (some ⟨blk,0,none⟩) u.l.length c2)))),(1,Ln .i64 (archs:Nat)),(2,Ln .i64 (rows:Nat)),(3,.sv (.one (.val (.slice (some ⟨ab,ao,none⟩) acs.length acap)))),(4,Lp 4),(9,Lp 500),(16,Lp 135),(17,Ln .i64 (i:Nat)),(18,Lp 18)],[gB 500 (u),rgB 135 ad cap (u),sxB 4 s.ver ad s.cs.length cap,(18,some ⟨53,[.val (.int .i64 a.kind),.val (.int .u32 (a.set:Nat)),.val (.int .i64 a.i),.val (.int .i64 a.c),.val (.bool a.a)],false⟩)],withBlock Y blk (.cells arr 35 fr)⟩) (Le.of (by exact ⟨O,O,O,O,O,O,O,O,O,trivial⟩) (by exact ⟨O,O,O,O,trivial⟩) (by exact O) (by exact O) (by repeat' (first|refine bR ?_ ?_|rfl|exact bT|exact bS|exact bU O))) ⟨_,some ⟨blk,0,none⟩,c2,cG hn,u32_frozen hsp,O⟩
  rintro σ ⟨Z,lad0,lc0,hZ,hU,rfl⟩
  have hm:=hku.archs
  have hro:=hku.room
  refine g_open fun H vals hO hI0 => ?_
  refine LWP.le (σ':=⟨[(28,.sv (.one (.val (.slice lad0 u.l.length lc0)))),(1,Ln .i64 (archs:Nat)),(2,Ln .i64 (rows:Nat)),(3,.sv (.one (.val (.slice (some ⟨ab,ao,none⟩) acs.length acap)))),(4,Lp 4),(9,Lp 500),(16,Lp 135),(17,Ln .i64 (i:Nat)),(18,Lp 18)],[rgB 135 ad cap u,gO 500 vals,sxB 4 s.ver ad s.cs.length cap,(18,some ⟨53,[.val (.int .i64 a.kind),.val (.int .u32 (a.set:Nat)),.val (.int .i64 a.i),.val (.int .i64 a.c),.val (.bool a.a)],false⟩)],joinM Z H⟩) (Le.of (by exact ⟨O,O,O,O,O,O,O,O,O,trivial⟩) (by exact ⟨O,O,O,O,trivial⟩) (by exact O) (by exact O) (by repeat' (first|refine bR ?_ ?_|rfl|exact bT|exact bS|exact bU O))) ?_
  refine rg_open fun H2 lad lc wad wc hO2 hL hW2 => ?_
  have hI:=(g_in hO hI0).mono (fun b o h=>joinM_has hO2 h)
  have hLM:=hL.mono (joinM_mono (X:=joinM Z H))
  have hUM:U32In (joinM (joinM Z H) H2) lad0 u.l:=(hU.mono fun b o h=>joinM_has hO h).mono fun b o h=>joinM_has hO2 h
  have hFi:MSpec Tryz.prog (joinM (joinM Z H) H2) 10 [Lp 1000000,Ln .u32 (a.set:Nat)] [gO 1000000 vals] (.tup [Sn .i64 (fN u.l a.set:Nat),.one (.val (.bool (findG u.l a.set).isSome))]) [gO 1000000 vals]:=gFind (joinM (joinM Z H) H2) hI hku a.set aset
  have hRf:=kFind (joinM (joinM Z H) H2) u a.set ad lad wad cap lc wc hLM (by omega)
  have hKn:=gKnows (joinM (joinM Z H) H2) hI hku a.i a.c a.a ai ac
  have hRk:=kKnows (joinM (joinM Z H) H2) u (a.i,a.c,a.a) ad lad wad cap lc wc (hW2.mono (joinM_mono (X:=joinM Z H))) (by omega)
  have hLe:=grLen (joinM (joinM Z H) H2) hI hku
  have hRo:=gRoom (joinM (joinM Z H) H2) hI hku
  have hWa:=gWays (joinM (joinM Z H) H2) hI hku
  have hsub:IntKind.i64.wrap (((archs:Nat):Int)-((u.l.length:Nat):Int))=((u.archs-u.l.length:Nat):Int):=by rw [cF (by omega)];omega
  (refine aA<|rgN<|kmv O<|kfa O O ?_;refine kl1 O O O<|aU [(1000000,500)] [gO 500 vals] (hFi) O O (by exact (cO ⟨_,O,(bW _ _ _ _)⟩ trivial)) (by exact (bR bS O)) O O O O (by exact (.box O (bW _ _ _ _) .nil)) dP<|kmv O<|kex O O<|kex O O<|kas O<|kas O<|aB<|aA ?_)
  refine LWP.meetL (fun σ=>σ=⟨[(31,Ln .i64 (findZ u.l a.set)),(29,Ln .i64 (fN u.l a.set:Nat)),(30,Lb (findG u.l a.set).isSome),(28,.sv (.one (.val (.slice lad0 u.l.length lc0)))),(1,Ln .i64 (archs:Nat)),(2,Ln .i64 (rows:Nat)),(3,.sv (.one (.val (.slice (some ⟨ab,ao,none⟩) acs.length acap)))),(4,Lp 4),(9,Lp 500),(16,Lp 135),(17,Ln .i64 (i:Nat)),(18,Lp 18)],[gO 500 vals,rgO 135 u ad cap lad lc wad wc,sxB 4 s.ver ad s.cs.length cap,(18,some ⟨53,[.val (.int .i64 a.kind),.val (.int .u32 (a.set:Nat)),.val (.int .i64 a.i),.val (.int .i64 a.c),.val (.bool a.a)],false⟩)],joinM (joinM Z H) H2⟩) ?_ ?_
  · (refine rgN<|kmv O<|kfa O O ?_;refine kl1 O O O<|aU [(1000000,135)] [rgO 135 u ad cap lad lc wad wc] (hRf) O O (by exact (cO ⟨_,O,O⟩ trivial)) (by exact (bR (bR O (bR O (bR O (bR O (bR O O))))) O)) O O O O (by exact (.box O O .nil)) dP<|kas O<|aB ?_)
    exact Leads.here (σ':=⟨[(31,Ln .i64 (findZ u.l a.set)),(29,Ln .i64 (fN u.l a.set:Nat)),(30,Lb (findG u.l a.set).isSome),(28,.sv (.one (.val (.slice lad0 u.l.length lc0)))),(1,Ln .i64 (archs:Nat)),(2,Ln .i64 (rows:Nat)),(3,.sv (.one (.val (.slice (some ⟨ab,ao,none⟩) acs.length acap)))),(4,Lp 4),(9,Lp 500),(16,Lp 135),(17,Ln .i64 (i:Nat)),(18,Lp 18)],[gO 500 vals,rgO 135 u ad cap lad lc wad wc,sxB 4 s.ver ad s.cs.length cap,(18,some ⟨53,[.val (.int .i64 a.kind),.val (.int .u32 (a.set:Nat)),.val (.int .i64 a.i),.val (.int .i64 a.c),.val (.bool a.a)],false⟩)],joinM (joinM Z H) H2⟩) (Le.of (by exact ⟨O,O,O,O,O,O,O,O,O,O,O,O,trivial⟩) (by exact ⟨O,O,O,O,trivial⟩) (by exact O) (by exact O) (by repeat' (first|refine bR ?_ ?_|rfl|exact bT|exact bS|exact bU O))) O
  rintro σ rfl
  refine aA ?_
  refine LWP.meetL (fun σ=>σ=⟨[(28,.sv (.one (.val (.slice lad0 u.l.length lc0)))),(1,Ln .i64 (archs:Nat)),(2,Ln .i64 (rows:Nat)),(3,.sv (.one (.val (.slice (some ⟨ab,ao,none⟩) acs.length acap)))),(4,Lp 4),(9,Lp 500),(16,Lp 135),(17,Ln .i64 (i:Nat)),(18,Lp 18)],[gO 500 vals,rgO 135 u ad cap lad lc wad wc,sxB 4 s.ver ad s.cs.length cap,(18,some ⟨53,[.val (.int .i64 a.kind),.val (.int .u32 (a.set:Nat)),.val (.int .i64 a.i),.val (.int .i64 a.c),.val (.bool a.a)],false⟩)],joinM (joinM Z H) H2⟩) ?_ ?_
  · cases hf:findG u.l a.set with
    | some k =>
      rw [show fN u.l a.set=k by unfold fN;rw [hf],show findZ u.l a.set=(k:Nat) by unfold findZ;rw [hf],Option.isSome_some]
      ((refine aA<|rgD mixed<|kmv O<|aQ O bY O dP ?_;refine kmv O<|bI O dP<|kfa O O ?_;refine kl1 O O O<|aQ O bY O dP ?_;refine kne O O (r:=false) (cQ O)<|kmv O<|gmv O O O<|aU [(1000000,500)] [gO 500 vals] (hLe) O O (by exact (cO ⟨_,O,(bW _ _ _ _)⟩ trivial)) (by exact (bR bS O)) O O O O (by exact (.box O (bW _ _ _ _) .nil)) (dQ O O) ?_;refine gmv O O O<|bI O (dQ O O) ?_;refine aN O O (dQ O O) ?_;refine aO O O O (dQ O O) ?_;refine aQ O bY O (dQ O O) ?_;refine aX O O (r:=false) (cQ O) (dQ O O) ?_;refine kpf O O<|kmv O<|gmv O O O<|aU [(1000000,500)] [gO 500 vals] (hRo) O O (by exact (cO ⟨_,O,(bW _ _ _ _)⟩ trivial)) (by exact (bR bS O)) O O O O (by exact (.box O (bW _ _ _ _) .nil)) (dQ O O) ?_;refine gmv O O O<|gmv O O O<|bI O (dQ O O) ?_;refine aN O O (dQ O O) ?_);(refine aO O O O (dQ O O) ?_;refine aQ O bY O (dQ O O) ?_;refine bA O O hsub (dQ O O) ?_;refine aX O O (r:=false) (cQ O) (dQ O O) ?_;refine kpf O O<|kmv O<|gmv O O O<|aU [(1000000,500)] [gO 500 vals] (hWa) O O (by exact (cO ⟨_,O,(bW _ _ _ _)⟩ trivial)) (by exact (bR bS O)) O O O O (by exact (.box O (bW _ _ _ _) .nil)) (dQ O O) ?_;refine gmv O O O<|bI O (dQ O O) ?_;refine aN O O (dQ O O) ?_;refine aO O O O (dQ O O) ?_;refine aQ O bY O (dQ O O) ?_;refine aX O O (r:=false) (cQ O) (dQ O O) ?_;refine kpf O O<|kmv O<|gmv O O O<|gmv O O O<|bD O O (cN (by omega)) (dQ O O) ?_;refine K.neqB O O (r:=false) O (dQ O O) ?_);(refine kpf O O<|kmv O<|gmv O O O<|gmv O O O<|gmv O O O<|gmv O O O<|aX O O (r:=false) (cQ O) (dQ O O) ?_;refine bF O O (dQ O O) ?_;refine kpf O O<|kmv O<|gmv O O O<|aV O O (dQ O O) ?_;refine gmv O O O<|aC O O O<|aC O O O<|bN O O (dQ O O) ?_;refine kpf O O<|kmv O<|gmv O O O<|aN O O (dQ O O) ?_;refine aO O O O (dQ O O) ?_;refine aN O O (dQ O O) ?_;refine aO O O O (dQ O O) ?_;refine aN O O (dQ O O) ?_;refine aO O O O (dQ O O) ?_;refine aU [(1000000,500)] [gO 500 vals] (hKn) O O (by exact (cO ⟨_,O,(bW _ _ _ _)⟩ trivial)) (by exact (bR bS O)) O O O O (by exact (.box O (bW _ _ _ _) .nil)) (dQ O O) ?_;refine gmv O O O<|aN O O (dQ O O) ?_);(refine aO O O O (dQ O O) ?_;refine aN O O (dQ O O) ?_;refine aO O O O (dQ O O) ?_;refine aN O O (dQ O O) ?_;refine aO O O O (dQ O O) ?_;refine aT O O (by exact O) (by exact nl3 O O O O) (dQ O O) ?_;refine aU [(1000000,135)] [rgO 135 u ad cap lad lc wad wc] (hRk) O O (by exact (cO ⟨_,O,O⟩ trivial)) (by exact (bR (bR O (bR O (bR O (bR O (bR O O))))) O)) O O O O (by exact (.box O O .nil)) (dQ O O) ?_;refine K.neqB O O (r:=false) (by cases knowsW u.w (a.i,a.c,a.a)<;>rfl) (dQ O O) ?_;refine kpf O O<|aB<|rgA ?_;refine aF O ?_;refine aH ?_))
      exact Leads.here (σ':=⟨[(28,.sv (.one (.val (.slice lad0 u.l.length lc0)))),(1,Ln .i64 (archs:Nat)),(2,Ln .i64 (rows:Nat)),(3,.sv (.one (.val (.slice (some ⟨ab,ao,none⟩) acs.length acap)))),(4,Lp 4),(9,Lp 500),(16,Lp 135),(17,Ln .i64 (i:Nat)),(18,Lp 18)],[gO 500 vals,rgO 135 u ad cap lad lc wad wc,sxB 4 s.ver ad s.cs.length cap,(18,some ⟨53,[.val (.int .i64 a.kind),.val (.int .u32 (a.set:Nat)),.val (.int .i64 a.i),.val (.int .i64 a.c),.val (.bool a.a)],false⟩)],joinM (joinM Z H) H2⟩) (Le.of (by exact ⟨O,O,O,O,O,O,O,O,O,trivial⟩) (by exact ⟨O,O,O,O,trivial⟩) (by exact O) (by exact O) (by repeat' (first|refine bR ?_ ?_|rfl|exact bT|exact bS|exact bU O))) O
    | none =>
      rw [show fN u.l a.set=0 by unfold fN;rw [hf],show findZ u.l a.set = -1 by unfold findZ;rw [hf],Option.isSome_none]
      ((refine aA<|rgD mixed<|kmv O<|aQ O bY O dP ?_;refine kmv O<|bI O dP<|kfa O O ?_;refine kl1 O O O<|aQ O bY O dP ?_;refine kne O O (r:=false) (cQ O)<|kmv O<|gmv O O O<|aU [(1000000,500)] [gO 500 vals] (hLe) O O (by exact (cO ⟨_,O,(bW _ _ _ _)⟩ trivial)) (by exact (bR bS O)) O O O O (by exact (.box O (bW _ _ _ _) .nil)) (dQ O O) ?_;refine gmv O O O<|bI O (dQ O O) ?_;refine aN O O (dQ O O) ?_;refine aO O O O (dQ O O) ?_;refine aQ O bY O (dQ O O) ?_;refine aX O O (r:=false) (cQ O) (dQ O O) ?_;refine kpf O O<|kmv O<|gmv O O O<|aU [(1000000,500)] [gO 500 vals] (hRo) O O (by exact (cO ⟨_,O,(bW _ _ _ _)⟩ trivial)) (by exact (bR bS O)) O O O O (by exact (.box O (bW _ _ _ _) .nil)) (dQ O O) ?_;refine gmv O O O<|gmv O O O<|bI O (dQ O O) ?_;refine aN O O (dQ O O) ?_);(refine aO O O O (dQ O O) ?_;refine aQ O bY O (dQ O O) ?_;refine bA O O hsub (dQ O O) ?_;refine aX O O (r:=false) (cQ O) (dQ O O) ?_;refine kpf O O<|kmv O<|gmv O O O<|aU [(1000000,500)] [gO 500 vals] (hWa) O O (by exact (cO ⟨_,O,(bW _ _ _ _)⟩ trivial)) (by exact (bR bS O)) O O O O (by exact (.box O (bW _ _ _ _) .nil)) (dQ O O) ?_;refine gmv O O O<|bI O (dQ O O) ?_;refine aN O O (dQ O O) ?_;refine aO O O O (dQ O O) ?_;refine aQ O bY O (dQ O O) ?_;refine aX O O (r:=false) (cQ O) (dQ O O) ?_;refine kpf O O<|kmv O<|gmv O O O<|gmv O O O<|bD O O (cL (by omega)) (dQ O O) ?_;refine K.neqB O O (r:=false) O (dQ O O) ?_);(refine kpf O O<|kmv O<|gmv O O O<|gmv O O O<|aC O O O<|aC O O O<|aC O O O<|bN O O (dQ O O) ?_;refine kpf O O<|kmv O<|gmv O O O<|aV O O (dQ O O) ?_;refine gmv O O O<|gmv O O O<|aX O O (r:=false) (cQ O) (dQ O O) ?_;refine bF O O (dQ O O) ?_;refine kpf O O<|kmv O<|gmv O O O<|aN O O (dQ O O) ?_;refine aO O O O (dQ O O) ?_;refine aN O O (dQ O O) ?_;refine aO O O O (dQ O O) ?_;refine aN O O (dQ O O) ?_;refine aO O O O (dQ O O) ?_;refine aU [(1000000,500)] [gO 500 vals] (hKn) O O (by exact (cO ⟨_,O,(bW _ _ _ _)⟩ trivial)) (by exact (bR bS O)) O O O O (by exact (.box O (bW _ _ _ _) .nil)) (dQ O O) ?_;refine gmv O O O<|aN O O (dQ O O) ?_);(refine aO O O O (dQ O O) ?_;refine aN O O (dQ O O) ?_;refine aO O O O (dQ O O) ?_;refine aN O O (dQ O O) ?_;refine aO O O O (dQ O O) ?_;refine aT O O (by exact O) (by exact nl3 O O O O) (dQ O O) ?_;refine aU [(1000000,135)] [rgO 135 u ad cap lad lc wad wc] (hRk) O O (by exact (cO ⟨_,O,O⟩ trivial)) (by exact (bR (bR O (bR O (bR O (bR O (bR O O))))) O)) O O O O (by exact (.box O O .nil)) (dQ O O) ?_;refine K.neqB O O (r:=false) (by cases knowsW u.w (a.i,a.c,a.a)<;>rfl) (dQ O O) ?_;refine kpf O O<|aB<|rgA ?_;refine aF O ?_;refine aH ?_))
      exact Leads.here (σ':=⟨[(28,.sv (.one (.val (.slice lad0 u.l.length lc0)))),(1,Ln .i64 (archs:Nat)),(2,Ln .i64 (rows:Nat)),(3,.sv (.one (.val (.slice (some ⟨ab,ao,none⟩) acs.length acap)))),(4,Lp 4),(9,Lp 500),(16,Lp 135),(17,Ln .i64 (i:Nat)),(18,Lp 18)],[gO 500 vals,rgO 135 u ad cap lad lc wad wc,sxB 4 s.ver ad s.cs.length cap,(18,some ⟨53,[.val (.int .i64 a.kind),.val (.int .u32 (a.set:Nat)),.val (.int .i64 a.i),.val (.int .i64 a.c),.val (.bool a.a)],false⟩)],joinM (joinM Z H) H2⟩) (Le.of (by exact ⟨O,O,O,O,O,O,O,O,O,trivial⟩) (by exact ⟨O,O,O,O,trivial⟩) (by exact O) (by exact O) (by repeat' (first|refine bR ?_ ?_|rfl|exact bT|exact bS|exact bU O))) O
  rintro σ rfl
  clear hFi hRf hKn hRk hLe hRo hWa hsub
  (refine aA<|aA<|rgN<|kas O<|aB<|aG ?_)
  repeat refine aA ?_
  refine cJ (fun z σ=>∃ k:Nat,k≤u.l.length∧z=u.l.length-k∧σ=⟨[(32,Ln .i64 (k:Nat)),(28,.sv (.one (.val (.slice lad0 u.l.length lc0)))),(1,Ln .i64 (archs:Nat)),(2,Ln .i64 (rows:Nat)),(3,.sv (.one (.val (.slice (some ⟨ab,ao,none⟩) acs.length acap)))),(4,Lp 4),(9,Lp 500),(16,Lp 135),(17,Ln .i64 (i:Nat)),(18,Lp 18)],[gO 500 vals,rgO 135 u ad cap lad lc wad wc,sxB 4 s.ver ad s.cs.length cap,(18,some ⟨53,[.val (.int .i64 a.kind),.val (.int .u32 (a.set:Nat)),.val (.int .i64 a.i),.val (.int .i64 a.c),.val (.bool a.a)],false⟩)],joinM (joinM Z H) H2⟩) u.l.length
    (cA (σ':=⟨[(32,Ln .i64 (0:Nat)),(28,.sv (.one (.val (.slice lad0 u.l.length lc0)))),(1,Ln .i64 (archs:Nat)),(2,Ln .i64 (rows:Nat)),(3,.sv (.one (.val (.slice (some ⟨ab,ao,none⟩) acs.length acap)))),(4,Lp 4),(9,Lp 500),(16,Lp 135),(17,Ln .i64 (i:Nat)),(18,Lp 18)],[gO 500 vals,rgO 135 u ad cap lad lc wad wc,sxB 4 s.ver ad s.cs.length cap,(18,some ⟨53,[.val (.int .i64 a.kind),.val (.int .u32 (a.set:Nat)),.val (.int .i64 a.i),.val (.int .i64 a.c),.val (.bool a.a)],false⟩)],joinM (joinM Z H) H2⟩) (Le.of (by exact ⟨rfl,rfl,rfl,rfl,rfl,rfl,rfl,rfl,rfl,rfl,trivial⟩) (by exact ⟨rfl,rfl,rfl,rfl,trivial⟩) (by exact rfl) (by exact rfl) (by repeat' (first|refine bR ?_ ?_|rfl|exact bT|exact bS|exact bU rfl))) (bZ ⟨0,by omega,by omega,rfl⟩)) ?_
  rintro z σ ⟨k,hkk,rfl,rfl⟩
  by_cases hkl:k<u.l.length
  case neg =>
    have hT1:=gTable_no (joinM (joinM Z H) H2) hI hku (u.l.length:Nat) (by unfold rowG;rw [cL (show ¬((u.l.length:Nat):Int)<((u.l.length:Nat):Int) by omega),Bool.and_false])
    have hT2:=gTable_no (joinM (joinM Z H) H2) hI hku (-1) (by unfold rowG;rw [cL (show ¬(0:Int) ≤ -1 by omega)];rfl)
    (refine aA<|aA<|rgN<|kmv O<|kmv O<|aQ O bY O dP ?_;refine klt O O (cL (by omega))<|aB<|aF O ?_;refine aJ<|aA<|rgN<|kmv O<|kmv O<|aQ O bY O dP ?_;refine aU [(1000000,500)] [gO 500 vals] (hT1) O O (by exact (cO ⟨_,O,(bW _ _ _ _)⟩ trivial)) (by exact (bR bS O)) O O O O (by exact (.box O (bW _ _ _ _) .nil)) dP<|K.nilNil O (by kernel_rfl) (.inr ⟨O,O⟩) dP<|kmv O<|gmv O O O<|aU [(1000000,500)] [gO 500 vals] (hT2) O O (by exact (cO ⟨_,O,(bW _ _ _ _)⟩ trivial)) (by exact (bR bS O)) O O O O (by exact (.box O (bW _ _ _ _) .nil)) (dQ O O) ?_;refine K.nilNil O (by kernel_rfl) (.inr ⟨O,O⟩) (dQ O O) ?_;refine kpf O O<|aB<|aF O ?_;refine aH ?_;refine rgN<|kmv O<|kad O O hadd<|kas O<|aB ?_)
    refine cA (σ':=⟨[(1,Ln .i64 (archs:Nat)),(2,Ln .i64 (rows:Nat)),(3,.sv (.one (.val (.slice (some ⟨ab,ao,none⟩) acs.length acap)))),(4,Lp 4),(9,Lp 500),(16,Lp 135),(17,Ln .i64 (i+1:Nat))],[rgO 135 u ad cap lad lc wad wc,gO 500 vals,sxB 4 s.ver ad s.cs.length cap],joinM (joinM Z H) H2⟩) (Le.of (by exact ⟨O,O,O,O,O,O,O,trivial⟩) (by exact ⟨O,O,O,trivial⟩) (by exact O) (by exact O) (by repeat' (first|refine bR ?_ ?_|rfl|exact bT|exact bS|exact bU O))) ?_
    refine rg_shut hO2 hL hW2 ?_
    refine cA (σ':=⟨[(1,Ln .i64 (archs:Nat)),(2,Ln .i64 (rows:Nat)),(3,.sv (.one (.val (.slice (some ⟨ab,ao,none⟩) acs.length acap)))),(4,Lp 4),(9,Lp 500),(16,Lp 135),(17,Ln .i64 (i+1:Nat))],[gO 500 vals,rgB 135 ad cap u,sxB 4 s.ver ad s.cs.length cap],joinM Z H⟩) (Le.of (by exact ⟨O,O,O,O,O,O,O,trivial⟩) (by exact ⟨O,O,O,trivial⟩) (by exact O) (by exact O) (by repeat' (first|refine bR ?_ ?_|rfl|exact bT|exact bS|exact bU O))) ?_
    refine g_shut hO hI0 ?_
    exact bZ ⟨acs.length-(i+1),by omega,i+1,u,Z,by omega,O,⟨hku,hus,hua,hur,by omega⟩,fun b o h=>hZ b o (hXY b o h),O⟩
  have hadk:IntKind.i64.wrap (((k:Nat):Int)+1)=((k+1:Nat):Int):=by rw [cF (by omega)];omega
  obtain ⟨v,hv⟩:∃ v,u.l[k]? = some v:=⟨_,cW hkl⟩
  obtain ⟨tb,hTb,hT⟩:=gTable (joinM (joinM Z H) H2) hI hku k v hv
  have t1:PSpec Tryz.prog (joinM (joinM Z H) H2) 24 [Lpx tb] (Ln .u32 (v:Nat)):=tSigX _ tb _ hTb
  have t2:PSpec Tryz.prog (joinM (joinM Z H) H2) 25 [Lpx tb] (Ln .i64 (0:Nat)):=tLenX _ tb _ hTb
  have t3:PSpec Tryz.prog (joinM (joinM Z H) H2) 26 [Lpx tb] (Ln .i64 (rows:Nat)):=by
    have h:=tRoomX (joinM (joinM Z H) H2) tb _ hTb
    rw [show roomT (tbl u v)=rows by rw [← hur];rfl] at h
    exact h
  obtain ⟨wb,wo,warr,wel,wfr,rfl,hWX,hWJ⟩:=u32_at hUM hv
  obtain ⟨rb,ro,rarr,rel,rfr,rfl,hRX,hRJ⟩:=u32_at hLM hv
  have hwo:wo+Int.toNat ((k:Nat):Int)*1=wo+k*1:=by simp
  have hroo:ro+Int.toNat ((k:Nat):Int)*1=ro+k*1:=by simp
  (refine aA<|aA<|rgN<|kmv O<|kmv O<|aQ O bY O dP ?_;refine klt O O (cN (by omega))<|aB<|aE O ?_;refine aH ?_;refine aA<|aG<|aA<|rgN<|kmv O<|kmv O<|aU [(1000000,500)] [gO 500 vals] (hT) O O (by exact (cO ⟨_,O,(bW _ _ _ _)⟩ trivial)) (by exact (bR bS O)) O O O O (by exact (.box O (bW _ _ _ _) .nil)) dP<|kas O<|aB<|aA<|rgD mixed<|kmv O<|kmv O<|aR O O bY (by omega) hwo dP ?_;refine aW O hWX O hWJ dP<|kmv O<|bI O dP<|kfa O O ?_;refine kl1 O O O<|kmv O<|aR O O bY (by omega) hroo dP<|aW O hRX O hRJ dP<|kne O O (r:=false) (cQ O)<|kmv O<|gmv O O O<|gca O O t1 O O<|gmv O O O<|gmv O O O<|aR O O bY (by omega) hwo (dQ O O) ?_;refine aW O hWX O hWJ (dQ O O) ?_;refine aX O O (r:=false) (cQ O) (dQ O O) ?_;refine kpf O O<|kmv O<|gmv O O O<|gca O O t2 O O<|aX O O (r:=false) O (dQ O O) ?_;refine kpf O O<|kmv O<|gmv O O O<|gca O O t3 O O<|gmv O O O<|aX O O (r:=false) (cQ O) (dQ O O) ?_;refine kpf O O<|aB<|rgA ?_;refine aF O ?_;refine aH ?_;refine rgN<|kmv O<|kad O O hadk<|kas O<|aB ?_)
  exact cA (σ':=⟨[(32,Ln .i64 (k+1:Nat)),(28,.sv (.one (.val (.slice (some ⟨wb,wo,none⟩) u.l.length lc0)))),(1,Ln .i64 (archs:Nat)),(2,Ln .i64 (rows:Nat)),(3,.sv (.one (.val (.slice (some ⟨ab,ao,none⟩) acs.length acap)))),(4,Lp 4),(9,Lp 500),(16,Lp 135),(17,Ln .i64 (i:Nat)),(18,Lp 18)],[gO 500 vals,rgO 135 u ad cap (some ⟨rb,ro,none⟩) lc wad wc,sxB 4 s.ver ad s.cs.length cap,(18,some ⟨53,[.val (.int .i64 a.kind),.val (.int .u32 (a.set:Nat)),.val (.int .i64 a.i),.val (.int .i64 a.c),.val (.bool a.a)],false⟩)],joinM (joinM Z H) H2⟩) (Le.of (by exact ⟨O,O,O,O,O,O,O,O,O,O,trivial⟩) (by exact ⟨O,O,O,O,trivial⟩) (by exact O) (by exact O) (by repeat' (first|refine bR ?_ ?_|rfl|exact bT|exact bS|exact bU O))) (bZ ⟨u.l.length-(k+1),by omega,k+1,by omega,O,O⟩)
end Go.Proofs.YtjifibloagkeeaaGreat
end
