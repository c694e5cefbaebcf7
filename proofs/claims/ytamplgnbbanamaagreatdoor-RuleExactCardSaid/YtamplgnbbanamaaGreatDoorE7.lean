/- A piece of a proof over this program: contracts of its functions, and a logic to prove them by. -/
import Derived.Test.YtamplgnbbanamaaGreatDoorE3
import Derived.Test.YtamplgnbbanamaaGreatDoorE4
import Derived.Test.YtamplgnbbanamaaGreatDoorE5
import Derived.Test.YtamplgnbbanamaaGreatDoorE6
import Derived.Lib.ItoaLen
section
namespace Go.Proofs.YtamplgnbbanamaaGreatDoor
open Go Go.Lg Go.Lg.Fml Go.Lg.Fld Go.Lg.Arith
set_option maxRecDepth 100000
def rwZ:List Rl→List Value→List Value
  | r::rs,v::vs=>.int .i64 r.nw :: .int .i64 r.old::v::rwZ rs vs
  | _,_=>[]
theorem rwZ_len:∀ {rs:List Rl} {ws:List Value},ws.length=rs.length→(rwZ rs ws).length=rs.length*3
  | [],[],_=>rfl
  | c::cs,v::vs,h=>by
    simp only [rwZ,dI] at h ⊢
    rw [rwZ_len (rs:=cs) (ws:=vs) (by omega)];omega
  | [],_::_,h=>by simp at h
  | _::_,[],h=>by simp at h
theorem rwZ_add:∀ {rs:List Rl} {ws:List Value} {r:Rl} {v:Value},ws.length=rs.length→rwZ (rs++[r]) (ws++[v])=rwZ rs ws++[.int .i64 r.nw,.int .i64 r.old,v]
  | [],[],_,_,_=>rfl
  | c::cs,w::ws,r,v,h=>by
    simp only [dI] at h
    simp only [List.cons_append,rwZ]
    rw [rwZ_add (rs:=cs) (ws:=ws) (by omega)]
  | [],_::_,_,_,h=>by simp at h
  | _::_,[],_,_,h=>by simp at h
theorem rwZ_at:∀ {i:Nat} {rs:List Rl} {ws sp:List Value} {r:Rl} {w:Value},rs[i]? = some r→ws[i]? = some w→((rwZ rs ws++sp).drop (i*3)).take 3=[.int .i64 r.nw,.int .i64 r.old,w]
  | 0,c::cs,v::vs,sp,r,w,h1,h2=>by
    simp only [List.getElem?_cons_zero,Option.some.injEq] at h1 h2
    subst h1 h2
    rfl
  | i+1,c::cs,v::vs,sp,r,w,h1,h2=>by
    simp only [List.getElem?_cons_succ] at h1 h2
    have:=rwZ_at (sp:=sp) h1 h2
    rw [show (i+1)*3=i*3+3 by omega]
    exact this
  | _,[],_,_,_,_,h,_=>by simp at h
  | _,_::_,[],_,_,_,_,h=>by simp at h
theorem snoc_get {α:Type} {l:List α} {a x:α} {i:Nat} (h:(l++[a])[i]? = some x):(i<l.length∧l[i]? = some x)∨(i=l.length∧x=a):=by
  by_cases e:i<l.length
  · rw [dQ e] at h;exact .inl ⟨e,h⟩
  · have h1:=(List.getElem?_eq_some_iff.1 h).1
    rw [cV] at h1
    simp only [cY] at h1
    have e2:i=l.length:=by omega
    subst e2
    rw [List.getElem?_append_right (dN _),Nat.sub_self] at h
    simp only [List.getElem?_cons_zero,Option.some.injEq] at h
    exact .inr ⟨O,h.symm⟩
structure FormsH (H:Nat→Option Obj) (vs:List Value) (cs:List (List Ins)):Prop where
  len:vs.length=cs.length
  at_:∀ (i:Nat) (v:Value) (c:List Ins),vs[i]? = some v→cs[i]? = some c→∃ (vad:Option Addr) (vcap:Nat),v = .slice vad c.length vcap∧InsIn H vad c
theorem FormsH.nil {H:Nat→Option Obj}:FormsH H [] []:=⟨rfl,fun i v c h=>by simp at h⟩
theorem FormsH.mono {H H':Nat→Option Obj} (hH:∀ b o,H b=some o→H' b=some o) {vs:List Value} {cs:List (List Ins)} (G:FormsH H vs cs):FormsH H' vs cs:=⟨G.len,fun i v c hv hc=>by
  obtain ⟨vad,vcap,h1,h2⟩:=G.at_ i v c hv hc
  exact ⟨vad,vcap,h1,h2.mono hH⟩⟩
theorem FormsH.push {H:Nat→Option Obj} {vs:List Value} {cs:List (List Ins)} (G:FormsH H vs cs) {v:Value} {c:List Ins} (hv:∃ (vad:Option Addr) (vcap:Nat),v = .slice vad c.length vcap∧InsIn H vad c):FormsH H (vs++[v]) (cs++[c]):=⟨by rw [cV,cV,G.len];rfl,fun i w d hw hd=>by
  have hl:=G.len
  rcases snoc_get hw with ⟨h1,h2⟩|⟨h1,rfl⟩
  · rcases snoc_get hd with ⟨h3,h4⟩|⟨h3,_⟩
    · exact G.at_ i w d h2 h4
    · omega
  · rcases snoc_get hd with ⟨h3,_⟩|⟨_,rfl⟩
    · omega
    · exact hv⟩
structure RulesH (H:Nat→Option Obj) (ws:List Value) (rs:List Rl):Prop where
  len:ws.length=rs.length
  at_:∀ (i:Nat) (w:Value) (r:Rl),ws[i]? = some w→rs[i]? = some r→∃ (ead:Option Addr) (ecap:Nat),w = .slice ead r.ex.length ecap∧CodesIn H ead r.ex
theorem RulesH.nil {H:Nat→Option Obj}:RulesH H [] []:=⟨rfl,fun i v c h=>by simp at h⟩
theorem RulesH.mono {H H':Nat→Option Obj} (hH:∀ b o,H b=some o→H' b=some o) {vs:List Value} {cs:List Rl} (G:RulesH H vs cs):RulesH H' vs cs:=⟨G.len,fun i v c hv hc=>by
  obtain ⟨vad,vcap,h1,h2⟩:=G.at_ i v c hv hc
  exact ⟨vad,vcap,h1,h2.mono hH⟩⟩
theorem RulesH.push {H:Nat→Option Obj} {vs:List Value} {cs:List Rl} (G:RulesH H vs cs) {v:Value} {c:Rl} (hv:∃ (vad:Option Addr) (vcap:Nat),v = .slice vad c.ex.length vcap∧CodesIn H vad c.ex):RulesH H (vs++[v]) (cs++[c]):=⟨by rw [cV,cV,G.len];rfl,fun i w d hw hd=>by
  have hl:=G.len
  rcases snoc_get hw with ⟨h1,h2⟩|⟨h1,rfl⟩
  · rcases snoc_get hd with ⟨h3,h4⟩|⟨h3,_⟩
    · exact G.at_ i w d h2 h4
    · omega
  · rcases snoc_get hd with ⟨h3,_⟩|⟨_,rfl⟩
    · omega
    · exact hv⟩
theorem forms_block {Y:Nat→Option Obj} {blk:Nat} {arr:Array Value} {el:TypeId} {fr:Nat×Nat} {vs sp:List Value} {cs:List (List Ins)} (hY:Y blk=some (.cells arr el fr)) (h:arr.toList=vs++sp) (G:FormsH Y vs cs):CodesIn Y (some ⟨blk,0,none⟩) cs:=⟨fun i c hc=>by
  have hi:=(List.getElem?_eq_some_iff.1 hc).1
  have hl:=G.len
  obtain ⟨v,hv⟩:∃ v,vs[i]? = some v:=⟨_,cX (by omega)⟩
  obtain ⟨vad,vcap,h1,h2⟩:=G.at_ i v c hv hc
  have hsz:arr.size=vs.length+sp.length:=by rw [← Array.length_toList,h,cV]
  refine ⟨blk,0,arr,el,fr,vad,vcap,O,hY,by omega,?_,h2⟩
  rw [← Array.getElem?_toList,h,Nat.zero_add,dQ (by omega),hv,h1]⟩
theorem rules_block {Y:Nat→Option Obj} {blk:Nat} {arr:Array Value} {el:TypeId} {fr:Nat×Nat} {ws sp:List Value} {rs:List Rl} (hY:Y blk=some (.cells arr el fr)) (h:arr.toList=rwZ rs ws++sp) (G:RulesH Y ws rs) (hs:∀ r∈rs,smallR r):RulesIn Y (some ⟨blk,0,none⟩) rs:=⟨fun i r hr=>by
  have hi:=(List.getElem?_eq_some_iff.1 hr).1
  have hl:=G.len
  obtain ⟨v,hv⟩:∃ v,ws[i]? = some v:=⟨_,cX (by omega)⟩
  obtain ⟨ead,ecap,h1,h2⟩:=G.at_ i v r hv hr
  have hsz:arr.size=rs.length*3+sp.length:=by rw [← Array.length_toList,h,cV,rwZ_len hl]
  refine ⟨blk,0,arr,el,fr,ead,ecap,O,hY,by omega,?_,h2⟩
  rw [h,Nat.zero_add,rwZ_at hr hv,h1],hs⟩
def rlR (t:TypeId) (rs:List Rl):Rsc:=⟨fun ρ H=>(∃ (arr:Array Value) (fr:Nat×Nat),H ρ.1=some (.cells arr t fr)∧arr.size=ρ.2)∧RulesIn H (some ⟨ρ.1,0,none⟩) rs⟩
abbrev rlB (t:TypeId) (k:Nat) (rs:List Rl):Nat×Option Box:=(k,some ⟨0,[],.res (rlR t rs)⟩)
section
variable {n:Nat} {C:Ctx} {X:Nat→Option Obj} {s:List (Nat×LV)} {bx:List (Nat×Option Box)} {k:Nat}
theorem rl_shut {Mid:St→Prop} {t:TypeId} {rs:List Rl} {H:Nat→Option Obj} {ws sp:List Value} (hO:OwnedM C X H) (G:RulesH H ws rs) (hs:∀ r∈rs,smallR r)
    (h:Leads n C Mid ⟨s,rlB t k rs::bx,X⟩):Leads n C Mid ⟨s,(k,some ⟨t,(rwZ rs ws++sp).map .val,false⟩)::bx,joinM X H⟩:=by
  refine Leads.closeRes (vals:=rwZ rs ws++sp) hO (fun ρ fr h1 h2 h3 => ?_) h
  refine ⟨⟨_,fr,cN _ _ _,by rw [h3];simp⟩,?_⟩
  exact rules_block (cN _ _ _) (by simp;rfl) (G.mono (cJ h1)) hs
end
theorem ins_leads {H:Nat→Option Obj} {b:Nat} {v:Value} {el:TypeId} {c:List Ins} (h:LeadsTo H b v el 6 (inssV c)) (hs:∀ x∈c,smallI x):∃ (vad:Option Addr) (vcap:Nat),v = .slice vad c.length vcap∧InsIn H vad c:=by
  obtain ⟨len,cap,arr,fr,h1,h2,_,_,h5,h6⟩:=h
  have hl:=inssV_len c
  rw [cW] at hl
  have e:len=c.length:=by omega
  subst e
  exact ⟨_,cap,h1,ins_in h5 hs h6⟩
theorem codes_leads {H:Nat→Option Obj} {b:Nat} {v:Value} {el:TypeId} {vs:List Value} {cs:List (List Ins)} (h:LeadsTo H b v el 1 vs) (G:FormsH H vs cs):∃ (ead:Option Addr) (ecap:Nat),v = .slice ead cs.length ecap∧CodesIn H ead cs:=by
  obtain ⟨len,cap,arr,fr,h1,h2,_,_,h5,sp,h6⟩:=h
  have hl:=G.len
  have e:len=cs.length:=by omega
  subst e
  exact ⟨_,cap,h1,forms_block h5 h6 G⟩
theorem CodesIn.nilIn {H:Nat→Option Obj}:∃ (ead:Option Addr) (ecap:Nat),Value.slice none 0 0 = .slice ead ([]:List (List Ins)).length ecap∧CodesIn H ead []:=⟨none,0,rfl,CodesIn.nil⟩
variable (X:Nat→Option Obj)
theorem form12_nil (va vb:Int) (ad:Option Addr) (cap:Nat):MSpec Tryz.prog X 9 [LPg va vb ad 0 cap] [] (.sv (.agg [.val (.int .i64 va),.val (.int .i64 vb),.val (.slice none 0 0)])) []:=by
  refine cG Tryz.func9 rfl (by kernel_rfl) rfl (by exact (by repeat' (first|refine bT ?_ ?_|rfl|exact bV|exact bU|exact bW rfl))) (by exact (by repeat' (first|refine bT ?_ ?_|rfl|exact bV|exact bU|exact bW rfl))) rfl rfl ?_
  intro C
  refine LWP.ends ?_
  (refine aA<|rgN<|aL O O O dR<|aP O dR ?_;refine aB<|aA<|rgN<|kfa O O ?_;refine kl1 O O O<|kfa O O ?_;refine kl1 O O O<|aT O O (by exact O) (by exact nl3 O O O O) dR ?_;refine aP O dR ?_;refine aM O O O O O O dR ?_;refine aB<|aA<|aA<|rgN<|kas O<|aB<|aG ?_)
  refine cL (fun m σ=>m=0∧σ=⟨[(1,Lp 1),(2,Lp 2),(3,Lp 3),(4,Ln .i64 0)],[v3B 29 3 va vb none 0 0,v3B 29 2 0 0 none 0 0,v3B 24 1 va vb ad 0 cap],X⟩) 0
    ⟨_,Le.of (by exact ⟨rfl,rfl,rfl,rfl,trivial⟩) (by exact ⟨rfl,rfl,rfl,trivial⟩) (by exact rfl) (by exact rfl) (by repeat' (first|refine bT ?_ ?_|rfl|exact bV|exact bU|exact bW rfl)),rfl,rfl⟩ ?_
  rintro m σ ⟨rfl,rfl⟩
  (refine aA<|aA<|rgN<|kmv O<|kfa O O ?_;refine kl1 O O O<|aQ O cC O dR ?_;refine klt O O (r:=false) O<|aB<|aF O ?_;refine aJ<|aA<|rgN<|aK O O O dR ?_;refine aM O O O O O O dR ?_;refine aB<|aI ?_)
  exact cD ⟨[],⟨[_],⟨⟨_,_,rfl,rfl,rfl,.inl ⟨AggT.h,rfl⟩⟩,trivial⟩,rfl⟩,(by repeat' (first|exact trivial|refine cQ ⟨_,rfl,?_⟩ ?_|refine cQ ⟨_,rfl⟩ ?_|rfl|exact bX _ _ _ _|exact bY _ _ _ _|exact bZ rfl)),rfl,rfl⟩
set_option maxHeartbeats 25600000 in
theorem form12_some (va vb:Int) (rs:List Rl) (ad:Option Addr) (cap:Nat) (hin:RulesIn X ad rs) (h0:0<rs.length) (hg:rs.length≤30∧∀ r∈rs,r.ex.length≤12∧∀ c∈r.ex,c.length≤80):
    MSpec Tryz.prog X 9 [LPg va vb ad rs.length cap] [] (.sv (.agg [.val (.int .i64 va),.val (.int .i64 vb),.slc 1000001 0 rs.length 3])) [rlB 51 1000001 rs]:=by
  have hsm:=hin.small
  have hl30:=hg.1
  refine cG Tryz.func9 rfl (by kernel_rfl) rfl (by exact (by repeat' (first|refine bT ?_ ?_|rfl|exact bV|exact bU|exact bW rfl))) (by exact (by repeat' (first|refine bT ?_ ?_|rfl|exact bV|exact bU|exact bW rfl))) rfl rfl ?_
  intro C
  refine LWP.ends ?_
  (refine aA<|rgN<|aL O O O dR<|aP O dR ?_;refine aB<|aA<|rgN<|kfa O O ?_;refine kl1 O O O<|kfa O O ?_;refine kl1 O O O<|aT O O (by exact O) (by exact nl3 O O O O) dR ?_;refine aP O dR ?_;refine aM O O O O O O dR ?_;refine aB<|aA<|aA<|rgN<|kas O<|aB<|aG ?_)
  refine cM (fun m σ=>∃ (i:Nat) (ws:List Value) (H:Nat→Option Obj),i≤rs.length∧m=rs.length-i∧OwnedM C X H∧RulesH H ws (rs.take i)∧((i=0∧σ=⟨[(1,Lp 1),(2,Lp 2),(3,Lp 3),(4,Ln .i64 (i:Nat))],[v3B 29 3 va vb none 0 0,v3B 29 2 0 0 none 0 0,v3B 24 1 va vb ad rs.length cap],joinM X H⟩)∨(0<i∧σ=⟨[(1,Lp 1),(2,Lp 2),(3,Lp 3),(4,Ln .i64 (i:Nat))],[(600,some ⟨51,(rwZ (rs.take i) ws).map .val,true⟩),(3,some ⟨29,[.val (.int .i64 va),.val (.int .i64 vb),.slc 600 0 (i) 3],false⟩),v3B 29 2 0 0 none 0 0,v3B 24 1 va vb ad rs.length cap],joinM X H⟩))) rs.length
    (cE (σ':=⟨[(1,Lp 1),(2,Lp 2),(3,Lp 3),(4,Ln .i64 (0:Nat))],[v3B 29 3 va vb none 0 0,v3B 29 2 0 0 none 0 0,v3B 24 1 va vb ad rs.length cap],X⟩) (Le.of (by exact ⟨rfl,rfl,rfl,rfl,trivial⟩) (by exact ⟨rfl,rfl,rfl,trivial⟩) (by exact rfl) (by exact rfl) (by repeat' (first|refine bT ?_ ?_|rfl|exact bV|exact bU|exact bW rfl))) (cD ⟨0,[],fun _=>none,by omega,by omega,OwnedM.nil C X,RulesH.nil,.inl ⟨rfl,by rw [joinM_nil]⟩⟩)) ?_
  rintro m σ ⟨i,ws,H,hi,rfl,hO,GR,hst⟩
  rcases hst with ⟨hi0,rfl⟩|⟨hi0,rfl⟩
  · as_aux_lemma =>
      by_cases hlt:i<rs.length
      case neg =>
        have hie:i=rs.length:=by omega
        subst hi0
        exact absurd hie (by omega)
      obtain ⟨r,hr⟩:∃ r,rs[i]? = some r:=⟨_,cX hlt⟩
      obtain ⟨blk,off,arr,el,fr,ead,ecap,rfl,hX,hsiz,hcs,g1,g2,g3,hE⟩:=hin.get hr
      have hXJ:=joinM_has hO hX
      have hio:off+Int.toNat (i:Int)*3=off+i*3:=by simp
      have h12:=hg.2 r (dD hr)
      (refine aA<|aA<|rgN<|kmv O<|kfa O O ?_;refine kl1 O O O<|aQ O cC O dR ?_;refine klt O O (cP (by omega))<|aB<|aE O ?_;refine aH ?_;refine aA<|aG<|aA<|rgD mixed<|kfa O O ?_;refine kl1 O O O<|kmv O<|aR O O cC (by omega) hio dR<|bH O O dR ?_;refine aW O hXJ O g1 dR<|kfa O O ?_;refine kl1 O O O<|kmv O<|aR O O cC (by omega) hio dR<|bH O O dR ?_;refine aW O hXJ O g2 dR<|aT O O (by exact O) (by exact nl3 O O O O) dR ?_;refine aP O dR ?_;refine aM O O O O O O dR ?_;refine aB<|rgA ?_;refine aA<|aA<|rgN<|kas O<|aB<|aG ?_)
      refine cM (fun m σ=>∃ (k:Nat) (vs:List Value) (H:Nat→Option Obj),k≤r.ex.length∧m=r.ex.length-k∧OwnedM C X H∧RulesH H ws (rs.take i)∧FormsH H vs (r.ex.take k)∧((k=0∧σ=⟨[(1,Lp 1),(2,Lp 2),(3,Lp 3),(4,Ln .i64 (i:Nat)),(5,Lp 5),(6,Ln .i64 (k:Nat))],[v3B 51 5 r.nw r.old none 0 0,v3B 29 3 va vb none 0 0,v3B 29 2 0 0 none 0 0,v3B 24 1 va vb (some ⟨blk,off,none⟩) rs.length cap],joinM X H⟩)∨(0<k∧σ=⟨[(1,Lp 1),(2,Lp 2),(3,Lp 3),(4,Ln .i64 (i:Nat)),(5,Lp 5),(6,Ln .i64 (k:Nat))],[(601,some ⟨69,(vs).map .val,true⟩),(5,some ⟨51,[.val (.int .i64 r.nw),.val (.int .i64 r.old),.slc 601 0 (k) 1],false⟩),v3B 29 3 va vb none 0 0,v3B 29 2 0 0 none 0 0,v3B 24 1 va vb (some ⟨blk,off,none⟩) rs.length cap],joinM X H⟩))) r.ex.length
        (cE (σ':=⟨[(1,Lp 1),(2,Lp 2),(3,Lp 3),(4,Ln .i64 (i:Nat)),(5,Lp 5),(6,Ln .i64 (0:Nat))],[v3B 51 5 r.nw r.old none 0 0,v3B 29 3 va vb none 0 0,v3B 29 2 0 0 none 0 0,v3B 24 1 va vb (some ⟨blk,off,none⟩) rs.length cap],joinM X H⟩) (Le.of (by exact ⟨rfl,rfl,rfl,rfl,rfl,rfl,trivial⟩) (by exact ⟨rfl,rfl,rfl,rfl,trivial⟩) (by exact rfl) (by exact rfl) (by repeat' (first|refine bT ?_ ?_|rfl|exact bV|exact bU|exact bW rfl))) (cD ⟨0,[],H,by omega,by omega,hO,GR,FormsH.nil,.inl ⟨rfl,rfl⟩⟩)) ?_
      clear hXJ hO GR
      clear H
      rintro m σ ⟨k,vs,H,hk,rfl,hO,GR,GF,hst⟩
      have hXJ:=joinM_has hO hX
      rcases hst with ⟨hk0,rfl⟩|⟨hk0,rfl⟩
      · as_aux_lemma =>
          by_cases hkl:k<r.ex.length
          case neg =>
            have hke:k=r.ex.length:=by omega
            subst hke
            rw [dF] at GF
            have hwl:=GR.len
            have hrl:((rwZ (rs.take i) ws).map CV.val).length=i*3:=by rw [cW,rwZ_len hwl,cZ];omega
            have hadd:IntKind.i64.wrap ((i:Int)+1)=((i+1:Nat):Int):=by rw [cH (by omega)];omega
            have hnc3:(rwZ (rs.take i) ws).map CV.val++[.val (.int .i64 r.nw),.val (.int .i64 r.old),.val (.slice none 0 0)]=(rwZ (rs.take i++[r]) (ws++[.slice none 0 0])).map .val:=by
              rw [rwZ_add hwl];simp
            (refine aA<|aA<|rgN<|kmv O<|kfa O O ?_;refine kl1 O O O<|kmv O<|aR O O cC (by omega) hio dR<|bH O O dR ?_;refine aW O hXJ O g3 dR<|aQ O cC O dR ?_;refine klt O O (cO (by omega))<|aB<|aF O ?_;refine aJ<|rgN<|kfa O O ?_;refine kl1 O O O<|aK O O O dR ?_;refine aZ (zs:=[.int .i64 0,.int .i64 0,.slice none 0 0]) (sz:=3) (e:=51) (cs':=[.val (.int .i64 r.nw),.val (.int .i64 r.old),.val (.slice none 0 0)]) (by kernel_rfl) O O O O O O dR<|K.appendNil (by_:=40) (e:=51) (e2:=51) (l2:=[.val (.int .i64 r.nw),.val (.int .i64 r.old),.val (.slice none 0 0)]) O O O (dN _) O O (by decide) (by kernel_rfl) (by kernel_rfl) (by omega) (by omega) O dR ?_;refine kfa O O ?_;refine bG O O O O O (nl3 O O O O) dR<|aB<|rgN<|kmv O<|kad O O hadd<|kas O<|aB ?_)
            refine cE (σ':=⟨[(1,Lp 1),(2,Lp 2),(3,Lp 3),(4,Ln .i64 (i+1:Nat))],[(600,some ⟨51,(rwZ (rs.take (i+1)) (ws++[.slice none 0 0])).map .val,true⟩),(3,some ⟨29,[.val (.int .i64 va),.val (.int .i64 vb),.slc 600 0 (i+1) 3],false⟩),v3B 29 2 0 0 none 0 0,v3B 24 1 va vb (some ⟨blk,off,none⟩) rs.length cap],joinM X H⟩) ?_ (cD ⟨rs.length-(i+1),by omega,i+1,ws++[.slice none 0 0],H,by omega,O,hO,?_,.inr ⟨by omega,O⟩⟩)
            · rw [take_snoc hr]
              subst hi0
              rw [show rs.take 0=[] from rfl,show ws=[] from List.eq_nil_of_length_eq_zero (by have:=GR.len;rw [cZ] at this;omega)]
              exact Le.ofR [(600,95)] (by exact ⟨rfl,rfl,rfl,rfl,trivial⟩) (by repeat' (first|exact trivial|refine cQ ⟨_,rfl,?_⟩ ?_|refine cQ ⟨_,rfl⟩ ?_|rfl|exact bX _ _ _ _|exact bY _ _ _ _|exact bZ rfl)) (by exact rfl) (by exact rfl) (by repeat' (first|refine bT ?_ ?_|rfl|exact bV|exact bU|exact bW rfl)) (by exact rfl) (by exact rfl)
            · rw [take_snoc hr]
              exact GR.push (by rw [show r.ex=[] from List.eq_nil_of_length_eq_zero (by omega)];exact CodesIn.nilIn)
          obtain ⟨c,hc⟩:∃ c,r.ex[k]? = some c:=⟨_,cX hkl⟩
          obtain ⟨eb,eo,earr,eel,efr,vad,vcap,rfl,hEX,hec,hI⟩:=hE.get hc
          have hEJ:=joinM_has hO hEX
          have hio3:eo+Int.toNat (k:Int)*1=eo+k*1:=by simp
          have h80:=h12.2 c (dD hc)
          have hvk:=GF.len
          rw [cZ] at hvk
          have hvl:(vs.map CV.val).length=k*1:=by rw [cW];omega
          subst hk0
          (refine aA<|aA<|rgN<|kmv O<|kfa O O ?_;refine kl1 O O O<|kmv O<|aR O O cC (by omega) hio dR<|bH O O dR ?_;refine aW O hXJ O g3 dR<|aQ O cC O dR ?_;refine klt O O (cP (by omega))<|aB<|aE O ?_;refine aH ?_;refine aA<|aG<|aA<|rgN<|aZ (zs:=[]) (sz:=6) (e:=70) (by kernel_rfl) O O O O O O dR<|kas O<|aB<|aA<|aA<|rgN<|kas O<|aB<|aG ?_)
          refine cL (fun m σ=>∃ n:Nat,n≤c.length∧m=c.length-n∧σ=⟨[(1,Lp 1),(2,Lp 2),(3,Lp 3),(4,Ln .i64 (i:Nat)),(5,Lp 5),(6,Ln .i64 (0:Nat)),(7,.sv (.one (.slc 500 0 (n) 6))),(8,Ln .i64 (n:Nat))],[(500,some ⟨70,(inssV (c.take (n))).map .val,Nat.blt 0 (n)⟩),v3B 51 5 r.nw r.old none 0 0,v3B 29 3 va vb none 0 0,v3B 29 2 0 0 none 0 0,v3B 24 1 va vb (some ⟨blk,off,none⟩) rs.length cap],joinM X H⟩) c.length
            ⟨⟨[(1,Lp 1),(2,Lp 2),(3,Lp 3),(4,Ln .i64 (i:Nat)),(5,Lp 5),(6,Ln .i64 (0:Nat)),(7,.sv (.one (.slc 500 0 (0) 6))),(8,Ln .i64 (0:Nat))],[(500,some ⟨70,(inssV (c.take (0))).map .val,Nat.blt 0 (0)⟩),v3B 51 5 r.nw r.old none 0 0,v3B 29 3 va vb none 0 0,v3B 29 2 0 0 none 0 0,v3B 24 1 va vb (some ⟨blk,off,none⟩) rs.length cap],joinM X H⟩,Le.ofR [(500,46)] (by exact ⟨rfl,rfl,rfl,rfl,rfl,rfl,rfl,rfl,trivial⟩) (by repeat' (first|exact trivial|refine cQ ⟨_,rfl,?_⟩ ?_|refine cQ ⟨_,rfl⟩ ?_|rfl|exact bX _ _ _ _|exact bY _ _ _ _|exact bZ rfl)) (by exact rfl) (by exact rfl) (by repeat' (first|refine bT ?_ ?_|rfl|exact bV|exact bU|exact bW rfl)) (by exact rfl) (by exact rfl),0,by omega,by omega,rfl⟩ ?_
          rintro m σ ⟨n,hn,rfl,rfl⟩
          by_cases hnl:n<c.length
          case neg =>
            have e:n=c.length:=by omega
            subst e
            have hadd:IntKind.i64.wrap (((0:Nat):Int)+1)=((0+1:Nat):Int):=rfl
            (refine aA<|aA<|rgN<|kmv O<|kfa O O ?_;refine kl1 O O O<|kmv O<|aR O O cC (by omega) hio dR<|bH O O dR ?_;refine aW O hXJ O g3 dR<|kmv O<|aR O O cC (by omega) hio3 dR<|aW O hEJ O hec dR<|aQ O cC O dR ?_;refine klt O O (cO (by omega))<|aB<|aF O ?_;refine aJ<|rgN<|kfa O O ?_;refine kl1 O O O<|kmv O<|aZ (zs:=[.slice none 0 0]) (sz:=1) (e:=69) (cs':=[.slc 500 0 c.length 6]) (by kernel_rfl) O O O O O O dR<|K.appendNil (by_:=24) (e:=69) (e2:=69) (l2:=[.slc 500 0 c.length 6]) O O O (dN _) O O (by decide) (by kernel_rfl) (by kernel_rfl) (by omega) (by omega) O dR ?_;refine kfa O O ?_;refine bG O O O O O (nl3 O O O O) dR<|aB<|rgN<|kmv O<|kad O O hadd<|kas O<|aB ?_)
            refine cE (σ':=⟨[(1,Lp 1),(2,Lp 2),(3,Lp 3),(4,Ln .i64 (i:Nat)),(5,Lp 5),(6,Ln .i64 (0+1:Nat))],[(601,some ⟨69,vs.map .val ++ .slc 500 0 c.length 6::([]:List Value).map .val,true⟩),(500,some ⟨70,(inssV c).map .val,Nat.blt 0 c.length⟩),(5,some ⟨51,[.val (.int .i64 r.nw),.val (.int .i64 r.old),.slc 601 0 (0+1) 1],false⟩),v3B 29 3 va vb none 0 0,v3B 29 2 0 0 none 0 0,v3B 24 1 va vb (some ⟨blk,off,none⟩) rs.length cap],joinM X H⟩) ?_ ?_
            · rw [dF]
              rw [show vs=[] from List.eq_nil_of_length_eq_zero (by omega)]
              exact Le.ofR [(601,89)] (by exact ⟨rfl,rfl,rfl,rfl,rfl,rfl,trivial⟩) (by repeat' (first|exact trivial|refine cQ ⟨_,rfl,?_⟩ ?_|refine cQ ⟨_,rfl⟩ ?_|rfl|exact bX _ _ _ _|exact bY _ _ _ _|exact bZ rfl)) (by exact rfl) (by exact rfl) (by repeat' (first|refine bT ?_ ?_|rfl|exact bV|exact bU|exact bW rfl)) (by exact rfl) (by exact rfl)
            refine Leads.closeCell hO (by have:=inssV_len c;rw [cW] at this;exact this) rfl bU rfl (by repeat' (first|refine bT ?_ ?_|rfl|exact bU)) rfl rfl fun b o v g1 _ hO3 hv=>cD ⟨r.ex.length-(0+1),by omega,0+1,vs++[v],withBlock H b o,by omega,rfl,hO3,GR.mono (cJ g1),?_,.inr ⟨by omega,?_⟩⟩
            · rw [take_snoc hc]
              exact (GF.mono (cJ g1)).push (ins_leads hv hI.small)
            · rw [dH]
              rfl
          obtain ⟨x,hx⟩:∃ x,c[n]? = some x:=⟨_,cX hnl⟩
          obtain ⟨xb,xo,xarr,xel,xfr,rfl,hxX,hxz,hxc,_⟩:=hI.at hx
          have hxJ:=joinM_has hO hxX
          have hxo:xo+Int.toNat (n:Int)*6=xo+n*6:=by simp
          have hadd:IntKind.i64.wrap ((n:Int)+1)=((n+1:Nat):Int):=by rw [cH (by omega)];omega
          have hcl:=inssV_len (c.take n)
          rw [cZ,Nat.min_eq_left hn] at hcl
          have hnc:=inssV_snoc (c.take n) x (cs:=[.val (.int .i64 x.op),.val (.int .i64 x.a),.val (.int .i64 x.b),.val (.bool x.k.1),.val (.int .u64 (x.k.2/18446744073709551616)),.val (.int .u64 (x.k.2%18446744073709551616))]) rfl
          rw [← take_snoc hx] at hnc
          (refine aA<|aA<|rgN<|kmv O<|kfa O O ?_;refine kl1 O O O<|kmv O<|aR O O cC (by omega) hio dR<|bH O O dR ?_;refine aW O hXJ O g3 dR<|kmv O<|aR O O cC (by omega) hio3 dR<|aW O hEJ O hec dR<|aQ O cC O dR ?_;refine klt O O (cP (by omega))<|aB<|aE O ?_;refine aH ?_;refine aA<|aG<|aA<|rgN<|kfa O O ?_;refine kl1 O O O<|kmv O<|aR O O cC (by omega) hio dR<|bH O O dR ?_;refine aW O hXJ O g3 dR<|kmv O<|aR O O cC (by omega) hio3 dR<|aW O hEJ O hec dR<|kmv O<|aR O O cC (by omega) hxo dR<|aY O hxJ (by kernel_rfl) hxz hxc dR<|aP O dR ?_;refine aM O O O O O O dR ?_;refine aB<|rgN<|kmv O<|kfa O O ?_;refine kl1 O O O<|kfa O O ?_;refine kl1 O O O<|kfa O O ?_;refine kl1 O O O<|kfa O O ?_;refine bJ O O O (by exact nl3 O O O O) dR ?_;refine aT O O (by exact O) (by exact nl6 O O O O O O O) dR ?_;refine aZ (zs:=[.int .i64 0,.int .i64 0,.int .i64 0,.bool false,.int .u64 0,.int .u64 0]) (sz:=6) (e:=70) (cs':=[.val (.int .i64 x.op),.val (.int .i64 x.a),.val (.int .i64 x.b),.val (.bool x.k.1),.val (.int .u64 (x.k.2/18446744073709551616)),.val (.int .u64 (x.k.2%18446744073709551616))]) (by kernel_rfl) O O O O O O dR<|bQ (by_:=48) (e2:=70) (l2:=[.val (.int .i64 x.op),.val (.int .i64 x.a),.val (.int .i64 x.b),.val (.bool x.k.1),.val (.int .u64 (x.k.2/18446744073709551616)),.val (.int .u64 (x.k.2%18446744073709551616))]) (nl:=n+1) (nc:=(inssV (c.take (n+1))).map .val) O O hcl O O (dN _) O O (by kernel_rfl) (by kernel_rfl) (by omega) (by omega) O O hnc dR<|kas O<|aB<|rgN<|kmv O<|kad O O hadd<|kas O<|aB ?_)
          exact ⟨_,⟨[(1,Lp 1),(2,Lp 2),(3,Lp 3),(4,Ln .i64 (i:Nat)),(5,Lp 5),(6,Ln .i64 (0:Nat)),(7,.sv (.one (.slc 500 0 (n+1) 6))),(8,Ln .i64 (n+1:Nat))],[(500,some ⟨70,(inssV (c.take (n+1))).map .val,Nat.blt 0 (n+1)⟩),v3B 51 5 r.nw r.old none 0 0,v3B 29 3 va vb none 0 0,v3B 29 2 0 0 none 0 0,v3B 24 1 va vb (some ⟨blk,off,none⟩) rs.length cap],joinM X H⟩,by omega,Le.ofR [(500,84)] (by exact ⟨rfl,rfl,rfl,rfl,rfl,rfl,rfl,rfl,trivial⟩) (by repeat' (first|exact trivial|refine cQ ⟨_,rfl,?_⟩ ?_|refine cQ ⟨_,rfl⟩ ?_|rfl|exact bX _ _ _ _|exact bY _ _ _ _|exact bZ rfl)) (by exact rfl) (by exact rfl) (by repeat' (first|refine bT ?_ ?_|rfl|exact bV|exact bU|exact bW rfl)) (by exact rfl) (by exact rfl),n+1,by omega,rfl,rfl⟩
      · as_aux_lemma =>
          by_cases hkl:k<r.ex.length
          case neg =>
            have hke:k=r.ex.length:=by omega
            subst hke
            rw [dF] at GF
            have hwl:=GR.len
            have hrl:((rwZ (rs.take i) ws).map CV.val).length=i*3:=by rw [cW,rwZ_len hwl,cZ];omega
            have hadd:IntKind.i64.wrap ((i:Int)+1)=((i+1:Nat):Int):=by rw [cH (by omega)];omega
            have hnc3:(rwZ (rs.take i) ws).map CV.val++[.val (.int .i64 r.nw),.val (.int .i64 r.old),.slc 601 0 r.ex.length 1]=(rwZ (rs.take i) ws++[Value.int .i64 r.nw,Value.int .i64 r.old]).map .val ++ .slc 601 0 r.ex.length 1::([]:List Value).map .val:=by
              simp
            (refine aA<|aA<|rgN<|kmv O<|kfa O O ?_;refine kl1 O O O<|kmv O<|aR O O cC (by omega) hio dR<|bH O O dR ?_;refine aW O hXJ O g3 dR<|aQ O cC O dR ?_;refine klt O O (cO (by omega))<|aB<|aF O ?_;refine aJ<|rgN<|kfa O O ?_;refine kl1 O O O<|aK O O O dR ?_;refine aZ (zs:=[.int .i64 0,.int .i64 0,.slice none 0 0]) (sz:=3) (e:=51) (cs':=[.val (.int .i64 r.nw),.val (.int .i64 r.old),.slc 601 0 r.ex.length 1]) (by kernel_rfl) O O O O O O dR<|K.appendNil (by_:=40) (e:=51) (e2:=51) (l2:=[.val (.int .i64 r.nw),.val (.int .i64 r.old),.slc 601 0 r.ex.length 1]) O O O (dN _) O O (by decide) (by kernel_rfl) (by kernel_rfl) (by omega) (by omega) O dR ?_;refine kfa O O ?_;refine bG O O O O O (nl3 O O O O) dR<|aB<|rgN<|kmv O<|kad O O hadd<|kas O<|aB ?_)
            refine cE (σ':=⟨[(1,Lp 1),(2,Lp 2),(3,Lp 3),(4,Ln .i64 (i+1:Nat))],[(600,some ⟨51,(rwZ (rs.take i) ws++[Value.int .i64 r.nw,Value.int .i64 r.old]).map .val ++ .slc 601 0 r.ex.length 1::([]:List Value).map .val,true⟩),(601,some ⟨69,vs.map .val,true⟩),(3,some ⟨29,[.val (.int .i64 va),.val (.int .i64 vb),.slc 600 0 (i+1) 3],false⟩),v3B 29 2 0 0 none 0 0,v3B 24 1 va vb (some ⟨blk,off,none⟩) rs.length cap],joinM X H⟩) ?_ ?_
            · subst hi0
              rw [show rs.take 0=[] from rfl,show ws=[] from List.eq_nil_of_length_eq_zero (by have:=GR.len;rw [cZ] at this;omega)]
              exact Le.ofR [(600,95)] (by exact ⟨rfl,rfl,rfl,rfl,trivial⟩) (by repeat' (first|exact trivial|refine cQ ⟨_,rfl,?_⟩ ?_|refine cQ ⟨_,rfl⟩ ?_|rfl|exact bX _ _ _ _|exact bY _ _ _ _|exact bZ rfl)) (by exact rfl) (by exact rfl) (by repeat' (first|refine bT ?_ ?_|rfl|exact bV|exact bU|exact bW rfl)) (by exact rfl) (by exact rfl)
            refine Leads.closeCell hO (by have:=GF.len;omega) O bU O (by repeat' (first|refine bT ?_ ?_|rfl|exact bU)) O O fun b o v g1 _ hO3 hv=>cD ⟨rs.length-(i+1),by omega,i+1,ws++[v],withBlock H b o,by omega,O,hO3,?_,.inr ⟨by omega,?_⟩⟩
            · rw [take_snoc hr]
              exact (GR.mono (cJ g1)).push (codes_leads hv (GF.mono (cJ g1)))
            · rw [take_snoc hr,rwZ_add hwl]
              simp
          obtain ⟨c,hc⟩:∃ c,r.ex[k]? = some c:=⟨_,cX hkl⟩
          obtain ⟨eb,eo,earr,eel,efr,vad,vcap,rfl,hEX,hec,hI⟩:=hE.get hc
          have hEJ:=joinM_has hO hEX
          have hio3:eo+Int.toNat (k:Int)*1=eo+k*1:=by simp
          have h80:=h12.2 c (dD hc)
          have hvk:=GF.len
          rw [cZ] at hvk
          have hvl:(vs.map CV.val).length=k*1:=by rw [cW];omega
          (refine aA<|aA<|rgN<|kmv O<|kfa O O ?_;refine kl1 O O O<|kmv O<|aR O O cC (by omega) hio dR<|bH O O dR ?_;refine aW O hXJ O g3 dR<|aQ O cC O dR ?_;refine klt O O (cP (by omega))<|aB<|aE O ?_;refine aH ?_;refine aA<|aG<|aA<|rgN<|aZ (zs:=[]) (sz:=6) (e:=70) (by kernel_rfl) O O O O O O dR<|kas O<|aB<|aA<|aA<|rgN<|kas O<|aB<|aG ?_)
          refine cL (fun m σ=>∃ n:Nat,n≤c.length∧m=c.length-n∧σ=⟨[(1,Lp 1),(2,Lp 2),(3,Lp 3),(4,Ln .i64 (i:Nat)),(5,Lp 5),(6,Ln .i64 (k:Nat)),(7,.sv (.one (.slc 500 0 (n) 6))),(8,Ln .i64 (n:Nat))],[(500,some ⟨70,(inssV (c.take (n))).map .val,Nat.blt 0 (n)⟩),(601,some ⟨69,(vs).map .val,true⟩),(5,some ⟨51,[.val (.int .i64 r.nw),.val (.int .i64 r.old),.slc 601 0 (k) 1],false⟩),v3B 29 3 va vb none 0 0,v3B 29 2 0 0 none 0 0,v3B 24 1 va vb (some ⟨blk,off,none⟩) rs.length cap],joinM X H⟩) c.length
            ⟨⟨[(1,Lp 1),(2,Lp 2),(3,Lp 3),(4,Ln .i64 (i:Nat)),(5,Lp 5),(6,Ln .i64 (k:Nat)),(7,.sv (.one (.slc 500 0 (0) 6))),(8,Ln .i64 (0:Nat))],[(500,some ⟨70,(inssV (c.take (0))).map .val,Nat.blt 0 (0)⟩),(601,some ⟨69,(vs).map .val,true⟩),(5,some ⟨51,[.val (.int .i64 r.nw),.val (.int .i64 r.old),.slc 601 0 (k) 1],false⟩),v3B 29 3 va vb none 0 0,v3B 29 2 0 0 none 0 0,v3B 24 1 va vb (some ⟨blk,off,none⟩) rs.length cap],joinM X H⟩,Le.ofR [(500,46)] (by exact ⟨rfl,rfl,rfl,rfl,rfl,rfl,rfl,rfl,trivial⟩) (by repeat' (first|exact trivial|refine cQ ⟨_,rfl,?_⟩ ?_|refine cQ ⟨_,rfl⟩ ?_|rfl|exact bX _ _ _ _|exact bY _ _ _ _|exact bZ rfl)) (by exact rfl) (by exact rfl) (by repeat' (first|refine bT ?_ ?_|rfl|exact bV|exact bU|exact bW rfl)) (by exact rfl) (by exact rfl),0,by omega,by omega,rfl⟩ ?_
          rintro m σ ⟨n,hn,rfl,rfl⟩
          by_cases hnl:n<c.length
          case neg =>
            have e:n=c.length:=by omega
            subst e
            have hadd:IntKind.i64.wrap ((k:Int)+1)=((k+1:Nat):Int):=by rw [cH (by omega)];omega
            (refine aA<|aA<|rgN<|kmv O<|kfa O O ?_;refine kl1 O O O<|kmv O<|aR O O cC (by omega) hio dR<|bH O O dR ?_;refine aW O hXJ O g3 dR<|kmv O<|aR O O cC (by omega) hio3 dR<|aW O hEJ O hec dR<|aQ O cC O dR ?_;refine klt O O (cO (by omega))<|aB<|aF O ?_;refine aJ<|rgN<|kfa O O ?_;refine kl1 O O O<|kmv O<|aZ (zs:=[.slice none 0 0]) (sz:=1) (e:=69) (cs':=[.slc 500 0 c.length 6]) (by kernel_rfl) O O O O O O dR<|bQ (by_:=24) (e2:=69) (l2:=[.slc 500 0 c.length 6]) (nl:=k+1) (nc:=vs.map .val++[.slc 500 0 c.length 6]) O O hvl O O (dN _) O O (by kernel_rfl) (by kernel_rfl) (by omega) (by omega) O O O dR<|kfa O O ?_;refine bG O O O O O (nl3 O O O O) dR<|aB<|rgN<|kmv O<|kad O O hadd<|kas O<|aB ?_)
            refine cE (σ':=⟨[(1,Lp 1),(2,Lp 2),(3,Lp 3),(4,Ln .i64 (i:Nat)),(5,Lp 5),(6,Ln .i64 (k+1:Nat))],[(601,some ⟨69,vs.map .val ++ .slc 500 0 c.length 6::([]:List Value).map .val,true⟩),(500,some ⟨70,(inssV c).map .val,Nat.blt 0 c.length⟩),(5,some ⟨51,[.val (.int .i64 r.nw),.val (.int .i64 r.old),.slc 601 0 (k+1) 1],false⟩),v3B 29 3 va vb none 0 0,v3B 29 2 0 0 none 0 0,v3B 24 1 va vb (some ⟨blk,off,none⟩) rs.length cap],joinM X H⟩) ?_ ?_
            · rw [dF]
              exact Le.ofR [(601,89)] (by exact ⟨rfl,rfl,rfl,rfl,rfl,rfl,trivial⟩) (by repeat' (first|exact trivial|refine cQ ⟨_,rfl,?_⟩ ?_|refine cQ ⟨_,rfl⟩ ?_|rfl|exact bX _ _ _ _|exact bY _ _ _ _|exact bZ rfl)) (by exact rfl) (by exact rfl) (by repeat' (first|refine bT ?_ ?_|rfl|exact bV|exact bU|exact bW rfl)) (by exact rfl) (by exact rfl)
            refine Leads.closeCell hO (by have:=inssV_len c;rw [cW] at this;exact this) rfl bU rfl (by repeat' (first|refine bT ?_ ?_|rfl|exact bU)) rfl rfl fun b o v g1 _ hO3 hv=>cD ⟨r.ex.length-(k+1),by omega,k+1,vs++[v],withBlock H b o,by omega,rfl,hO3,GR.mono (cJ g1),?_,.inr ⟨by omega,?_⟩⟩
            · rw [take_snoc hc]
              exact (GF.mono (cJ g1)).push (ins_leads hv hI.small)
            · rw [dH]
              rfl
          obtain ⟨x,hx⟩:∃ x,c[n]? = some x:=⟨_,cX hnl⟩
          obtain ⟨xb,xo,xarr,xel,xfr,rfl,hxX,hxz,hxc,_⟩:=hI.at hx
          have hxJ:=joinM_has hO hxX
          have hxo:xo+Int.toNat (n:Int)*6=xo+n*6:=by simp
          have hadd:IntKind.i64.wrap ((n:Int)+1)=((n+1:Nat):Int):=by rw [cH (by omega)];omega
          have hcl:=inssV_len (c.take n)
          rw [cZ,Nat.min_eq_left hn] at hcl
          have hnc:=inssV_snoc (c.take n) x (cs:=[.val (.int .i64 x.op),.val (.int .i64 x.a),.val (.int .i64 x.b),.val (.bool x.k.1),.val (.int .u64 (x.k.2/18446744073709551616)),.val (.int .u64 (x.k.2%18446744073709551616))]) rfl
          rw [← take_snoc hx] at hnc
          (refine aA<|aA<|rgN<|kmv O<|kfa O O ?_;refine kl1 O O O<|kmv O<|aR O O cC (by omega) hio dR<|bH O O dR ?_;refine aW O hXJ O g3 dR<|kmv O<|aR O O cC (by omega) hio3 dR<|aW O hEJ O hec dR<|aQ O cC O dR ?_;refine klt O O (cP (by omega))<|aB<|aE O ?_;refine aH ?_;refine aA<|aG<|aA<|rgN<|kfa O O ?_;refine kl1 O O O<|kmv O<|aR O O cC (by omega) hio dR<|bH O O dR ?_;refine aW O hXJ O g3 dR<|kmv O<|aR O O cC (by omega) hio3 dR<|aW O hEJ O hec dR<|kmv O<|aR O O cC (by omega) hxo dR<|aY O hxJ (by kernel_rfl) hxz hxc dR<|aP O dR ?_;refine aM O O O O O O dR ?_;refine aB<|rgN<|kmv O<|kfa O O ?_;refine kl1 O O O<|kfa O O ?_;refine kl1 O O O<|kfa O O ?_;refine kl1 O O O<|kfa O O ?_;refine bJ O O O (by exact nl3 O O O O) dR ?_;refine aT O O (by exact O) (by exact nl6 O O O O O O O) dR ?_;refine aZ (zs:=[.int .i64 0,.int .i64 0,.int .i64 0,.bool false,.int .u64 0,.int .u64 0]) (sz:=6) (e:=70) (cs':=[.val (.int .i64 x.op),.val (.int .i64 x.a),.val (.int .i64 x.b),.val (.bool x.k.1),.val (.int .u64 (x.k.2/18446744073709551616)),.val (.int .u64 (x.k.2%18446744073709551616))]) (by kernel_rfl) O O O O O O dR<|bQ (by_:=48) (e2:=70) (l2:=[.val (.int .i64 x.op),.val (.int .i64 x.a),.val (.int .i64 x.b),.val (.bool x.k.1),.val (.int .u64 (x.k.2/18446744073709551616)),.val (.int .u64 (x.k.2%18446744073709551616))]) (nl:=n+1) (nc:=(inssV (c.take (n+1))).map .val) O O hcl O O (dN _) O O (by kernel_rfl) (by kernel_rfl) (by omega) (by omega) O O hnc dR<|kas O<|aB<|rgN<|kmv O<|kad O O hadd<|kas O<|aB ?_)
          exact ⟨_,⟨[(1,Lp 1),(2,Lp 2),(3,Lp 3),(4,Ln .i64 (i:Nat)),(5,Lp 5),(6,Ln .i64 (k:Nat)),(7,.sv (.one (.slc 500 0 (n+1) 6))),(8,Ln .i64 (n+1:Nat))],[(500,some ⟨70,(inssV (c.take (n+1))).map .val,Nat.blt 0 (n+1)⟩),(601,some ⟨69,(vs).map .val,true⟩),(5,some ⟨51,[.val (.int .i64 r.nw),.val (.int .i64 r.old),.slc 601 0 (k) 1],false⟩),v3B 29 3 va vb none 0 0,v3B 29 2 0 0 none 0 0,v3B 24 1 va vb (some ⟨blk,off,none⟩) rs.length cap],joinM X H⟩,by omega,Le.ofR [(500,84)] (by exact ⟨rfl,rfl,rfl,rfl,rfl,rfl,rfl,rfl,trivial⟩) (by repeat' (first|exact trivial|refine cQ ⟨_,rfl,?_⟩ ?_|refine cQ ⟨_,rfl⟩ ?_|rfl|exact bX _ _ _ _|exact bY _ _ _ _|exact bZ rfl)) (by exact rfl) (by exact rfl) (by repeat' (first|refine bT ?_ ?_|rfl|exact bV|exact bU|exact bW rfl)) (by exact rfl) (by exact rfl),n+1,by omega,rfl,rfl⟩
  · as_aux_lemma =>
      by_cases hlt:i<rs.length
      case neg =>
        have hie:i=rs.length:=by omega
        subst hie
        rw [dF] at GR ⊢
        (refine aA<|aA<|rgN<|kmv O<|kfa O O ?_;refine kl1 O O O<|aQ O cC O dR ?_;refine klt O O (cO (by omega))<|aB<|aF O ?_;refine aJ<|aA<|rgN<|aK O O O dR ?_;refine aM O O O O O O dR ?_;refine aB<|aI ?_)
        refine cE (σ':=⟨[(2,Lp 2)],[(600,some ⟨51,(rwZ rs ws).map .val,true⟩),(2,some ⟨29,[.val (.int .i64 va),.val (.int .i64 vb),.slc 600 0 rs.length 3],false⟩)],joinM X H⟩) (Le.of (by exact ⟨O,trivial⟩) (by exact ⟨O,O,trivial⟩) (by exact O) (by exact O) (by repeat' (first|refine bT ?_ ?_|rfl|exact bV|exact bU|exact bW O))) ?_
        refine Leads.spare fun sp=>rl_shut hO GR hsm (cD ?_)
        exact ⟨[(1000001,600)],⟨[_],⟨⟨_,_,rfl,rfl,rfl,.inl ⟨AggT.h,rfl⟩⟩,trivial⟩,rfl⟩,(by repeat' (first|exact trivial|refine cQ ⟨_,rfl,?_⟩ ?_|refine cQ ⟨_,rfl⟩ ?_|rfl|exact bX _ _ _ _|exact bY _ _ _ _|exact bZ rfl)),rfl,rfl⟩
      obtain ⟨r,hr⟩:∃ r,rs[i]? = some r:=⟨_,cX hlt⟩
      obtain ⟨blk,off,arr,el,fr,ead,ecap,rfl,hX,hsiz,hcs,g1,g2,g3,hE⟩:=hin.get hr
      have hXJ:=joinM_has hO hX
      have hio:off+Int.toNat (i:Int)*3=off+i*3:=by simp
      have h12:=hg.2 r (dD hr)
      (refine aA<|aA<|rgN<|kmv O<|kfa O O ?_;refine kl1 O O O<|aQ O cC O dR ?_;refine klt O O (cP (by omega))<|aB<|aE O ?_;refine aH ?_;refine aA<|aG<|aA<|rgD mixed<|kfa O O ?_;refine kl1 O O O<|kmv O<|aR O O cC (by omega) hio dR<|bH O O dR ?_;refine aW O hXJ O g1 dR<|kfa O O ?_;refine kl1 O O O<|kmv O<|aR O O cC (by omega) hio dR<|bH O O dR ?_;refine aW O hXJ O g2 dR<|aT O O (by exact O) (by exact nl3 O O O O) dR ?_;refine aP O dR ?_;refine aM O O O O O O dR ?_;refine aB<|rgA ?_;refine aA<|aA<|rgN<|kas O<|aB<|aG ?_)
      refine cM (fun m σ=>∃ (k:Nat) (vs:List Value) (H:Nat→Option Obj),k≤r.ex.length∧m=r.ex.length-k∧OwnedM C X H∧RulesH H ws (rs.take i)∧FormsH H vs (r.ex.take k)∧((k=0∧σ=⟨[(1,Lp 1),(2,Lp 2),(3,Lp 3),(4,Ln .i64 (i:Nat)),(5,Lp 5),(6,Ln .i64 (k:Nat))],[v3B 51 5 r.nw r.old none 0 0,(600,some ⟨51,(rwZ (rs.take i) ws).map .val,true⟩),(3,some ⟨29,[.val (.int .i64 va),.val (.int .i64 vb),.slc 600 0 (i) 3],false⟩),v3B 29 2 0 0 none 0 0,v3B 24 1 va vb (some ⟨blk,off,none⟩) rs.length cap],joinM X H⟩)∨(0<k∧σ=⟨[(1,Lp 1),(2,Lp 2),(3,Lp 3),(4,Ln .i64 (i:Nat)),(5,Lp 5),(6,Ln .i64 (k:Nat))],[(601,some ⟨69,(vs).map .val,true⟩),(5,some ⟨51,[.val (.int .i64 r.nw),.val (.int .i64 r.old),.slc 601 0 (k) 1],false⟩),(600,some ⟨51,(rwZ (rs.take i) ws).map .val,true⟩),(3,some ⟨29,[.val (.int .i64 va),.val (.int .i64 vb),.slc 600 0 (i) 3],false⟩),v3B 29 2 0 0 none 0 0,v3B 24 1 va vb (some ⟨blk,off,none⟩) rs.length cap],joinM X H⟩))) r.ex.length
        (cE (σ':=⟨[(1,Lp 1),(2,Lp 2),(3,Lp 3),(4,Ln .i64 (i:Nat)),(5,Lp 5),(6,Ln .i64 (0:Nat))],[v3B 51 5 r.nw r.old none 0 0,(600,some ⟨51,(rwZ (rs.take i) ws).map .val,true⟩),(3,some ⟨29,[.val (.int .i64 va),.val (.int .i64 vb),.slc 600 0 (i) 3],false⟩),v3B 29 2 0 0 none 0 0,v3B 24 1 va vb (some ⟨blk,off,none⟩) rs.length cap],joinM X H⟩) (Le.of (by exact ⟨rfl,rfl,rfl,rfl,rfl,rfl,trivial⟩) (by exact ⟨rfl,rfl,rfl,rfl,rfl,trivial⟩) (by exact rfl) (by exact rfl) (by repeat' (first|refine bT ?_ ?_|rfl|exact bV|exact bU|exact bW rfl))) (cD ⟨0,[],H,by omega,by omega,hO,GR,FormsH.nil,.inl ⟨rfl,rfl⟩⟩)) ?_
      clear hXJ hO GR
      clear H
      rintro m σ ⟨k,vs,H,hk,rfl,hO,GR,GF,hst⟩
      have hXJ:=joinM_has hO hX
      rcases hst with ⟨hk0,rfl⟩|⟨hk0,rfl⟩
      · as_aux_lemma =>
          by_cases hkl:k<r.ex.length
          case neg =>
            have hke:k=r.ex.length:=by omega
            subst hke
            rw [dF] at GF
            have hwl:=GR.len
            have hrl:((rwZ (rs.take i) ws).map CV.val).length=i*3:=by rw [cW,rwZ_len hwl,cZ];omega
            have hadd:IntKind.i64.wrap ((i:Int)+1)=((i+1:Nat):Int):=by rw [cH (by omega)];omega
            have hnc3:(rwZ (rs.take i) ws).map CV.val++[.val (.int .i64 r.nw),.val (.int .i64 r.old),.val (.slice none 0 0)]=(rwZ (rs.take i++[r]) (ws++[.slice none 0 0])).map .val:=by
              rw [rwZ_add hwl];simp
            (refine aA<|aA<|rgN<|kmv O<|kfa O O ?_;refine kl1 O O O<|kmv O<|aR O O cC (by omega) hio dR<|bH O O dR ?_;refine aW O hXJ O g3 dR<|aQ O cC O dR ?_;refine klt O O (cO (by omega))<|aB<|aF O ?_;refine aJ<|rgN<|kfa O O ?_;refine kl1 O O O<|aK O O O dR ?_;refine aZ (zs:=[.int .i64 0,.int .i64 0,.slice none 0 0]) (sz:=3) (e:=51) (cs':=[.val (.int .i64 r.nw),.val (.int .i64 r.old),.val (.slice none 0 0)]) (by kernel_rfl) O O O O O O dR<|bQ (by_:=40) (e2:=51) (l2:=[.val (.int .i64 r.nw),.val (.int .i64 r.old),.val (.slice none 0 0)]) (nl:=i+1) (nc:=(rwZ (rs.take i++[r]) (ws++[.slice none 0 0])).map .val) O O hrl O O (dN _) O O (by kernel_rfl) (by kernel_rfl) (by omega) (by omega) O O hnc3 dR<|kfa O O ?_;refine bG O O O O O (nl3 O O O O) dR<|aB<|rgN<|kmv O<|kad O O hadd<|kas O<|aB ?_)
            refine cE (σ':=⟨[(1,Lp 1),(2,Lp 2),(3,Lp 3),(4,Ln .i64 (i+1:Nat))],[(600,some ⟨51,(rwZ (rs.take (i+1)) (ws++[.slice none 0 0])).map .val,true⟩),(3,some ⟨29,[.val (.int .i64 va),.val (.int .i64 vb),.slc 600 0 (i+1) 3],false⟩),v3B 29 2 0 0 none 0 0,v3B 24 1 va vb (some ⟨blk,off,none⟩) rs.length cap],joinM X H⟩) ?_ (cD ⟨rs.length-(i+1),by omega,i+1,ws++[.slice none 0 0],H,by omega,O,hO,?_,.inr ⟨by omega,O⟩⟩)
            · rw [take_snoc hr]
              exact Le.ofR [(600,95)] (by exact ⟨rfl,rfl,rfl,rfl,trivial⟩) (by repeat' (first|exact trivial|refine cQ ⟨_,rfl,?_⟩ ?_|refine cQ ⟨_,rfl⟩ ?_|rfl|exact bX _ _ _ _|exact bY _ _ _ _|exact bZ rfl)) (by exact rfl) (by exact rfl) (by repeat' (first|refine bT ?_ ?_|rfl|exact bV|exact bU|exact bW rfl)) (by exact rfl) (by exact rfl)
            · rw [take_snoc hr]
              exact GR.push (by rw [show r.ex=[] from List.eq_nil_of_length_eq_zero (by omega)];exact CodesIn.nilIn)
          obtain ⟨c,hc⟩:∃ c,r.ex[k]? = some c:=⟨_,cX hkl⟩
          obtain ⟨eb,eo,earr,eel,efr,vad,vcap,rfl,hEX,hec,hI⟩:=hE.get hc
          have hEJ:=joinM_has hO hEX
          have hio3:eo+Int.toNat (k:Int)*1=eo+k*1:=by simp
          have h80:=h12.2 c (dD hc)
          have hvk:=GF.len
          rw [cZ] at hvk
          have hvl:(vs.map CV.val).length=k*1:=by rw [cW];omega
          subst hk0
          (refine aA<|aA<|rgN<|kmv O<|kfa O O ?_;refine kl1 O O O<|kmv O<|aR O O cC (by omega) hio dR<|bH O O dR ?_;refine aW O hXJ O g3 dR<|aQ O cC O dR ?_;refine klt O O (cP (by omega))<|aB<|aE O ?_;refine aH ?_;refine aA<|aG<|aA<|rgN<|aZ (zs:=[]) (sz:=6) (e:=70) (by kernel_rfl) O O O O O O dR<|kas O<|aB<|aA<|aA<|rgN<|kas O<|aB<|aG ?_)
          refine cL (fun m σ=>∃ n:Nat,n≤c.length∧m=c.length-n∧σ=⟨[(1,Lp 1),(2,Lp 2),(3,Lp 3),(4,Ln .i64 (i:Nat)),(5,Lp 5),(6,Ln .i64 (0:Nat)),(7,.sv (.one (.slc 500 0 (n) 6))),(8,Ln .i64 (n:Nat))],[(500,some ⟨70,(inssV (c.take (n))).map .val,Nat.blt 0 (n)⟩),v3B 51 5 r.nw r.old none 0 0,(600,some ⟨51,(rwZ (rs.take i) ws).map .val,true⟩),(3,some ⟨29,[.val (.int .i64 va),.val (.int .i64 vb),.slc 600 0 (i) 3],false⟩),v3B 29 2 0 0 none 0 0,v3B 24 1 va vb (some ⟨blk,off,none⟩) rs.length cap],joinM X H⟩) c.length
            ⟨⟨[(1,Lp 1),(2,Lp 2),(3,Lp 3),(4,Ln .i64 (i:Nat)),(5,Lp 5),(6,Ln .i64 (0:Nat)),(7,.sv (.one (.slc 500 0 (0) 6))),(8,Ln .i64 (0:Nat))],[(500,some ⟨70,(inssV (c.take (0))).map .val,Nat.blt 0 (0)⟩),v3B 51 5 r.nw r.old none 0 0,(600,some ⟨51,(rwZ (rs.take i) ws).map .val,true⟩),(3,some ⟨29,[.val (.int .i64 va),.val (.int .i64 vb),.slc 600 0 (i) 3],false⟩),v3B 29 2 0 0 none 0 0,v3B 24 1 va vb (some ⟨blk,off,none⟩) rs.length cap],joinM X H⟩,Le.ofR [(500,46)] (by exact ⟨rfl,rfl,rfl,rfl,rfl,rfl,rfl,rfl,trivial⟩) (by repeat' (first|exact trivial|refine cQ ⟨_,rfl,?_⟩ ?_|refine cQ ⟨_,rfl⟩ ?_|rfl|exact bX _ _ _ _|exact bY _ _ _ _|exact bZ rfl)) (by exact rfl) (by exact rfl) (by repeat' (first|refine bT ?_ ?_|rfl|exact bV|exact bU|exact bW rfl)) (by exact rfl) (by exact rfl),0,by omega,by omega,rfl⟩ ?_
          rintro m σ ⟨n,hn,rfl,rfl⟩
          by_cases hnl:n<c.length
          case neg =>
            have e:n=c.length:=by omega
            subst e
            have hadd:IntKind.i64.wrap (((0:Nat):Int)+1)=((0+1:Nat):Int):=rfl
            (refine aA<|aA<|rgN<|kmv O<|kfa O O ?_;refine kl1 O O O<|kmv O<|aR O O cC (by omega) hio dR<|bH O O dR ?_;refine aW O hXJ O g3 dR<|kmv O<|aR O O cC (by omega) hio3 dR<|aW O hEJ O hec dR<|aQ O cC O dR ?_;refine klt O O (cO (by omega))<|aB<|aF O ?_;refine aJ<|rgN<|kfa O O ?_;refine kl1 O O O<|kmv O<|aZ (zs:=[.slice none 0 0]) (sz:=1) (e:=69) (cs':=[.slc 500 0 c.length 6]) (by kernel_rfl) O O O O O O dR<|K.appendNil (by_:=24) (e:=69) (e2:=69) (l2:=[.slc 500 0 c.length 6]) O O O (dN _) O O (by decide) (by kernel_rfl) (by kernel_rfl) (by omega) (by omega) O dR ?_;refine kfa O O ?_;refine bG O O O O O (nl3 O O O O) dR<|aB<|rgN<|kmv O<|kad O O hadd<|kas O<|aB ?_)
            refine cE (σ':=⟨[(1,Lp 1),(2,Lp 2),(3,Lp 3),(4,Ln .i64 (i:Nat)),(5,Lp 5),(6,Ln .i64 (0+1:Nat))],[(601,some ⟨69,vs.map .val ++ .slc 500 0 c.length 6::([]:List Value).map .val,true⟩),(500,some ⟨70,(inssV c).map .val,Nat.blt 0 c.length⟩),(5,some ⟨51,[.val (.int .i64 r.nw),.val (.int .i64 r.old),.slc 601 0 (0+1) 1],false⟩),(600,some ⟨51,(rwZ (rs.take i) ws).map .val,true⟩),(3,some ⟨29,[.val (.int .i64 va),.val (.int .i64 vb),.slc 600 0 (i) 3],false⟩),v3B 29 2 0 0 none 0 0,v3B 24 1 va vb (some ⟨blk,off,none⟩) rs.length cap],joinM X H⟩) ?_ ?_
            · rw [dF]
              rw [show vs=[] from List.eq_nil_of_length_eq_zero (by omega)]
              exact Le.ofR [(601,89)] (by exact ⟨rfl,rfl,rfl,rfl,rfl,rfl,trivial⟩) (by repeat' (first|exact trivial|refine cQ ⟨_,rfl,?_⟩ ?_|refine cQ ⟨_,rfl⟩ ?_|rfl|exact bX _ _ _ _|exact bY _ _ _ _|exact bZ rfl)) (by exact rfl) (by exact rfl) (by repeat' (first|refine bT ?_ ?_|rfl|exact bV|exact bU|exact bW rfl)) (by exact rfl) (by exact rfl)
            refine Leads.closeCell hO (by have:=inssV_len c;rw [cW] at this;exact this) rfl bU rfl (by repeat' (first|refine bT ?_ ?_|rfl|exact bU)) rfl rfl fun b o v g1 _ hO3 hv=>cD ⟨r.ex.length-(0+1),by omega,0+1,vs++[v],withBlock H b o,by omega,rfl,hO3,GR.mono (cJ g1),?_,.inr ⟨by omega,?_⟩⟩
            · rw [take_snoc hc]
              exact (GF.mono (cJ g1)).push (ins_leads hv hI.small)
            · rw [dH]
              rfl
          obtain ⟨x,hx⟩:∃ x,c[n]? = some x:=⟨_,cX hnl⟩
          obtain ⟨xb,xo,xarr,xel,xfr,rfl,hxX,hxz,hxc,_⟩:=hI.at hx
          have hxJ:=joinM_has hO hxX
          have hxo:xo+Int.toNat (n:Int)*6=xo+n*6:=by simp
          have hadd:IntKind.i64.wrap ((n:Int)+1)=((n+1:Nat):Int):=by rw [cH (by omega)];omega
          have hcl:=inssV_len (c.take n)
          rw [cZ,Nat.min_eq_left hn] at hcl
          have hnc:=inssV_snoc (c.take n) x (cs:=[.val (.int .i64 x.op),.val (.int .i64 x.a),.val (.int .i64 x.b),.val (.bool x.k.1),.val (.int .u64 (x.k.2/18446744073709551616)),.val (.int .u64 (x.k.2%18446744073709551616))]) rfl
          rw [← take_snoc hx] at hnc
          (refine aA<|aA<|rgN<|kmv O<|kfa O O ?_;refine kl1 O O O<|kmv O<|aR O O cC (by omega) hio dR<|bH O O dR ?_;refine aW O hXJ O g3 dR<|kmv O<|aR O O cC (by omega) hio3 dR<|aW O hEJ O hec dR<|aQ O cC O dR ?_;refine klt O O (cP (by omega))<|aB<|aE O ?_;refine aH ?_;refine aA<|aG<|aA<|rgN<|kfa O O ?_;refine kl1 O O O<|kmv O<|aR O O cC (by omega) hio dR<|bH O O dR ?_;refine aW O hXJ O g3 dR<|kmv O<|aR O O cC (by omega) hio3 dR<|aW O hEJ O hec dR<|kmv O<|aR O O cC (by omega) hxo dR<|aY O hxJ (by kernel_rfl) hxz hxc dR<|aP O dR ?_;refine aM O O O O O O dR ?_;refine aB<|rgN<|kmv O<|kfa O O ?_;refine kl1 O O O<|kfa O O ?_;refine kl1 O O O<|kfa O O ?_;refine kl1 O O O<|kfa O O ?_;refine bJ O O O (by exact nl3 O O O O) dR ?_;refine aT O O (by exact O) (by exact nl6 O O O O O O O) dR ?_;refine aZ (zs:=[.int .i64 0,.int .i64 0,.int .i64 0,.bool false,.int .u64 0,.int .u64 0]) (sz:=6) (e:=70) (cs':=[.val (.int .i64 x.op),.val (.int .i64 x.a),.val (.int .i64 x.b),.val (.bool x.k.1),.val (.int .u64 (x.k.2/18446744073709551616)),.val (.int .u64 (x.k.2%18446744073709551616))]) (by kernel_rfl) O O O O O O dR<|bQ (by_:=48) (e2:=70) (l2:=[.val (.int .i64 x.op),.val (.int .i64 x.a),.val (.int .i64 x.b),.val (.bool x.k.1),.val (.int .u64 (x.k.2/18446744073709551616)),.val (.int .u64 (x.k.2%18446744073709551616))]) (nl:=n+1) (nc:=(inssV (c.take (n+1))).map .val) O O hcl O O (dN _) O O (by kernel_rfl) (by kernel_rfl) (by omega) (by omega) O O hnc dR<|kas O<|aB<|rgN<|kmv O<|kad O O hadd<|kas O<|aB ?_)
          exact ⟨_,⟨[(1,Lp 1),(2,Lp 2),(3,Lp 3),(4,Ln .i64 (i:Nat)),(5,Lp 5),(6,Ln .i64 (0:Nat)),(7,.sv (.one (.slc 500 0 (n+1) 6))),(8,Ln .i64 (n+1:Nat))],[(500,some ⟨70,(inssV (c.take (n+1))).map .val,Nat.blt 0 (n+1)⟩),v3B 51 5 r.nw r.old none 0 0,(600,some ⟨51,(rwZ (rs.take i) ws).map .val,true⟩),(3,some ⟨29,[.val (.int .i64 va),.val (.int .i64 vb),.slc 600 0 (i) 3],false⟩),v3B 29 2 0 0 none 0 0,v3B 24 1 va vb (some ⟨blk,off,none⟩) rs.length cap],joinM X H⟩,by omega,Le.ofR [(500,84)] (by exact ⟨rfl,rfl,rfl,rfl,rfl,rfl,rfl,rfl,trivial⟩) (by repeat' (first|exact trivial|refine cQ ⟨_,rfl,?_⟩ ?_|refine cQ ⟨_,rfl⟩ ?_|rfl|exact bX _ _ _ _|exact bY _ _ _ _|exact bZ rfl)) (by exact rfl) (by exact rfl) (by repeat' (first|refine bT ?_ ?_|rfl|exact bV|exact bU|exact bW rfl)) (by exact rfl) (by exact rfl),n+1,by omega,rfl,rfl⟩
      · as_aux_lemma =>
          by_cases hkl:k<r.ex.length
          case neg =>
            have hke:k=r.ex.length:=by omega
            subst hke
            rw [dF] at GF
            have hwl:=GR.len
            have hrl:((rwZ (rs.take i) ws).map CV.val).length=i*3:=by rw [cW,rwZ_len hwl,cZ];omega
            have hadd:IntKind.i64.wrap ((i:Int)+1)=((i+1:Nat):Int):=by rw [cH (by omega)];omega
            have hnc3:(rwZ (rs.take i) ws).map CV.val++[.val (.int .i64 r.nw),.val (.int .i64 r.old),.slc 601 0 r.ex.length 1]=(rwZ (rs.take i) ws++[Value.int .i64 r.nw,Value.int .i64 r.old]).map .val ++ .slc 601 0 r.ex.length 1::([]:List Value).map .val:=by
              simp
            (refine aA<|aA<|rgN<|kmv O<|kfa O O ?_;refine kl1 O O O<|kmv O<|aR O O cC (by omega) hio dR<|bH O O dR ?_;refine aW O hXJ O g3 dR<|aQ O cC O dR ?_;refine klt O O (cO (by omega))<|aB<|aF O ?_;refine aJ<|rgN<|kfa O O ?_;refine kl1 O O O<|aK O O O dR ?_;refine aZ (zs:=[.int .i64 0,.int .i64 0,.slice none 0 0]) (sz:=3) (e:=51) (cs':=[.val (.int .i64 r.nw),.val (.int .i64 r.old),.slc 601 0 r.ex.length 1]) (by kernel_rfl) O O O O O O dR<|bQ (by_:=40) (e2:=51) (l2:=[.val (.int .i64 r.nw),.val (.int .i64 r.old),.slc 601 0 r.ex.length 1]) (nl:=i+1) (nc:=(rwZ (rs.take i) ws++[Value.int .i64 r.nw,Value.int .i64 r.old]).map .val ++ .slc 601 0 r.ex.length 1::([]:List Value).map .val) O O hrl O O (dN _) O O (by kernel_rfl) (by kernel_rfl) (by omega) (by omega) O O hnc3 dR<|kfa O O ?_;refine bG O O O O O (nl3 O O O O) dR<|aB<|rgN<|kmv O<|kad O O hadd<|kas O<|aB ?_)
            refine cE (σ':=⟨[(1,Lp 1),(2,Lp 2),(3,Lp 3),(4,Ln .i64 (i+1:Nat))],[(600,some ⟨51,(rwZ (rs.take i) ws++[Value.int .i64 r.nw,Value.int .i64 r.old]).map .val ++ .slc 601 0 r.ex.length 1::([]:List Value).map .val,true⟩),(601,some ⟨69,vs.map .val,true⟩),(3,some ⟨29,[.val (.int .i64 va),.val (.int .i64 vb),.slc 600 0 (i+1) 3],false⟩),v3B 29 2 0 0 none 0 0,v3B 24 1 va vb (some ⟨blk,off,none⟩) rs.length cap],joinM X H⟩) ?_ ?_
            · exact Le.ofR [(600,95)] (by exact ⟨rfl,rfl,rfl,rfl,trivial⟩) (by repeat' (first|exact trivial|refine cQ ⟨_,rfl,?_⟩ ?_|refine cQ ⟨_,rfl⟩ ?_|rfl|exact bX _ _ _ _|exact bY _ _ _ _|exact bZ rfl)) (by exact rfl) (by exact rfl) (by repeat' (first|refine bT ?_ ?_|rfl|exact bV|exact bU|exact bW rfl)) (by exact rfl) (by exact rfl)
            refine Leads.closeCell hO (by have:=GF.len;omega) O bU O (by repeat' (first|refine bT ?_ ?_|rfl|exact bU)) O O fun b o v g1 _ hO3 hv=>cD ⟨rs.length-(i+1),by omega,i+1,ws++[v],withBlock H b o,by omega,O,hO3,?_,.inr ⟨by omega,?_⟩⟩
            · rw [take_snoc hr]
              exact (GR.mono (cJ g1)).push (codes_leads hv (GF.mono (cJ g1)))
            · rw [take_snoc hr,rwZ_add hwl]
              simp
          obtain ⟨c,hc⟩:∃ c,r.ex[k]? = some c:=⟨_,cX hkl⟩
          obtain ⟨eb,eo,earr,eel,efr,vad,vcap,rfl,hEX,hec,hI⟩:=hE.get hc
          have hEJ:=joinM_has hO hEX
          have hio3:eo+Int.toNat (k:Int)*1=eo+k*1:=by simp
          have h80:=h12.2 c (dD hc)
          have hvk:=GF.len
          rw [cZ] at hvk
          have hvl:(vs.map CV.val).length=k*1:=by rw [cW];omega
          (refine aA<|aA<|rgN<|kmv O<|kfa O O ?_;refine kl1 O O O<|kmv O<|aR O O cC (by omega) hio dR<|bH O O dR ?_;refine aW O hXJ O g3 dR<|aQ O cC O dR ?_;refine klt O O (cP (by omega))<|aB<|aE O ?_;refine aH ?_;refine aA<|aG<|aA<|rgN<|aZ (zs:=[]) (sz:=6) (e:=70) (by kernel_rfl) O O O O O O dR<|kas O<|aB<|aA<|aA<|rgN<|kas O<|aB<|aG ?_)
          refine cL (fun m σ=>∃ n:Nat,n≤c.length∧m=c.length-n∧σ=⟨[(1,Lp 1),(2,Lp 2),(3,Lp 3),(4,Ln .i64 (i:Nat)),(5,Lp 5),(6,Ln .i64 (k:Nat)),(7,.sv (.one (.slc 500 0 (n) 6))),(8,Ln .i64 (n:Nat))],[(500,some ⟨70,(inssV (c.take (n))).map .val,Nat.blt 0 (n)⟩),(601,some ⟨69,(vs).map .val,true⟩),(5,some ⟨51,[.val (.int .i64 r.nw),.val (.int .i64 r.old),.slc 601 0 (k) 1],false⟩),(600,some ⟨51,(rwZ (rs.take i) ws).map .val,true⟩),(3,some ⟨29,[.val (.int .i64 va),.val (.int .i64 vb),.slc 600 0 (i) 3],false⟩),v3B 29 2 0 0 none 0 0,v3B 24 1 va vb (some ⟨blk,off,none⟩) rs.length cap],joinM X H⟩) c.length
            ⟨⟨[(1,Lp 1),(2,Lp 2),(3,Lp 3),(4,Ln .i64 (i:Nat)),(5,Lp 5),(6,Ln .i64 (k:Nat)),(7,.sv (.one (.slc 500 0 (0) 6))),(8,Ln .i64 (0:Nat))],[(500,some ⟨70,(inssV (c.take (0))).map .val,Nat.blt 0 (0)⟩),(601,some ⟨69,(vs).map .val,true⟩),(5,some ⟨51,[.val (.int .i64 r.nw),.val (.int .i64 r.old),.slc 601 0 (k) 1],false⟩),(600,some ⟨51,(rwZ (rs.take i) ws).map .val,true⟩),(3,some ⟨29,[.val (.int .i64 va),.val (.int .i64 vb),.slc 600 0 (i) 3],false⟩),v3B 29 2 0 0 none 0 0,v3B 24 1 va vb (some ⟨blk,off,none⟩) rs.length cap],joinM X H⟩,Le.ofR [(500,46)] (by exact ⟨rfl,rfl,rfl,rfl,rfl,rfl,rfl,rfl,trivial⟩) (by repeat' (first|exact trivial|refine cQ ⟨_,rfl,?_⟩ ?_|refine cQ ⟨_,rfl⟩ ?_|rfl|exact bX _ _ _ _|exact bY _ _ _ _|exact bZ rfl)) (by exact rfl) (by exact rfl) (by repeat' (first|refine bT ?_ ?_|rfl|exact bV|exact bU|exact bW rfl)) (by exact rfl) (by exact rfl),0,by omega,by omega,rfl⟩ ?_
          rintro m σ ⟨n,hn,rfl,rfl⟩
          by_cases hnl:n<c.length
          case neg =>
            have e:n=c.length:=by omega
            subst e
            have hadd:IntKind.i64.wrap ((k:Int)+1)=((k+1:Nat):Int):=by rw [cH (by omega)];omega
            (refine aA<|aA<|rgN<|kmv O<|kfa O O ?_;refine kl1 O O O<|kmv O<|aR O O cC (by omega) hio dR<|bH O O dR ?_;refine aW O hXJ O g3 dR<|kmv O<|aR O O cC (by omega) hio3 dR<|aW O hEJ O hec dR<|aQ O cC O dR ?_;refine klt O O (cO (by omega))<|aB<|aF O ?_;refine aJ<|rgN<|kfa O O ?_;refine kl1 O O O<|kmv O<|aZ (zs:=[.slice none 0 0]) (sz:=1) (e:=69) (cs':=[.slc 500 0 c.length 6]) (by kernel_rfl) O O O O O O dR<|bQ (by_:=24) (e2:=69) (l2:=[.slc 500 0 c.length 6]) (nl:=k+1) (nc:=vs.map .val++[.slc 500 0 c.length 6]) O O hvl O O (dN _) O O (by kernel_rfl) (by kernel_rfl) (by omega) (by omega) O O O dR<|kfa O O ?_;refine bG O O O O O (nl3 O O O O) dR<|aB<|rgN<|kmv O<|kad O O hadd<|kas O<|aB ?_)
            refine cE (σ':=⟨[(1,Lp 1),(2,Lp 2),(3,Lp 3),(4,Ln .i64 (i:Nat)),(5,Lp 5),(6,Ln .i64 (k+1:Nat))],[(601,some ⟨69,vs.map .val ++ .slc 500 0 c.length 6::([]:List Value).map .val,true⟩),(500,some ⟨70,(inssV c).map .val,Nat.blt 0 c.length⟩),(5,some ⟨51,[.val (.int .i64 r.nw),.val (.int .i64 r.old),.slc 601 0 (k+1) 1],false⟩),(600,some ⟨51,(rwZ (rs.take i) ws).map .val,true⟩),(3,some ⟨29,[.val (.int .i64 va),.val (.int .i64 vb),.slc 600 0 (i) 3],false⟩),v3B 29 2 0 0 none 0 0,v3B 24 1 va vb (some ⟨blk,off,none⟩) rs.length cap],joinM X H⟩) ?_ ?_
            · rw [dF]
              exact Le.ofR [(601,89)] (by exact ⟨rfl,rfl,rfl,rfl,rfl,rfl,trivial⟩) (by repeat' (first|exact trivial|refine cQ ⟨_,rfl,?_⟩ ?_|refine cQ ⟨_,rfl⟩ ?_|rfl|exact bX _ _ _ _|exact bY _ _ _ _|exact bZ rfl)) (by exact rfl) (by exact rfl) (by repeat' (first|refine bT ?_ ?_|rfl|exact bV|exact bU|exact bW rfl)) (by exact rfl) (by exact rfl)
            refine Leads.closeCell hO (by have:=inssV_len c;rw [cW] at this;exact this) rfl bU rfl (by repeat' (first|refine bT ?_ ?_|rfl|exact bU)) rfl rfl fun b o v g1 _ hO3 hv=>cD ⟨r.ex.length-(k+1),by omega,k+1,vs++[v],withBlock H b o,by omega,rfl,hO3,GR.mono (cJ g1),?_,.inr ⟨by omega,?_⟩⟩
            · rw [take_snoc hc]
              exact (GF.mono (cJ g1)).push (ins_leads hv hI.small)
            · rw [dH]
              rfl
          obtain ⟨x,hx⟩:∃ x,c[n]? = some x:=⟨_,cX hnl⟩
          obtain ⟨xb,xo,xarr,xel,xfr,rfl,hxX,hxz,hxc,_⟩:=hI.at hx
          have hxJ:=joinM_has hO hxX
          have hxo:xo+Int.toNat (n:Int)*6=xo+n*6:=by simp
          have hadd:IntKind.i64.wrap ((n:Int)+1)=((n+1:Nat):Int):=by rw [cH (by omega)];omega
          have hcl:=inssV_len (c.take n)
          rw [cZ,Nat.min_eq_left hn] at hcl
          have hnc:=inssV_snoc (c.take n) x (cs:=[.val (.int .i64 x.op),.val (.int .i64 x.a),.val (.int .i64 x.b),.val (.bool x.k.1),.val (.int .u64 (x.k.2/18446744073709551616)),.val (.int .u64 (x.k.2%18446744073709551616))]) rfl
          rw [← take_snoc hx] at hnc
          (refine aA<|aA<|rgN<|kmv O<|kfa O O ?_;refine kl1 O O O<|kmv O<|aR O O cC (by omega) hio dR<|bH O O dR ?_;refine aW O hXJ O g3 dR<|kmv O<|aR O O cC (by omega) hio3 dR<|aW O hEJ O hec dR<|aQ O cC O dR ?_;refine klt O O (cP (by omega))<|aB<|aE O ?_;refine aH ?_;refine aA<|aG<|aA<|rgN<|kfa O O ?_;refine kl1 O O O<|kmv O<|aR O O cC (by omega) hio dR<|bH O O dR ?_;refine aW O hXJ O g3 dR<|kmv O<|aR O O cC (by omega) hio3 dR<|aW O hEJ O hec dR<|kmv O<|aR O O cC (by omega) hxo dR<|aY O hxJ (by kernel_rfl) hxz hxc dR<|aP O dR ?_;refine aM O O O O O O dR ?_;refine aB<|rgN<|kmv O<|kfa O O ?_;refine kl1 O O O<|kfa O O ?_;refine kl1 O O O<|kfa O O ?_;refine kl1 O O O<|kfa O O ?_;refine bJ O O O (by exact nl3 O O O O) dR ?_;refine aT O O (by exact O) (by exact nl6 O O O O O O O) dR ?_;refine aZ (zs:=[.int .i64 0,.int .i64 0,.int .i64 0,.bool false,.int .u64 0,.int .u64 0]) (sz:=6) (e:=70) (cs':=[.val (.int .i64 x.op),.val (.int .i64 x.a),.val (.int .i64 x.b),.val (.bool x.k.1),.val (.int .u64 (x.k.2/18446744073709551616)),.val (.int .u64 (x.k.2%18446744073709551616))]) (by kernel_rfl) O O O O O O dR<|bQ (by_:=48) (e2:=70) (l2:=[.val (.int .i64 x.op),.val (.int .i64 x.a),.val (.int .i64 x.b),.val (.bool x.k.1),.val (.int .u64 (x.k.2/18446744073709551616)),.val (.int .u64 (x.k.2%18446744073709551616))]) (nl:=n+1) (nc:=(inssV (c.take (n+1))).map .val) O O hcl O O (dN _) O O (by kernel_rfl) (by kernel_rfl) (by omega) (by omega) O O hnc dR<|kas O<|aB<|rgN<|kmv O<|kad O O hadd<|kas O<|aB ?_)
          exact ⟨_,⟨[(1,Lp 1),(2,Lp 2),(3,Lp 3),(4,Ln .i64 (i:Nat)),(5,Lp 5),(6,Ln .i64 (k:Nat)),(7,.sv (.one (.slc 500 0 (n+1) 6))),(8,Ln .i64 (n+1:Nat))],[(500,some ⟨70,(inssV (c.take (n+1))).map .val,Nat.blt 0 (n+1)⟩),(601,some ⟨69,(vs).map .val,true⟩),(5,some ⟨51,[.val (.int .i64 r.nw),.val (.int .i64 r.old),.slc 601 0 (k) 1],false⟩),(600,some ⟨51,(rwZ (rs.take i) ws).map .val,true⟩),(3,some ⟨29,[.val (.int .i64 va),.val (.int .i64 vb),.slc 600 0 (i) 3],false⟩),v3B 29 2 0 0 none 0 0,v3B 24 1 va vb (some ⟨blk,off,none⟩) rs.length cap],joinM X H⟩,by omega,Le.ofR [(500,84)] (by exact ⟨rfl,rfl,rfl,rfl,rfl,rfl,rfl,rfl,trivial⟩) (by repeat' (first|exact trivial|refine cQ ⟨_,rfl,?_⟩ ?_|refine cQ ⟨_,rfl⟩ ?_|rfl|exact bX _ _ _ _|exact bY _ _ _ _|exact bZ rfl)) (by exact rfl) (by exact rfl) (by repeat' (first|refine bT ?_ ?_|rfl|exact bV|exact bU|exact bW rfl)) (by exact rfl) (by exact rfl),n+1,by omega,rfl,rfl⟩
end Go.Proofs.YtamplgnbbanamaaGreatDoor
end
section
namespace Go.Proofs.YtamplgnbbanamaaGreatDoor
open Go Go.Lg Go.Lg.Fml Go.Lg.Fld Go.Lg.Arith
set_option maxRecDepth 100000
set_option linter.unusedSimpArgs false
variable (X:Nat→Option Obj)
theorem encX_len {c:List Ins} (h:encErr c=0):(encX c).length≤1153:=by
  have h1:chkX c=0:=by
    unfold encErr at h
    by_cases hz:chkX c=0
    · exact hz
    · rw [if_neg hz] at h;exact absurd h hz
  have:=(chkX_zero h1).1
  have:=encIs_len c
  unfold encX
  rw [dI]
  omega
theorem encEs_len:∀ {l:List (List Ins)},(∀ c∈l,encErr c=0)→(encEs l).length≤1157*l.length
  | [],_=>by simp [encEs]
  | c::t,h=>by
    have h1:=encX_len (h c (by simp))
    have h2:=encEs_len (l:=t) (fun d hd=>h d (by simp [hd]))
    simp only [encEs,encE,cV,leB_length,dI]
    omega
theorem encEs_snoc {l:List (List Ins)} {k:Nat} {c:List Ins} (h:l[k]? = some c):encEs (l.take (k+1))=(encEs (l.take k)++leB 4 (encX c).length)++encX c:=by
  rw [take_snoc h,encEs_app]
  simp [encEs,encE]
theorem encRs_snoc {l:List Rl} {k:Nat} {r:Rl} (h:l[k]? = some r):encRs (l.take (k+1))=(encRs (l.take k)++[o8 r.nw,o8 r.old,o8 (r.ex.length:Nat)])++encEs r.ex:=by
  rw [take_snoc h,encRs_app]
  simp [encRs,encR]
theorem encRs_len:∀ {l:List Rl},(∀ r∈l,r.ex.length≤8∧∀ c∈r.ex,encErr c=0)→(encRs l).length≤9259*l.length
  | [],_=>by simp [encRs]
  | r::t,h=>by
    obtain ⟨h0,h1⟩:=h r (by simp)
    have h2:=encEs_len h1
    have h3:=encRs_len (l:=t) (fun d hd=>h d (by simp [hd]))
    simp only [encRs,encR,cV,dI]
    omega
theorem okE_of {l:List Rl} {last:Int} (h:chkRs last l=0):∀ r∈l,r.ex.length≤8∧∀ c∈r.ex,encErr c=0:=fun r hr=>by
  obtain ⟨last',hc⟩:=chkRs_mem h r hr
  obtain ⟨_,_,_,_,h5,h6⟩:=chkR_zero hc
  exact ⟨h5,firstX_zero h6⟩
set_option maxHeartbeats 12800000 in
theorem rEncode12 (p:Pg) (ad:Option Addr) (cap:Nat) (hin:RulesIn X ad p.rs) (hz:chkP p=0) (hsz:sizeR p.rs):PSpec Tryz.prog X 13 [LPg p.va p.vb ad p.rs.length cap] (Ls (encP p)):=by
  obtain ⟨h1,h2,h3,h4⟩:=chkP_zero hz
  obtain ⟨va,vb,rs⟩:=p
  simp only at hin h1 h2 h3 h4 hsz ⊢
  have hok:=okE_of h3
  obtain ⟨A,rfl⟩:∃ A:Nat,va=(A:Nat):=⟨va.toNat,by omega⟩
  obtain ⟨B,rfl⟩:∃ B:Nat,vb=(B:Nat):=⟨vb.toNat,by omega⟩
  have hA:=rQuad_spec X A (by omega)
  have hB:=rQuad_spec X B (by omega)
  have lA:=leB_length 4 A
  have lB:=leB_length 4 B
  have wn:=wrap_o8 (rs.length:Nat)
  have hfin:encP ⟨(A:Nat),(B:Nat),rs⟩=((([77]++leB 4 A)++leB 4 B)++[o8 (rs.length:Nat)])++encRs rs:=by
    unfold encP
    simp
  rw [hfin]
  refine cF Tryz.func13 rfl (by kernel_rfl) rfl rfl ?_
  intro C
  (refine aA<|rgN<|aL O O O dR<|kas O<|aB<|aA<|rgD mixed<|kfa O O ?_;refine kl1 O O O<|kca O O hA<|bM O O (szle [77] (leB 4 A) (by (simp only [cV,cY,dI,dO];omega))) (str_add [77] (leB 4 A)) dR<|kfa O O ?_;refine kl1 O O O<|kca O O hB<|bM O O (szle ([77]++leB 4 A) (leB 4 B) (by (simp only [cV,cY,dI,dO];omega))) (str_add ([77]++leB 4 A) (leB 4 B)) dR<|kfa O O ?_;refine kl1 O O O<|aQ O cC O dR ?_;refine kcv O wn ?_;refine aZ (zs:=[.int .u8 0]) (sz:=1) (e:=5) (cs':=[o8 (rs.length:Nat)].map bc) (by kernel_rfl) O O O O O O dR<|bS (l:=[o8 (rs.length:Nat)]) O O (by kernel_rfl) StrT.u (dN _) O dR<|bM O O (szle (([77]++leB 4 A)++leB 4 B) [o8 (rs.length:Nat)] (by (simp only [cV,cY,dI,dO];omega))) (str_add (([77]++leB 4 A)++leB 4 B) [o8 (rs.length:Nat)]) dR<|kas O<|aB<|rgA ?_;refine aA<|aA<|rgN<|kas O<|aB<|aG ?_)
  have hhl:((([77]++leB 4 A)++leB 4 B)++[o8 (rs.length:Nat)]).length=10:=by simp only [cV,lA,lB,cY]
  generalize hh:(([77]++leB 4 A)++leB 4 B)++[o8 (rs.length:Nat)]=hd at *
  refine cL (fun m σ=>∃ i:Nat,i≤rs.length∧m=rs.length-i∧σ=⟨[(1,Lp 1),(3,Ls (hd++encRs (rs.take i))),(4,Ln .i64 (i:Nat))],[v3B 29 1 (A:Nat) (B:Nat) ad rs.length cap],X⟩) rs.length
    ⟨⟨[(1,Lp 1),(3,Ls (hd++encRs (rs.take 0))),(4,Ln .i64 (0:Nat))],[v3B 29 1 (A:Nat) (B:Nat) ad rs.length cap],X⟩,by
      rw [show hd++encRs (rs.take 0)=hd from dJ _]
      exact Le.of (by exact ⟨O,O,O,trivial⟩) (by exact ⟨O,trivial⟩) (by exact O) (by exact O) (by repeat' (first|refine bT ?_ ?_|rfl|exact bV|exact bU|exact bW O)),0,by omega,by omega,O⟩ ?_
  rintro m σ ⟨i,hi,rfl,rfl⟩
  by_cases hlt:i<rs.length
  case neg =>
    have e:i=rs.length:=by omega
    subst e
    rw [dF]
    (refine aA<|aA<|rgN<|kmv O<|kfa O O ?_;refine kl1 O O O<|aQ O cC O dR ?_;refine klt O O (cO (by omega))<|aB<|aF O ?_;refine aJ<|aA<|rgN<|kmv O<|kas O<|aB<|aI ?_)
    exact ⟨[_],⟨O,trivial⟩,O⟩
  obtain ⟨r,hr⟩:∃ r,rs[i]? = some r:=⟨_,cX hlt⟩
  obtain ⟨blk,off,arr,el,fr,ead,ecap,rfl,hX,hsiz,hcs,g1,g2,g3,hE⟩:=hin.get hr
  have hio:off+Int.toNat (i:Int)*3=off+i*3:=by simp
  obtain ⟨hel,hcl⟩:=hsz r (dD hr)
  obtain ⟨h8,hce⟩:=hok r (dD hr)
  have hpl:=encRs_len (l:=rs.take i) (fun q hq=>hok q (List.mem_of_mem_take hq))
  rw [cZ] at hpl
  have hsn:=encRs_snoc hr
  have hSl:(hd++encRs (rs.take i)).length≤10+9259*24:=by rw [cV,hhl];omega
  have hnext:hd++encRs (rs.take (i+1))=((hd++encRs (rs.take i))++[o8 r.nw,o8 r.old,o8 (r.ex.length:Nat)])++encEs r.ex:=by rw [hsn];simp only [dM]
  have w1:=wrap_o8 r.nw
  have w2:=wrap_o8 r.old
  have w3:=wrap_o8 (r.ex.length:Nat)
  generalize hS:hd++encRs (rs.take i)=S at *
  generalize hS2:hd++encRs (rs.take (i+1))=S2 at *
  (refine aA<|aA<|rgN<|kmv O<|kfa O O ?_;refine kl1 O O O<|aQ O cC O dR ?_;refine klt O O (cP (by omega))<|aB<|aE O ?_;refine aH ?_;refine aA<|aG<|aA<|rgN<|kfa O O ?_;refine kl1 O O O<|kmv O<|aR O O cC (by omega) hio dR<|aY O hX (by kernel_rfl) hsiz hcs dR<|aP O dR ?_;refine aM O O O O O O dR ?_;refine aB<|aA<|rgN<|kmv O<|kfa O O ?_;refine kl1 O O O<|kcv O w1 ?_;refine kfa O O ?_;refine kl1 O O O<|kcv O w2 ?_;refine kfa O O ?_;refine kl1 O O O<|aQ O cC O dR ?_;refine kcv O w3 ?_;refine aZ (zs:=List.replicate 3 (.int .u8 0)) (sz:=1) (e:=5) (cs':=[o8 r.nw,o8 r.old,o8 (r.ex.length:Nat)].map bc) (by kernel_rfl) O O O O O O dR<|bS (l:=[o8 r.nw,o8 r.old,o8 (r.ex.length:Nat)]) O O (by kernel_rfl) StrT.u (dN _) O dR<|bM O O (szle S [o8 r.nw,o8 r.old,o8 (r.ex.length:Nat)] (by (simp only [cV,cY,dI,dO];omega))) (str_add S [o8 r.nw,o8 r.old,o8 (r.ex.length:Nat)]) dR<|kas O<|aB<|aA<|rgN<|kas O<|aB<|aG ?_)
  have hPl:(S++[o8 r.nw,o8 r.old,o8 (r.ex.length:Nat)]).length≤10+9259*24+3:=by rw [cV];simp only [dI,dO];omega
  generalize hP:S++[o8 r.nw,o8 r.old,o8 (r.ex.length:Nat)]=P at *
  refine cL (fun m σ=>∃ k:Nat,k≤r.ex.length∧m=r.ex.length-k∧σ=⟨[(1,Lp 1),(3,Ls (P++encEs (r.ex.take k))),(4,Ln .i64 (i:Nat)),(5,Lp 5),(6,Ln .i64 (k:Nat))],[v3B 51 5 r.nw r.old ead r.ex.length ecap,v3B 29 1 (A:Nat) (B:Nat) (some ⟨blk,off,none⟩) rs.length cap],X⟩) r.ex.length
    ⟨⟨[(1,Lp 1),(3,Ls (P++encEs (r.ex.take 0))),(4,Ln .i64 (i:Nat)),(5,Lp 5),(6,Ln .i64 (0:Nat))],[v3B 51 5 r.nw r.old ead r.ex.length ecap,v3B 29 1 (A:Nat) (B:Nat) (some ⟨blk,off,none⟩) rs.length cap],X⟩,by
      rw [show P++encEs (r.ex.take 0)=P from dJ _]
      exact Le.of (by exact ⟨O,O,O,O,O,trivial⟩) (by exact ⟨O,O,trivial⟩) (by exact O) (by exact O) (by repeat' (first|refine bT ?_ ?_|rfl|exact bV|exact bU|exact bW O)),0,by omega,by omega,O⟩ ?_
  rintro m σ ⟨k,hk,rfl,rfl⟩
  by_cases hkl:k<r.ex.length
  case neg =>
    have e:k=r.ex.length:=by omega
    subst e
    rw [dF,← hnext]
    have hadd:IntKind.i64.wrap ((i:Int)+1)=((i+1:Nat):Int):=by rw [cH (by omega)];omega
    (refine aA<|aA<|rgN<|kmv O<|kfa O O ?_;refine kl1 O O O<|aQ O cC O dR ?_;refine klt O O (cO (by omega))<|aB<|aF O ?_;refine aJ<|rgN<|kmv O<|kad O O hadd<|kas O<|aB ?_)
    rw [← hS2]
    exact ⟨_,⟨[(1,Lp 1),(3,Ls (hd++encRs (rs.take (i+1)))),(4,Ln .i64 (i+1:Nat))],[v3B 29 1 (A:Nat) (B:Nat) (some ⟨blk,off,none⟩) rs.length cap],X⟩,by omega,Le.of (by exact ⟨O,O,O,trivial⟩) (by exact ⟨O,trivial⟩) (by exact O) (by exact O) (by repeat' (first|refine bT ?_ ?_|rfl|exact bV|exact bU|exact bW O)),i+1,by omega,O,O⟩
  obtain ⟨c,hc⟩:∃ c,r.ex[k]? = some c:=⟨_,cX hkl⟩
  obtain ⟨eb,eo,earr,eel,efr,vad,vcap,rfl,hEX,hec,hI⟩:=hE.get hc
  have hio3:eo+Int.toNat (k:Int)*1=eo+k*1:=by simp
  have hcm:=dD hc
  have he:=hce c hcm
  have hxl:=encX_len he
  have hEn:=rEncode11 X c vad vcap hI (hcl c hcm)
  rw [he,show encTX c=encX c by unfold encTX;rw [if_pos he]] at hEn
  have hQ:PSpec Tryz.prog X 31 [Ln .i64 ((⟨(encX c).toArray⟩:ByteArray).size:Nat)] (Ls (leB 4 (encX c).length)):=rQuad_spec X (encX c).length (by omega)
  have l4:=leB_length 4 (encX c).length
  have hsn2:=encEs_snoc hc
  have hel2:=encEs_len (l:=r.ex.take k) (fun d hd=>hce d (List.mem_of_mem_take hd))
  rw [cZ] at hel2
  have hTl:(P++encEs (r.ex.take k)).length≤10+9259*24+3+1157*8:=by rw [cV];omega
  have hnx:P++encEs (r.ex.take (k+1))=((P++encEs (r.ex.take k))++leB 4 (encX c).length)++encX c:=by rw [hsn2];simp only [dM]
  generalize hT:P++encEs (r.ex.take k)=T at *
  generalize leB 4 (encX c).length=L4 at *
  generalize encX c=xc at *
  have hadd:IntKind.i64.wrap ((k:Int)+1)=((k+1:Nat):Int):=by rw [cH (by omega)];omega
  (refine aA<|aA<|rgN<|kmv O<|kfa O O ?_;refine kl1 O O O<|aQ O cC O dR ?_;refine klt O O (cP (by omega))<|aB<|aE O ?_;refine aH ?_;refine aA<|aG<|aA<|rgN<|kfa O O ?_;refine kl1 O O O<|kmv O<|aR O O cC (by omega) hio3 dR<|aW O hEX O hec dR<|kca O O (hEn)<|kmv O<|kex O O<|kex O O<|kas O<|kas O<|aB<|rgN<|kmv O<|kmv O ?_;refine kln O<|kca O O hQ<|bM O O (szle T L4 (by omega)) (str_add T L4) dR<|kmv O<|bM O O (szle (T++L4) xc (by (simp only [cV,cY,dI,dO];omega))) (str_add (T++L4) xc) dR<|kas O<|aB<|rgN<|kmv O<|kad O O hadd<|kas O<|aB ?_)
  rw [← hnx]
  exact ⟨_,⟨[(1,Lp 1),(3,Ls (P++encEs (r.ex.take (k+1)))),(4,Ln .i64 (i:Nat)),(5,Lp 5),(6,Ln .i64 (k+1:Nat))],[v3B 51 5 r.nw r.old (some ⟨eb,eo,none⟩) r.ex.length ecap,v3B 29 1 (A:Nat) (B:Nat) (some ⟨blk,off,none⟩) rs.length cap],X⟩,by omega,Le.of (by exact ⟨O,O,O,O,O,trivial⟩) (by exact ⟨O,O,trivial⟩) (by exact O) (by exact O) (by repeat' (first|refine bT ?_ ?_|rfl|exact bV|exact bU|exact bW O)),k+1,by omega,O,O⟩
end Go.Proofs.YtamplgnbbanamaaGreatDoor
end
section
namespace Go.Proofs.YtamplgnbbanamaaGreatDoor
open Go Go.Lg Go.Lg.Fml Go.Lg.Fld Go.Lg.Arith
set_option maxRecDepth 100000
theorem getEs_snoc:∀ {i:Nat} {b r:List UInt8} {l:List (List Ins)},getEs i b=some (l,r)→getEs (i+1) b=match getE r with|some (x,r')=>some (l++[x],r')|none=>none
  | 0,b,r,l,h=>by
    simp only [getEs,Option.some.injEq,Prod.mk.injEq] at h
    obtain ⟨rfl,rfl⟩:=h
    simp only [getEs]
    cases getE b with
    | none=>rfl
    | some p=>rfl
  | i+1,b,r,l,h=>by
    rw [getEs] at h ⊢
    cases hg:getE b with
    | none=>rw [hg] at h;cases h
    | some p =>
      rw [hg] at h
      simp only at h ⊢
      cases hs:getEs i p.2 with
      | none=>rw [hs] at h;cases h
      | some q =>
        rw [hs] at h
        simp only [Option.some.injEq,Prod.mk.injEq] at h
        obtain ⟨rfl,rfl⟩:=h
        rw [getEs_snoc hs]
        cases getE q.2 with
        | none=>rfl
        | some u=>rfl
theorem getEs_none:∀ {i k:Nat} {b:List UInt8},getEs i b=none→getEs (i+k) b=none
  | 0,k,b,h=>by cases h
  | i+1,k,b,h=>by
    rw [Nat.add_right_comm,getEs] at *
    cases hg:getE b with
    | none=>rfl
    | some p =>
      rw [hg] at h
      simp only at h ⊢
      cases hs:getEs i p.2 with
      | none=>rw [getEs_none (k:=k) hs]
      | some q=>rw [hs] at h;cases h
theorem getEs_fail {n i:Nat} {b r:List UInt8} {l:List (List Ins)} (h:getEs i b=some (l,r)) (hi:i<n) (hf:getE r=none):getEs n b=none:=by
  have h1:=getEs_snoc h
  rw [hf] at h1
  have h2:=getEs_none (k:=n-(i+1)) h1
  rw [show i+1+(n-(i+1))=n by omega] at h2
  exact h2
theorem getEs_step {i:Nat} {b r r':List UInt8} {l:List (List Ins)} {x:List Ins} (h:getEs i b=some (l,r)) (hf:getE r=some (x,r')):getEs (i+1) b=some (l++[x],r'):=by
  have h1:=getEs_snoc h
  rw [hf] at h1
  exact h1
theorem getRls_snoc:∀ {i:Nat} {b r:List UInt8} {l:List Rl},getRls i b=some (l,r)→getRls (i+1) b=match getRl r with|some (x,r')=>some (l++[x],r')|none=>none
  | 0,b,r,l,h=>by
    simp only [getRls,Option.some.injEq,Prod.mk.injEq] at h
    obtain ⟨rfl,rfl⟩:=h
    simp only [getRls]
    cases getRl b with
    | none=>rfl
    | some p=>rfl
  | i+1,b,r,l,h=>by
    rw [getRls] at h ⊢
    cases hg:getRl b with
    | none=>rw [hg] at h;cases h
    | some p =>
      rw [hg] at h
      simp only at h ⊢
      cases hs:getRls i p.2 with
      | none=>rw [hs] at h;cases h
      | some q =>
        rw [hs] at h
        simp only [Option.some.injEq,Prod.mk.injEq] at h
        obtain ⟨rfl,rfl⟩:=h
        rw [getRls_snoc hs]
        cases getRl q.2 with
        | none=>rfl
        | some u=>rfl
theorem getRls_none:∀ {i k:Nat} {b:List UInt8},getRls i b=none→getRls (i+k) b=none
  | 0,k,b,h=>by cases h
  | i+1,k,b,h=>by
    rw [Nat.add_right_comm,getRls] at *
    cases hg:getRl b with
    | none=>rfl
    | some p =>
      rw [hg] at h
      simp only at h ⊢
      cases hs:getRls i p.2 with
      | none=>rw [getRls_none (k:=k) hs]
      | some q=>rw [hs] at h;cases h
theorem getRls_fail {n i:Nat} {b r:List UInt8} {l:List Rl} (h:getRls i b=some (l,r)) (hi:i<n) (hf:getRl r=none):getRls n b=none:=by
  have h1:=getRls_snoc h
  rw [hf] at h1
  have h2:=getRls_none (k:=n-(i+1)) h1
  rw [show i+1+(n-(i+1))=n by omega] at h2
  exact h2
theorem getRls_step {i:Nat} {b r r':List UInt8} {l:List Rl} {x:Rl} (h:getRls i b=some (l,r)) (hf:getRl r=some (x,r')):getRls (i+1) b=some (l++[x],r'):=by
  have h1:=getRls_snoc h
  rw [hf] at h1
  exact h1
theorem getRl_short:∀ {r:List UInt8},r.length<3→getRl r=none
  | [],_=>rfl
  | [_],_=>rfl
  | [_,_],_=>rfl
  | _::_::_::_,h=>by simp only [dI] at h;omega
theorem getRl_no {n o m:UInt8} {r:List UInt8} (h:getEs m.toNat r=none):getRl (n::o::m::r)=none:=by unfold getRl;simp only [h]
theorem getRl_yes {n o m:UInt8} {r r':List UInt8} {l:List (List Ins)} (h:getEs m.toNat r=some (l,r')):getRl (n::o::m::r)=some (⟨(n.toNat:Nat),(o.toNat:Nat),l⟩,r'):=by unfold getRl;simp only [h]
theorem getE_short {r:List UInt8} (h:r.length<4):getE r=none:=by
  unfold getE get4
  rw [if_neg (by omega)]
theorem getE_long {r:List UInt8} (h:4≤r.length) (h2:(r.drop 4).length<le (r.take 4)):getE r=none:=by
  unfold getE get4
  rw [if_pos h]
  simp only
  rw [if_neg (by omega)]
theorem getE_at {r:List UInt8} (h:4≤r.length) (h2:le (r.take 4)≤(r.drop 4).length):getE r=match decX ((r.drop 4).take (le (r.take 4))) with
    | some l=>some (l,(r.drop 4).drop (le (r.take 4)))
    | none=>none:=by
  unfold getE get4
  rw [if_pos h]
  simp only
  rw [if_pos h2]
  cases decX ((r.drop 4).take (le (r.take 4)))<;>rfl
theorem get4_cons (a b c d:UInt8) (r:List UInt8):get4 (a::b::c::d::r)=some (le [a,b,c,d],r):=by
  unfold get4
  rw [if_pos (by simp only [dI];omega)]
  rfl
theorem decP_long (a0 a1 a2 a3 b0 b1 b2 b3 nb:UInt8) (r:List UInt8):decP (77::a0::a1::a2::a3::b0::b1::b2::b3::nb::r)=match getRls nb.toNat r with
    | some (l,[])=>if chkP ⟨(le [a0,a1,a2,a3]:Nat),(le [b0,b1,b2,b3]:Nat),l⟩=0 then some ⟨(le [a0,a1,a2,a3]:Nat),(le [b0,b1,b2,b3]:Nat),l⟩ else none
    | _=>none:=by
  unfold decP
  simp only
  rw [if_pos (by decide),get4_cons]
  simp only
  rw [get4_cons]
  simp only
  cases getRls nb.toNat r with
  | none=>rfl
  | some p =>
    obtain ⟨l,q⟩:=p
    cases q<;>rfl
theorem decP_head {c:UInt8} {r:List UInt8} (h:c≠77):decP (c::r)=none:=by
  unfold decP
  simp only
  rw [if_neg]
  intro e
  exact h (UInt8.toNat_inj.1 e)
theorem decP_short {s:List UInt8} (h:s.length<10):decP s=none:=by
  cases hd:decP s with
  | none=>rfl
  | some p =>
    have h1:=(encP_dec hd).1
    have h2:=congrArg List.length h1
    unfold encP at h2
    simp only [dI,cV,leB_length] at h2
    omega
theorem small_dec {s:List UInt8} {l:List Ins} (h:decX s=some l):∀ x∈l,smallI x:=fun x hx=>by
  obtain ⟨_,_,_,h3⟩:=encX_dec h
  obtain ⟨h4,h5,h6,h7,_⟩:=h3 x hx
  exact ⟨by omega,by omega,by omega,h7⟩
theorem small_rl {r:Rl} (h:okRl r):smallR r:=⟨by have:=h.1;omega,by have:=h.2.1;omega⟩
theorem size_rl {l:List Rl} (h:∀ r∈l,okRl r):sizeR l:=fun r hr=>by
  obtain ⟨_,_,h3,h4⟩:=h r hr
  refine ⟨by omega,fun c hc => ?_⟩
  have he:=(h4 c hc).1
  have h1:chkX c=0:=by
    unfold encErr at he
    by_cases hz:chkX c=0
    · exact hz
    · rw [if_neg hz] at he;exact absurd he hz
  have:=(chkX_zero h1).1
  omega
def dpR (s:List UInt8):LV:=match decP s with
  | none=>.tup [.agg [.val (.int .i64 0),.val (.int .i64 0),.val (.slice none 0 0)],Sb false]
  | some p=>if p.rs.length=0 then .tup [.agg [.val (.int .i64 p.va),.val (.int .i64 p.vb),.val (.slice none 0 0)],Sb true] else .tup [.agg [.val (.int .i64 p.va),.val (.int .i64 p.vb),.slc 1000001 0 p.rs.length 3],Sb true]
def dpBx (s:List UInt8):List (Nat×Option Box):=match decP s with
  | none=>[]
  | some p=>if p.rs.length=0 then [] else [rlB 51 1000001 p.rs]
theorem dpR_none {s:List UInt8} (h:decP s=none):dpR s = .tup [.agg [.val (.int .i64 0),.val (.int .i64 0),.val (.slice none 0 0)],Sb false]∧dpBx s=[]:=by unfold dpR dpBx;rw [h];exact ⟨rfl,rfl⟩
theorem dpR_nil {s:List UInt8} {p:Pg} (h:decP s=some p) (h0:p.rs.length=0):dpR s = .tup [.agg [.val (.int .i64 p.va),.val (.int .i64 p.vb),.val (.slice none 0 0)],Sb true]∧dpBx s=[]:=by
  unfold dpR dpBx;rw [h];simp only;rw [if_pos h0,if_pos h0];exact ⟨rfl,rfl⟩
theorem dpR_some {s:List UInt8} {p:Pg} (h:decP s=some p) (h0:p.rs.length≠0):dpR s = .tup [.agg [.val (.int .i64 p.va),.val (.int .i64 p.vb),.slc 1000001 0 p.rs.length 3],Sb true]∧dpBx s=[rlB 51 1000001 p.rs]:=by
  unfold dpR dpBx;rw [h];simp only;rw [if_neg h0,if_neg h0];exact ⟨rfl,rfl⟩
theorem dpBx_use (l:List UInt8):((dpBx l).all fun p=>match p.2 with|some b=>b.cells.all (CV.inUse (dpBx l))|none=>true)=true:=by
  cases h:decP l with
  | none=>rw [(dpR_none h).2];rfl
  | some s =>
    by_cases h0:s.rs.length=0
    · rw [(dpR_nil h h0).2];rfl
    · rw [(dpR_some h h0).2];rfl
theorem dpR_use (l:List UInt8):LV.inUse (dpBx l) (dpR l)=true:=by
  cases h:decP l with
  | none=>rw [(dpR_none h).1,(dpR_none h).2];rfl
  | some s =>
    by_cases h0:s.rs.length=0
    · rw [(dpR_nil h h0).1,(dpR_nil h h0).2];rfl
    · rw [(dpR_some h h0).1,(dpR_some h h0).2];rfl
variable (X:Nat→Option Obj)
theorem rcheck12_lent {S:Nat→Option (Option Box)} {H:Nat→Option Obj} {va vb:Int} {k:Nat} {rs:List Rl} {ws:List Value} {el:TypeId} {row:Bool} {e:Int} (G:RulesH H ws rs) (hs:∀ r∈rs,smallR r) (h1:rs.length<4611686018427387904) (h2:sizeR rs) (hk:S k=some (some ⟨el,(rwZ rs ws).map .val,row⟩)) (he:chkP ⟨va,vb,rs⟩=e):
    ∀ (Y:Nat→Option Obj) (us:List Value),(∀ b o,joinM X H b=some o→Y b=some o)→LentLs S Y [.sv (.agg [.val (.int .i64 va),.val (.int .i64 vb),.slc k 0 rs.length 3])] us→PSpec Tryz.prog Y 10 (us.map toLV) (Ln .i64 e):=by
  intro Y us hY hL
  obtain ⟨u1,us1,rfl,⟨av,rfl,a1,av1,rfl,g1,a2,av2,rfl,g2,a3,av3,rfl,g3,rfl⟩,rfl⟩:=hL
  have g1:a1 = .int .i64 va:=g1
  have g2:a2 = .int .i64 vb:=g2
  subst g1 g2
  obtain ⟨b,blk,cap2,m,hk',rfl,hc,hfit,hB⟩:=g3
  rw [hk] at hk'
  simp only [Option.some.injEq] at hk'
  subst hk'
  obtain ⟨arr,fr,us',sp,hYb,hsz,harr,hv⟩:=hB
  have:=hv _ rfl
  subst this
  have hin:RulesIn Y (some ⟨blk,0,none⟩) rs:=rules_block hYb harr (G.mono fun b o hb=>hY b o (joinM_in hb)) hs
  have:=rCheck12 Y ⟨va,vb,rs⟩ (some ⟨blk,0,none⟩) cap2 hin h1 h2
  rw [he] at this
  exact this
end Go.Proofs.YtamplgnbbanamaaGreatDoor
end
section
namespace Go.Proofs.YtamplgnbbanamaaGreatDoor
open Go Go.Lg Go.Lg.Fml Go.Lg.Fld Go.Lg.Arith
set_option maxRecDepth 100000
variable (X:Nat→Option Obj)
theorem kIsVersion (n:Int):PSpec Tryz.prog X 29 [Ln .i64 n] (Lb (verOk n)):=by
  refine cF Tryz.func29 rfl (by kernel_rfl) rfl rfl ?_
  intro C
  by_cases h1:1≤n
  · by_cases h2:n≤1073741824
    · rw [show verOk n=true by unfold verOk;simp;omega]
      (refine aA<|rgN<|kas O<|aB<|aA<|rgN<|kmv O<|bD O O (cP (by omega)) dR<|kmv O<|gmv O O O<|K.leq O O (cP (by omega)) (dS O O) ?_;refine kpt O O<|kas O<|aB<|aI ?_)
      exact ⟨[_],⟨O,trivial⟩,O⟩
    · rw [show verOk n=false by unfold verOk;simp;omega]
      (refine aA<|rgN<|kas O<|aB<|aA<|rgN<|kmv O<|bD O O (cP (by omega)) dR<|kmv O<|gmv O O O<|K.leq O O (cO (by omega)) (dS O O) ?_;refine kpt O O<|kas O<|aB<|aI ?_)
      exact ⟨[_],⟨O,trivial⟩,O⟩
  · rw [show verOk n=false by unfold verOk;simp;omega]
    (refine aA<|rgN<|kas O<|aB<|aA<|rgN<|kmv O<|bD O O (cO (by omega)) dR<|kmv O<|aC O O O<|aC O O O<|kpf O O<|kas O<|aB ?_;refine aI ?_)
    exact ⟨[_],⟨O,trivial⟩,O⟩
set_option maxHeartbeats 3200000 in
theorem kCheckRule (r:Rl) (ead:Option Addr) (ecap:Nat) (hE:CodesIn X ead r.ex) (h1:r.ex.length<4611686018427387904) (h2:∀ c∈r.ex,c.length<1152921504606846976) (last:Int) (h0:0≤last):
    PSpec Tryz.prog X 30 [LPg r.nw r.old ead r.ex.length ecap,Ln .i64 last] (Ln .i64 (chkR r last)):=by
  refine cF Tryz.func30 rfl (by kernel_rfl) rfl rfl ?_
  intro C
  obtain ⟨nw,old,ex⟩:=r
  simp only at hE h1 h2 ⊢
  by_cases c1:nw≤last
  · rw [show chkR ⟨nw,old,ex⟩ last=1 from if_pos (by simp only;omega)]
    (refine aA<|rgN<|aL O O O dR<|kas O<|aB<|aA<|aG<|aA<|rgN<|kfa O O ?_;refine kl1 O O O<|kmv O<|K.leq O O (cP (by omega)) dR<|kmv O<|aC O O O<|aC O O O<|aC O O O<|kpt O O<|kmv O<|aC O O O<|aC O O O<|aC O O O<|kpt O O<|kmv O ?_;refine aC O O O<|aC O O O<|aC O O O<|kpt O O<|kas O<|aB<|aE O ?_;refine aA<|rgN<|kas O<|aB<|aI ?_)
    exact ⟨[_],⟨O,trivial⟩,O⟩
  by_cases c2:24<nw
  · rw [show chkR ⟨nw,old,ex⟩ last=1 from if_pos (by simp only;omega)]
    (refine aA<|rgN<|aL O O O dR<|kas O<|aB<|aA<|aG<|aA<|rgN<|kfa O O ?_;refine kl1 O O O<|kmv O<|K.leq O O (cO (by omega)) dR<|kmv O<|aN O O (dS O O) ?_;refine aO O O O (dS O O) ?_;refine aS O O (cP (by omega)) (dS O O) ?_;refine kpf O O<|kmv O<|aC O O O<|aC O O O<|aC O O O<|kpt O O<|kmv O<|aC O O O<|aC O O O<|aC O O O<|kpt O O<|kas O<|aB<|aE O ?_;refine aA<|rgN<|kas O<|aB<|aI ?_)
    exact ⟨[_],⟨O,trivial⟩,O⟩
  by_cases c3:old<0
  · rw [show chkR ⟨nw,old,ex⟩ last=1 from if_pos (by simp only;omega)]
    (refine aA<|rgN<|aL O O O dR<|kas O<|aB<|aA<|aG<|aA<|rgN<|kfa O O ?_;refine kl1 O O O<|kmv O<|K.leq O O (cO (by omega)) dR<|kmv O<|aN O O (dS O O) ?_;refine aO O O O (dS O O) ?_;refine aS O O (cO (by omega)) (dS O O) ?_;refine kpf O O<|kmv O<|aN O O (dS O O) ?_;refine aO O O O (dS O O) ?_;refine bK O O (cP (by omega)) (dS O O) ?_;refine kpf O O<|kmv O<|aC O O O<|aC O O O<|aC O O O<|kpt O O<|kas O<|aB<|aE O ?_;refine aA<|rgN<|kas O<|aB<|aI ?_)
    exact ⟨[_],⟨O,trivial⟩,O⟩
  by_cases c4:24<old
  · rw [show chkR ⟨nw,old,ex⟩ last=1 from if_pos (by simp only;omega)]
    (refine aA<|rgN<|aL O O O dR<|kas O<|aB<|aA<|aG<|aA<|rgN<|kfa O O ?_;refine kl1 O O O<|kmv O<|K.leq O O (cO (by omega)) dR<|kmv O<|aN O O (dS O O) ?_;refine aO O O O (dS O O) ?_;refine aS O O (cO (by omega)) (dS O O) ?_;refine kpf O O<|kmv O<|aN O O (dS O O) ?_;refine aO O O O (dS O O) ?_;refine bK O O (cO (by omega)) (dS O O) ?_;refine kpf O O<|kmv O<|aN O O (dS O O) ?_;refine aO O O O (dS O O) ?_;refine aS O O (cP (by omega)) (dS O O) ?_;refine kpf O O<|kas O<|aB<|aE O ?_;refine aA<|rgN<|kas O<|aB<|aI ?_)
    exact ⟨[_],⟨O,trivial⟩,O⟩
  have e1:chkR ⟨nw,old,ex⟩ last=if old=0∧ex≠[] then 4 else if 8<ex.length then 5 else firstX ex:=if_neg (by simp only;omega)
  rw [e1]
  have hl:ex≠[]↔0<ex.length:=by rw [List.length_pos_iff]
  by_cases c5:old=0
  · by_cases c6:0<ex.length
    · rw [if_pos ⟨c5,hl.2 c6⟩]
      (refine aA<|rgN<|aL O O O dR<|kas O<|aB<|aA<|aG<|aA<|rgN<|kfa O O ?_;refine kl1 O O O<|kmv O<|K.leq O O (cO (by omega)) dR<|kmv O<|aN O O (dS O O) ?_;refine aO O O O (dS O O) ?_;refine aS O O (cO (by omega)) (dS O O) ?_;refine kpf O O<|kmv O<|aN O O (dS O O) ?_;refine aO O O O (dS O O) ?_;refine bK O O (cO (by omega)) (dS O O) ?_;refine kpf O O<|kmv O<|aN O O (dS O O) ?_;refine aO O O O (dS O O) ?_;refine aS O O (cO (by omega)) (dS O O) ?_;refine kpf O O<|kas O<|aB<|aF O ?_;refine aA<|rgN<|kfa O O ?_;refine kl1 O O O<|keq O O (cU c5)<|kmv O<|aN O O (dS O O) ?_;refine aO O O O (dS O O) ?_;refine aQ O cC O (dS O O) ?_;refine aS O O (cP (by omega)) (dS O O) ?_;refine kpt O O<|kas O<|aB<|aE O ?_;refine aA<|rgN<|kas O<|aB<|aI ?_)
      exact ⟨[_],⟨O,trivial⟩,O⟩
    · have e0:ex=[]:=by
        by_cases h:ex=[]
        · exact h
        · exact absurd (hl.1 h) c6
      subst e0
      rw [if_neg (fun h=>h.2 rfl),if_neg (by decide)]
      ((refine aA<|rgN<|aL O O O dR<|kas O<|aB<|aA<|aG<|aA<|rgN<|kfa O O ?_;refine kl1 O O O<|kmv O<|K.leq O O (cO (by omega)) dR<|kmv O<|aN O O (dS O O) ?_;refine aO O O O (dS O O) ?_;refine aS O O (cO (by omega)) (dS O O) ?_;refine kpf O O<|kmv O<|aN O O (dS O O) ?_;refine aO O O O (dS O O) ?_;refine bK O O (cO (by omega)) (dS O O) ?_;refine kpf O O<|kmv O<|aN O O (dS O O) ?_;refine aO O O O (dS O O) ?_;refine aS O O (cO (by omega)) (dS O O) ?_;refine kpf O O<|kas O<|aB<|aF O ?_;refine aA<|rgN<|kfa O O ?_);(refine kl1 O O O<|keq O O (cU c5)<|kmv O<|aN O O (dS O O) ?_;refine aO O O O (dS O O) ?_;refine aQ O cC O (dS O O) ?_;refine aS O O (cO (by decide)) (dS O O) ?_;refine kpt O O<|kas O<|aB<|aF O ?_;refine aA<|rgN<|kfa O O ?_;refine kl1 O O O<|aQ O cC O dR ?_;refine aS O O (cO (by decide)) dR<|kas O<|aB<|aF O ?_;refine aH ?_;refine aA<|aA<|rgN<|kfa O O ?_;refine kl1 O O O<|aQ O cC O dR ?_;refine kmv O<|aB<|aG ?_))
      refine cL (fun m σ=>m=0∧σ=⟨[(46,Ln .i64 0),(47,Ln .i64 0)],[],X⟩) 0 ⟨⟨[(46,Ln .i64 0),(47,Ln .i64 0)],[],X⟩,Le.of (by exact ⟨O,O,trivial⟩) (by exact trivial) (by exact O) (by exact O) (by repeat' (first|refine bT ?_ ?_|rfl|exact bV|exact bU|exact bW O)),O,O⟩ ?_
      rintro m σ ⟨rfl,rfl⟩
      (refine aA<|rgN<|klt O O (r:=false) O<|aB<|aA<|aF O ?_;refine aJ<|aA<|rgN<|kas O<|aB<|aI ?_)
      exact ⟨[_],⟨O,trivial⟩,O⟩
  rw [if_neg (fun h=>c5 h.1)]
  by_cases c7:8<ex.length
  · rw [if_pos c7]
    (refine aA<|rgN<|aL O O O dR<|kas O<|aB<|aA<|aG<|aA<|rgN<|kfa O O ?_;refine kl1 O O O<|kmv O<|K.leq O O (cO (by omega)) dR<|kmv O<|aN O O (dS O O) ?_;refine aO O O O (dS O O) ?_;refine aS O O (cO (by omega)) (dS O O) ?_;refine kpf O O<|kmv O<|aN O O (dS O O) ?_;refine aO O O O (dS O O) ?_;refine bK O O (cO (by omega)) (dS O O) ?_;refine kpf O O<|kmv O<|aN O O (dS O O) ?_;refine aO O O O (dS O O) ?_;refine aS O O (cO (by omega)) (dS O O) ?_;refine kpf O O<|kas O<|aB<|aF O ?_;refine aA<|rgN<|kfa O O ?_;refine kl1 O O O<|keq O O (cR c5)<|kmv O<|aC O O O<|aC O O O<|aC O O O<|aC O O O<|kpf O O<|kas O<|aB<|aF O ?_;refine aA<|rgN<|kfa O O ?_;refine kl1 O O O<|aQ O cC O dR ?_;refine aS O O (cP (by omega)) dR<|kas O<|aB<|aE O ?_;refine aA<|rgN<|kas O<|aB<|aI ?_)
    exact ⟨[_],⟨O,trivial⟩,O⟩
  rw [if_neg c7]
  (refine aA<|rgN<|aL O O O dR<|kas O<|aB<|aA<|aG<|aA<|rgN<|kfa O O ?_;refine kl1 O O O<|kmv O<|K.leq O O (cO (by omega)) dR<|kmv O<|aN O O (dS O O) ?_;refine aO O O O (dS O O) ?_;refine aS O O (cO (by omega)) (dS O O) ?_;refine kpf O O<|kmv O<|aN O O (dS O O) ?_;refine aO O O O (dS O O) ?_;refine bK O O (cO (by omega)) (dS O O) ?_;refine kpf O O<|kmv O<|aN O O (dS O O) ?_;refine aO O O O (dS O O) ?_;refine aS O O (cO (by omega)) (dS O O) ?_;refine kpf O O<|kas O<|aB<|aF O ?_;refine aA<|rgN<|kfa O O ?_;refine kl1 O O O<|keq O O (cR c5)<|kmv O<|aC O O O<|aC O O O<|aC O O O<|aC O O O<|kpf O O<|kas O<|aB<|aF O ?_;refine aA<|rgN<|kfa O O ?_;refine kl1 O O O<|aQ O cC O dR ?_;refine aS O O (cO (by omega)) dR<|kas O<|aB<|aF O ?_;refine aH ?_;refine aA<|aA<|rgN<|kfa O O ?_;refine kl1 O O O<|aQ O cC O dR ?_;refine kmv O<|aB<|aG ?_)
  refine cL (fun m σ=>∃ i:Nat,i≤ex.length∧m=ex.length-i∧firstX ex=firstX (ex.drop i)∧σ=⟨[(45,Lx ead ex.length ecap),(46,Ln .i64 (ex.length:Nat)),(47,Ln .i64 (i:Nat))],[],X⟩) ex.length
    ⟨⟨[(45,Lx ead ex.length ecap),(46,Ln .i64 (ex.length:Nat)),(47,Ln .i64 (0:Nat))],[],X⟩,Le.of (by exact ⟨rfl,rfl,rfl,trivial⟩) (by exact trivial) (by exact rfl) (by exact rfl) (by repeat' (first|refine bT ?_ ?_|rfl|exact bV|exact bU|exact bW rfl)),0,by omega,by omega,rfl,rfl⟩ ?_
  rintro m σ ⟨i,hi,rfl,hpre,rfl⟩
  by_cases hlt:i<ex.length
  case neg =>
    rw [hpre,List.drop_eq_nil_of_le (by omega)]
    (refine aA<|rgN<|klt O O (cO (by omega))<|aB<|aA<|aF O ?_;refine aJ<|aA<|rgN<|kas O<|aB<|aI ?_)
    exact ⟨[_],⟨O,trivial⟩,O⟩
  obtain ⟨c,hc⟩:∃ c,ex[i]? = some c:=⟨_,cX hlt⟩
  obtain ⟨eb,eo,earr,eel,efr,vad,vcap,rfl,hEX,hec,hI⟩:=hE.get hc
  have hio:eo+Int.toNat (i:Int)*1=eo+i*1:=by simp
  have hG:=gEncode' X c vad vcap hI (h2 c (dD hc))
  rw [drop_at hc,firstX_cons] at hpre
  by_cases he:encErr c=0
  · rw [if_pos he] at hpre
    rw [he] at hG
    have hadd:IntKind.i64.wrap (((i:Nat):Int)+1)=((i+1:Nat):Int):=by rw [cH (by omega)];omega
    (refine aA<|rgN<|klt O O (cP (by omega))<|aB<|aA<|aE O ?_;refine aH ?_;refine aA<|aG<|aA<|rgN<|aR O O cC (by omega) hio dR<|aW O hEX O hec dR<|kas O<|aB<|aA<|rgN<|kmv O<|kca O O hG<|kmv O<|kex O O ?_;refine kex O O<|kas O<|kas O<|aB<|aA<|rgN<|kmv O<|kne O O (r:=false) O<|aB<|aF O ?_;refine aH ?_;refine rgN<|kad O O hadd<|kmv O<|aB ?_)
    exact ⟨_,⟨[(45,Lx (some ⟨eb,eo,none⟩) ex.length ecap),(46,Ln .i64 (ex.length:Nat)),(47,Ln .i64 (i+1:Nat))],[],X⟩,by omega,Le.of (by exact ⟨O,O,O,trivial⟩) (by exact trivial) (by exact O) (by exact O) (by repeat' (first|refine bT ?_ ?_|rfl|exact bV|exact bU|exact bW O)),i+1,by omega,O,hpre,O⟩
  · rw [if_neg he] at hpre
    rw [hpre]
    have hne:(encErr c != 0)=true:=by rw [bne_iff_ne];exact he
    generalize encErr c=ce at *
    (refine aA<|rgN<|klt O O (cP (by omega))<|aB<|aA<|aE O ?_;refine aH ?_;refine aA<|aG<|aA<|rgN<|aR O O cC (by omega) hio dR<|aW O hEX O hec dR<|kas O<|aB<|aA<|rgN<|kmv O<|kca O O hG<|kmv O<|kex O O ?_;refine kex O O<|kas O<|kas O<|aB<|aA<|rgN<|kmv O<|kne O O hne<|aB<|aE O ?_;refine aA<|rgN<|kmv O<|kas O<|aB<|aI ?_)
    exact ⟨[_],⟨O,trivial⟩,O⟩
set_option maxHeartbeats 3200000 in
theorem kCheck (p:Pg) (ad:Option Addr) (cap:Nat) (hin:RulesIn X ad p.rs) (hbig:p.rs.length<4611686018427387904) (hsz:sizeR p.rs):PSpec Tryz.prog X 12 [LPg p.va p.vb ad p.rs.length cap] (Ln .i64 (chkP p)):=by
  obtain ⟨va,vb,rs⟩:=p
  simp only at hin hbig hsz ⊢
  have v1:=kIsVersion X va
  have v2:=kIsVersion X vb
  refine cF Tryz.func12 rfl (by kernel_rfl) rfl rfl ?_
  intro C
  cases q1:verOk va with
  | false =>
    rw [q1] at v1
    rw [chkP_bad (by simp only;rw [q1,Bool.false_and];decide)]
    (refine aA<|rgN<|aL O O O dR<|kas O<|aB<|aA<|aA<|rgN<|kfa O O ?_;refine kl1 O O O<|kca O O v1<|aV O O dR<|kmv O<|aC O O O<|aC O O O<|aC O O O<|aC O O O<|kpt O O<|aB<|aE O ?_;refine aA<|rgN<|kas O<|aB<|aI ?_)
    exact ⟨[_],⟨O,trivial⟩,O⟩
  | true =>
  rw [q1] at v1
  cases q2:verOk vb with
  | false =>
    rw [q2] at v2
    rw [chkP_bad (by simp only;rw [q2,Bool.and_false];decide)]
    (refine aA<|rgN<|aL O O O dR<|kas O<|aB<|aA<|aA<|rgN<|kfa O O ?_;refine kl1 O O O<|kca O O v1<|aV O O dR<|kmv O<|aN O O (dS O O) ?_;refine aO O O O (dS O O) ?_;refine gca O O v2 O O<|aV O O (dS O O) ?_;refine kpf O O<|aB<|aE O ?_;refine aA<|rgN<|kas O<|aB<|aI ?_)
    exact ⟨[_],⟨O,trivial⟩,O⟩
  | true =>
  rw [q2] at v2
  rw [chkP_good (by simp only;rw [q1,q2];rfl)]
  (refine aA<|rgN<|aL O O O dR<|kas O<|aB<|aA<|aA<|rgN<|kfa O O ?_;refine kl1 O O O<|kca O O v1<|aV O O dR<|kmv O<|aN O O (dS O O) ?_;refine aO O O O (dS O O) ?_;refine gca O O v2 O O<|aV O O (dS O O) ?_;refine kpf O O<|aB<|aF O ?_;refine aH ?_;refine aA<|rgN<|kas O<|aB<|aA<|aA<|rgN<|kfa O O ?_;refine kl1 O O O<|aQ O cC O dR ?_;refine kmv O<|aB<|aG ?_)
  simp only
  refine cL (fun m σ=>∃ i:Nat,i≤rs.length∧m=rs.length-i∧chkRs 0 rs=chkRs (lastR rs i) (rs.drop i)∧0≤lastR rs i∧σ=⟨[(3,Ln .i64 (lastR rs i)),(18,Lx ad rs.length cap),(19,Ln .i64 (rs.length:Nat)),(20,Ln .i64 (i:Nat))],[],X⟩) rs.length
    ⟨⟨[(3,Ln .i64 (lastR rs 0)),(18,Lx ad rs.length cap),(19,Ln .i64 (rs.length:Nat)),(20,Ln .i64 (0:Nat))],[],X⟩,Le.of (by exact ⟨rfl,rfl,rfl,rfl,trivial⟩) (by exact trivial) (by exact rfl) (by exact rfl) (by repeat' (first|refine bT ?_ ?_|rfl|exact bV|exact bU|exact bW rfl)),0,by omega,by omega,rfl,Int.le_refl 0,rfl⟩ ?_
  rintro m σ ⟨i,hi,rfl,hpre,hlast,rfl⟩
  by_cases hlt:i<rs.length
  case neg =>
    rw [hpre,List.drop_eq_nil_of_le (by omega)]
    (refine aA<|rgN<|klt O O (cO (by omega))<|aB<|aA<|aF O ?_;refine aJ<|aA<|rgN<|kas O<|aB<|aI ?_)
    exact ⟨[_],⟨O,trivial⟩,O⟩
  obtain ⟨r,hr⟩:∃ r,rs[i]? = some r:=⟨_,cX hlt⟩
  obtain ⟨blk,off,arr,el,fr,ead,ecap,rfl,hX,hsiz,hcs,g1,g2,g3,hE⟩:=hin.get hr
  have hio:off+Int.toNat (i:Int)*3=off+i*3:=by simp
  obtain ⟨hz1,hz2⟩:=hsz r (dD hr)
  have hR:=kCheckRule X r ead ecap hE (by omega) hz2 (lastR rs i) hlast
  rw [drop_at hr,chkRs_cons] at hpre
  by_cases he:chkR r (lastR rs i)=0
  · rw [if_pos he] at hpre
    have hgt:=(chkR_zero he).2.2.1
    rw [he] at hR
    have hnl:=lastR_at hr
    have hadd:IntKind.i64.wrap (((i:Nat):Int)+1)=((i+1:Nat):Int):=by rw [cH (by omega)];omega
    (refine aA<|rgN<|klt O O (cP (by omega))<|aB<|aA<|aE O ?_;refine aH ?_;refine aA<|aG<|aA<|rgN<|aR O O cC (by omega) hio dR<|aY O hX (by kernel_rfl) hsiz hcs dR<|aP O dR ?_;refine aM O O O O O O dR ?_;refine aB<|aA<|aA<|rgN<|aK O O O dR ?_;refine kmv O<|kca O O hR<|kas O<|aB<|aA<|rgN<|kmv O<|kne O O (r:=false) O<|aB<|aF O ?_;refine aH ?_;refine rgN<|kfa O O ?_;refine kl1 O O O<|kas O<|aB<|rgN<|kad O O hadd<|kmv O<|aB ?_)
    rw [← hnl] at hpre hgt ⊢
    exact ⟨_,⟨[(3,Ln .i64 (lastR rs (i+1))),(18,Lx (some ⟨blk,off,none⟩) rs.length cap),(19,Ln .i64 (rs.length:Nat)),(20,Ln .i64 (i+1:Nat))],[],X⟩,by omega,Le.of (by exact ⟨O,O,O,O,trivial⟩) (by exact trivial) (by exact O) (by exact O) (by repeat' (first|refine bT ?_ ?_|rfl|exact bV|exact bU|exact bW O)),i+1,by omega,O,hpre,by omega,O⟩
  · rw [if_neg he] at hpre
    rw [hpre]
    have hne:(chkR r (lastR rs i) != 0)=true:=by rw [bne_iff_ne];exact he
    generalize chkR r (lastR rs i)=ce at *
    (refine aA<|rgN<|klt O O (cP (by omega))<|aB<|aA<|aE O ?_;refine aH ?_;refine aA<|aG<|aA<|rgN<|aR O O cC (by omega) hio dR<|aY O hX (by kernel_rfl) hsiz hcs dR<|aP O dR ?_;refine aM O O O O O O dR ?_;refine aB<|aA<|aA<|rgN<|aK O O O dR ?_;refine kmv O<|kca O O hR<|kas O<|aB<|aA<|rgN<|kmv O<|kne O O hne<|aB<|aE O ?_;refine aA<|rgN<|kmv O<|kas O<|aB<|aI ?_)
    exact ⟨[_],⟨O,trivial⟩,O⟩
end Go.Proofs.YtamplgnbbanamaaGreatDoor
end
section
namespace Go.Proofs.YtamplgnbbanamaaGreatDoor
open Go Go.Lg Go.Lg.Fml Go.Lg.Fld Go.Lg.Arith
set_option maxRecDepth 100000
theorem kE_len {c:List Ins} (h:encErr c=0):(encE c).length≤1200:=by
  have h64:c.length≤64:=by
    by_cases hz:chkX c=0
    · exact (chkX_zero hz).1
    · exact absurd ((if_neg hz:encErr c=chkX c)▸h) hz
  have:=encIs_len c
  unfold encE encX
  rw [cV,leB_length,dI]
  omega
theorem kEs_len:∀ {l:List (List Ins)},(∀ c∈l,encErr c=0)→(encEs l).length≤l.length*1200
  | [],_=>by simp [encEs]
  | c::t,h=>by
    have h1:=kE_len (h c (by simp))
    have h2:=kEs_len (l:=t) (fun d hd=>h d (by simp [hd]))
    simp only [encEs,cV,dI]
    omega
theorem kR_len {r:Rl} (h:∀ c∈r.ex,encErr c=0) (h8:r.ex.length≤8):(encR r).length≤10000:=by
  have:=kEs_len h
  unfold encR
  simp only [dI]
  omega
theorem kRs_len:∀ {l:List Rl},(∀ r∈l,(∀ c∈r.ex,encErr c=0)∧r.ex.length≤8)→(encRs l).length≤l.length*10000
  | [],_=>by simp [encRs]
  | c::t,h=>by
    have h1:=kR_len (h c (by simp)).1 (h c (by simp)).2
    have h2:=kRs_len (l:=t) (fun d hd=>h d (by simp [hd]))
    simp only [encRs,cV,dI]
    omega
theorem kT_ok {c:List Ins} (h:encErr c=0):encTX c=encX c:=if_pos h
variable (X:Nat→Option Obj)
theorem kPut_0 (n:Nat) (h:n<256):MSpec Tryz.prog X 25 [Lp 1000000,Ln .i64 (n:Nat)] (w0 1000000) (.tup []) (w1 1000000 1000001 1000002 [o8 (n:Nat)]):=by
  have hN:=WNum_0_1 X n (by omega) (by omega)
  rw [leB1o n] at hN
  refine cG Tryz.func25 rfl (by kernel_rfl) rfl rfl (by repeat' (first|refine bT ?_ ?_|rfl|exact bV|exact bU|exact bW rfl)) rfl rfl ?_
  intro C
  have hw:IntKind.u64.wrap ((n:Nat):Int)=((n:Nat):Int):=wrap_u64 (by omega)
  (refine rgN<|kmv O<|kmv O<|kcv O hw ?_;refine aU [(1000001,501),(1000002,502)] (w1 1000000 501 502 [o8 (n:Nat)]) (hN) O O (by exact (cQ ⟨_,O,O⟩ trivial)) (by exact (bT (bT O (bT O O)) O)) O O O O (by exact (.box O O (.box O O (.box O O .nil)))) dR<|aB ?_)
  exact ⟨[(1000001,501),(1000002,502)],⟨[],trivial,rfl⟩,(by repeat' (first|exact trivial|refine cQ ⟨_,rfl,?_⟩ ?_|refine cQ ⟨_,rfl⟩ ?_|rfl|exact bX _ _ _ _|exact bY _ _ _ _|exact bZ rfl)),rfl,rfl⟩
theorem kPut_1 (l:List UInt8) (n:Int) (h:0≤n∧n<256) (hl:l.length<900000000):MSpec Tryz.prog X 25 [Lp 1000000,Ln .i64 n] (w1 1000000 1000001 1000002 l) (.tup []) (w1 1000000 1000001 1000003 (l++[o8 n])++[(1000002,none)]):=by
  obtain ⟨k,rfl⟩:=Int.eq_ofNat_of_zero_le h.1
  have hk:k<256:=by omega
  have hN:=WNum_1_1 X l k (by omega) (by omega) hl
  rw [leB1o k] at hN
  refine cG Tryz.func25 rfl (by kernel_rfl) rfl rfl (by repeat' (first|refine bT ?_ ?_|rfl|exact bV|exact bU|exact bW rfl)) rfl rfl ?_
  intro C
  have hw:IntKind.u64.wrap ((k:Nat):Int)=((k:Nat):Int):=wrap_u64 (by omega)
  (refine rgN<|kmv O<|kmv O<|kcv O hw ?_;refine aU [(1000003,501)] (w1 1000000 1000001 501 (l++[o8 (k:Nat)])++[(1000002,none)]) (hN) O O (by exact (cQ ⟨_,O,O⟩ (cQ ⟨_,O,O⟩ (cQ ⟨_,O,(bX _ _ _ _)⟩ trivial)))) (by exact (bT (bT O (bT O O)) (bT (bT O O) (bT bV O)))) O O O O (by exact (.box O O (.box O O (.box O (bX _ _ _ _) (.dead O .nil))))) dR<|aB ?_)
  exact ⟨[(1000003,501)],⟨[],trivial,rfl⟩,(by repeat' (first|exact trivial|refine cQ ⟨_,rfl,?_⟩ ?_|refine cQ ⟨_,rfl⟩ ?_|rfl|exact bX _ _ _ _|exact bY _ _ _ _|exact bZ rfl)),rfl,rfl⟩
theorem kPart_1 (l:List UInt8) (c:List Ins) (h:encErr c=0) (hl:l.length<800000000):MSpec Tryz.prog X 55 [Lp 1000000,Ls (encX c)] (w1 1000000 1000001 1000002 l) (Lb true) (w1 1000000 1000001 1000003 (l++encE c)++[(1000002,none)]):=by
  have hc:=kE_len h
  unfold encE at hc ⊢
  rw [cV,leB_length] at hc
  have hp:(256:Nat)^4=4294967296:=by decide
  have:=WPart_1 X l (encX c) (by unfold fitW;rw [cP (by show (encX c).length<256^4;omega)];rfl) (by omega) hl
  rw [dM] at this
  exact this
abbrev prSt (l:List UInt8) (ead:Option Addr) (n ecap i:Nat) (Y:Nat→Option Obj):St:=
  ⟨[(0,Lp 1000000),(22,Lx ead n ecap),(23,Ln .i64 (n:Nat)),(24,Ln .i64 (i:Nat))],w1 1000000 1000001 500 l++[(1000002,none)],Y⟩
set_option maxHeartbeats 3200000 in
theorem kPutRule (l:List UInt8) (r:Rl) (ead:Option Addr) (ecap:Nat) (hE:CodesIn X ead r.ex) (a1:0≤r.nw∧r.nw<256) (a2:0≤r.old∧r.old<256) (a3:r.ex.length≤8) (a4:∀ c∈r.ex,encErr c=0) (hl:l.length<700000000):
    MSpec Tryz.prog X 27 [Lp 1000000,LPg r.nw r.old ead r.ex.length ecap] (w1 1000000 1000001 1000002 l) (.tup []) (w1 1000000 1000001 1000003 (l++encR r)++[(1000002,none)]):=by
  obtain ⟨nw,old,ex⟩:=r
  simp only at hE a1 a2 a3 a4 ⊢
  have p1:=kPut_1 X l nw a1 (by omega)
  have p2:=kPut_1 X (l++[o8 nw]) old a2 (by rw [cV,cY];omega)
  have p3:=kPut_1 X ((l++[o8 nw])++[o8 old]) (ex.length:Nat) ⟨by omega,by omega⟩ (by rw [cV,cV,cY,cY];omega)
  have hfin:l++encR ⟨nw,old,ex⟩=(((l++[o8 nw])++[o8 old])++[o8 (ex.length:Nat)])++encEs ex:=by unfold encR;simp
  have hPl:(((l++[o8 nw])++[o8 old])++[o8 (ex.length:Nat)]).length=l.length+3:=by simp only [cV,cY]
  refine cG Tryz.func27 rfl (by kernel_rfl) rfl rfl (by repeat' (first|refine bT ?_ ?_|rfl|exact bV|exact bU|exact bW rfl)) rfl rfl ?_
  intro C
  (refine aA<|rgN<|aL O O O dR<|aB<|aA<|rgN<|kmv O<|kfa O O ?_;refine kl1 O O O<|aU [(1000003,501)] (w1 1000000 1000001 501 (l++[o8 nw])++[(1000002,none)]) (p1) O O (by exact (cQ ⟨_,O,O⟩ (cQ ⟨_,O,O⟩ (cQ ⟨_,O,(bX _ _ _ _)⟩ trivial)))) (by exact (bT (bT O (bT O O)) (bT (bT O O) (bT bV O)))) O O O O (by exact (.box O O (.box O O (.box O (bX _ _ _ _) (.dead O .nil))))) dR<|aB<|aA<|rgN<|kmv O<|kfa O O ?_;refine kl1 O O O<|aU [(1000002,501),(1000003,502)] (w1 1000000 1000001 502 ((l++[o8 nw])++[o8 old])++[(501,none)]) (p2) O O (by exact (cQ ⟨_,O,O⟩ (cQ ⟨_,O,O⟩ (cQ ⟨_,O,(bX _ _ _ _)⟩ trivial)))) (by exact (bT (bT O (bT O O)) (bT (bT O O) (bT bV O)))) O O O O (by exact (.box O O (.box O O (.box O (bX _ _ _ _) (.dead O .nil))))) dR<|aB<|aA<|rgN<|kmv O<|kfa O O ?_;refine kl1 O O O<|aQ O cC O dR ?_;refine aU [(1000002,502),(1000003,503)] (w1 1000000 1000001 503 (((l++[o8 nw])++[o8 old])++[o8 (ex.length:Nat)])++[(502,none)]) (p3) O O (by exact (cQ ⟨_,O,O⟩ (cQ ⟨_,O,O⟩ (cQ ⟨_,O,(bX _ _ _ _)⟩ trivial)))) (by exact (bT (bT O (bT O O)) (bT (bT O O) (bT bV O)))) O O O O (by exact (.box O O (.box O O (.box O (bX _ _ _ _) (.dead O .nil))))) dR<|aB<|aA<|rgN<|kfa O O ?_;refine kl1 O O O<|aQ O cC O dR ?_;refine kmv O<|aB<|aG ?_)
  rw [hfin]
  generalize hP:(((l++[o8 nw])++[o8 old])++[o8 (ex.length:Nat)])=P at *
  refine cL (fun m σ=>∃ i:Nat,i≤ex.length∧m=ex.length-i∧σ=prSt (P++encEs (ex.take i)) ead ex.length ecap i X) ex.length
    ⟨prSt (P++encEs (ex.take 0)) ead ex.length ecap 0 X,by
      rw [show P++encEs (ex.take 0)=P from dJ _]
      exact Le.ofR [(500,503)] (by exact ⟨rfl,rfl,rfl,rfl,trivial⟩) (by repeat' (first|exact trivial|refine cQ ⟨_,rfl,?_⟩ ?_|refine cQ ⟨_,rfl⟩ ?_|rfl|exact bX _ _ _ _|exact bY _ _ _ _|exact bZ rfl)) (by exact rfl) (by exact rfl) (by repeat' (first|refine bT ?_ ?_|rfl|exact bV|exact bU|exact bW rfl)) (by exact rfl) (by exact rfl),0,Nat.zero_le _,rfl,rfl⟩ ?_
  rintro m σ ⟨i,hi,rfl,rfl⟩
  by_cases hlt:i<ex.length
  · obtain ⟨c,hc⟩:∃ c,ex[i]? = some c:=⟨_,cX hlt⟩
    obtain ⟨eb,eo,earr,eel,efr,vad,vcap,rfl,hEX,hec,hI⟩:=hE.get hc
    have hio:eo+Int.toNat (i:Int)*1=eo+i*1:=by simp
    have hce:=a4 c (dD hc)
    have h64:c.length≤64:=by
      by_cases hz:chkX c=0
      · exact (chkX_zero hz).1
      · exact absurd ((if_neg hz:encErr c=chkX c)▸hce) hz
    have hG:=gEncode' X c vad vcap hI (by omega)
    rw [hce,kT_ok hce] at hG
    have hBl:(P++encEs (ex.take i)).length≤l.length+3+8*1200:=by
      have:=kEs_len (l:=ex.take i) (fun d hd=>a4 d (List.mem_of_mem_take hd))
      rw [cZ] at this
      rw [cV];omega
    have hnext:P++encEs (ex.take (i+1))=(P++encEs (ex.take i))++encE c:=by
      rw [take_snoc hc,encEs_app,dM]
      simp [encEs]
    have hadd:IntKind.i64.wrap (((i:Nat):Int)+1)=((i+1:Nat):Int):=by rw [cH (by omega)];omega
    have q:=kPart_1 X (P++encEs (ex.take i)) c hce (by omega)
    rw [← hnext] at q
    (refine aA<|rgN<|klt O O (cP (by omega))<|aB<|aA<|aE O ?_;refine aH ?_;refine aA<|aG<|aA<|rgN<|aR O O cC (by omega) hio dR<|aW O hEX O hec dR<|kas O<|aB<|aA<|rgN<|kmv O<|kca O O hG<|kmv O<|kex O O ?_;refine kex O O<|kas O<|kas O<|aB<|rgN<|kmv O<|kmv O<|aU [(1000002,500),(1000003,501)] (w1 1000000 1000001 501 (P++encEs (ex.take (i+1)))++[(500,none)]) (q) O O (by exact (cQ ⟨_,O,O⟩ (cQ ⟨_,O,O⟩ (cQ ⟨_,O,(bX _ _ _ _)⟩ trivial)))) (by exact (bT (bT O (bT O O)) (bT (bT O O) (bT bV O)))) O O O O (by exact (.box O O (.box O O (.box O (bX _ _ _ _) (.dead O .nil))))) dR<|aB<|rgN<|kad O O hadd<|kmv O<|aB ?_)
    exact ⟨_,prSt (P++encEs (ex.take (i+1))) (some ⟨eb,eo,none⟩) ex.length ecap (i+1) X,by omega,Le.ofR [(500,501)] (by exact ⟨rfl,rfl,rfl,rfl,trivial⟩) (by repeat' (first|exact trivial|refine cQ ⟨_,rfl,?_⟩ ?_|refine cQ ⟨_,rfl⟩ ?_|rfl|exact bX _ _ _ _|exact bY _ _ _ _|exact bZ rfl)) (by exact rfl) (by exact rfl) (by repeat' (first|refine bT ?_ ?_|rfl|exact bV|exact bU|exact bW rfl)) (by exact rfl) (by exact rfl),i+1,by omega,rfl,rfl⟩
  · have e:i=ex.length:=by omega
    subst e
    rw [dF]
    (refine aA<|rgN<|klt O O (cO (by omega))<|aB<|aA<|aF O ?_;refine aJ ?_)
    exact ⟨[(1000003,500)],⟨[],trivial,rfl⟩,(by repeat' (first|exact trivial|refine cQ ⟨_,rfl,?_⟩ ?_|refine cQ ⟨_,rfl⟩ ?_|rfl|exact bX _ _ _ _|exact bY _ _ _ _|exact bZ rfl)),rfl,rfl⟩
def encPT (p:Pg):List UInt8:=if chkP p=0 then encP p else []
theorem kok_rules {p:Pg} (h:chkP p=0):∀ r∈p.rs,(0≤r.nw∧r.nw<256)∧(0≤r.old∧r.old<256)∧r.ex.length≤8∧∀ c∈r.ex,encErr c=0:=fun r hr=>by
  obtain ⟨last,hl⟩:=chkRs_mem (chkP_zero h).2.2.1 r hr
  obtain ⟨q1,q2,_,_,q5,q6⟩:=chkR_zero hl
  exact ⟨by omega,by omega,q5,firstX_zero q6⟩
abbrev eeSt (l:List UInt8) (va vb:Int) (ad:Option Addr) (n cap i:Nat) (Y:Nat→Option Obj):St:=
  ⟨[(1,Lp 1),(5,Lp 14),(33,Lx ad n cap),(34,Ln .i64 (n:Nat)),(35,Ln .i64 (i:Nat))],w1 14 601 500 l++[v3B 24 1 va vb ad n cap],Y⟩
set_option maxHeartbeats 3200000 in
theorem kEncode (p:Pg) (ad:Option Addr) (cap:Nat) (hin:RulesIn X ad p.rs) (hbig:p.rs.length<4611686018427387904) (hsz:sizeR p.rs):PSpec Tryz.prog X 11 [LPg p.va p.vb ad p.rs.length cap] (.tup [Ss (encPT p),Sn .i64 (chkP p)]):=by
  have hc:=kCheck X p ad cap hin hbig hsz
  unfold encPT
  by_cases hz:chkP p=0
  · rw [if_pos hz]
    rw [hz] at hc ⊢
    have hok:=kok_rules hz
    obtain ⟨hv1,hv2,_,h24⟩:=chkP_zero hz
    obtain ⟨va,vb,rs⟩:=p
    simp only at hin hbig hsz hc hok hv1 hv2 h24 ⊢
    obtain ⟨na,rfl⟩:=Int.eq_ofNat_of_zero_le (show 0≤va by omega)
    obtain ⟨nb,rfl⟩:=Int.eq_ofNat_of_zero_le (show 0≤vb by omega)
    have hp:(256:Nat)^4=4294967296:=by decide
    have p1:MSpec Tryz.prog X 25 [Lp 1000000,Ln .i64 77] (w0 1000000) (.tup []) (w1 1000000 1000001 1000002 [77]):=kPut_0 X 77 (by decide)
    have p2:=WNum_1_4 X [77] na (by omega) (by omega) (by decide)
    have p3:=WNum_1_4 X ([77]++leB 4 na) nb (by omega) (by omega) (by rw [cV,leB_length];decide)
    have p4:=kPut_1 X (([77]++leB 4 na)++leB 4 nb) (rs.length:Nat) ⟨by omega,by omega⟩ (by rw [cV,cV,leB_length,leB_length];decide)
    have w1':IntKind.u64.wrap ((na:Nat):Int)=((na:Nat):Int):=wrap_u64 (by omega)
    have w2':IntKind.u64.wrap ((nb:Nat):Int)=((nb:Nat):Int):=wrap_u64 (by omega)
    refine cF Tryz.func11 rfl (by kernel_rfl) rfl rfl ?_
    intro C
    (refine aA<|rgN<|aL O O O dR<|kas O<|kas O<|aB<|aA<|aA<|rgN<|aK O O O dR ?_;refine kca O O hc<|kas O<|aB<|aA<|rgN<|kmv O<|kne O O (r:=false) O<|aB<|aF O ?_;refine aH ?_;refine aA<|rgN<|aT O O (by exact O) (by exact nl2 O O O) dR ?_;refine aL O O O dR<|kas O<|aB<|aA<|rgN<|kmv O<|aU [(1000000,14),(1000001,601),(1000002,602)] (w1 14 601 602 [77]) (p1) O O (by exact (cQ ⟨_,O,O⟩ trivial)) (by exact (bT (bT O (bT O O)) O)) O O O O (by exact (.box O O (.box O O (.box O O .nil)))) dR<|aB<|aA<|rgN<|kmv O<|kfa O O ?_;refine kl1 O O O<|kcv O w1' ?_;refine aU [(1000000,14),(1000001,601),(1000002,602),(1000003,603)] (w1 14 601 603 ([77]++leB 4 na)++[(602,none)]) (p2) O O (by exact (cQ ⟨_,O,O⟩ (cQ ⟨_,O,O⟩ (cQ ⟨_,O,O⟩ trivial)))) (by exact (bT (bT O (bT O O)) (bT (bT O O) (bT (bT O O) O)))) O O O O (by exact (.box O O (.box O O (.box O O (.dead O .nil))))) dR<|aB<|aA<|rgN<|kmv O<|kfa O O ?_;refine kl1 O O O<|kcv O w2' ?_;refine aU [(1000000,14),(1000001,601),(1000002,603),(1000003,604)] (w1 14 601 604 (([77]++leB 4 na)++leB 4 nb)++[(603,none)]) (p3) O O (by exact (cQ ⟨_,O,O⟩ (cQ ⟨_,O,O⟩ (cQ ⟨_,O,O⟩ trivial)))) (by exact (bT (bT O (bT O O)) (bT (bT O O) (bT (bT O (bT O (bT O (bT O (bT O O))))) O)))) O O O O (by exact (.box O O (.box O O (.box O O (.dead O .nil))))) dR<|aB<|aA<|rgN<|kmv O<|kfa O O ?_;refine kl1 O O O<|aQ O cC O dR ?_;refine aU [(1000000,14),(1000001,601),(1000002,604),(1000003,605)] (w1 14 601 605 ((([77]++leB 4 na)++leB 4 nb)++[o8 (rs.length:Nat)])++[(604,none)]) (p4) O O (by exact (cQ ⟨_,O,O⟩ (cQ ⟨_,O,O⟩ (cQ ⟨_,O,O⟩ trivial)))) (by exact (bT (bT O (bT O O)) (bT (bT O O) (bT (bT O (bT O (bT O (bT O (bT O (bT O (bT O (bT O (bT O O))))))))) O)))) O O O O (by exact (.box O O (.box O O (.box O O (.dead O .nil))))) dR<|aB<|aA<|aA<|rgN<|kfa O O ?_;refine kl1 O O O<|aQ O cC O dR ?_;refine kmv O<|aB<|aG ?_)
    have hfin:encP ⟨(na:Nat),(nb:Nat),rs⟩=((([77]++leB 4 na)++leB 4 nb)++[o8 (rs.length:Nat)])++encRs rs:=by
      unfold encP
      simp only [dG]
      simp
    rw [hfin]
    have hPl:((([77]++leB 4 na)++leB 4 nb)++[o8 (rs.length:Nat)]).length=10:=by simp only [cV,leB_length,cY]
    generalize ((([77]++leB 4 na)++leB 4 nb)++[o8 (rs.length:Nat)])=P at *
    refine cL (fun m σ=>∃ i:Nat,i≤rs.length∧m=rs.length-i∧σ=eeSt (P++encRs (rs.take i)) (na:Nat) (nb:Nat) ad rs.length cap i X) rs.length
      ⟨eeSt (P++encRs (rs.take 0)) (na:Nat) (nb:Nat) ad rs.length cap 0 X,by
        rw [show P++encRs (rs.take 0)=P from dJ _]
        exact Le.ofR [(500,605)] (by exact ⟨rfl,rfl,rfl,rfl,rfl,trivial⟩) (by repeat' (first|exact trivial|refine cQ ⟨_,rfl,?_⟩ ?_|refine cQ ⟨_,rfl⟩ ?_|rfl|exact bX _ _ _ _|exact bY _ _ _ _|exact bZ rfl)) (by exact rfl) (by exact rfl) (by repeat' (first|refine bT ?_ ?_|rfl|exact bV|exact bU|exact bW rfl)) (by exact rfl) (by exact rfl),0,Nat.zero_le _,rfl,rfl⟩ ?_
    rintro m σ ⟨i,hi,rfl,rfl⟩
    by_cases hlt:i<rs.length
    · obtain ⟨r,hr⟩:∃ r,rs[i]? = some r:=⟨_,cX hlt⟩
      obtain ⟨blk,off,arr,el,fr,ead,ecap,rfl,hX,hsiz,hcs,g1,g2,g3,hE⟩:=hin.get hr
      have hio:off+Int.toNat (i:Int)*3=off+i*3:=by simp
      have hBl:(P++encRs (rs.take i)).length≤10+24*10000:=by
        have:=kRs_len (l:=rs.take i) (fun r hr=>⟨(hok r (List.mem_of_mem_take hr)).2.2.2,(hok r (List.mem_of_mem_take hr)).2.2.1⟩)
        rw [cZ] at this
        rw [cV,hPl];omega
      have hnext:P++encRs (rs.take (i+1))=(P++encRs (rs.take i))++encR r:=by
        rw [take_snoc hr,encRs_app,dM]
        simp [encRs]
      have hadd:IntKind.i64.wrap (((i:Nat):Int)+1)=((i+1:Nat):Int):=by rw [cH (by omega)];omega
      obtain ⟨k1,k2,k3,k4⟩:=hok r (dD hr)
      have q:=kPutRule X (P++encRs (rs.take i)) r ead ecap hE k1 k2 k3 k4 (by omega)
      rw [← hnext] at q
      (refine aA<|rgN<|klt O O (cP (by omega))<|aB<|aA<|aE O ?_;refine aH ?_;refine aA<|aG<|aA<|rgN<|aR O O cC (by omega) hio dR<|aY O hX (by kernel_rfl) hsiz hcs dR<|aP O dR ?_;refine aM O O O O O O dR ?_;refine aB<|rgN<|kmv O<|aK O O O dR ?_;refine aU [(1000000,14),(1000001,601),(1000002,500),(1000003,605)] (w1 14 601 605 (P++encRs (rs.take (i+1)))++[(500,none)]) (q) O O (by exact (cQ ⟨_,O,O⟩ (cQ ⟨_,O,O⟩ (cQ ⟨_,O,(bX _ _ _ _)⟩ trivial)))) (by exact (bT (bT O (bT O O)) (bT (bT O O) (bT bV O)))) O O O O (by exact (.box O O (.box O O (.box O (bX _ _ _ _) (.dead O .nil))))) dR<|aB<|rgN<|kad O O hadd<|kmv O<|aB ?_)
      exact ⟨_,eeSt (P++encRs (rs.take (i+1))) (na:Nat) (nb:Nat) (some ⟨blk,off,none⟩) rs.length cap (i+1) X,by omega,Le.ofR [(500,605)] (by exact ⟨rfl,rfl,rfl,rfl,rfl,trivial⟩) (by repeat' (first|exact trivial|refine cQ ⟨_,rfl,?_⟩ ?_|refine cQ ⟨_,rfl⟩ ?_|rfl|exact bX _ _ _ _|exact bY _ _ _ _|exact bZ rfl)) (by exact rfl) (by exact rfl) (by repeat' (first|refine bT ?_ ?_|rfl|exact bV|exact bU|exact bW rfl)) (by exact rfl) (by exact rfl),i+1,by omega,rfl,rfl⟩
    · have e:i=rs.length:=by omega
      subst e
      rw [dF]
      have q:=String_1 X (P++encRs rs)
      (refine aA<|rgN<|klt O O (cO (by omega))<|aB<|aA<|aF O ?_;refine aJ<|aA<|rgN<|kmv O<|aU [(1000000,14),(1000001,601),(1000002,500)] (w1 14 601 500 (P++encRs rs)) (q) O O (by exact (cQ ⟨_,O,O⟩ (cQ ⟨_,O,O⟩ (cQ ⟨_,O,(bX _ _ _ _)⟩ trivial)))) (by exact (bT (bT O (bT O O)) (bT (bT O O) (bT bV O)))) O O O O (by exact (.box O O (.box O O (.box O (bX _ _ _ _) .nil)))) dR<|kas O<|kas O<|aB<|aI ?_)
      exact ⟨[_,_],⟨O,O,trivial⟩,O⟩
  · rw [if_neg hz]
    have hne:(chkP p != 0)=true:=by rw [bne_iff_ne];exact hz
    generalize chkP p=ce at *
    refine cF Tryz.func11 rfl (by kernel_rfl) rfl rfl ?_
    intro C
    (refine aA<|rgN<|aL O O O dR<|kas O<|kas O<|aB<|aA<|aA<|rgN<|aK O O O dR ?_;refine kca O O hc<|kas O<|aB<|aA<|rgN<|kmv O<|kne O O hne<|aB<|aE O ?_;refine aA<|rgN<|kmv O<|kas O<|kas O<|aB<|aI ?_)
    exact ⟨[_,_],⟨O,O,trivial⟩,O⟩
end Go.Proofs.YtamplgnbbanamaaGreatDoor
end
section
namespace Go.Proofs.YtamplgnbbanamaaGreatDoor
open Go Go.Lg Go.Lg.Fml Go.Lg.Fld Go.Lg.Arith
set_option maxRecDepth 100000
theorem InsIn.one {X:Nat→Option Obj} {ad:Option Addr} {l:List Ins} (h:InsIn X ad l) {i:Nat} {x:Ins} (hx:l[i]? = some x):In2 x.k.2:=(h.small x (dD hx)).2.2.2
variable (X:Nat→Option Obj)
set_option maxHeartbeats 3200000 in
theorem kEq (ad ad2:Option Addr) (cap cap2:Nat) (a b:List Ins) (ha:InsIn X ad a) (hb:InsIn X ad2 b) (hbig:a.length<4611686018427387904):
    PSpec Tryz.prog X 82 [Lx ad a.length cap,Lx ad2 b.length cap2] (Lb (decide (a=b))):=by
  refine cF Tryz.func82 rfl (by kernel_rfl) rfl rfl ?_
  intro C
  by_cases hl:a.length=b.length
  · (refine aA<|rgN<|kas O<|aB<|aA<|aA<|rgN<|kmv O<|aQ O cC O dR ?_;refine kmv O<|aQ O cC O dR ?_;refine kne O O (r:=false) (by rw [hl];simp)<|aB<|aF O ?_;refine aH ?_;refine aA<|aA<|rgN<|kmv O<|aQ O cC O dR ?_;refine kmv O<|aB<|aG ?_)
    refine cL (fun m σ=>∃ i:Nat,i≤a.length∧m=a.length-i∧a.take i=b.take i∧σ=⟨[(0,Lx ad a.length cap),(1,Lx ad2 b.length cap2),(12,Ln .i64 (a.length:Nat)),(13,Ln .i64 (i:Nat))],[],X⟩) a.length
      ⟨_,Le.of (by exact ⟨rfl,rfl,rfl,rfl,trivial⟩) (by exact trivial) (by exact rfl) (by exact rfl) (by exact rfl),0,by omega,rfl,rfl,rfl⟩ ?_
    rintro m σ ⟨i,hi,rfl,hpre,rfl⟩
    by_cases hlt:i<a.length
    · obtain ⟨f,hf⟩:∃ v,a[i]? = some v:=⟨_,cX hlt⟩
      obtain ⟨f',hf'⟩:∃ v,b[i]? = some v:=⟨_,cX (by omega)⟩
      obtain ⟨blk,off,arr,el,fr,rfl,hX,hsz,hcells,_⟩:=ha.at hf
      obtain ⟨blk',off',arr',el',fr',rfl,hX',hsz',hcells',_⟩:=hb.at hf'
      have hio:off+Int.toNat (i:Int)*6=off+i*6:=by simp
      have hio':off'+Int.toNat (i:Int)*6=off'+i*6:=by simp
      have qe:=insEq (x:=f) (y:=f') (ha.one hf) (hb.one hf')
      by_cases hq:f=f'
      · rw [cP hq] at qe
        (refine aA<|rgN<|klt O O (cP (by omega))<|aB<|aA<|aE O ?_;refine aH ?_;refine aA<|aG<|aA<|rgN<|kmv O<|kas O<|aB<|aA<|rgD mixed<|kmv O<|kmv O<|aR O O cC (by omega) hio dR<|aY O hX (by kernel_rfl) hsz hcells dR<|kmv O ?_;refine kmv O<|aR O O cC (by omega) hio' dR<|aY O hX' (by kernel_rfl) hsz' hcells' dR<|bR (us:=insV f) (vs:=insV f') O O O O (by kernel_rfl) (eqT_expr true qe) (.inr ⟨O,O⟩) dR<|aB<|rgA ?_;refine aF O ?_;refine aH ?_;refine rgN<|kad O O (cH (by omega))<|kmv O<|aB ?_)
        exact ⟨_,_,by omega,Le.of (by exact ⟨rfl,rfl,rfl,rfl,trivial⟩) (by exact trivial) (by exact rfl) (by exact rfl) (by exact rfl),i+1,by omega,rfl,by rw [take_snoc hf,take_snoc hf',hpre,hq],rfl⟩
      · rw [cO (show ¬a=b from fun e=>hq (by rw [e,hf'] at hf;exact (Option.some.inj hf).symm))]
        rw [cO hq] at qe
        (refine aA<|rgN<|klt O O (cP (by omega))<|aB<|aA<|aE O ?_;refine aH ?_;refine aA<|aG<|aA<|rgN<|kmv O<|kas O<|aB<|aA<|rgD mixed<|kmv O<|kmv O<|aR O O cC (by omega) hio dR<|aY O hX (by kernel_rfl) hsz hcells dR<|kmv O ?_;refine kmv O<|aR O O cC (by omega) hio' dR<|aY O hX' (by kernel_rfl) hsz' hcells' dR<|bR (us:=insV f) (vs:=insV f') O O O O (by kernel_rfl) (eqT_expr false qe) (.inr ⟨O,O⟩) dR<|aB<|rgA ?_;refine aE O ?_;refine aA<|rgN<|kas O<|aB<|aI ?_)
        exact ⟨[_],⟨O,trivial⟩,O⟩
    · have e:i=a.length:=by omega
      subst e
      rw [dF,List.take_of_length_le (by omega)] at hpre
      rw [cP hpre]
      (refine aA<|rgN<|klt O O (cO (by omega))<|aB<|aA<|aF O ?_;refine aJ<|aA<|rgN<|kas O<|aB<|aI ?_)
      exact ⟨[_],⟨O,trivial⟩,O⟩
  · rw [cO (show ¬a=b from fun e=>hl (by rw [e]))]
    (refine aA<|rgN<|kas O<|aB<|aA<|aA<|rgN<|kmv O<|aQ O cC O dR ?_;refine kmv O<|aQ O cC O dR ?_;refine kne O O (r:=true) (by rw [bne_iff_ne];omega)<|aB<|aE O ?_;refine aA<|rgN<|kas O<|aB<|aI ?_)
    exact ⟨[_],⟨O,trivial⟩,O⟩
theorem kSameCode (ad ad2:Option Addr) (cap cap2:Nat) (a b:List Ins) (ha:InsIn X ad a) (hb:InsIn X ad2 b) (hbig:a.length<4611686018427387904):
    PSpec Tryz.prog X 66 [Lx ad a.length cap,Lx ad2 b.length cap2] (Lb (decide (a=b))):=by
  have hq:=kEq X ad ad2 cap cap2 a b ha hb hbig
  refine cF Tryz.func66 rfl (by kernel_rfl) rfl rfl ?_
  intro C
  (refine aA<|rgN<|kas O<|aB<|aA<|rgN<|kmv O<|kmv O<|kca O O hq<|kas O<|aB<|aI ?_)
  exact ⟨[_],⟨O,trivial⟩,O⟩
set_option maxHeartbeats 3200000 in
theorem kEqCodes (ad ad2:Option Addr) (cap cap2:Nat) (a b:List (List Ins)) (ha:CodesIn X ad a) (hb:CodesIn X ad2 b) (hbig:a.length<4611686018427387904) (hfs:∀ c∈a,c.length<4611686018427387904):
    PSpec Tryz.prog X 65 [Lx ad a.length cap,Lx ad2 b.length cap2,Lf 66 []] (Lb (decide (a=b))):=by
  refine cF Tryz.func65 rfl (by kernel_rfl) rfl rfl ?_
  intro C
  by_cases hl:a.length=b.length
  · (refine aA<|rgN<|kas O<|aB<|aA<|aA<|rgN<|kmv O<|aQ O cC O dR ?_;refine kmv O<|aQ O cC O dR ?_;refine kne O O (r:=false) (by rw [hl];simp)<|aB<|aF O ?_;refine aH ?_;refine aA<|aA<|rgN<|kmv O<|aQ O cC O dR ?_;refine kmv O<|aB<|aG ?_)
    refine cL (fun m σ=>∃ i:Nat,i≤a.length∧m=a.length-i∧a.take i=b.take i∧σ=⟨[(1,Lx ad2 b.length cap2),(2,Lf 66 []),(15,Lx ad a.length cap),(16,Ln .i64 (a.length:Nat)),(17,Ln .i64 (i:Nat))],[],X⟩) a.length
      ⟨_,Le.of (by exact ⟨rfl,rfl,rfl,rfl,rfl,trivial⟩) (by exact trivial) (by exact rfl) (by exact rfl) (by exact rfl),0,by omega,rfl,rfl,rfl⟩ ?_
    rintro m σ ⟨i,hi,rfl,hpre,rfl⟩
    by_cases hlt:i<a.length
    · obtain ⟨c,hc⟩:∃ v,a[i]? = some v:=⟨_,cX hlt⟩
      obtain ⟨d,hd⟩:∃ v,b[i]? = some v:=⟨_,cX (by omega)⟩
      obtain ⟨blk,off,arr,el,fr,fad,fcap,rfl,hX,hcs,hF⟩:=ha.get hc
      obtain ⟨blk',off',arr',el',fr',fad',fcap',rfl,hX',hcs',hF'⟩:=hb.get hd
      have hio:off+Int.toNat (i:Int)*1=off+i*1:=by simp
      have hio':off'+Int.toNat (i:Int)*1=off'+i*1:=by simp
      have hq:=kSameCode X fad fad' fcap fcap' c d hF hF' (hfs c (dD hc))
      by_cases he:c=d
      · rw [cP he] at hq
        (refine aA<|rgN<|klt O O (cP (by omega))<|aB<|aA<|aE O ?_;refine aH ?_;refine aA<|aG<|aA<|rgN<|kmv O<|aR O O cC (by omega) hio dR<|aW O hX O hcs dR<|kas O<|kas O<|aB<|aA<|rgN<|kmv O<|kmv O ?_;refine aR O O cC (by omega) hio' dR<|aW O hX' O hcs' dR<|kas O<|aB<|aA<|rgN<|kmv O<|kmv O<|kmv O<|K.callF (caps:=[]) O O O hq dR ?_;refine aV O O dR<|aB<|aF O ?_;refine aH ?_;refine rgN<|kad O O (cH (by omega))<|kmv O<|aB ?_)
        exact ⟨_,_,by omega,Le.of (by exact ⟨rfl,rfl,rfl,rfl,rfl,trivial⟩) (by exact trivial) (by exact rfl) (by exact rfl) (by exact rfl),i+1,by omega,rfl,by rw [take_snoc hc,take_snoc hd,hpre,he],rfl⟩
      · rw [cO he] at hq
        rw [cO (show ¬a=b from fun e=>he (by rw [e,hd] at hc;exact (Option.some.inj hc).symm))]
        (refine aA<|rgN<|klt O O (cP (by omega))<|aB<|aA<|aE O ?_;refine aH ?_;refine aA<|aG<|aA<|rgN<|kmv O<|aR O O cC (by omega) hio dR<|aW O hX O hcs dR<|kas O<|kas O<|aB<|aA<|rgN<|kmv O<|kmv O ?_;refine aR O O cC (by omega) hio' dR<|aW O hX' O hcs' dR<|kas O<|aB<|aA<|rgN<|kmv O<|kmv O<|kmv O<|K.callF (caps:=[]) O O O hq dR ?_;refine aV O O dR<|aB<|aE O ?_;refine aA<|rgN<|kas O<|aB<|aI ?_)
        exact ⟨[_],⟨O,trivial⟩,O⟩
    · have e:i=a.length:=by omega
      subst e
      rw [dF,List.take_of_length_le (by omega)] at hpre
      rw [cP hpre]
      (refine aA<|rgN<|klt O O (cO (by omega))<|aB<|aA<|aF O ?_;refine aJ<|aA<|rgN<|kas O<|aB<|aI ?_)
      exact ⟨[_],⟨O,trivial⟩,O⟩
  · rw [cO (show ¬a=b from fun e=>hl (by rw [e]))]
    (refine aA<|rgN<|kas O<|aB<|aA<|aA<|rgN<|kmv O<|aQ O cC O dR ?_;refine kmv O<|aQ O cC O dR ?_;refine kne O O (r:=true) (by rw [bne_iff_ne];omega)<|aB<|aE O ?_;refine aA<|rgN<|kas O<|aB<|aI ?_)
    exact ⟨[_],⟨O,trivial⟩,O⟩
set_option maxHeartbeats 3200000 in
theorem kSameRule (r q:Rl) (ad ad2:Option Addr) (cap cap2:Nat) (ha:CodesIn X ad r.ex) (hb:CodesIn X ad2 q.ex) (hbig:r.ex.length<4611686018427387904) (hfs:∀ c∈r.ex,c.length<4611686018427387904):
    PSpec Tryz.prog X 43 [LPg r.nw r.old ad r.ex.length cap,LPg q.nw q.old ad2 q.ex.length cap2] (Lb (decide (r=q))):=by
  refine cF Tryz.func43 rfl (by kernel_rfl) rfl rfl ?_
  intro C
  obtain ⟨n1,o1,x1⟩:=r
  obtain ⟨n2,o2,x2⟩:=q
  simp only at ha hb hbig hfs ⊢
  by_cases h1:n1=n2
  case neg =>
    rw [cO (fun e=>h1 (congrArg Rl.nw e))]
    (refine aA<|rgN<|aL O O O dR<|aL O O O dR<|kas O<|aB<|aA<|rgN<|kfa O O ?_;refine kl1 O O O<|kfa O O ?_;refine kl1 O O O<|keq O O (cR h1)<|kmv O<|aC O O O<|aC O O O<|aC O O O<|aC O O O<|aC O O O<|kpf O O<|kmv O<|aC O O O<|aC O O O<|aC O O O<|aC O O O ?_;refine aC O O O<|kpf O O<|kas O<|aB<|aI ?_)
    exact ⟨[_],⟨O,trivial⟩,O⟩
  by_cases h2:o1=o2
  case neg =>
    rw [cO (fun e=>h2 (congrArg Rl.old e))]
    (refine aA<|rgN<|aL O O O dR<|aL O O O dR<|kas O<|aB<|aA<|rgN<|kfa O O ?_;refine kl1 O O O<|kfa O O ?_;refine kl1 O O O<|keq O O (cU h1)<|kmv O<|aN O O (dS O O) ?_;refine aO O O O (dS O O) ?_;refine aN O O (dS O O) ?_;refine aO O O O (dS O O) ?_;refine bC O O (cR h2) (dS O O) ?_;refine kpt O O<|kmv O<|aC O O O<|aC O O O<|aC O O O<|aC O O O<|aC O O O<|kpf O O<|kas O<|aB<|aI ?_)
    exact ⟨[_],⟨O,trivial⟩,O⟩
  have hF:=kEqCodes X ad ad2 cap cap2 x1 x2 ha hb hbig hfs
  have e:decide ((⟨n1,o1,x1⟩:Rl)=⟨n2,o2,x2⟩)=decide (x1=x2):=by
    subst h1 h2
    simp
  rw [e]
  generalize decide (x1=x2)=d at *
  (refine aA<|rgN<|aL O O O dR<|aL O O O dR<|kas O<|aB<|aA<|rgN<|kfa O O ?_;refine kl1 O O O<|kfa O O ?_;refine kl1 O O O<|keq O O (cU h1)<|kmv O<|aN O O (dS O O) ?_;refine aO O O O (dS O O) ?_;refine aN O O (dS O O) ?_;refine aO O O O (dS O O) ?_;refine bC O O (cU h2) (dS O O) ?_;refine kpt O O<|kmv O<|aN O O (dS O O) ?_;refine aO O O O (dS O O) ?_;refine aN O O (dS O O) ?_;refine aO O O O (dS O O) ?_;refine gca O O hF O O<|kpt O O<|kas O<|aB<|aI ?_)
  exact ⟨[_],⟨O,trivial⟩,O⟩
set_option maxHeartbeats 3200000 in
theorem kEqRules (ad ad2:Option Addr) (cap cap2:Nat) (a b:List Rl) (ha:RulesIn X ad a) (hb:RulesIn X ad2 b) (hbig:a.length<4611686018427387904) (hsz:sizeR a):
    PSpec Tryz.prog X 42 [Lx ad a.length cap,Lx ad2 b.length cap2,Lf 43 []] (Lb (decide (a=b))):=by
  refine cF Tryz.func42 rfl (by kernel_rfl) rfl rfl ?_
  intro C
  by_cases hl:a.length=b.length
  · (refine aA<|rgN<|kas O<|aB<|aA<|aA<|rgN<|kmv O<|aQ O cC O dR ?_;refine kmv O<|aQ O cC O dR ?_;refine kne O O (r:=false) (by rw [hl];simp)<|aB<|aF O ?_;refine aH ?_;refine aA<|aA<|rgN<|kmv O<|aQ O cC O dR ?_;refine kmv O<|aB<|aG ?_)
    refine cL (fun m σ=>∃ i:Nat,i≤a.length∧m=a.length-i∧a.take i=b.take i∧σ=⟨[(1,Lx ad2 b.length cap2),(2,Lf 43 []),(15,Lx ad a.length cap),(16,Ln .i64 (a.length:Nat)),(17,Ln .i64 (i:Nat))],[],X⟩) a.length
      ⟨_,Le.of (by exact ⟨rfl,rfl,rfl,rfl,rfl,trivial⟩) (by exact trivial) (by exact rfl) (by exact rfl) (by exact rfl),0,by omega,rfl,rfl,rfl⟩ ?_
    rintro m σ ⟨i,hi,rfl,hpre,rfl⟩
    by_cases hlt:i<a.length
    · obtain ⟨c,hc⟩:∃ v,a[i]? = some v:=⟨_,cX hlt⟩
      obtain ⟨d,hd⟩:∃ v,b[i]? = some v:=⟨_,cX (by omega)⟩
      obtain ⟨blk,off,arr,el,fr,fad,fcap,rfl,hX,hsz1,hcs,_,_,_,hF⟩:=ha.get hc
      obtain ⟨blk',off',arr',el',fr',fad',fcap',rfl,hX',hsz2,hcs',_,_,_,hF'⟩:=hb.get hd
      have hio:off+Int.toNat (i:Int)*3=off+i*3:=by simp
      have hio':off'+Int.toNat (i:Int)*3=off'+i*3:=by simp
      obtain ⟨z1,z2⟩:=hsz c (dD hc)
      have hq:=kSameRule X c d fad fad' fcap fcap' hF hF' (by omega) (fun x hx=>by have:=z2 x hx;omega)
      by_cases he:c=d
      · rw [cP he] at hq
        (refine aA<|rgN<|klt O O (cP (by omega))<|aB<|aA<|aE O ?_;refine aH ?_;refine aA<|aG<|aA<|rgN<|kmv O<|aR O O cC (by omega) hio dR<|aY O hX (by kernel_rfl) hsz1 hcs dR<|aP O dR ?_;refine kas O<|aM O O O O O O dR ?_;refine aB<|aA<|rgN<|kmv O<|kmv O<|aR O O cC (by omega) hio' dR<|aY O hX' (by kernel_rfl) hsz2 hcs' dR<|aP O dR ?_;refine aM O O O O O O dR ?_;refine aB<|aA<|rgN<|kmv O<|aK O O O dR ?_;refine aK O O O dR ?_;refine K.callF (caps:=[]) O O O hq dR ?_;refine aV O O dR<|aB<|aF O ?_;refine aH ?_;refine rgN<|kad O O (cH (by omega))<|kmv O<|aB ?_)
        exact ⟨_,_,by omega,Le.of (by exact ⟨rfl,rfl,rfl,rfl,rfl,trivial⟩) (by exact trivial) (by exact rfl) (by exact rfl) (by exact rfl),i+1,by omega,rfl,by rw [take_snoc hc,take_snoc hd,hpre,he],rfl⟩
      · rw [cO he] at hq
        rw [cO (show ¬a=b from fun e=>he (by rw [e,hd] at hc;exact (Option.some.inj hc).symm))]
        (refine aA<|rgN<|klt O O (cP (by omega))<|aB<|aA<|aE O ?_;refine aH ?_;refine aA<|aG<|aA<|rgN<|kmv O<|aR O O cC (by omega) hio dR<|aY O hX (by kernel_rfl) hsz1 hcs dR<|aP O dR ?_;refine kas O<|aM O O O O O O dR ?_;refine aB<|aA<|rgN<|kmv O<|kmv O<|aR O O cC (by omega) hio' dR<|aY O hX' (by kernel_rfl) hsz2 hcs' dR<|aP O dR ?_;refine aM O O O O O O dR ?_;refine aB<|aA<|rgN<|kmv O<|aK O O O dR ?_;refine aK O O O dR ?_;refine K.callF (caps:=[]) O O O hq dR ?_;refine aV O O dR<|aB<|aE O ?_;refine aA<|rgN<|kas O<|aB<|aI ?_)
        exact ⟨[_],⟨O,trivial⟩,O⟩
    · have e:i=a.length:=by omega
      subst e
      rw [dF,List.take_of_length_le (by omega)] at hpre
      rw [cP hpre]
      (refine aA<|rgN<|klt O O (cO (by omega))<|aB<|aA<|aF O ?_;refine aJ<|aA<|rgN<|kas O<|aB<|aI ?_)
      exact ⟨[_],⟨O,trivial⟩,O⟩
  · rw [cO (show ¬a=b from fun e=>hl (by rw [e]))]
    (refine aA<|rgN<|kas O<|aB<|aA<|aA<|rgN<|kmv O<|aQ O cC O dR ?_;refine kmv O<|aQ O cC O dR ?_;refine kne O O (r:=true) (by rw [bne_iff_ne];omega)<|aB<|aE O ?_;refine aA<|rgN<|kas O<|aB<|aI ?_)
    exact ⟨[_],⟨O,trivial⟩,O⟩
set_option maxHeartbeats 3200000 in
theorem kSame (p q:Pg) (ad ad2:Option Addr) (cap cap2:Nat) (ha:RulesIn X ad p.rs) (hb:RulesIn X ad2 q.rs) (hbig:p.rs.length<4611686018427387904) (hsz:sizeR p.rs):
    PSpec Tryz.prog X 19 [LPg p.va p.vb ad p.rs.length cap,LPg q.va q.vb ad2 q.rs.length cap2] (Lb (decide (p=q))):=by
  refine cF Tryz.func19 rfl (by kernel_rfl) rfl rfl ?_
  intro C
  obtain ⟨n1,o1,x1⟩:=p
  obtain ⟨n2,o2,x2⟩:=q
  simp only at ha hb hbig hsz ⊢
  by_cases h1:n1=n2
  case neg =>
    rw [cO (fun e=>h1 (congrArg Pg.va e))]
    (refine aA<|rgN<|aL O O O dR<|aL O O O dR<|kas O<|aB<|aA<|rgN<|kfa O O ?_;refine kl1 O O O<|kfa O O ?_;refine kl1 O O O<|keq O O (cR h1)<|kmv O<|aC O O O<|aC O O O<|aC O O O<|aC O O O<|aC O O O<|kpf O O<|kmv O<|aC O O O<|aC O O O<|aC O O O<|aC O O O ?_;refine aC O O O<|kpf O O<|kas O<|aB<|aI ?_)
    exact ⟨[_],⟨O,trivial⟩,O⟩
  by_cases h2:o1=o2
  case neg =>
    rw [cO (fun e=>h2 (congrArg Pg.vb e))]
    (refine aA<|rgN<|aL O O O dR<|aL O O O dR<|kas O<|aB<|aA<|rgN<|kfa O O ?_;refine kl1 O O O<|kfa O O ?_;refine kl1 O O O<|keq O O (cU h1)<|kmv O<|aN O O (dS O O) ?_;refine aO O O O (dS O O) ?_;refine aN O O (dS O O) ?_;refine aO O O O (dS O O) ?_;refine bC O O (cR h2) (dS O O) ?_;refine kpt O O<|kmv O<|aC O O O<|aC O O O<|aC O O O<|aC O O O<|aC O O O<|kpf O O<|kas O<|aB<|aI ?_)
    exact ⟨[_],⟨O,trivial⟩,O⟩
  have hF:=kEqRules X ad ad2 cap cap2 x1 x2 ha hb hbig hsz
  have e:decide ((⟨n1,o1,x1⟩:Pg)=⟨n2,o2,x2⟩)=decide (x1=x2):=by
    subst h1 h2
    simp
  rw [e]
  generalize decide (x1=x2)=d at *
  (refine aA<|rgN<|aL O O O dR<|aL O O O dR<|kas O<|aB<|aA<|rgN<|kfa O O ?_;refine kl1 O O O<|kfa O O ?_;refine kl1 O O O<|keq O O (cU h1)<|kmv O<|aN O O (dS O O) ?_;refine aO O O O (dS O O) ?_;refine aN O O (dS O O) ?_;refine aO O O O (dS O O) ?_;refine bC O O (cU h2) (dS O O) ?_;refine kpt O O<|kmv O<|aN O O (dS O O) ?_;refine aO O O O (dS O O) ?_;refine aN O O (dS O O) ?_;refine aO O O O (dS O O) ?_;refine gca O O hF O O<|kpt O O<|kas O<|aB<|aI ?_)
  exact ⟨[_],⟨O,trivial⟩,O⟩
end Go.Proofs.YtamplgnbbanamaaGreatDoor
end
section
namespace Go.Proofs.YtamplgnbbanamaaGreatDoor
open Go Go.Lg Go.Lg.Fml Go.Lg.Fld Go.Lg.Arith
set_option maxRecDepth 100000
def code0:List Ins:=[⟨2,0,0,(false,0)⟩,⟨1,0,0,(false,2)⟩,⟨7,0,0,(false,0)⟩]
theorem small_0:∀ x∈code0,smallI x:=by
  intro x hx
  simp only [code0,List.mem_cons,List.not_mem_nil,or_false] at hx
  rcases hx with rfl|rfl|rfl<;>exact ⟨by decide,by decide,by decide,by show (0:Int)≤_∧_<_;decide⟩
theorem itoa0:Lib.itoa 0=[48]:=by
  rw [show (0:Int)=((0:Nat):Int) from rfl]
  first
    | rfl
    | decide
    | simp [Lib.itoa,Lib.decDigits]
theorem dec2d:Lib.decDigits 2=[50]:=by
  rw [Lib.decDigits_one (by decide)]
  rfl
theorem show0:showX code0=[109,117,108,40,102,48,46,48,44,50,41]:=by
  have h1:textQ 2=[50]:=dec2d
  have h2:=itoa0
  unfold showX
  rw [if_pos (by rfl)]
  show ((wordX 7++[40])++joinS [([102]++dg1 0)++([46]++dg1 0),textQ (zz (false,2))])++[41]=_
  rw [show zz (false,2)=2 from rfl,h1,show dg1 0=[48] from h2]
  rfl
variable (X:Nat→Option Obj)
end Go.Proofs.YtamplgnbbanamaaGreatDoor
end
section
namespace Go.Proofs.YtamplgnbbanamaaGreatDoor
open Go Go.Lg Go.Lg.Fld
set_option maxRecDepth 100000
abbrev Ext (X Y:Nat→Option Obj):Prop := ∀ b o,X b=some o→Y b=some o
theorem row_cell {arr:Array Value} {p sz:Nat} {r:List Value} (h:(arr.toList.drop p).take sz=r) {j:Nat} (hj:j<sz):arr[p+j]? = r[j]? := by
  rw [← h,List.getElem?_take,if_pos hj,List.getElem?_drop,Array.getElem?_toList]
variable (X:Nat→Option Obj)
end Go.Proofs.YtamplgnbbanamaaGreatDoor
end
section
namespace Go.Proofs.YtamplgnbbanamaaGreatDoor
open Go Go.Lg Go.Lg.Fld
set_option maxRecDepth 100000
theorem reads_rows {X:Nat→Option Obj} {ad:Option Addr} {sz:Nat} {rows:List (List Value)} (hsz:1≤sz) (hl:∀ r∈rows,r.length=sz) (h:Go.Lg.RowsIn X ad sz rows):ReadsX X ad rows.flatten:=⟨fun j u hj=>by
  have hfl:rows.flatten.length=rows.length*sz:=by
    clear h hj
    induction rows with
    | nil=>simp
    | cons r t ih =>
      simp only [List.flatten_cons,cV,dI,ih (fun x hx=>hl x (by simp [hx])),hl r (by simp)]
      rw [Nat.add_mul,Nat.one_mul];omega
  have hjl:=(List.getElem?_eq_some_iff.1 hj).1
  have hi:j/sz<rows.length:=Nat.div_lt_of_lt_mul (by rw [Nat.mul_comm];omega)
  obtain ⟨r,hr⟩:∃ r,rows[j/sz]? = some r:=⟨_,cX hi⟩
  obtain ⟨h1,h2⟩:=flat_row hl (sp:=[]) hr
  rw [dJ] at h1 h2
  obtain ⟨blk,off,arr,el,fr,e1,e2,e3,e4⟩:=h _ r hr
  have hq:j%sz<sz:=Nat.mod_lt _ (by omega)
  have hje:j=j/sz*sz+j%sz:=by rw [Nat.mul_comm];exact (Nat.div_add_mod j sz).symm
  refine ⟨blk,off,arr,el,fr,e1,e2,?_⟩
  have h3:=row_cell e4 hq
  have h4:r[j%sz]? = some u:=by
    rw [← h2,List.getElem?_take,if_pos hq,List.getElem?_drop,← hje];exact hj
  rw [h4] at h3
  rw [hje,← Nat.add_assoc];exact h3⟩
end Go.Proofs.YtamplgnbbanamaaGreatDoor
end
section
namespace Go.Proofs.YtamplgnbbanamaaGreatDoor
open Go Go.Lg Go.Lg.Fml Go.Lg.Fld Go.Lg.Arith
set_option maxRecDepth 100000
def RowV (Y:Nat→Option Obj) (vs:List Value) (fs:List (List Nm)):Prop:=vs.length=fs.length∧∀ (i:Nat) (r:List Nm),fs[i]? = some r→∃ (ad:Option Addr) (cap:Nat),vs[i]? = some (.slice ad r.length cap)∧NumsIn Y ad r
variable (X:Nat→Option Obj)
end Go.Proofs.YtamplgnbbanamaaGreatDoor
end
section
namespace Go.Proofs.YtamplgnbbanamaaGreatDoor
open Go Go.Lg Go.Lg.Fml Go.Lg.Fld Go.Lg.Arith
set_option maxRecDepth 100000
variable (X:Nat→Option Obj)
theorem inssV_one (l:List Ins):∀ u∈inssV l,u.oneCell'=true:=fun u hu=>by
  unfold inssV at hu
  rw [List.mem_flatten] at hu
  obtain ⟨q,hq,hu⟩:=hu
  obtain ⟨n,_,rfl⟩:=List.mem_map.1 hq
  unfold insV at hu
  simp only [List.mem_cons,List.not_mem_nil,or_false] at hu
  rcases hu with rfl|rfl|rfl|rfl|rfl|rfl<;>rfl
theorem ins_reads {X:Nat→Option Obj} {ad:Option Addr} {l:List Ins} (h:InsIn X ad l):ReadsX X ad (inssV l):=reads_rows (by decide) (fun q hq=>by obtain ⟨x,_,rfl⟩:=List.mem_map.1 hq;rfl) h.rows
end Go.Proofs.YtamplgnbbanamaaGreatDoor
end
section
namespace Go.Proofs.YtamplgnbbanamaaGreatDoor
open Go Go.Lg Go.Lg.Fml Go.Lg.Fld Go.Lg.Arith
set_option maxRecDepth 100000
abbrev SPg (va vb:Int) (ad:Option Addr) (n cap:Nat):SV:=.agg [.val (.int .i64 va),.val (.int .i64 vb),.val (.slice ad n cap)]
abbrev SRs (r:Rl) (k:Nat):SV:=.agg [.val (.int .i64 r.nw),.val (.int .i64 r.old),.slc k 0 r.ex.length 1]
def int1 (l:List Int):List Value:=l.map fun n=>.int .i64 n
def cdR (t:TypeId) (cs:List (List Ins)):Rsc:=⟨fun ρ H=>(∃ (arr:Array Value) (fr:Nat×Nat),H ρ.1=some (.cells arr t fr)∧arr.size=ρ.2)∧CodesIn H (some ⟨ρ.1,0,none⟩) cs⟩
abbrev cdB (k:Nat) (cs:List (List Ins)):Nat×Option Box:=(k,some ⟨0,[],.res (cdR 68 cs)⟩)
abbrev inB (k:Nat) (c:List Ins):Nat×Option Box:=(k,some ⟨66,(inssV c).map .val,true⟩)
section
variable {n:Nat} {C:Ctx} {X:Nat→Option Obj} {s:List (Nat×LV)} {bx:List (Nat×Option Box)} {k:Nat}
theorem cd_shut {Mid:St→Prop} {t:TypeId} {cs:List (List Ins)} {H:Nat→Option Obj} {vs:List Value} (hO:OwnedM C X H) (G:FormsH H vs cs)
    (h:Leads n C Mid ⟨s,(k,some ⟨0,[],.res (cdR t cs)⟩)::bx,X⟩):Leads n C Mid ⟨s,(k,some ⟨t,vs.map .val,false⟩)::bx,joinM X H⟩:=by
  refine Leads.closeRes (vals:=vs) hO (fun ρ fr h1 h2 h3 => ?_) h
  refine ⟨⟨_,fr,cN _ _ _,by rw [h3];simp⟩,?_⟩
  exact forms_block (sp:=[]) (cN _ _ _) (by simp) (G.mono (cJ h1))
end
theorem InsIn.nil' {X:Nat→Option Obj} {ad:Option Addr}:InsIn X ad []:=⟨fun i r h=>by simp at h,fun x hx=>by cases hx⟩
theorem InsIn.no {X:Nat→Option Obj} {c:List Ins} (h:InsIn X none c):c=[]:=by
  cases c with
  | nil=>rfl
  | cons x t =>
    obtain ⟨_,_,_,_,_,e,_⟩:=h.at (i:=0) (x:=x) rfl
    cases e
def nilV (k:Nat):List Value:=List.replicate k (.slice none 0 0)
theorem nilV_succ (k:Nat):nilV (k+1) = .slice none 0 0::nilV k:=List.replicate_succ
theorem nilV_len (k:Nat):(nilV k).length=k:=dE
theorem nilV_splice {vs:List Value} {k i:Nat} {c:CV} (hi:vs.length=i):splice ((vs++nilV (k+1)).map CV.val) i [c]=vs.map CV.val++c::(nilV k).map CV.val:=by
  unfold splice
  rw [nilV_succ]
  simp only [dH,dM]
  have hml:(vs.map CV.val).length=i:=by rw [cW,hi]
  generalize vs.map CV.val=R at *
  rw [← hml,List.take_left,List.drop_length_add_append]
  simp
theorem rfind_at {l:List Rl} {id:Int} {r:Rl} (h:findP l id=some r):∃ i:Nat,l[i]? = some r∧(r.nw==id)=true∧∀ (j:Nat) (y:Rl),j<i→l[j]? = some y→(y.nw==id)=false:=by
  unfold findP at h
  rw [List.find?_eq_some_iff_getElem] at h
  obtain ⟨h1,i,hi,h2,h3⟩:=h
  refine ⟨i,by rw [cX hi,h2],h1,fun j y hj hy => ?_⟩
  obtain ⟨hjl,e⟩:=List.getElem?_eq_some_iff.1 hy
  have:=h3 j hj
  rw [e] at this
  simpa using this
theorem fromP_app (a b:List Rl) (old:Int):fromP (a++b) old=fromP a old++fromP b old:=by
  unfold fromP
  by_cases h:old=0
  · rw [if_pos h,if_pos h,if_pos h];rfl
  · rw [if_neg h,if_neg h,if_neg h,List.filter_append,dH]
theorem fromP_yes {r:Rl} {t:List Rl} {old:Int} (h:r.old=old) (h0:old≠0):fromP (r::t) old=r.nw::fromP t old:=by
  unfold fromP
  rw [if_neg h0,if_neg h0,List.filter_cons,if_pos (by rw [h];exact beq_self_eq_true old),List.map_cons]
theorem fromP_not {r:Rl} {t:List Rl} {old:Int} (h:¬(r.old=old∧old≠0)):fromP (r::t) old=fromP t old:=by
  unfold fromP
  by_cases h0:old=0
  · rw [if_pos h0,if_pos h0]
  · rw [if_neg h0,if_neg h0,List.filter_cons,if_neg]
    intro e
    exact h ⟨by simpa using e,h0⟩
theorem fromP_len (l:List Rl) (old:Int):(fromP l old).length≤l.length:=by
  unfold fromP
  by_cases h:old=0
  · rw [if_pos h];exact Nat.zero_le _
  · rw [if_neg h,cW];exact List.length_filter_le _ _
theorem fromP_none (old:Int):fromP [] old=[]:=by unfold fromP;split<;>rfl
variable (X:Nat→Option Obj)
theorem kClone_nil (cap:Nat):PSpec Tryz.prog X 64 [Lx none 0 cap] (Lx none 0 0):=by
  refine cF Tryz.func64 rfl (by kernel_rfl) rfl rfl ?_
  intro C
  (refine aA<|rgN<|kas O<|aB<|aA<|aA<|rgN<|kmv O<|K.slcNil (r:=true) O cC (.inl ⟨O,O⟩) dR ?_;refine aB<|aE O ?_;refine aA<|rgN<|kas O<|aB<|aI ?_)
  exact ⟨[_],⟨O,trivial⟩,O⟩
theorem kClone_some (fa:Addr) (cap:Nat) (c:List Ins) (hF:InsIn X (some fa) c) (hb:c.length≤65536):
    MSpec Tryz.prog X 64 [Lx (some fa) c.length cap] [] (.sv (.one (.slc 1000001 0 c.length 6))) [inB 1000001 c]:=by
  have hlen:(inssV c).length=c.length*6:=by have:=inssV_len c;rwa [cW] at this
  refine cG Tryz.func64 rfl (by kernel_rfl) rfl rfl (by exact (by repeat' (first|refine bT ?_ ?_|rfl|exact bV|exact bU|exact bW rfl))) rfl rfl ?_
  intro C
  (refine aA<|rgN<|kas O<|aB<|aA<|aA<|rgN<|kmv O<|K.slcNil (r:=false) O cC (.inl ⟨O,O⟩) dR ?_;refine aB<|aF O ?_;refine aH ?_;refine aA<|rgN<|aZ (zs:=[]) (sz:=6) (e:=66) (by kernel_rfl) O O O O O O dR<|kmv O<|K.appendX (by_:=48) (e2:=66) (news:=inssV c) (nl:=c.length) (nc:=(inssV c).map .val) O O O O (ins_reads hF) hlen (inssV_one c) (by kernel_rfl) (by kernel_rfl) (by omega) (by omega) O (by omega) O dR ?_;refine kas O<|aB<|aI ?_)
  exact ⟨[(1000001,7)],⟨[_],⟨rfl,trivial⟩,rfl⟩,(by repeat' (first|exact trivial|refine cQ ⟨_,rfl,?_⟩ ?_|refine cQ ⟨_,rfl⟩ ?_|rfl|exact bX _ _ _ _|exact bY _ _ _ _|exact bZ rfl)),rfl,rfl⟩
abbrev crSt (nw old:Int) (ead:Option Addr) (n ecap i:Nat) (vs:List Value) (Y:Nat→Option Obj):St:=
  ⟨[(1,Lp 1),(2,Lp 2),(3,.sv (.one (.slc 9 0 n 1))),(11,Lx ead n ecap),(12,Ln .i64 (n:Nat)),(13,Ln .i64 (i:Nat))],[(9,some ⟨68,(vs++nilV (n-i)).map .val,false⟩),v3B 46 1 nw old ead n ecap,v3B 46 2 0 0 none 0 0],Y⟩
set_option maxHeartbeats 6400000 in
theorem kCloneRule (r:Rl) (ead:Option Addr) (ecap:Nat) (hE:CodesIn X ead r.ex) (hn:r.ex.length≤65536) (hc:∀ c∈r.ex,c.length≤65536):
    MSpec Tryz.prog X 41 [LPg r.nw r.old ead r.ex.length ecap] [] (.sv (SRs r 1000001)) [cdB 1000001 r.ex]:=by
  obtain ⟨nw,old,ex⟩:=r
  simp only at hE hn hc ⊢
  have hmk:slcBuild Tryz.prog 44 ex.length=some (nilV ex.length,1,68):=slcBuild_one (by kernel_rfl) (by kernel_rfl) (by omega)
  refine cG Tryz.func41 rfl (by kernel_rfl) rfl rfl rfl rfl rfl ?_
  intro C
  refine LWP.ends ?_
  (refine aA<|rgN<|aL O O O dR<|aP O dR ?_;refine aB<|aA<|rgN<|kfa O O ?_;refine kl1 O O O<|aQ O cC O dR ?_;refine K.makeSlc (m:=ex.length) (bytes:=24) O O hmk (by kernel_rfl) (by omega) O O dR<|kas O<|aB<|aA<|aA<|rgN<|kfa O O ?_;refine kl1 O O O<|aQ O cC O dR ?_;refine kmv O<|aB<|aG ?_)
  refine cM (fun m σ=>∃ (i:Nat) (vs:List Value) (H:Nat→Option Obj),i≤ex.length∧m=ex.length-i∧OwnedM C X H∧FormsH H vs (ex.take i)∧σ=crSt nw old ead ex.length ecap i vs (joinM X H)) ex.length
    (cE (σ':=crSt nw old ead ex.length ecap 0 [] X) (Le.of (by exact ⟨rfl,rfl,rfl,rfl,rfl,rfl,trivial⟩) (by exact ⟨rfl,rfl,rfl,trivial⟩) (by exact rfl) (by exact rfl) (by repeat' (first|refine bT ?_ ?_|rfl|exact bV|exact bU|exact bW rfl))) (cD ⟨0,[],fun _=>none,by omega,by omega,OwnedM.nil _ _,FormsH.nil,by rw [joinM_nil]⟩)) ?_
  rintro m σ ⟨i,vs,H,hi,rfl,hO,GF,rfl⟩
  have hvl:vs.length=i:=by rw [GF.len,cZ];omega
  by_cases hlt:i<ex.length
  case neg =>
    have e:i=ex.length:=by omega
    subst e
    rw [dF] at GF
    unfold crSt
    rw [Nat.sub_self,show nilV 0=[] from rfl,dJ]
    (refine aA<|rgN<|klt O O (cO (by omega))<|aB<|aA<|aF O ?_;refine aJ<|aA<|rgN<|kmv O<|kfa O O ?_;refine bG O O O O O (nl3 O O O O) dR<|aB<|aA<|rgN<|aK O O O dR ?_;refine aM O O O O O O dR ?_;refine aB<|aI ?_)
    refine cE (σ':=⟨[(2,Lp 2)],[(9,some ⟨68,vs.map .val,false⟩),(2,some ⟨46,[.val (.int .i64 nw),.val (.int .i64 old),.slc 9 0 ex.length 1],false⟩)],joinM X H⟩) (Le.of (by exact ⟨O,trivial⟩) (by exact ⟨O,O,trivial⟩) (by exact O) (by exact O) (by repeat' (first|refine bT ?_ ?_|rfl|exact bV|exact bU|exact bW O))) ?_
    refine cd_shut hO GF (cD ?_)
    exact ⟨[(1000001,9)],⟨[_],⟨⟨_,_,rfl,rfl,rfl,.inl ⟨AggT.h,rfl⟩⟩,trivial⟩,rfl⟩,(by repeat' (first|exact trivial|refine cQ ⟨_,rfl,?_⟩ ?_|refine cQ ⟨_,rfl⟩ ?_|rfl|exact bX _ _ _ _|exact bY _ _ _ _|exact bZ rfl)),rfl,rfl⟩
  obtain ⟨c,hcc⟩:∃ c,ex[i]? = some c:=⟨_,cX hlt⟩
  obtain ⟨eb,eo,earr,eel,efr,vad,vcap,rfl,hEX,hec,hI⟩:=hE.get hcc
  have hEJ:=joinM_has hO hEX
  have hIJ:InsIn (joinM X H) vad c:=hI.mono fun b o h=>joinM_has hO h
  have hio:eo+Int.toNat (i:Int)*1=eo+i*1:=by simp
  have hix:0+Int.toNat (i:Int)*1=i:=by rw [dG];omega
  have hadd:IntKind.i64.wrap (((i:Nat):Int)+1)=((i+1:Nat):Int):=by rw [cH (by omega)];omega
  have hroom:i+1≤((vs++nilV (ex.length-i)).map CV.val).length:=by rw [cW,cV,hvl,nilV_len];omega
  have hk:ex.length-i=(ex.length-(i+1))+1:=by omega
  cases vad with
  | none =>
    have hc0:=hI.no
    subst hc0
    have hq:=kClone_nil (joinM X H) vcap
    have hspl:splice ((vs++nilV (ex.length-i)).map CV.val) i [.val (.slice none 0 0)]=((vs++[Value.slice none 0 0])++nilV (ex.length-(i+1))).map CV.val:=by
      rw [hk,nilV_splice hvl];simp
    (refine aA<|rgN<|klt O O (cP (by omega))<|aB<|aA<|aE O ?_;refine aH ?_;refine aA<|aG<|aA<|rgN<|kmv O<|aR O O cC (by omega) hio dR<|aW O hEJ O hec dR<|kas O<|kas O<|aB<|rgN<|kmv O<|kmv O<|kmv O ?_;refine kca O O hq<|K.indexSlc O O (by omega) hix dR ?_;refine K.store O O O O (by kernel_rfl) hroom hspl dR<|aB<|rgN<|kad O O hadd<|kmv O<|aB ?_)
    exact cE (σ':=crSt nw old (some ⟨eb,eo,none⟩) ex.length ecap (i+1) (vs++[.slice none 0 0]) (joinM X H)) (Le.of (by exact ⟨rfl,rfl,rfl,rfl,rfl,rfl,trivial⟩) (by exact ⟨rfl,rfl,rfl,trivial⟩) (by exact rfl) (by exact rfl) (by repeat' (first|refine bT ?_ ?_|rfl|exact bV|exact bU|exact bW rfl))) (cD ⟨ex.length-(i+1),by omega,i+1,vs++[.slice none 0 0],H,by omega,rfl,hO,by rw [take_snoc hcc];exact GF.push ⟨none,0,rfl,InsIn.nil'⟩,rfl⟩)
  | some fa =>
    have hq:=kClone_some (joinM X H) fa vcap c hIJ (hc c (dD hcc))
    have hspl:splice ((vs++nilV (ex.length-i)).map CV.val) i [.slc 600 0 c.length 6]=vs.map CV.val ++ .slc 600 0 c.length 6::(nilV (ex.length-(i+1))).map CV.val:=by
      rw [hk,nilV_splice hvl]
    (refine aA<|rgN<|klt O O (cP (by omega))<|aB<|aA<|aE O ?_;refine aH ?_;refine aA<|aG<|aA<|rgN<|kmv O<|aR O O cC (by omega) hio dR<|aW O hEJ O hec dR<|kas O<|kas O<|aB<|rgN<|kmv O<|kmv O<|kmv O ?_;refine bE [(1000001,600)] (.sv (.one (.slc 600 0 c.length 6))) [inB 600 c] (hq) O O (by exact trivial) O O O O O (by exact (.box O (bY _ _ _ _) .nil)) dR<|K.indexSlc O O (by omega) hix dR ?_;refine K.store O O O O (by kernel_rfl) hroom hspl dR<|aB<|rgN<|kad O O hadd<|kmv O<|aB ?_)
    refine cE (σ':=⟨[(1,Lp 1),(2,Lp 2),(3,.sv (.one (.slc 9 0 ex.length 1))),(11,Lx (some ⟨eb,eo,none⟩) ex.length ecap),(12,Ln .i64 (ex.length:Nat)),(13,Ln .i64 (i+1:Nat))],[(9,some ⟨68,vs.map CV.val ++ .slc 600 0 c.length 6::(nilV (ex.length-(i+1))).map CV.val,false⟩),inB 600 c,v3B 46 1 nw old (some ⟨eb,eo,none⟩) ex.length ecap,v3B 46 2 0 0 none 0 0],joinM X H⟩) (Le.of (by exact ⟨O,O,O,O,O,O,trivial⟩) (by exact ⟨O,O,O,O,trivial⟩) (by exact O) (by exact O) (by repeat' (first|refine bT ?_ ?_|rfl|exact bV|exact bU|exact bW O))) ?_
    refine Leads.closeCell hO (by have:=inssV_len c;rw [cW] at this;exact this) rfl bU bU rfl rfl rfl fun b o v q1 _ hO3 hv=>cD ⟨ex.length-(i+1),by omega,i+1,vs++[v],withBlock H b o,by omega,rfl,hO3,?_,?_⟩
    · rw [take_snoc hcc]
      exact (GF.mono (cJ q1)).push (ins_leads hv hI.small)
    · unfold crSt
      simp
abbrev Vp' (b:Nat):LV:=.sv (.one (.val (.pointer (some ⟨b,0,none⟩))))
theorem kFind1 (r:Rl) (ead:Option Addr) (ecap:Nat) (id:Int) {b:Nat} {arr:Array Value} {el:TypeId} {fr:Nat×Nat} (hX:X b=some (.cells arr el fr)) (h0:arr[0]? = some (.int .i64 id)):
    PSpec Tryz.prog X 40 [LPg r.nw r.old ead r.ex.length ecap,Vp' b] (Lb (r.nw==id)):=by
  refine cF Tryz.func40 rfl (by kernel_rfl) rfl rfl ?_
  intro C
  (refine aA<|rgN<|aL O O O dR<|kas O<|aB<|aA<|rgN<|kfa O O ?_;refine kl1 O O O<|aW O hX O h0 dR<|keq O O O<|kas O<|aB<|aI ?_)
  exact ⟨[_],⟨O,trivial⟩,O⟩
theorem kIndex (ad:Option Addr) (cap:Nat) (rs:List Rl) (hin:RulesIn X ad rs) (hbig:rs.length<4611686018427387904) (f:FuncId) (caps:List Value) (p:Rl→Bool)
    (hp:∀ r∈rs,∀ ead ecap,PSpec Tryz.prog X f ([LPg r.nw r.old ead r.ex.length ecap]++caps.map fun v=>.sv (.one (.val v))) (Lb (p r))):
    PSpec Tryz.prog X 39 [Lx ad rs.length cap,Lf f caps] (Ln .i64 (findI p rs)):=by
  refine cF Tryz.func39 rfl (by kernel_rfl) rfl rfl ?_
  intro C
  (refine aA<|rgN<|kas O<|aB<|aA<|aA<|rgN<|kmv O<|aQ O cC O dR ?_;refine kmv O<|aB<|aG ?_)
  refine cL (fun m σ=>∃ i:Nat,i≤rs.length∧m=rs.length-i∧(∀ (j:Nat) (y:Rl),j<i→rs[j]? = some y→p y=false)∧σ=⟨[(0,Lx ad rs.length cap),(1,Lf f caps),(7,Ln .i64 (rs.length:Nat)),(8,Ln .i64 (i:Nat))],[],X⟩) rs.length
    ⟨_,Le.of (by exact ⟨rfl,rfl,rfl,rfl,trivial⟩) (by exact trivial) (by exact rfl) (by exact rfl) (by exact rfl),0,by omega,by omega,fun j y hj=>absurd hj (by omega),rfl⟩ ?_
  rintro m σ ⟨i,hi,rfl,hpre,rfl⟩
  by_cases hlt:i<rs.length
  · obtain ⟨c,hc⟩:∃ c,rs[i]? = some c:=⟨_,cX hlt⟩
    obtain ⟨blk,off,arr,el,fr,fad,fcap,rfl,hX,hsz,hcs,_,_,_,hF⟩:=hin.get hc
    have hio:off+Int.toNat (i:Int)*3=off+i*3:=by simp
    have hP:=hp c (dD hc) fad fcap
    cases hpc:p c with
    | true =>
      rw [hpc] at hP
      rw [findI_some hpre hc hpc]
      (refine aA<|rgN<|klt O O (cP (by omega))<|aB<|aA<|aE O ?_;refine aH ?_;refine aA<|aG<|aA<|rgN<|kmv O<|kas O<|aB<|aA<|rgN<|kmv O<|kmv O<|kmv O<|aR O O cC (by omega) hio dR<|aY O hX (by kernel_rfl) hsz hcs dR ?_;refine K.callF O O O hP dR ?_;refine aB<|aE O ?_;refine aA<|rgN<|kmv O<|kas O<|aB<|aI ?_)
      exact ⟨[_],⟨O,trivial⟩,O⟩
    | false =>
      rw [hpc] at hP
      (refine aA<|rgN<|klt O O (cP (by omega))<|aB<|aA<|aE O ?_;refine aH ?_;refine aA<|aG<|aA<|rgN<|kmv O<|kas O<|aB<|aA<|rgN<|kmv O<|kmv O<|kmv O<|aR O O cC (by omega) hio dR<|aY O hX (by kernel_rfl) hsz hcs dR ?_;refine K.callF O O O hP dR ?_;refine aB<|aF O ?_;refine aH ?_;refine rgN<|kad O O (cH (by omega))<|kmv O<|aB ?_)
      exact ⟨_,_,by omega,Le.of (by exact ⟨O,O,O,O,trivial⟩) (by exact trivial) (by exact O) (by exact O) (by exact O),i+1,by omega,O,(fun j y hj hy=>by
        by_cases e:j=i
        · subst e;rw [hc] at hy;cases hy;exact hpc
        · exact hpre j y (by omega) hy),rfl⟩
  · rw [findI_none fun j y hy=>hpre j y (by have:=(List.getElem?_eq_some_iff.1 hy).1;omega) hy]
    (refine aA<|rgN<|klt O O (cO (by omega))<|aB<|aA<|aF O ?_;refine aJ<|aA<|rgN<|kas O<|aB<|aI ?_)
    exact ⟨[_],⟨O,trivial⟩,O⟩
theorem kFind_yes (p:Pg) (ad:Option Addr) (cap:Nat) (hin:RulesIn X ad p.rs) (hbig:p.rs.length<4611686018427387904) (hs:∀ r∈p.rs,r.ex.length≤65536∧∀ c∈r.ex,c.length≤65536) (id:Int) {r:Rl} (h:findP p.rs id=some r):
    MSpec Tryz.prog X 18 [LPg p.va p.vb ad p.rs.length cap,Ln .i64 id] [] (.tup [SRs r 1000001,Sb true]) [cdB 1000001 r.ex]:=by
  obtain ⟨va,vb,rs⟩:=p
  simp only at hin hbig h hs ⊢
  obtain ⟨i,hr,he,hpre⟩:=rfind_at h
  have hi:=(List.getElem?_eq_some_iff.1 hr).1
  refine cG Tryz.func18 rfl (by kernel_rfl) rfl rfl rfl rfl rfl ?_
  intro C
  (refine aA<|rgN<|aL O O O dR<|K.box1 O O O dR<|aP O dR ?_;refine kas O<|aB<|aA ?_)
  refine LWP.le (σ':=⟨[(3,Lp 3),(2,Lp 2),(4,Lp 4)],[(3,some ⟨3,[Value.int .i64 id].map .val,false⟩),v3B 24 2 va vb ad rs.length cap,v3B 46 4 0 0 none 0 0],X⟩) (Le.of (by exact ⟨O,O,O,trivial⟩) (by exact ⟨O,O,O,trivial⟩) (by exact O) (by exact O) (by repeat' (first|refine bT ?_ ?_|rfl|exact bV|exact bU|exact bW O))) ?_
  refine LWP.freezePtr (by rfl) (by rfl) (by rfl) fun b arr0 fr0 hn _ h0 => ?_
  have hin':=hin.mono (cJ (o:=.cells arr0 3 fr0) hn)
  have hp:=fun (r:Rl) (_:r∈rs) (fad:Option Addr) (fcap:Nat)=>kFind1 _ r fad fcap id (cN X b (.cells arr0 3 fr0)) (at_zero h0)
  have hq:=kIndex _ ad cap rs hin' hbig 40 [.pointer (some ⟨b,0,none⟩)] (fun r=>r.nw==id) hp
  rw [findI_some hpre hr he] at hq
  obtain ⟨blk,off,arr,el,fr,ead,ecap,rfl,hX,hsiz,hcs,_,_,_,hE⟩:=hin'.get hr
  have hio:off+Int.toNat (i:Int)*3=off+i*3:=by simp
  obtain ⟨s1,s2⟩:=hs r (dD hr)
  have hcl:=kCloneRule _ r ead ecap hE s1 s2
  (refine rgN<|kfa O O ?_;refine kl1 O O O<|K.makeFunc O O dR ?_;refine kca O O hq<|kas O<|aB<|aA<|aA<|rgN<|kmv O<|klt O O (cO (by omega))<|aB<|aF O ?_;refine aH ?_;refine aA<|rgN<|kfa O O ?_;refine kl1 O O O<|kmv O<|aR O O cC (by omega) hio dR<|aY O hX (by kernel_rfl) hsiz hcs dR<|bE [(1000001,20)] (.sv (SRs r 20)) [cdB 20 r.ex] (hcl) O O (by exact trivial) O O O O O (by exact (.box O O .nil)) dR<|aM O O O O O O dR ?_;refine kas O<|aB<|aI ?_)
  exact ⟨[(1000001,20)],⟨[_,_],⟨⟨_,_,rfl,rfl,rfl,.inl ⟨AggT.h,rfl⟩⟩,rfl,trivial⟩,rfl⟩,(by repeat' (first|exact trivial|refine cQ ⟨_,rfl,?_⟩ ?_|refine cQ ⟨_,rfl⟩ ?_|rfl|exact bX _ _ _ _|exact bY _ _ _ _|exact bZ rfl)),rfl,rfl⟩
abbrev frSt (old:Int) (ad:Option Addr) (n cap i:Nat) (l:List Int) (r:Bool) (Y:Nat→Option Obj):St:=
  ⟨[(1,Ln .i64 old),(5,.sv (.one (.slc 500 0 l.length 1))),(10,Lx ad n cap),(11,Ln .i64 (n:Nat)),(12,Ln .i64 (i:Nat))],[(500,some ⟨3,(int1 l).map .val,r⟩)],Y⟩
set_option maxHeartbeats 6400000 in
theorem kFrom (p:Pg) (ad:Option Addr) (cap:Nat) (hin:RulesIn X ad p.rs) (hbig:p.rs.length≤65536) (old:Int):
    MSpec Tryz.prog X 20 [LPg p.va p.vb ad p.rs.length cap,Ln .i64 old] [] (.sv (.one (.slc 1000001 0 (fromP p.rs old).length 1))) [(1000001,some ⟨3,(int1 (fromP p.rs old)).map .val,true⟩)]:=by
  obtain ⟨va,vb,rs⟩:=p
  simp only at hin hbig ⊢
  have hrl:∀ l:List Int,((int1 l).map CV.val).length=l.length*1:=fun l=>by unfold int1;rw [cW,cW,Nat.mul_one]
  refine cG Tryz.func20 rfl (by kernel_rfl) rfl rfl (by exact (by repeat' (first|refine bT ?_ ?_|rfl|exact bV|exact bU|exact bW rfl))) rfl rfl ?_
  intro C
  refine LWP.ends ?_
  (refine aA<|rgN<|aL O O O dR<|kas O<|aB<|aA<|rgN<|aZ (zs:=[]) (sz:=1) (e:=3) (by kernel_rfl) O O O O O O dR<|kas O<|aB<|aA<|aA<|rgN<|kfa O O ?_;refine kl1 O O O<|aQ O cC O dR ?_;refine kmv O<|aB<|aG ?_)
  refine cL (fun m σ=>∃ (i:Nat) (r:Bool),i≤rs.length∧m=rs.length-i∧σ=frSt old ad rs.length cap i (fromP (rs.take i) old) r X) rs.length
    ⟨frSt old ad rs.length cap 0 [] false X,Le.ofR [(500,8)] (by exact ⟨rfl,rfl,rfl,rfl,rfl,trivial⟩) (by repeat' (first|exact trivial|refine cQ ⟨_,rfl,?_⟩ ?_|refine cQ ⟨_,rfl⟩ ?_|rfl|exact bX _ _ _ _|exact bY _ _ _ _|exact bZ rfl)) (by exact rfl) (by exact rfl) (by repeat' (first|refine bT ?_ ?_|rfl|exact bV|exact bU|exact bW rfl)) (by exact rfl) (by exact rfl),0,false,by omega,by omega,by rw [show fromP (rs.take 0) old=[] from fromP_none old]⟩ ?_
  rintro m σ ⟨i,row,hi,rfl,rfl⟩
  by_cases hlt:i<rs.length
  case neg =>
    have e:i=rs.length:=by omega
    subst e
    rw [dF]
    (refine aA<|rgN<|klt O O (cO (by omega))<|aB<|aA<|aF O ?_;refine aJ<|aA<|rgN<|kmv O<|kas O<|aB<|aI ?_)
    refine cE (σ':=⟨[(4,.sv (.one (.slc 500 0 (fromP rs old).length 1)))],[(500,some ⟨3,(int1 (fromP rs old)).map .val,row⟩)],X⟩) (Le.ofR [(500,500)] (by exact ⟨rfl,trivial⟩) (by repeat' (first|exact trivial|refine cQ ⟨_,rfl,?_⟩ ?_|refine cQ ⟨_,rfl⟩ ?_|rfl|exact bX _ _ _ _|exact bY _ _ _ _|exact bZ rfl)) (by exact rfl) (by exact rfl) (by repeat' (first|refine bT ?_ ?_|rfl|exact bV|exact bU|exact bW rfl)) (by exact rfl) (by exact rfl)) ?_
    refine cE Le.loose (cD ?_)
    exact ⟨[(1000001,500)],⟨[_],⟨rfl,trivial⟩,rfl⟩,(by repeat' (first|exact trivial|refine cQ ⟨_,rfl,?_⟩ ?_|refine cQ ⟨_,rfl⟩ ?_|rfl|exact bX _ _ _ _|exact bY _ _ _ _|exact bZ rfl)),rfl,rfl⟩
  obtain ⟨r,hr⟩:∃ r,rs[i]? = some r:=⟨_,cX hlt⟩
  obtain ⟨blk,off,arr,el,fr,ead,ecap,rfl,hX,hsiz,hcs,_,_,_,hE⟩:=hin.get hr
  have hio:off+Int.toNat (i:Int)*3=off+i*3:=by simp
  have hadd:IntKind.i64.wrap (((i:Nat):Int)+1)=((i+1:Nat):Int):=by rw [cH (by omega)];omega
  have hfl:=fromP_len (rs.take i) old
  rw [cZ] at hfl
  have hnx:fromP (rs.take (i+1)) old=fromP (rs.take i) old++fromP [r] old:=by rw [take_snoc hr,fromP_app]
  by_cases hm:r.old=old∧old≠0
  · rw [fromP_yes hm.1 hm.2,fromP_none] at hnx
    generalize fromP (rs.take i) old=l at *
    have hnc:(int1 l).map CV.val++[.val (.int .i64 r.nw)]=(int1 (l++[r.nw])).map CV.val:=by unfold int1;rw [dH,dH];rfl
    have hnl:l.length+1=(l++[r.nw]).length:=by rw [cV];rfl
    (refine aA<|rgN<|klt O O (cP (by omega))<|aB<|aA<|aE O ?_;refine aH ?_;refine aA<|aG<|aA<|rgN<|aR O O cC (by omega) hio dR<|aY O hX (by kernel_rfl) hsiz hcs dR<|aP O dR ?_;refine aM O O O O O O dR ?_;refine aB<|aA<|rgN<|kfa O O ?_;refine kl1 O O O<|kmv O<|keq O O (cU hm.1)<|kmv O<|gmv O O O<|aX O O (cT hm.2) (dS O O) ?_;refine kpt O O<|aB<|aE O ?_;refine rgN<|kmv O<|kfa O O ?_;refine kl1 O O O<|aZ (zs:=[.int .i64 0]) (sz:=1) (e:=3) (cs':=[.val (.int .i64 r.nw)]) (by kernel_rfl) O O O O O O dR<|bQ (by_:=8) (e2:=3) (l2:=[.val (.int .i64 r.nw)]) (nl:=(l++[r.nw]).length) (nc:=(int1 (l++[r.nw])).map .val) O O (hrl l) O O (dN _) O O (by kernel_rfl) (by kernel_rfl) (by omega) (by omega) O hnl hnc dR<|kas O<|aB<|rgN<|kad O O hadd<|kmv O<|aB ?_)
    exact ⟨_,frSt old (some ⟨blk,off,none⟩) rs.length cap (i+1) (l++[r.nw]) true X,by omega,Le.ofR [(500,28)] (by exact ⟨rfl,rfl,rfl,rfl,rfl,trivial⟩) (by repeat' (first|exact trivial|refine cQ ⟨_,rfl,?_⟩ ?_|refine cQ ⟨_,rfl⟩ ?_|rfl|exact bX _ _ _ _|exact bY _ _ _ _|exact bZ rfl)) (by exact rfl) (by exact rfl) (by repeat' (first|refine bT ?_ ?_|rfl|exact bV|exact bU|exact bW rfl)) (by exact rfl) (by exact rfl),i+1,true,by omega,rfl,by rw [hnx]⟩
  · rw [fromP_not hm,fromP_none,dJ] at hnx
    have hst:frSt old (some ⟨blk,off,none⟩) rs.length cap (i+1) (fromP (rs.take i) old) row X=frSt old (some ⟨blk,off,none⟩) rs.length cap (i+1) (fromP (rs.take (i+1)) old) row X:=by rw [hnx]
    by_cases hme:r.old=old
    · have h0:old=0:=by
        by_cases h:old=0
        · exact h
        · exact absurd ⟨hme,h⟩ hm
      (refine aA<|rgN<|klt O O (cP (by omega))<|aB<|aA<|aE O ?_;refine aH ?_;refine aA<|aG<|aA<|rgN<|aR O O cC (by omega) hio dR<|aY O hX (by kernel_rfl) hsiz hcs dR<|aP O dR ?_;refine aM O O O O O O dR ?_;refine aB<|aA<|rgN<|kfa O O ?_;refine kl1 O O O<|kmv O<|keq O O (cU hme)<|kmv O<|gmv O O O<|aX O O (cS h0) (dS O O) ?_;refine kpt O O<|aB<|aF O ?_;refine aH ?_;refine rgN<|kad O O hadd<|kmv O<|aB ?_)
      exact ⟨_,frSt old (some ⟨blk,off,none⟩) rs.length cap (i+1) (fromP (rs.take i) old) row X,by omega,Le.ofR [(500,500)] (by exact ⟨rfl,rfl,rfl,rfl,rfl,trivial⟩) (by repeat' (first|exact trivial|refine cQ ⟨_,rfl,?_⟩ ?_|refine cQ ⟨_,rfl⟩ ?_|rfl|exact bX _ _ _ _|exact bY _ _ _ _|exact bZ rfl)) (by exact rfl) (by exact rfl) (by repeat' (first|refine bT ?_ ?_|rfl|exact bV|exact bU|exact bW rfl)) (by exact rfl) (by exact rfl),i+1,row,by omega,rfl,hst⟩
    · (refine aA<|rgN<|klt O O (cP (by omega))<|aB<|aA<|aE O ?_;refine aH ?_;refine aA<|aG<|aA<|rgN<|aR O O cC (by omega) hio dR<|aY O hX (by kernel_rfl) hsiz hcs dR<|aP O dR ?_;refine aM O O O O O O dR ?_;refine aB<|aA<|rgN<|kfa O O ?_;refine kl1 O O O<|kmv O<|keq O O (cR hme)<|kmv O<|aC O O O<|aC O O O<|kpf O O<|aB<|aF O ?_;refine aH ?_;refine rgN<|kad O O hadd<|kmv O<|aB ?_)
      exact ⟨_,frSt old (some ⟨blk,off,none⟩) rs.length cap (i+1) (fromP (rs.take i) old) row X,by omega,Le.ofR [(500,500)] (by exact ⟨rfl,rfl,rfl,rfl,rfl,trivial⟩) (by repeat' (first|exact trivial|refine cQ ⟨_,rfl,?_⟩ ?_|refine cQ ⟨_,rfl⟩ ?_|rfl|exact bX _ _ _ _|exact bY _ _ _ _|exact bZ rfl)) (by exact rfl) (by exact rfl) (by repeat' (first|refine bT ?_ ?_|rfl|exact bV|exact bU|exact bW rfl)) (by exact rfl) (by exact rfl),i+1,row,by omega,rfl,hst⟩
end Go.Proofs.YtamplgnbbanamaaGreatDoor
end
section
namespace Go.Proofs.YtamplgnbbanamaaGreatDoor
open Go Go.Lg Go.Lg.Fml Go.Lg.Fld Go.Lg.Arith
set_option maxRecDepth 100000
def e4:List UInt8×Bool→Nat×List UInt8×Bool
  | (l,b)=>if b=false∧4≤l.length then (le (l.take 4),l.drop 4,false) else (0,l,true)
theorem e4_less (x:List UInt8×Bool):Lss x (e4 x).2:=by
  obtain ⟨l,b⟩:=x
  unfold e4
  simp only
  by_cases h:b=false∧4≤l.length
  · rw [if_pos h];exact ⟨by simp only [dA];omega,fun e=>(by rw [h.1] at e;cases e)⟩
  · rw [if_neg h];exact ⟨dN _,fun _=>rfl⟩
theorem e4_lt (x:List UInt8×Bool):(e4 x).1<4294967296:=by
  obtain ⟨l,b⟩:=x
  unfold e4
  simp only
  split
  · exact le4 l
  · show 0<4294967296
    omega
theorem e4_cons (a b c d:UInt8) (r:List UInt8):e4 (a::b::c::d::r,false)=(le [a,b,c,d],r,false):=by
  have h:(false=false∧4≤(a::b::c::d::r).length):=⟨rfl,by simp⟩
  show (if false=false∧4≤(a::b::c::d::r).length then (le ((a::b::c::d::r).take 4),(a::b::c::d::r).drop 4,false) else (0,a::b::c::d::r,true))=_
  rw [if_pos h]
  rfl
theorem eS_good {l l':List UInt8} {b:Bool} {c:UInt8} (h:eS (l,b)=(c,l',false)):b=false∧l=c::l':=by
  cases b<;>cases l<;>simp [eS] at h
  exact ⟨rfl,by rw [h.1,h.2]⟩
structure KE (l:List UInt8) (b:Bool) (c:List Ins) (l':List UInt8) (b':Bool):Prop where
  less:l'.length≤l.length
  bad:b=true→b'=true
  ok:c.length<256∧∀ x∈c,smallI x
  get:(b=false∧b'=false∧getE l=some (c,l'))∨((b=true∨getE l=none)∧(b'=true∨c=[]))
structure KEs (l:List UInt8) (b:Bool) (i:Nat) (cs:List (List Ins)) (l':List UInt8) (b':Bool):Prop where
  len:cs.length=i
  less:l'.length≤l.length
  bad:b=true→b'=true
  ok:∀ c∈cs,c.length<256∧∀ x∈c,smallI x
  get:(b=false∧b'=false∧getEs i l=some (cs,l'))∨((b=true∨∀ k,getEs (i+k) l=none)∧(b'=true∨[]∈cs))
theorem KEs.nil (l:List UInt8) (b:Bool):KEs l b 0 [] l b:=⟨rfl,dN _,id,fun c h=>(by cases h),by
  cases b with
  | false=>exact .inl ⟨rfl,rfl,rfl⟩
  | true=>exact .inr ⟨.inl rfl,.inl rfl⟩⟩
theorem KEs.step {l l' l2:List UInt8} {b b' b2:Bool} {i:Nat} {cs:List (List Ins)} {c:List Ins} (h:KEs l b i cs l' b') (h2:KE l' b' c l2 b2):KEs l b (i+1) (cs++[c]) l2 b2:=⟨by rw [cV,h.len];rfl,Nat.le_trans h2.less h.less,fun e=>h2.bad (h.bad e),fun d hd=>by
  rcases List.mem_append.1 hd with hd|hd
  · exact h.ok d hd
  · rw [List.mem_singleton.1 hd];exact h2.ok,by
  rcases h.get with ⟨g1,g2,g3⟩|⟨g1,g2⟩
  · rcases h2.get with ⟨_,f2,f3⟩|⟨f1,f2⟩
    · exact .inl ⟨g1,f2,getEs_step g3 f3⟩
    · refine .inr ⟨.inr fun k => ?_,?_⟩
      · rcases f1 with f1|f1
        · rw [g2] at f1;cases f1
        · exact getEs_fail g3 (by omega) f1
      · rcases f2 with f2|f2
        · exact .inl f2
        · exact .inr (by rw [f2];simp)
  · refine .inr ⟨?_,?_⟩
    · rcases g1 with g1|g1
      · exact .inl g1
      · exact .inr fun k=>by rw [Nat.add_assoc];exact g1 _
    · rcases g2 with g2|g2
      · exact .inl (h2.bad g2)
      · exact .inr (List.mem_append_left _ g2)⟩
def okK (r:Rl):Prop:=(0≤r.nw∧r.nw<256)∧(0≤r.old∧r.old<256)∧r.ex.length<256∧∀ c∈r.ex,c.length<256∧∀ x∈c,smallI x
structure KR (l:List UInt8) (b:Bool) (r:Rl) (l':List UInt8) (b':Bool):Prop where
  less:l'.length≤l.length
  bad:b=true→b'=true
  ok:okK r
  get:(b=false∧b'=false∧getRl l=some (r,l'))∨((b=true∨getRl l=none)∧(b'=true∨[]∈r.ex))
theorem KR.mk' {l l1 l2 l3 l':List UInt8} {b b1 b2 b3 b':Bool} {c0 c1 c2:UInt8} {cs:List (List Ins)} (h0:eS (l,b)=(c0,l1,b1)) (h1:eS (l1,b1)=(c1,l2,b2)) (h2:eS (l2,b2)=(c2,l3,b3)) (h:KEs l3 b3 c2.toNat cs l' b'):KR l b ⟨(c0.toNat:Nat),(c1.toNat:Nat),cs⟩ l' b':=by
  have k0:=eS_less (l,b)
  have k1:=eS_less (l1,b1)
  have k2:=eS_less (l2,b2)
  rw [h0] at k0
  rw [h1] at k1
  rw [h2] at k2
  have hc0:=c0.toNat_lt
  have hc1:=c1.toNat_lt
  have hc2:=c2.toNat_lt
  have hl:=h.len
  refine ⟨Nat.le_trans h.less (Nat.le_trans k2.1 (Nat.le_trans k1.1 k0.1)),fun e=>h.bad (k2.2 (k1.2 (k0.2 e))),⟨⟨by simp only;omega,by simp only;omega⟩,⟨by simp only;omega,by simp only;omega⟩,by show cs.length<256;omega,h.ok⟩,?_⟩
  cases hb3:b3 with
  | false =>
    rw [hb3] at h2
    obtain ⟨e2,q2⟩:=eS_good h2
    rw [e2] at h1
    obtain ⟨e1,q1⟩:=eS_good h1
    rw [e1] at h0
    obtain ⟨e0,q0⟩:=eS_good h0
    subst q2 q1 q0
    rcases h.get with ⟨_,g2,g3⟩|⟨g1,g2⟩
    · exact .inl ⟨e0,g2,getRl_yes g3⟩
    · refine .inr ⟨.inr ?_,g2⟩
      rcases g1 with g1|g1
      · rw [hb3] at g1;cases g1
      · exact getRl_no (g1 0)
  | true =>
    rcases h.get with ⟨g1,_⟩|⟨_,g2⟩
    · rw [hb3] at g1;cases g1
    refine .inr ⟨?_,g2⟩
    cases hb:b with
    | true=>exact .inl rfl
    | false =>
      refine .inr ?_
      subst hb
      match l,h0 with
      | [],_=>rfl
      | [_],h0 =>
        simp only [eS,Prod.mk.injEq] at h0
        rfl
      | [_,_],_=>rfl
      | x::y::z::t,h0 =>
        simp only [eS,Prod.mk.injEq] at h0
        obtain ⟨_,rfl,rfl⟩:=h0
        simp only [eS,Prod.mk.injEq] at h1
        obtain ⟨_,rfl,rfl⟩:=h1
        simp only [eS,Prod.mk.injEq] at h2
        obtain ⟨_,_,h2⟩:=h2
        rw [hb3] at h2
        cases h2
structure KRs (l:List UInt8) (b:Bool) (i:Nat) (rs:List Rl) (l':List UInt8) (b':Bool):Prop where
  len:rs.length=i
  less:l'.length≤l.length
  bad:b=true→b'=true
  ok:∀ r∈rs,okK r
  get:(b=false∧b'=false∧getRls i l=some (rs,l'))∨((b=true∨∀ k,getRls (i+k) l=none)∧(b'=true∨∃ r∈rs,[]∈r.ex))
theorem KRs.nil (l:List UInt8) (b:Bool):KRs l b 0 [] l b:=⟨rfl,dN _,id,fun c h=>(by cases h),by
  cases b with
  | false=>exact .inl ⟨rfl,rfl,rfl⟩
  | true=>exact .inr ⟨.inl rfl,.inl rfl⟩⟩
theorem KRs.step {l l' l2:List UInt8} {b b' b2:Bool} {i:Nat} {rs:List Rl} {r:Rl} (h:KRs l b i rs l' b') (h2:KR l' b' r l2 b2):KRs l b (i+1) (rs++[r]) l2 b2:=⟨by rw [cV,h.len];rfl,Nat.le_trans h2.less h.less,fun e=>h2.bad (h.bad e),fun d hd=>by
  rcases List.mem_append.1 hd with hd|hd
  · exact h.ok d hd
  · rw [List.mem_singleton.1 hd];exact h2.ok,by
  rcases h.get with ⟨g1,g2,g3⟩|⟨g1,g2⟩
  · rcases h2.get with ⟨_,f2,f3⟩|⟨f1,f2⟩
    · exact .inl ⟨g1,f2,getRls_step g3 f3⟩
    · refine .inr ⟨.inr fun k => ?_,?_⟩
      · rcases f1 with f1|f1
        · rw [g2] at f1;cases f1
        · exact getRls_fail g3 (by omega) f1
      · rcases f2 with f2|f2
        · exact .inl f2
        · exact .inr ⟨r,by simp,f2⟩
  · refine .inr ⟨?_,?_⟩
    · rcases g1 with g1|g1
      · exact .inl g1
      · exact .inr fun k=>by rw [Nat.add_assoc];exact g1 _
    · rcases g2 with g2|⟨q,hq,g2⟩
      · exact .inl (h2.bad g2)
      · exact .inr ⟨q,List.mem_append_left _ hq,g2⟩⟩
theorem chk_nilE {p:Pg} (h:∃ r∈p.rs,[]∈r.ex):chkP p≠0:=fun h0=>by
  obtain ⟨r,hr,hx⟩:=h
  obtain ⟨last,hl⟩:=chkRs_mem (chkP_zero h0).2.2.1 r hr
  have:=firstX_zero (chkR_zero hl).2.2.2.2.2 [] hx
  exact absurd this (by decide)
theorem decP_k {s l1 l2 l3 l4 l':List UInt8} {b1 b2 b3 b4 b':Bool} {c m:UInt8} {va vb:Nat} {rs:List Rl} (h1:eS (s,false)=(c,l1,b1)) (h2:e4 (l1,b1)=(va,l2,b2)) (h3:e4 (l2,b2)=(vb,l3,b3)) (h4:eS (l3,b3)=(m,l4,b4)) (h:KRs l4 b4 m.toNat rs l' b'):
    decP s=if (!b'&&(l'==[]))=true∧c.toNat=77∧chkP ⟨(va:Nat),(vb:Nat),rs⟩=0 then some ⟨(va:Nat),(vb:Nat),rs⟩ else none:=by
  have hbad:(b'=true∨∃ r∈rs,[]∈r.ex)→¬((!b'&&(l'==[]))=true∧c.toNat=77∧chkP ⟨(va:Nat),(vb:Nat),rs⟩=0):=fun h ⟨q1,_,q3⟩=>by
    rcases h with h|h
    · rw [h] at q1;cases q1
    · exact chk_nilE (p:=⟨va,vb,rs⟩) h q3
  by_cases h10:s.length<10
  · rw [decP_short h10]
    have hb4:b4=true:=by
      cases hb:b4 with
      | true=>rfl
      | false =>
        exfalso
        rw [hb] at h4
        obtain ⟨e3,q3⟩:=eS_good h4
        have good4:∀ {l l':List UInt8} {b:Bool} {v:Nat},e4 (l,b)=(v,l',false)→b=false∧4+l'.length=l.length:=fun {l l' b v} h=>by
          unfold e4 at h
          simp only at h
          split at h
          · rename_i hc
            simp only [Prod.mk.injEq] at h
            exact ⟨hc.1,by rw [← h.2.1,dA];omega⟩
          · simp only [Prod.mk.injEq] at h
            exact absurd h.2.2 (by decide)
        rw [e3] at h3
        obtain ⟨e2,q2⟩:=good4 h3
        rw [e2] at h2
        obtain ⟨e1,q1⟩:=good4 h2
        rw [e1] at h1
        obtain ⟨_,q0⟩:=eS_good h1
        rw [q3,dI] at q2
        rw [q0,dI] at h10
        omega
    rcases h.get with ⟨g1,_⟩|⟨_,g2⟩
    · rw [hb4] at g1;cases g1
    · rw [if_neg (hbad g2)]
  obtain ⟨c',a0,a1,a2,a3,b0,b1',b2',b3',nb,r,rfl⟩:∃ c a0 a1 a2 a3 b0 b1 b2 b3 nb r,s=c::a0::a1::a2::a3::b0::b1::b2::b3::nb::r:=by
    match s,h10 with
    | c::a0::a1::a2::a3::b0::b1::b2::b3::nb::r,_=>exact ⟨c,a0,a1,a2,a3,b0,b1,b2,b3,nb,r,rfl⟩
    | [],h=>exact absurd (by simp) h
    | [_],h=>exact absurd (by simp) h
    | [_,_],h=>exact absurd (by simp) h
    | [_,_,_],h=>exact absurd (by simp) h
    | [_,_,_,_],h=>exact absurd (by simp) h
    | [_,_,_,_,_],h=>exact absurd (by simp) h
    | [_,_,_,_,_,_],h=>exact absurd (by simp) h
    | [_,_,_,_,_,_,_],h=>exact absurd (by simp) h
    | [_,_,_,_,_,_,_,_],h=>exact absurd (by simp) h
    | [_,_,_,_,_,_,_,_,_],h=>exact absurd (by simp) h
  simp only [eS,Prod.mk.injEq] at h1
  obtain ⟨rfl,rfl,rfl⟩:=h1
  rw [e4_cons] at h2
  simp only [Prod.mk.injEq] at h2
  obtain ⟨rfl,rfl,rfl⟩:=h2
  rw [e4_cons] at h3
  simp only [Prod.mk.injEq] at h3
  obtain ⟨rfl,rfl,rfl⟩:=h3
  simp only [eS,Prod.mk.injEq] at h4
  obtain ⟨rfl,rfl,rfl⟩:=h4
  by_cases hm:c'=77
  case neg =>
    rw [decP_head hm,if_neg]
    rintro ⟨_,e,_⟩
    exact hm (UInt8.toNat_inj.1 e)
  subst hm
  rw [decP_long]
  rcases h.get with ⟨_,g2,g3⟩|⟨g1,g2⟩
  · rw [g3,g2]
    cases l' with
    | nil =>
      simp only
      by_cases hz:chkP ⟨(le [a0,a1,a2,a3]:Nat),(le [b0,b1',b2',b3']:Nat),rs⟩=0
      · rw [if_pos hz,if_pos ⟨rfl,rfl,hz⟩]
      · rw [if_neg hz,if_neg (fun h=>hz h.2.2)]
    | cons x t =>
      rw [if_neg]
      rintro ⟨e,_⟩
      cases e
  · rw [if_neg (hbad g2)]
    rcases g1 with g1|g1
    · cases g1
    · have:=g1 0
      rw [Nat.add_zero] at this
      rw [this]
theorem okK_small {r:Rl} (h:okK r):smallR r:=⟨by have:=h.1;omega,by have:=h.2.1;omega⟩
theorem okK_size {rs:List Rl} (h:∀ r∈rs,okK r):sizeR rs:=fun r hr=>⟨by have:=(h r hr).2.2.1;omega,fun c hc=>by have:=((h r hr).2.2.2 c hc).1;omega⟩
variable (X:Nat→Option Obj)
theorem Num4_e (l:List UInt8) (b:Bool) (hl:l.length<4611686018427387904):MSpec Tryz.prog X 34 [Lp 1000000,Ln .i64 4] (rd 1000000 l b) (Ln .u64 ((e4 (l,b)).1:Nat)) (rd 1000000 (e4 (l,b)).2.1 (e4 (l,b)).2.2):=by
  by_cases h:b=false∧4≤l.length
  · obtain ⟨rfl,h4⟩:=h
    rw [show e4 (l,false)=(le (l.take 4),l.drop 4,false) from if_pos ⟨rfl,h4⟩]
    exact Num_ok X l 4 O h4 hl
  · rw [show e4 (l,b)=(0,l,true) from if_neg h]
    refine Num_no X l b 4 ?_
    unfold rawOk
    cases b with
    | true=>rfl
    | false =>
      rw [cO (fun h2=>h ⟨rfl,by have:=h2.2;omega⟩)]
      rfl
def lfB (l:List UInt8) (b:Bool):Nat:=if b=true then 0 else l.length
def ePt:List UInt8×Bool→List UInt8×List UInt8×Bool
  | (l,b)=>if partOk l b (lfB l b:Nat)=true then ((l.drop 4).take (le (l.take 4)),(l.drop 4).drop (le (l.take 4)),false)
    else if b=false∧4≤l.length then ([],l.drop 4,true) else ([],l,true)
theorem Part_e (l:List UInt8) (b:Bool) (hl:l.length<4611686018427387904):MSpec Tryz.prog X 60 [Lp 1000000,Ln .i64 (lfB l b:Nat)] (rd 1000000 l b) (Ls (ePt (l,b)).1) (rd 1000000 (ePt (l,b)).2.1 (ePt (l,b)).2.2):=by
  have hlf:lfB l b≤l.length:=by unfold lfB;split<;>omega
  by_cases hp:partOk l b (lfB l b:Nat)=true
  · rw [show ePt (l,b)=((l.drop 4).take (le (l.take 4)),(l.drop 4).drop (le (l.take 4)),false) from if_pos hp]
    cases b with
    | true=>cases hp
    | false=>exact Part_ok X l (lfB l false:Nat) (by omega) hp hl
  have hp2:partOk l b (lfB l b:Nat)=false:=by
    cases h:partOk l b (lfB l b:Nat) with
    | true=>exact absurd h hp
    | false=>rfl
  have he:ePt (l,b)=if b=false∧4≤l.length then ([],l.drop 4,true) else ([],l,true):=if_neg hp
  rw [he]
  have wm:IntKind.u64.wrap ((lfB l b:Nat):Int)=((lfB l b:Nat):Int):=by rw [IntKind.wrap_u64];omega
  by_cases h:b=false∧4≤l.length
  · rw [if_pos h]
    obtain ⟨rfl,h1⟩:=h
    have h4:=le4 l
    have hN:=Num_ok X l 4 rfl h1 hl
    have hd:(l.drop 4).length=l.length-4:=dA
    have hq:¬((le (l.take 4):Int)≤(lfB l false:Nat)∧le (l.take 4)≤l.length-4):=by
      intro ⟨q1,q2⟩
      unfold partOk at hp2
      rw [cP h1,cP q1,cP q2] at hp2
      cases hp2
    clear hp hp2 he
    generalize lfB l false=most at *
    generalize le (l.take 4)=z at *
    generalize l.drop 4=t at *
    refine cG Tryz.func60 rfl (by kernel_rfl) rfl rfl rfl rfl rfl ?_
    intro C
    by_cases hz:(z:Int)≤most
    · have h2:rawOk t false (z:Nat)=false:=by unfold rawOk;rw [cO (by omega)];rfl
      (refine aA<|rgN<|kas O<|aB<|aA<|rgN<|kmv O<|aU [] (rd 1000000 t false) (hN) O O (by exact (cQ ⟨_,O,O⟩ trivial)) (by exact (bT (bT O (bT O O)) O)) O O O O (by exact (.box O O .nil)) dR<|kas O<|aB<|aA<|aA<|rgN<|kmv O ?_;refine klt O O (cO (by omega))<|kmv O<|gmv O O O<|gmv O O O<|K.conv O wm (dS O O) ?_;refine aS O O (cO (by omega)) (dS O O) ?_;refine kpf O O<|aB<|aF O ?_;refine aH ?_;refine aA<|rgN<|kmv O<|kmv O<|kcv O (by exact cH (by omega)) ?_;refine aU [] (rd 1000000 t true) (Raw_no X t false (z:Nat) h2) O O (by exact (cQ ⟨_,O,O⟩ trivial)) (by exact (bT (bT O (bT O O)) O)) O O O O (by exact (.box O O .nil)) dR<|kas O<|aB<|aI ?_)
      exact ⟨[],⟨[_],⟨O,trivial⟩,O⟩,⟨⟨_,O,O⟩,trivial⟩,O,O⟩
    · (refine aA<|rgN<|kas O<|aB<|aA<|rgN<|kmv O<|aU [] (rd 1000000 t false) (hN) O O (by exact (cQ ⟨_,O,O⟩ trivial)) (by exact (bT (bT O (bT O O)) O)) O O O O (by exact (.box O O .nil)) dR<|kas O<|aB<|aA<|aA<|rgN<|kmv O ?_;refine klt O O (cO (by omega))<|kmv O<|gmv O O O<|gmv O O O<|K.conv O wm (dS O O) ?_;refine aS O O (cP (by omega)) (dS O O) ?_;refine kpf O O<|aB<|aE O ?_;refine aA<|rgN<|kmv O<|aU [] (rd 1000000 t true) (spoil_spec X t false) O O (by exact (cQ ⟨_,O,O⟩ trivial)) (by exact (bT (bT O (bT O O)) O)) O O O O (by exact (.box O O .nil)) dR<|aB<|aA<|rgN<|kas O<|aB<|aI ?_)
      exact ⟨[],⟨[_],⟨O,trivial⟩,O⟩,⟨⟨_,O,O⟩,trivial⟩,O,O⟩
  · rw [if_neg h]
    have hb:(isW 4&&rawOk l b 4)=false:=by
      unfold rawOk
      cases b with
      | true=>rfl
      | false=>rw [cO (fun h2=>h ⟨rfl,by have:=h2.2;omega⟩)];rfl
    have h1:=Num_no X l b 4 hb
    clear hp hp2 he
    generalize lfB l b=most at *
    refine cG Tryz.func60 rfl (by kernel_rfl) rfl rfl rfl rfl rfl ?_
    intro C
    (refine aA<|rgN<|kas O<|aB<|aA<|rgN<|kmv O<|aU [] (rd 1000000 l true) (h1) O O (by exact (cQ ⟨_,O,O⟩ trivial)) (by exact (bT (bT O (bT O O)) O)) O O O O (by exact (.box O O .nil)) dR<|kas O<|aB<|aA<|aA<|rgN<|kmv O ?_;refine klt O O (cO (by omega))<|kmv O<|gmv O O O<|gmv O O O<|K.conv O wm (dS O O) ?_;refine aS O O (cO (by omega)) (dS O O) ?_;refine kpf O O<|aB<|aF O ?_;refine aH ?_;refine aA<|rgN<|kmv O<|kmv O<|kcv O (by exact cH (by omega)) ?_;refine aU [] (rd 1000000 l true) (Raw_no X l true 0 O) O O (by exact (cQ ⟨_,O,O⟩ trivial)) (by exact (bT (bT O (bT O O)) O)) O O O O (by exact (.box O O .nil)) dR<|kas O<|aB<|aI ?_)
    exact ⟨[],⟨[_],⟨O,trivial⟩,O⟩,⟨⟨_,O,O⟩,trivial⟩,O,O⟩
def rqE (x:List UInt8×Bool):List Ins×List UInt8×Bool:=(match decX (ePt x).1 with|some c=>c|none=>[],(ePt x).2)
theorem rqE_some {x:List UInt8×Bool} {c:List Ins} (h:decX (ePt x).1=some c):rqE x=(c,(ePt x).2):=by unfold rqE;rw [h]
theorem rqE_none {x:List UInt8×Bool} (h:decX (ePt x).1=none):rqE x=([],(ePt x).2):=by unfold rqE;rw [h]
theorem ePt_len (l:List UInt8) (b:Bool):(ePt (l,b)).1.length≤l.length∧(ePt (l,b)).2.1.length≤l.length:=by
  unfold ePt
  simp only
  split
  · simp only [cZ,dA];omega
  · split
    · simp only [dO,dA];omega
    · simp only [dO];omega
theorem rqE_k (l:List UInt8) (b:Bool):KE l b (rqE (l,b)).1 (rqE (l,b)).2.1 (rqE (l,b)).2.2:=by
  have hlen:=(ePt_len l b).2
  by_cases hp:partOk l b (lfB l b:Nat)=true
  · have he:ePt (l,b)=((l.drop 4).take (le (l.take 4)),(l.drop 4).drop (le (l.take 4)),false):=if_pos hp
    cases b with
    | true=>cases hp
    | false =>
      simp only [partOk,Bool.not_false,Bool.true_and,Bool.and_eq_true,decide_eq_true_eq] at hp
      obtain ⟨p1,_,p3⟩:=hp
      have hg:=getE_at p1 (by rw [dA];exact p3)
      cases hd:decX ((l.drop 4).take (le (l.take 4))) with
      | none =>
        rw [rqE_none (by rw [he];exact hd)]
        rw [hd] at hg
        rw [he] at hlen ⊢
        exact ⟨hlen,fun e=>(by cases e),⟨(by show (0:Nat)<256;decide),fun x hx=>(by cases hx)⟩,.inr ⟨.inr hg,.inr rfl⟩⟩
      | some c =>
        rw [rqE_some (by rw [he];exact hd)]
        rw [hd] at hg
        rw [he] at hlen ⊢
        have hc:=(chkX_zero (encX_dec hd).2.2.1).1
        exact ⟨hlen,fun e=>(by cases e),⟨by simp only;omega,small_dec hd⟩,.inl ⟨rfl,rfl,hg⟩⟩
  · have hp2:partOk l b (lfB l b:Nat)=false:=by
      cases h:partOk l b (lfB l b:Nat) with
      | true=>exact absurd h hp
      | false=>rfl
    have he:ePt (l,b)=if b=false∧4≤l.length then ([],l.drop 4,true) else ([],l,true):=if_neg hp
    have h0:(ePt (l,b)).1=[]∧(ePt (l,b)).2.2=true:=by rw [he];split<;>exact ⟨rfl,rfl⟩
    rw [rqE_none (by rw [h0.1];rfl)]
    simp only
    rw [h0.2]
    refine ⟨hlen,fun _=>rfl,⟨(by show (0:Nat)<256;decide),fun x hx=>(by cases hx)⟩,.inr ⟨?_,.inl rfl⟩⟩
    cases b with
    | true=>exact .inl rfl
    | false =>
      refine .inr ?_
      have hp2:partOk l false (l.length:Nat)=false:=hp2
      by_cases q1:4≤l.length
      · refine getE_long q1 ?_
        rw [dA]
        by_cases q2:le (l.take 4)≤l.length-4
        · exfalso
          unfold partOk at hp2
          rw [cP q1,cP q2,cP (show (le (l.take 4):Int)≤(l.length:Nat) by omega)] at hp2
          cases hp2
        · omega
      · exact getE_short (by omega)
def rqEs (x:List UInt8×Bool):Nat→List (List Ins)×List UInt8×Bool
  | 0=>([],x)
  | n+1=>((rqEs x n).1++[(rqE (rqEs x n).2).1],(rqE (rqEs x n).2).2)
theorem rqEs_k (l:List UInt8) (b:Bool):∀ n,KEs l b n (rqEs (l,b) n).1 (rqEs (l,b) n).2.1 (rqEs (l,b) n).2.2
  | 0=>KEs.nil l b
  | n+1=>(rqEs_k l b n).step (rqE_k _ _)
def rqR (x:List UInt8×Bool):Rl×List UInt8×Bool:=
  (⟨((eS x).1.toNat:Nat),((eS (eS x).2).1.toNat:Nat),(rqEs (eS (eS (eS x).2).2).2 (eS (eS (eS x).2).2).1.toNat).1⟩,(rqEs (eS (eS (eS x).2).2).2 (eS (eS (eS x).2).2).1.toNat).2)
theorem rqR_k (l:List UInt8) (b:Bool):KR l b (rqR (l,b)).1 (rqR (l,b)).2.1 (rqR (l,b)).2.2:=KR.mk' rfl rfl rfl (rqEs_k _ _ _)
def rqRs (x:List UInt8×Bool):Nat→List Rl×List UInt8×Bool
  | 0=>([],x)
  | n+1=>((rqRs x n).1++[(rqR (rqRs x n).2).1],(rqR (rqRs x n).2).2)
theorem rqRs_k (l:List UInt8) (b:Bool):∀ n,KRs l b n (rqRs (l,b) n).1 (rqRs (l,b) n).2.1 (rqRs (l,b) n).2.2
  | 0=>KRs.nil l b
  | n+1=>(rqRs_k l b n).step (rqR_k _ _)
end Go.Proofs.YtamplgnbbanamaaGreatDoor
end
section
namespace Go.Proofs.YtamplgnbbanamaaGreatDoor
open Go Go.Lg Go.Lg.Fml Go.Lg.Fld Go.Lg.Arith
set_option maxRecDepth 100000
def zerR (k:Nat):List Value:=(List.replicate k [Value.int .i64 0,.int .i64 0,.slice none 0 0]).flatten
theorem zerR_succ (k:Nat):zerR (k+1)=[Value.int .i64 0,.int .i64 0,.slice none 0 0]++zerR k:=by unfold zerR;rw [List.replicate_succ,List.flatten_cons]
theorem zerR_len (k:Nat):(zerR k).length=k*3:=by
  induction k with
  | zero=>rfl
  | succ k ih=>rw [zerR_succ,cV,ih];simp;omega
section
variable {n:Nat} {C:Ctx} {X:Nat→Option Obj} {s:List (Nat×LV)} {bx:List (Nat×Option Box)} {k:Nat}
theorem rl_shutW {P:Program} {Q:Exit→St→Prop} {c:Code} {t:TypeId} {rs:List Rl} {H:Nat→Option Obj} {ws:List Value} (hO:OwnedM C X H) (G:RulesH H ws rs) (hs:∀ r∈rs,smallR r)
    (h:LWP P n C c Q ⟨s,rlB t k rs::bx,X⟩):LWP P n C c Q ⟨s,(k,some ⟨t,(rwZ rs ws).map .val,false⟩)::bx,joinM X H⟩:=by
  refine LWP.closeRes (vals:=rwZ rs ws) hO (fun ρ fr h1 h2 h3 => ?_) h
  refine ⟨⟨_,fr,cN _ _ _,by rw [h3];simp⟩,?_⟩
  exact rules_block (sp:=[]) (cN _ _ _) (by simp) (G.mono (cJ h1)) hs
end
variable (X:Nat→Option Obj)
theorem kTake (l:List UInt8) (b:Bool) (hl:l.length<4611686018427387904):MSpec Tryz.prog X 33 [Lp 1000000] (rd 1000000 l b) (Ln .i64 ((eS (l,b)).1.toNat:Nat)) (rd 1000000 (eS (l,b)).2.1 (eS (l,b)).2.2):=by
  have h:=eNum1 X l b hl
  have hk:=(eS (l,b)).1.toNat_lt
  generalize (eS (l,b)).1.toNat=k at *
  generalize (eS (l,b)).2.1=l2 at *
  generalize (eS (l,b)).2.2=b2 at *
  refine cG Tryz.func33 rfl (by kernel_rfl) rfl rfl rfl rfl rfl ?_
  intro C
  have hw:IntKind.i64.wrap ((k:Nat):Int)=((k:Nat):Int):=cH (by omega)
  (refine aA<|rgN<|kas O<|aB<|aA<|rgN<|kmv O<|aU [] (rd 1000000 l2 b2) (h) O O (by exact (cQ ⟨_,O,O⟩ trivial)) (by exact (bT (bT O (bT O O)) O)) O O O O (by exact (.box O O .nil)) dR<|kcv O hw ?_;refine kas O<|aB<|aI ?_)
  exact ⟨[],⟨[_],⟨O,trivial⟩,O⟩,⟨⟨_,O,O⟩,trivial⟩,O,O⟩
abbrev rdB' (k:Nat) (l:List UInt8) (b:Bool):Nat×Option Box:=(k,some ⟨109,[vs l,.val (.bool b)],false⟩)
abbrev trSt (nw old:Int) (l:List UInt8) (b:Bool) (m i:Nat) (cells:List Value) (Y:Nat→Option Obj):St:=
  ⟨[(0,Lp 1000000),(2,Lp 2),(3,Lp 3),(16,Ln .i64 (m:Nat)),(17,Ln .i64 (i:Nat))],[(12,some ⟨68,cells.map .val,false⟩),rdB' 1000000 l b,(3,some ⟨46,[.val (.int .i64 nw),.val (.int .i64 old),.slc 12 0 m 1],false⟩),v3B 46 2 0 0 none 0 0],Y⟩
set_option maxHeartbeats 6400000 in
theorem kTakeRule (l:List UInt8) (b:Bool) (hl:l.length≤1099511627776):MSpec Tryz.prog X 35 [Lp 1000000] (rd 1000000 l b) (.sv (SRs (rqR (l,b)).1 1000001)) (rd 1000000 (rqR (l,b)).2.1 (rqR (l,b)).2.2++[cdB 1000001 (rqR (l,b)).1.ex]):=by
  have h1:=kTake X l b (by omega)
  have g1:=(eS_less (l,b)).1
  have k1:=(eS (l,b)).1.toNat_lt
  unfold rqR
  rcases hy1:eS (l,b) with ⟨c0,l1,b1⟩
  rw [hy1] at h1 g1 k1
  simp only at h1 g1 k1 ⊢
  have h2:=kTake X l1 b1 (by omega)
  have g2:=(eS_less (l1,b1)).1
  have k2:=(eS (l1,b1)).1.toNat_lt
  rcases hy2:eS (l1,b1) with ⟨c1,l2,b2⟩
  rw [hy2] at h2 g2 k2
  simp only at h2 g2 k2 ⊢
  have h3:=kTake X l2 b2 (by omega)
  have g3:=(eS_less (l2,b2)).1
  have k3:=(eS (l2,b2)).1.toNat_lt
  rcases hy3:eS (l2,b2) with ⟨c2,l3,b3⟩
  rw [hy3] at h3 g3 k3
  simp only at h3 g3 k3 ⊢
  generalize c2.toNat=m at *
  generalize ((c0.toNat:Nat):Int)=nw at *
  generalize ((c1.toNat:Nat):Int)=old at *
  have hmk:slcBuild Tryz.prog 44 m=some (nilV m,1,68):=slcBuild_one (by kernel_rfl) (by kernel_rfl) (by omega)
  refine cG Tryz.func35 rfl (by kernel_rfl) rfl (by exact (by repeat' (first|refine bT ?_ ?_|rfl|exact bV|exact bU|exact bW rfl))) (by exact (by repeat' (first|refine bT ?_ ?_|rfl|exact bV|exact bU|exact bW rfl))) rfl rfl ?_
  intro C
  refine LWP.ends ?_
  (refine aA<|rgN<|aP O dR ?_;refine aB<|aA<|rgN<|kmv O<|aU [] (rd 1000000 l1 b1) (h1) O O (by exact (cQ ⟨_,O,O⟩ trivial)) (by exact (bT (bT O (bT O O)) O)) O O O O (by exact (.box O O .nil)) dR<|kmv O<|aU [] (rd 1000000 l2 b2) (h2) O O (by exact (cQ ⟨_,O,O⟩ trivial)) (by exact (bT (bT O (bT O O)) O)) O O O O (by exact (.box O O .nil)) dR<|aT O O (by exact O) (by exact nl3 O O O O) dR ?_;refine aP O dR ?_;refine aM O O O O O O dR ?_;refine aB<|aA<|rgN<|kmv O<|aU [] (rd 1000000 l3 b3) (h3) O O (by exact (cQ ⟨_,O,O⟩ trivial)) (by exact (bT (bT O (bT O O)) O)) O O O O (by exact (.box O O .nil)) dR<|K.makeSlc (m:=m) (bytes:=24) O O hmk (by kernel_rfl) (by omega) O O dR<|kfa O O ?_;refine bG O O O O O (nl3 O O O O) dR<|aB<|aA<|aA<|rgN<|kfa O O ?_;refine kl1 O O O<|K.lenSlc O cC O dR ?_;refine kmv O<|aB<|aG ?_)
  refine cM (fun k σ=>∃ (i:Nat) (cs:List (List Ins)) (l':List UInt8) (b':Bool) (vs:List Value) (H:Nat→Option Obj),i≤m∧k=m-i∧rqEs (l3,b3) i=(cs,l',b')∧OwnedM C X H∧FormsH H vs cs∧σ=trSt nw old l' b' m i (vs++nilV (m-i)) (joinM X H)) m
    (cE (σ':=trSt nw old l3 b3 m 0 ([]++nilV (m-0)) X) ?_ (cD ⟨0,[],l3,b3,[],fun _=>none,by omega,by omega,rfl,OwnedM.nil _ _,FormsH.nil,by rw [joinM_nil]⟩)) ?_
  · exact Le.of (by exact ⟨rfl,rfl,rfl,rfl,rfl,trivial⟩) (by exact ⟨rfl,rfl,rfl,rfl,trivial⟩) (by exact rfl) (by exact rfl) (by repeat' (first|refine bT ?_ ?_|rfl|exact bV|exact bU|exact bW rfl))
  rintro k σ ⟨i,cs,l',b',vs,H,hi,rfl,hT,hO,GF,rfl⟩
  have hK:=rqEs_k l3 b3 i
  rw [hT] at hK
  simp only at hK
  have hcn:cs.length=i:=hK.len
  have hl':=hK.less
  have hvl:vs.length=i:=by rw [GF.len,hcn]
  by_cases hlt:i<m
  · have hLf:=Left_spec (joinM X H) l' b'
    rw [show (if b'=true then (0:Int) else (l'.length:Nat))=((lfB l' b':Nat):Int) by unfold lfB;cases b'<;>rfl] at hLf
    have hPt:=Part_e (joinM X H) l' b' (by omega)
    have hT2:rqEs (l3,b3) (i+1)=(cs++[(rqE (l',b')).1],(rqE (l',b')).2):=by simp only [rqEs,hT]
    have hpl:=ePt_len l' b'
    have hix:0+Int.toNat (i:Int)*1=i:=by rw [dG];omega
    have hroom:i+1≤((vs++nilV (m-i)).map CV.val).length:=by rw [cW,cV,hvl,nilV_len];omega
    have hk:m-i=(m-(i+1))+1:=by omega
    have hadd:IntKind.i64.wrap (((i:Nat):Int)+1)=((i+1:Nat):Int):=by rw [cH (by omega)];omega
    cases hd:decX (ePt (l',b')).1 with
    | none =>
      rw [rqE_none hd] at hT2
      have hD:=gDecode_no (joinM X H) (ePt (l',b')).1 (by omega) hd
      rcases hy:ePt (l',b') with ⟨s,l4,b4⟩
      rw [hy] at hPt hT2 hD hpl
      simp only at hPt hT2 hD hpl
      have hspl:splice ((vs++nilV (m-i)).map CV.val) i [.val (.slice none 0 0)]=((vs++[Value.slice none 0 0])++nilV (m-(i+1))).map CV.val:=by
        rw [hk,nilV_splice hvl];simp
      (refine aA<|rgN<|klt O O (cP (by omega))<|aB<|aA<|aE O ?_;refine aH ?_;refine aA<|aG<|aA<|rgN<|kmv O<|kas O<|aB<|rgD mixed<|kfa O O ?_;refine kl1 O O O<|kmv O<|kmv O<|kmv O<|K.callR [(1000000,1000000)] (hLf) O O (by exact (cQ ⟨_,O,O⟩ trivial)) (by exact (bT (bT O (bT O O)) O)) O O O O dR<|aU [] (rd 1000000 l4 b4) (hPt) O O (by exact (cQ ⟨_,O,O⟩ trivial)) (by exact (bT (bT O (bT O O)) O)) O O O O (by exact (.box O O .nil)) dR<|kca O O hD<|kmv O<|kex O O<|kex O O<|K.indexSlc O O (by omega) hix dR ?_;refine K.store O O O O (by kernel_rfl) hroom hspl dR<|aB<|rgA ?_;refine rgN<|kad O O hadd<|kmv O<|aB ?_)
      exact cE (σ':=trSt nw old l4 b4 m (i+1) ((vs++[.slice none 0 0])++nilV (m-(i+1))) (joinM X H)) (Le.of (by exact ⟨O,O,O,O,O,trivial⟩) (by exact ⟨O,O,O,O,trivial⟩) (by exact O) (by exact O) (by repeat' (first|refine bT ?_ ?_|rfl|exact bV|exact bU|exact bW O))) (cD ⟨m-(i+1),by omega,i+1,cs++[[]],l4,b4,vs++[.slice none 0 0],H,by omega,O,hT2,hO,GF.push ⟨none,0,O,InsIn.nil'⟩,O⟩)
    | some c =>
      rw [rqE_some hd] at hT2
      have hD:=gDecode_ok (joinM X H) (ePt (l',b')).1 (by omega) hd
      have hsm:=small_dec hd
      rcases hy:ePt (l',b') with ⟨s,l4,b4⟩
      rw [hy] at hPt hT2 hD hpl
      simp only at hPt hT2 hD hpl
      have hspl:splice ((vs++nilV (m-i)).map CV.val) i [.slc 600 0 c.length 6]=vs.map CV.val ++ .slc 600 0 c.length 6::(nilV (m-(i+1))).map CV.val:=by
        rw [hk,nilV_splice hvl]
      (refine aA<|rgN<|klt O O (cP (by omega))<|aB<|aA<|aE O ?_;refine aH ?_;refine aA<|aG<|aA<|rgN<|kmv O<|kas O<|aB<|rgD mixed<|kfa O O ?_;refine kl1 O O O<|kmv O<|kmv O<|kmv O<|K.callR [(1000000,1000000)] (hLf) O O (by exact (cQ ⟨_,O,O⟩ trivial)) (by exact (bT (bT O (bT O O)) O)) O O O O dR<|aU [] (rd 1000000 l4 b4) (hPt) O O (by exact (cQ ⟨_,O,O⟩ trivial)) (by exact (bT (bT O (bT O O)) O)) O O O O (by exact (.box O O .nil)) dR<|bE [(1000001,600)] (.tup [.one (.slc 600 0 c.length 6),Sn .i64 0]) [inB 600 c] (hD) O O (by exact trivial) O O O O O (by exact (.box O (bY _ _ _ _) .nil)) dR<|kmv O<|kex O O<|kex O O<|K.indexSlc O O (by omega) hix dR ?_;refine K.store O O O O (by kernel_rfl) hroom hspl dR<|aB<|rgA ?_;refine rgN<|kad O O hadd<|kmv O<|aB ?_)
      refine cE (σ':=⟨[(0,Lp 1000000),(2,Lp 2),(3,Lp 3),(16,Ln .i64 (m:Nat)),(17,Ln .i64 (i+1:Nat))],[(12,some ⟨68,vs.map CV.val ++ .slc 600 0 c.length 6::(nilV (m-(i+1))).map CV.val,false⟩),inB 600 c,rdB' 1000000 l4 b4,(3,some ⟨46,[.val (.int .i64 nw),.val (.int .i64 old),.slc 12 0 m 1],false⟩),v3B 46 2 0 0 none 0 0],joinM X H⟩) (Le.of (by exact ⟨O,O,O,O,O,trivial⟩) (by exact ⟨O,O,O,O,O,trivial⟩) (by exact O) (by exact O) (by repeat' (first|refine bT ?_ ?_|rfl|exact bV|exact bU|exact bW O))) ?_
      refine Leads.closeCell hO (by have:=inssV_len c;rw [cW] at this;exact this) rfl bU bU rfl rfl rfl fun b o v q1 _ hO3 hv=>cD ⟨m-(i+1),by omega,i+1,cs++[c],l4,b4,vs++[v],withBlock H b o,by omega,rfl,hT2,hO3,(GF.mono (cJ q1)).push (ins_leads hv hsm),?_⟩
      unfold trSt
      simp
  · have e:i=m:=by omega
    subst e
    rw [hT]
    simp only
    rw [Nat.sub_self,show nilV 0=[] from rfl,dJ]
    subst hcn
    (refine aA<|rgN<|klt O O (cO (by omega))<|aB<|aA<|aF O ?_;refine aJ<|aA<|rgN<|aK O O O dR ?_;refine aM O O O O O O dR ?_;refine aB<|aI ?_)
    refine cE (σ':=⟨[(2,Lp 2)],[(12,some ⟨68,vs.map .val,false⟩),rdB' 1000000 l' b',(2,some ⟨46,[.val (.int .i64 nw),.val (.int .i64 old),.slc 12 0 cs.length 1],false⟩)],joinM X H⟩) (Le.of (by exact ⟨O,trivial⟩) (by exact ⟨O,O,O,trivial⟩) (by exact O) (by exact O) (by repeat' (first|refine bT ?_ ?_|rfl|exact bV|exact bU|exact bW O))) ?_
    refine cd_shut hO GF (cD ?_)
    exact ⟨[(1000001,12)],⟨[_],⟨⟨_,_,rfl,rfl,rfl,.inl ⟨AggT.h,rfl⟩⟩,trivial⟩,rfl⟩,(by repeat' (first|exact trivial|refine cQ ⟨_,rfl,?_⟩ ?_|refine cQ ⟨_,rfl⟩ ?_|rfl|exact bX _ _ _ _|exact bY _ _ _ _|exact bZ rfl)),rfl,rfl⟩
end Go.Proofs.YtamplgnbbanamaaGreatDoor
end
