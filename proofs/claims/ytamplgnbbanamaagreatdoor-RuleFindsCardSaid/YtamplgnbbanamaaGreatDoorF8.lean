/- A piece of a proof over this program: contracts of its functions, and a logic to prove them by. -/
import Derived.Test.YtamplgnbbanamaaGreatDoorF2
import Derived.Test.YtamplgnbbanamaaGreatDoorF3
import Derived.Test.YtamplgnbbanamaaGreatDoorF5
import Derived.Test.YtamplgnbbanamaaGreatDoorF6
import Derived.Test.YtamplgnbbanamaaGreatDoorF7
import Derived.Lib.Join
import Derived.Test.YtamplgnbbanamaaGreatDoorRows
import Derived.Test.YtamplgnbbanamaaGreatDoorTie
import Derived.Test.YtamplgnbbanamaaGreatDoorCards
import Derived.ProofKit
import Derived.LaidMore
import Derived.OpenShut
import Derived.Stop.Joined
import Derived.Stop.LaidErr
import Derived.Lib.SmallJoins
import Derived.SevenTiedAt
section
namespace Go.Proofs.YtamplgnbbanamaaGreatDoor
open Go Go.Lg Go.Lg.Fml Go.Lg.Fld Go.Lg.Arith
set_option maxRecDepth 100000
abbrev SPg (va vb:Int) (ad:Option Addr) (n cap:Nat):SV:=.agg [.val (.int .i64 va),.val (.int .i64 vb),.val (.slice ad n cap)]
abbrev SRs (r:Rl) (k:Nat):SV:=.agg [.val (.int .i64 r.nw),.val (.int .i64 r.old),.slc k 0 r.ex.length 1]
def int1 (l:List Int):List Value:=l.map fun n=>.int .i64 n
def cdR (t:TypeId) (cs:List (List Ins)):Rsc:=⟨fun ρ H=>(∃ (arr:Array Value) (fr:Nat×Nat),H ρ.1=some (.cells arr t fr)∧arr.size=ρ.2)∧CodesIn H (some ⟨ρ.1,0,none⟩) cs⟩
abbrev cdB (k:Nat) (cs:List (List Ins)):Nat×Option Box:=(k,some ⟨0,[],.res (cdR 68 cs)⟩)
abbrev inB (k:Nat) (c:List Ins):Nat×Option Box:=(k,some ⟨66,(inssV c).map .val,true⟩)
section
variable {n:Nat} {C:Ctx} {X:Nat→Option Obj} {s:List (Nat×LV)} {bx:List (Nat×Option Box)} {k:Nat}
theorem cd_shut {Mid:St→Prop} {t:TypeId} {cs:List (List Ins)} {H:Nat→Option Obj} {vs:List Value} (hO:OwnedM C X H) (G:FormsH H vs cs)
    (h:Leads n C Mid ⟨s,(k,some ⟨0,[],.res (cdR t cs)⟩)::bx,X⟩):Leads n C Mid ⟨s,(k,some ⟨t,vs.map .val,false⟩)::bx,joinM X H⟩:=by
  refine Leads.closeRes (vals:=vs) hO (fun ρ fr h1 h2 h3 => ?_) h
  refine ⟨⟨_,fr,cN _ _ _,by rw [h3];simp⟩,?_⟩
  exact forms_block (sp:=[]) (cN _ _ _) (by simp) (G.mono (cJ h1))
end
theorem InsIn.nil' {X:Nat→Option Obj} {ad:Option Addr}:InsIn X ad []:=⟨fun i r h=>by simp at h,fun x hx=>by cases hx⟩
theorem InsIn.no {X:Nat→Option Obj} {c:List Ins} (h:InsIn X none c):c=[]:=by
  cases c with
  | nil=>rfl
  | cons x t =>
    obtain ⟨_,_,_,_,_,e,_⟩:=h.at (i:=0) (x:=x) rfl
    cases e
def nilV (k:Nat):List Value:=List.replicate k (.slice none 0 0)
theorem nilV_succ (k:Nat):nilV (k+1) = .slice none 0 0::nilV k:=List.replicate_succ
theorem nilV_len (k:Nat):(nilV k).length=k:=dE
theorem nilV_splice {vs:List Value} {k i:Nat} {c:CV} (hi:vs.length=i):splice ((vs++nilV (k+1)).map CV.val) i [c]=vs.map CV.val++c::(nilV k).map CV.val:=by
  unfold splice
  rw [nilV_succ]
  simp only [dH,dM]
  have hml:(vs.map CV.val).length=i:=by rw [cW,hi]
  generalize vs.map CV.val=R at *
  rw [← hml,List.take_left,List.drop_length_add_append]
  simp
theorem rfind_at {l:List Rl} {id:Int} {r:Rl} (h:findP l id=some r):∃ i:Nat,l[i]? = some r∧(r.nw==id)=true∧∀ (j:Nat) (y:Rl),j<i→l[j]? = some y→(y.nw==id)=false:=by
  unfold findP at h
  rw [List.find?_eq_some_iff_getElem] at h
  obtain ⟨h1,i,hi,h2,h3⟩:=h
  refine ⟨i,by rw [cX hi,h2],h1,fun j y hj hy => ?_⟩
  obtain ⟨hjl,e⟩:=List.getElem?_eq_some_iff.1 hy
  have:=h3 j hj
  rw [e] at this
  simpa using this
theorem find_nowhere {l:List Rl} {id:Int} (h:findP l id=none):∀ (j:Nat) (y:Rl),l[j]? = some y→(y.nw==id)=false:=fun j y hy=>by
  unfold findP at h
  have:=List.find?_eq_none.1 h y (dD hy)
  simpa using this
theorem fromP_app (a b:List Rl) (old:Int):fromP (a++b) old=fromP a old++fromP b old:=by
  unfold fromP
  by_cases h:old=0
  · rw [if_pos h,if_pos h,if_pos h];rfl
  · rw [if_neg h,if_neg h,if_neg h,List.filter_append,dH]
theorem fromP_yes {r:Rl} {t:List Rl} {old:Int} (h:r.old=old) (h0:old≠0):fromP (r::t) old=r.nw::fromP t old:=by
  unfold fromP
  rw [if_neg h0,if_neg h0,List.filter_cons,if_pos (by rw [h];exact beq_self_eq_true old),List.map_cons]
theorem fromP_not {r:Rl} {t:List Rl} {old:Int} (h:¬(r.old=old∧old≠0)):fromP (r::t) old=fromP t old:=by
  unfold fromP
  by_cases h0:old=0
  · rw [if_pos h0,if_pos h0]
  · rw [if_neg h0,if_neg h0,List.filter_cons,if_neg]
    intro e
    exact h ⟨by simpa using e,h0⟩
theorem fromP_len (l:List Rl) (old:Int):(fromP l old).length≤l.length:=by
  unfold fromP
  by_cases h:old=0
  · rw [if_pos h];exact Nat.zero_le _
  · rw [if_neg h,cW];exact List.length_filter_le _ _
theorem fromP_none (old:Int):fromP [] old=[]:=by unfold fromP;split<;>rfl
variable (X:Nat→Option Obj)
theorem kClone_nil (cap:Nat):PSpec Tryz.prog X 64 [Lx none 0 cap] (Lx none 0 0):=by
  refine cF Tryz.func64 rfl (by kernel_rfl) rfl rfl ?_
  intro C
  (refine aA<|rgN<|kas O<|aB<|aA<|aA<|rgN<|kmv O<|K.slcNil (r:=true) O cC (.inl ⟨O,O⟩) dR ?_;refine aB<|aE O ?_;refine aA<|rgN<|kas O<|aB<|aI ?_)
  exact ⟨[_],⟨O,trivial⟩,O⟩
theorem kClone_some (fa:Addr) (cap:Nat) (c:List Ins) (hF:InsIn X (some fa) c) (hb:c.length≤65536):
    MSpec Tryz.prog X 64 [Lx (some fa) c.length cap] [] (.sv (.one (.slc 1000001 0 c.length 6))) [inB 1000001 c]:=by
  have hlen:(inssV c).length=c.length*6:=by have:=inssV_len c;rwa [cW] at this
  refine cG Tryz.func64 rfl (by kernel_rfl) rfl rfl (by exact (by repeat' (first|refine bT ?_ ?_|rfl|exact bV|exact bU|exact bW rfl))) rfl rfl ?_
  intro C
  (refine aA<|rgN<|kas O<|aB<|aA<|aA<|rgN<|kmv O<|K.slcNil (r:=false) O cC (.inl ⟨O,O⟩) dR ?_;refine aB<|aF O ?_;refine aH ?_;refine aA<|rgN<|aZ (zs:=[]) (sz:=6) (e:=66) (by kernel_rfl) O O O O O O dR<|kmv O<|K.appendX (by_:=48) (e2:=66) (news:=inssV c) (nl:=c.length) (nc:=(inssV c).map .val) O O O O (ins_reads hF) hlen (inssV_one c) (by kernel_rfl) (by kernel_rfl) (by omega) (by omega) O (by omega) O dR ?_;refine kas O<|aB<|aI ?_)
  exact ⟨[(1000001,7)],⟨[_],⟨rfl,trivial⟩,rfl⟩,(by repeat' (first|exact trivial|refine cQ ⟨_,rfl,?_⟩ ?_|refine cQ ⟨_,rfl⟩ ?_|rfl|exact bX _ _ _ _|exact bY _ _ _ _|exact bZ rfl)),rfl,rfl⟩
abbrev crSt (nw old:Int) (ead:Option Addr) (n ecap i:Nat) (vs:List Value) (Y:Nat→Option Obj):St:=
  ⟨[(1,Lp 1),(2,Lp 2),(3,.sv (.one (.slc 9 0 n 1))),(11,Lx ead n ecap),(12,Ln .i64 (n:Nat)),(13,Ln .i64 (i:Nat))],[(9,some ⟨68,(vs++nilV (n-i)).map .val,false⟩),v3B 46 1 nw old ead n ecap,v3B 46 2 0 0 none 0 0],Y⟩
set_option maxHeartbeats 6400000 in
theorem kCloneRule (r:Rl) (ead:Option Addr) (ecap:Nat) (hE:CodesIn X ead r.ex) (hn:r.ex.length≤65536) (hc:∀ c∈r.ex,c.length≤65536):
    MSpec Tryz.prog X 41 [LPg r.nw r.old ead r.ex.length ecap] [] (.sv (SRs r 1000001)) [cdB 1000001 r.ex]:=by
  obtain ⟨nw,old,ex⟩:=r
  simp only at hE hn hc ⊢
  have hmk:slcBuild Tryz.prog 44 ex.length=some (nilV ex.length,1,68):=slcBuild_one (by kernel_rfl) (by kernel_rfl) (by omega)
  refine cG Tryz.func41 rfl (by kernel_rfl) rfl rfl rfl rfl rfl ?_
  intro C
  refine LWP.ends ?_
  (refine aA<|rgN<|aL O O O dR<|aP O dR ?_;refine aB<|aA<|rgN<|kfa O O ?_;refine kl1 O O O<|aQ O cC O dR ?_;refine K.makeSlc (m:=ex.length) (bytes:=24) O O hmk (by kernel_rfl) (by omega) O O dR<|kas O<|aB<|aA<|aA<|rgN<|kfa O O ?_;refine kl1 O O O<|aQ O cC O dR ?_;refine kmv O<|aB<|aG ?_)
  refine cM (fun m σ=>∃ (i:Nat) (vs:List Value) (H:Nat→Option Obj),i≤ex.length∧m=ex.length-i∧OwnedM C X H∧FormsH H vs (ex.take i)∧σ=crSt nw old ead ex.length ecap i vs (joinM X H)) ex.length
    (cE (σ':=crSt nw old ead ex.length ecap 0 [] X) (Le.of (by exact ⟨rfl,rfl,rfl,rfl,rfl,rfl,trivial⟩) (by exact ⟨rfl,rfl,rfl,trivial⟩) (by exact rfl) (by exact rfl) (by repeat' (first|refine bT ?_ ?_|rfl|exact bV|exact bU|exact bW rfl))) (cD ⟨0,[],fun _=>none,by omega,by omega,OwnedM.nil _ _,FormsH.nil,by rw [joinM_nil]⟩)) ?_
  rintro m σ ⟨i,vs,H,hi,rfl,hO,GF,rfl⟩
  have hvl:vs.length=i:=by rw [GF.len,cZ];omega
  by_cases hlt:i<ex.length
  case neg =>
    have e:i=ex.length:=by omega
    subst e
    rw [dF] at GF
    unfold crSt
    rw [Nat.sub_self,show nilV 0=[] from rfl,dJ]
    (refine aA<|rgN<|klt O O (cO (by omega))<|aB<|aA<|aF O ?_;refine aJ<|aA<|rgN<|kmv O<|kfa O O ?_;refine bG O O O O O (nl3 O O O O) dR<|aB<|aA<|rgN<|aK O O O dR ?_;refine aM O O O O O O dR ?_;refine aB<|aI ?_)
    refine cE (σ':=⟨[(2,Lp 2)],[(9,some ⟨68,vs.map .val,false⟩),(2,some ⟨46,[.val (.int .i64 nw),.val (.int .i64 old),.slc 9 0 ex.length 1],false⟩)],joinM X H⟩) (Le.of (by exact ⟨O,trivial⟩) (by exact ⟨O,O,trivial⟩) (by exact O) (by exact O) (by repeat' (first|refine bT ?_ ?_|rfl|exact bV|exact bU|exact bW O))) ?_
    refine cd_shut hO GF (cD ?_)
    exact ⟨[(1000001,9)],⟨[_],⟨⟨_,_,rfl,rfl,rfl,.inl ⟨AggT.h,rfl⟩⟩,trivial⟩,rfl⟩,(by repeat' (first|exact trivial|refine cQ ⟨_,rfl,?_⟩ ?_|refine cQ ⟨_,rfl⟩ ?_|rfl|exact bX _ _ _ _|exact bY _ _ _ _|exact bZ rfl)),rfl,rfl⟩
  obtain ⟨c,hcc⟩:∃ c,ex[i]? = some c:=⟨_,cX hlt⟩
  obtain ⟨eb,eo,earr,eel,efr,vad,vcap,rfl,hEX,hec,hI⟩:=hE.get hcc
  have hEJ:=joinM_has hO hEX
  have hIJ:InsIn (joinM X H) vad c:=hI.mono fun b o h=>joinM_has hO h
  have hio:eo+Int.toNat (i:Int)*1=eo+i*1:=by simp
  have hix:0+Int.toNat (i:Int)*1=i:=by rw [dG];omega
  have hadd:IntKind.i64.wrap (((i:Nat):Int)+1)=((i+1:Nat):Int):=by rw [cH (by omega)];omega
  have hroom:i+1≤((vs++nilV (ex.length-i)).map CV.val).length:=by rw [cW,cV,hvl,nilV_len];omega
  have hk:ex.length-i=(ex.length-(i+1))+1:=by omega
  cases vad with
  | none =>
    have hc0:=hI.no
    subst hc0
    have hq:=kClone_nil (joinM X H) vcap
    have hspl:splice ((vs++nilV (ex.length-i)).map CV.val) i [.val (.slice none 0 0)]=((vs++[Value.slice none 0 0])++nilV (ex.length-(i+1))).map CV.val:=by
      rw [hk,nilV_splice hvl];simp
    (refine aA<|rgN<|klt O O (cP (by omega))<|aB<|aA<|aE O ?_;refine aH ?_;refine aA<|aG<|aA<|rgN<|kmv O<|aR O O cC (by omega) hio dR<|aW O hEJ O hec dR<|kas O<|kas O<|aB<|rgN<|kmv O<|kmv O<|kmv O ?_;refine kca O O hq<|K.indexSlc O O (by omega) hix dR ?_;refine K.store O O O O (by kernel_rfl) hroom hspl dR<|aB<|rgN<|kad O O hadd<|kmv O<|aB ?_)
    exact cE (σ':=crSt nw old (some ⟨eb,eo,none⟩) ex.length ecap (i+1) (vs++[.slice none 0 0]) (joinM X H)) (Le.of (by exact ⟨rfl,rfl,rfl,rfl,rfl,rfl,trivial⟩) (by exact ⟨rfl,rfl,rfl,trivial⟩) (by exact rfl) (by exact rfl) (by repeat' (first|refine bT ?_ ?_|rfl|exact bV|exact bU|exact bW rfl))) (cD ⟨ex.length-(i+1),by omega,i+1,vs++[.slice none 0 0],H,by omega,rfl,hO,by rw [take_snoc hcc];exact GF.push ⟨none,0,rfl,InsIn.nil'⟩,rfl⟩)
  | some fa =>
    have hq:=kClone_some (joinM X H) fa vcap c hIJ (hc c (dD hcc))
    have hspl:splice ((vs++nilV (ex.length-i)).map CV.val) i [.slc 600 0 c.length 6]=vs.map CV.val ++ .slc 600 0 c.length 6::(nilV (ex.length-(i+1))).map CV.val:=by
      rw [hk,nilV_splice hvl]
    (refine aA<|rgN<|klt O O (cP (by omega))<|aB<|aA<|aE O ?_;refine aH ?_;refine aA<|aG<|aA<|rgN<|kmv O<|aR O O cC (by omega) hio dR<|aW O hEJ O hec dR<|kas O<|kas O<|aB<|rgN<|kmv O<|kmv O<|kmv O ?_;refine bE [(1000001,600)] (.sv (.one (.slc 600 0 c.length 6))) [inB 600 c] (hq) O O (by exact trivial) O O O O O (by exact (.box O (bY _ _ _ _) .nil)) dR<|K.indexSlc O O (by omega) hix dR ?_;refine K.store O O O O (by kernel_rfl) hroom hspl dR<|aB<|rgN<|kad O O hadd<|kmv O<|aB ?_)
    refine cE (σ':=⟨[(1,Lp 1),(2,Lp 2),(3,.sv (.one (.slc 9 0 ex.length 1))),(11,Lx (some ⟨eb,eo,none⟩) ex.length ecap),(12,Ln .i64 (ex.length:Nat)),(13,Ln .i64 (i+1:Nat))],[(9,some ⟨68,vs.map CV.val ++ .slc 600 0 c.length 6::(nilV (ex.length-(i+1))).map CV.val,false⟩),inB 600 c,v3B 46 1 nw old (some ⟨eb,eo,none⟩) ex.length ecap,v3B 46 2 0 0 none 0 0],joinM X H⟩) (Le.of (by exact ⟨O,O,O,O,O,O,trivial⟩) (by exact ⟨O,O,O,O,trivial⟩) (by exact O) (by exact O) (by repeat' (first|refine bT ?_ ?_|rfl|exact bV|exact bU|exact bW O))) ?_
    refine Leads.closeCell hO (by have:=inssV_len c;rw [cW] at this;exact this) rfl bU bU rfl rfl rfl fun b o v q1 _ hO3 hv=>cD ⟨ex.length-(i+1),by omega,i+1,vs++[v],withBlock H b o,by omega,rfl,hO3,?_,?_⟩
    · rw [take_snoc hcc]
      exact (GF.mono (cJ q1)).push (ins_leads hv hI.small)
    · unfold crSt
      simp
abbrev Vp' (b:Nat):LV:=.sv (.one (.val (.pointer (some ⟨b,0,none⟩))))
theorem kFind1 (r:Rl) (ead:Option Addr) (ecap:Nat) (id:Int) {b:Nat} {arr:Array Value} {el:TypeId} {fr:Nat×Nat} (hX:X b=some (.cells arr el fr)) (h0:arr[0]? = some (.int .i64 id)):
    PSpec Tryz.prog X 40 [LPg r.nw r.old ead r.ex.length ecap,Vp' b] (Lb (r.nw==id)):=by
  refine cF Tryz.func40 rfl (by kernel_rfl) rfl rfl ?_
  intro C
  (refine aA<|rgN<|aL O O O dR<|kas O<|aB<|aA<|rgN<|kfa O O ?_;refine kl1 O O O<|aW O hX O h0 dR<|keq O O O<|kas O<|aB<|aI ?_)
  exact ⟨[_],⟨O,trivial⟩,O⟩
theorem kIndex (ad:Option Addr) (cap:Nat) (rs:List Rl) (hin:RulesIn X ad rs) (hbig:rs.length<4611686018427387904) (f:FuncId) (caps:List Value) (p:Rl→Bool)
    (hp:∀ r∈rs,∀ ead ecap,PSpec Tryz.prog X f ([LPg r.nw r.old ead r.ex.length ecap]++caps.map fun v=>.sv (.one (.val v))) (Lb (p r))):
    PSpec Tryz.prog X 39 [Lx ad rs.length cap,Lf f caps] (Ln .i64 (findI p rs)):=by
  refine cF Tryz.func39 rfl (by kernel_rfl) rfl rfl ?_
  intro C
  (refine aA<|rgN<|kas O<|aB<|aA<|aA<|rgN<|kmv O<|aQ O cC O dR ?_;refine kmv O<|aB<|aG ?_)
  refine cL (fun m σ=>∃ i:Nat,i≤rs.length∧m=rs.length-i∧(∀ (j:Nat) (y:Rl),j<i→rs[j]? = some y→p y=false)∧σ=⟨[(0,Lx ad rs.length cap),(1,Lf f caps),(7,Ln .i64 (rs.length:Nat)),(8,Ln .i64 (i:Nat))],[],X⟩) rs.length
    ⟨_,Le.of (by exact ⟨rfl,rfl,rfl,rfl,trivial⟩) (by exact trivial) (by exact rfl) (by exact rfl) (by exact rfl),0,by omega,by omega,fun j y hj=>absurd hj (by omega),rfl⟩ ?_
  rintro m σ ⟨i,hi,rfl,hpre,rfl⟩
  by_cases hlt:i<rs.length
  · obtain ⟨c,hc⟩:∃ c,rs[i]? = some c:=⟨_,cX hlt⟩
    obtain ⟨blk,off,arr,el,fr,fad,fcap,rfl,hX,hsz,hcs,_,_,_,hF⟩:=hin.get hc
    have hio:off+Int.toNat (i:Int)*3=off+i*3:=by simp
    have hP:=hp c (dD hc) fad fcap
    cases hpc:p c with
    | true =>
      rw [hpc] at hP
      rw [findI_some hpre hc hpc]
      (refine aA<|rgN<|klt O O (cP (by omega))<|aB<|aA<|aE O ?_;refine aH ?_;refine aA<|aG<|aA<|rgN<|kmv O<|kas O<|aB<|aA<|rgN<|kmv O<|kmv O<|kmv O<|aR O O cC (by omega) hio dR<|aY O hX (by kernel_rfl) hsz hcs dR ?_;refine K.callF O O O hP dR ?_;refine aB<|aE O ?_;refine aA<|rgN<|kmv O<|kas O<|aB<|aI ?_)
      exact ⟨[_],⟨O,trivial⟩,O⟩
    | false =>
      rw [hpc] at hP
      (refine aA<|rgN<|klt O O (cP (by omega))<|aB<|aA<|aE O ?_;refine aH ?_;refine aA<|aG<|aA<|rgN<|kmv O<|kas O<|aB<|aA<|rgN<|kmv O<|kmv O<|kmv O<|aR O O cC (by omega) hio dR<|aY O hX (by kernel_rfl) hsz hcs dR ?_;refine K.callF O O O hP dR ?_;refine aB<|aF O ?_;refine aH ?_;refine rgN<|kad O O (cH (by omega))<|kmv O<|aB ?_)
      exact ⟨_,_,by omega,Le.of (by exact ⟨O,O,O,O,trivial⟩) (by exact trivial) (by exact O) (by exact O) (by exact O),i+1,by omega,O,(fun j y hj hy=>by
        by_cases e:j=i
        · subst e;rw [hc] at hy;cases hy;exact hpc
        · exact hpre j y (by omega) hy),rfl⟩
  · rw [findI_none fun j y hy=>hpre j y (by have:=(List.getElem?_eq_some_iff.1 hy).1;omega) hy]
    (refine aA<|rgN<|klt O O (cO (by omega))<|aB<|aA<|aF O ?_;refine aJ<|aA<|rgN<|kas O<|aB<|aI ?_)
    exact ⟨[_],⟨O,trivial⟩,O⟩
theorem kFind_no (p:Pg) (ad:Option Addr) (cap:Nat) (hin:RulesIn X ad p.rs) (hbig:p.rs.length<4611686018427387904) (id:Int) (h:findP p.rs id=none):PSpec Tryz.prog X 18 [LPg p.va p.vb ad p.rs.length cap,Ln .i64 id] (.tup [SPg 0 0 none 0 0,Sb false]):=by
  obtain ⟨va,vb,rs⟩:=p
  simp only at hin hbig h ⊢
  refine cF Tryz.func18 rfl (by kernel_rfl) rfl rfl ?_
  intro C
  (refine aA<|rgN<|aL O O O dR<|K.box1 O O O dR<|aP O dR ?_;refine kas O<|aB<|aA ?_)
  refine LWP.le (σ':=⟨[(3,Lp 3),(2,Lp 2),(4,Lp 4)],[(3,some ⟨3,[Value.int .i64 id].map .val,false⟩),v3B 24 2 va vb ad rs.length cap,v3B 46 4 0 0 none 0 0],X⟩) (Le.of (by exact ⟨O,O,O,trivial⟩) (by exact ⟨O,O,O,trivial⟩) (by exact O) (by exact O) (by repeat' (first|refine bT ?_ ?_|rfl|exact bV|exact bU|exact bW O))) ?_
  refine LWP.freezePtr (by rfl) (by rfl) (by rfl) fun b arr0 fr0 hn _ h0 => ?_
  have hin':=hin.mono (cJ (o:=.cells arr0 3 fr0) hn)
  have hp:=fun (r:Rl) (_:r∈rs) (fad:Option Addr) (fcap:Nat)=>kFind1 _ r fad fcap id (cN X b (.cells arr0 3 fr0)) (at_zero h0)
  have hq:=kIndex _ ad cap rs hin' hbig 40 [.pointer (some ⟨b,0,none⟩)] (fun r=>r.nw==id) hp
  rw [findI_none (find_nowhere h)] at hq
  (refine rgN<|kfa O O ?_;refine kl1 O O O<|K.makeFunc O O dR ?_;refine kca O O hq<|kas O<|aB<|aA<|aA<|rgN<|kmv O<|klt O O O<|aB<|aE O ?_;refine aA<|rgN<|aT O O (by exact O) (by exact nl3 O O O O) dR ?_;refine aM O O O O O O dR ?_;refine kas O<|aB<|aI ?_)
  exact ⟨[_,_],⟨⟨_,_,O,O,O,.inl ⟨AggT.h,O⟩⟩,O,trivial⟩,O⟩
theorem kFind_yes (p:Pg) (ad:Option Addr) (cap:Nat) (hin:RulesIn X ad p.rs) (hbig:p.rs.length<4611686018427387904) (hs:∀ r∈p.rs,r.ex.length≤65536∧∀ c∈r.ex,c.length≤65536) (id:Int) {r:Rl} (h:findP p.rs id=some r):
    MSpec Tryz.prog X 18 [LPg p.va p.vb ad p.rs.length cap,Ln .i64 id] [] (.tup [SRs r 1000001,Sb true]) [cdB 1000001 r.ex]:=by
  obtain ⟨va,vb,rs⟩:=p
  simp only at hin hbig h hs ⊢
  obtain ⟨i,hr,he,hpre⟩:=rfind_at h
  have hi:=(List.getElem?_eq_some_iff.1 hr).1
  refine cG Tryz.func18 rfl (by kernel_rfl) rfl rfl rfl rfl rfl ?_
  intro C
  (refine aA<|rgN<|aL O O O dR<|K.box1 O O O dR<|aP O dR ?_;refine kas O<|aB<|aA ?_)
  refine LWP.le (σ':=⟨[(3,Lp 3),(2,Lp 2),(4,Lp 4)],[(3,some ⟨3,[Value.int .i64 id].map .val,false⟩),v3B 24 2 va vb ad rs.length cap,v3B 46 4 0 0 none 0 0],X⟩) (Le.of (by exact ⟨O,O,O,trivial⟩) (by exact ⟨O,O,O,trivial⟩) (by exact O) (by exact O) (by repeat' (first|refine bT ?_ ?_|rfl|exact bV|exact bU|exact bW O))) ?_
  refine LWP.freezePtr (by rfl) (by rfl) (by rfl) fun b arr0 fr0 hn _ h0 => ?_
  have hin':=hin.mono (cJ (o:=.cells arr0 3 fr0) hn)
  have hp:=fun (r:Rl) (_:r∈rs) (fad:Option Addr) (fcap:Nat)=>kFind1 _ r fad fcap id (cN X b (.cells arr0 3 fr0)) (at_zero h0)
  have hq:=kIndex _ ad cap rs hin' hbig 40 [.pointer (some ⟨b,0,none⟩)] (fun r=>r.nw==id) hp
  rw [findI_some hpre hr he] at hq
  obtain ⟨blk,off,arr,el,fr,ead,ecap,rfl,hX,hsiz,hcs,_,_,_,hE⟩:=hin'.get hr
  have hio:off+Int.toNat (i:Int)*3=off+i*3:=by simp
  obtain ⟨s1,s2⟩:=hs r (dD hr)
  have hcl:=kCloneRule _ r ead ecap hE s1 s2
  (refine rgN<|kfa O O ?_;refine kl1 O O O<|K.makeFunc O O dR ?_;refine kca O O hq<|kas O<|aB<|aA<|aA<|rgN<|kmv O<|klt O O (cO (by omega))<|aB<|aF O ?_;refine aH ?_;refine aA<|rgN<|kfa O O ?_;refine kl1 O O O<|kmv O<|aR O O cC (by omega) hio dR<|aY O hX (by kernel_rfl) hsiz hcs dR<|bE [(1000001,20)] (.sv (SRs r 20)) [cdB 20 r.ex] (hcl) O O (by exact trivial) O O O O O (by exact (.box O O .nil)) dR<|aM O O O O O O dR ?_;refine kas O<|aB<|aI ?_)
  exact ⟨[(1000001,20)],⟨[_,_],⟨⟨_,_,rfl,rfl,rfl,.inl ⟨AggT.h,rfl⟩⟩,rfl,trivial⟩,rfl⟩,(by repeat' (first|exact trivial|refine cQ ⟨_,rfl,?_⟩ ?_|refine cQ ⟨_,rfl⟩ ?_|rfl|exact bX _ _ _ _|exact bY _ _ _ _|exact bZ rfl)),rfl,rfl⟩
abbrev frSt (old:Int) (ad:Option Addr) (n cap i:Nat) (l:List Int) (r:Bool) (Y:Nat→Option Obj):St:=
  ⟨[(1,Ln .i64 old),(5,.sv (.one (.slc 500 0 l.length 1))),(10,Lx ad n cap),(11,Ln .i64 (n:Nat)),(12,Ln .i64 (i:Nat))],[(500,some ⟨3,(int1 l).map .val,r⟩)],Y⟩
set_option maxHeartbeats 6400000 in
theorem kFrom (p:Pg) (ad:Option Addr) (cap:Nat) (hin:RulesIn X ad p.rs) (hbig:p.rs.length≤65536) (old:Int):
    MSpec Tryz.prog X 20 [LPg p.va p.vb ad p.rs.length cap,Ln .i64 old] [] (.sv (.one (.slc 1000001 0 (fromP p.rs old).length 1))) [(1000001,some ⟨3,(int1 (fromP p.rs old)).map .val,true⟩)]:=by
  obtain ⟨va,vb,rs⟩:=p
  simp only at hin hbig ⊢
  have hrl:∀ l:List Int,((int1 l).map CV.val).length=l.length*1:=fun l=>by unfold int1;rw [cW,cW,Nat.mul_one]
  refine cG Tryz.func20 rfl (by kernel_rfl) rfl rfl (by exact (by repeat' (first|refine bT ?_ ?_|rfl|exact bV|exact bU|exact bW rfl))) rfl rfl ?_
  intro C
  refine LWP.ends ?_
  (refine aA<|rgN<|aL O O O dR<|kas O<|aB<|aA<|rgN<|aZ (zs:=[]) (sz:=1) (e:=3) (by kernel_rfl) O O O O O O dR<|kas O<|aB<|aA<|aA<|rgN<|kfa O O ?_;refine kl1 O O O<|aQ O cC O dR ?_;refine kmv O<|aB<|aG ?_)
  refine cL (fun m σ=>∃ (i:Nat) (r:Bool),i≤rs.length∧m=rs.length-i∧σ=frSt old ad rs.length cap i (fromP (rs.take i) old) r X) rs.length
    ⟨frSt old ad rs.length cap 0 [] false X,Le.ofR [(500,8)] (by exact ⟨rfl,rfl,rfl,rfl,rfl,trivial⟩) (by repeat' (first|exact trivial|refine cQ ⟨_,rfl,?_⟩ ?_|refine cQ ⟨_,rfl⟩ ?_|rfl|exact bX _ _ _ _|exact bY _ _ _ _|exact bZ rfl)) (by exact rfl) (by exact rfl) (by repeat' (first|refine bT ?_ ?_|rfl|exact bV|exact bU|exact bW rfl)) (by exact rfl) (by exact rfl),0,false,by omega,by omega,by rw [show fromP (rs.take 0) old=[] from fromP_none old]⟩ ?_
  rintro m σ ⟨i,row,hi,rfl,rfl⟩
  by_cases hlt:i<rs.length
  case neg =>
    have e:i=rs.length:=by omega
    subst e
    rw [dF]
    (refine aA<|rgN<|klt O O (cO (by omega))<|aB<|aA<|aF O ?_;refine aJ<|aA<|rgN<|kmv O<|kas O<|aB<|aI ?_)
    refine cE (σ':=⟨[(4,.sv (.one (.slc 500 0 (fromP rs old).length 1)))],[(500,some ⟨3,(int1 (fromP rs old)).map .val,row⟩)],X⟩) (Le.ofR [(500,500)] (by exact ⟨rfl,trivial⟩) (by repeat' (first|exact trivial|refine cQ ⟨_,rfl,?_⟩ ?_|refine cQ ⟨_,rfl⟩ ?_|rfl|exact bX _ _ _ _|exact bY _ _ _ _|exact bZ rfl)) (by exact rfl) (by exact rfl) (by repeat' (first|refine bT ?_ ?_|rfl|exact bV|exact bU|exact bW rfl)) (by exact rfl) (by exact rfl)) ?_
    refine cE Le.loose (cD ?_)
    exact ⟨[(1000001,500)],⟨[_],⟨rfl,trivial⟩,rfl⟩,(by repeat' (first|exact trivial|refine cQ ⟨_,rfl,?_⟩ ?_|refine cQ ⟨_,rfl⟩ ?_|rfl|exact bX _ _ _ _|exact bY _ _ _ _|exact bZ rfl)),rfl,rfl⟩
  obtain ⟨r,hr⟩:∃ r,rs[i]? = some r:=⟨_,cX hlt⟩
  obtain ⟨blk,off,arr,el,fr,ead,ecap,rfl,hX,hsiz,hcs,_,_,_,hE⟩:=hin.get hr
  have hio:off+Int.toNat (i:Int)*3=off+i*3:=by simp
  have hadd:IntKind.i64.wrap (((i:Nat):Int)+1)=((i+1:Nat):Int):=by rw [cH (by omega)];omega
  have hfl:=fromP_len (rs.take i) old
  rw [cZ] at hfl
  have hnx:fromP (rs.take (i+1)) old=fromP (rs.take i) old++fromP [r] old:=by rw [take_snoc hr,fromP_app]
  by_cases hm:r.old=old∧old≠0
  · rw [fromP_yes hm.1 hm.2,fromP_none] at hnx
    generalize fromP (rs.take i) old=l at *
    have hnc:(int1 l).map CV.val++[.val (.int .i64 r.nw)]=(int1 (l++[r.nw])).map CV.val:=by unfold int1;rw [dH,dH];rfl
    have hnl:l.length+1=(l++[r.nw]).length:=by rw [cV];rfl
    (refine aA<|rgN<|klt O O (cP (by omega))<|aB<|aA<|aE O ?_;refine aH ?_;refine aA<|aG<|aA<|rgN<|aR O O cC (by omega) hio dR<|aY O hX (by kernel_rfl) hsiz hcs dR<|aP O dR ?_;refine aM O O O O O O dR ?_;refine aB<|aA<|rgN<|kfa O O ?_;refine kl1 O O O<|kmv O<|keq O O (cU hm.1)<|kmv O<|gmv O O O<|aX O O (cT hm.2) (dS O O) ?_;refine kpt O O<|aB<|aE O ?_;refine rgN<|kmv O<|kfa O O ?_;refine kl1 O O O<|aZ (zs:=[.int .i64 0]) (sz:=1) (e:=3) (cs':=[.val (.int .i64 r.nw)]) (by kernel_rfl) O O O O O O dR<|bQ (by_:=8) (e2:=3) (l2:=[.val (.int .i64 r.nw)]) (nl:=(l++[r.nw]).length) (nc:=(int1 (l++[r.nw])).map .val) O O (hrl l) O O (dN _) O O (by kernel_rfl) (by kernel_rfl) (by omega) (by omega) O hnl hnc dR<|kas O<|aB<|rgN<|kad O O hadd<|kmv O<|aB ?_)
    exact ⟨_,frSt old (some ⟨blk,off,none⟩) rs.length cap (i+1) (l++[r.nw]) true X,by omega,Le.ofR [(500,28)] (by exact ⟨rfl,rfl,rfl,rfl,rfl,trivial⟩) (by repeat' (first|exact trivial|refine cQ ⟨_,rfl,?_⟩ ?_|refine cQ ⟨_,rfl⟩ ?_|rfl|exact bX _ _ _ _|exact bY _ _ _ _|exact bZ rfl)) (by exact rfl) (by exact rfl) (by repeat' (first|refine bT ?_ ?_|rfl|exact bV|exact bU|exact bW rfl)) (by exact rfl) (by exact rfl),i+1,true,by omega,rfl,by rw [hnx]⟩
  · rw [fromP_not hm,fromP_none,dJ] at hnx
    have hst:frSt old (some ⟨blk,off,none⟩) rs.length cap (i+1) (fromP (rs.take i) old) row X=frSt old (some ⟨blk,off,none⟩) rs.length cap (i+1) (fromP (rs.take (i+1)) old) row X:=by rw [hnx]
    by_cases hme:r.old=old
    · have h0:old=0:=by
        by_cases h:old=0
        · exact h
        · exact absurd ⟨hme,h⟩ hm
      (refine aA<|rgN<|klt O O (cP (by omega))<|aB<|aA<|aE O ?_;refine aH ?_;refine aA<|aG<|aA<|rgN<|aR O O cC (by omega) hio dR<|aY O hX (by kernel_rfl) hsiz hcs dR<|aP O dR ?_;refine aM O O O O O O dR ?_;refine aB<|aA<|rgN<|kfa O O ?_;refine kl1 O O O<|kmv O<|keq O O (cU hme)<|kmv O<|gmv O O O<|aX O O (cS h0) (dS O O) ?_;refine kpt O O<|aB<|aF O ?_;refine aH ?_;refine rgN<|kad O O hadd<|kmv O<|aB ?_)
      exact ⟨_,frSt old (some ⟨blk,off,none⟩) rs.length cap (i+1) (fromP (rs.take i) old) row X,by omega,Le.ofR [(500,500)] (by exact ⟨rfl,rfl,rfl,rfl,rfl,trivial⟩) (by repeat' (first|exact trivial|refine cQ ⟨_,rfl,?_⟩ ?_|refine cQ ⟨_,rfl⟩ ?_|rfl|exact bX _ _ _ _|exact bY _ _ _ _|exact bZ rfl)) (by exact rfl) (by exact rfl) (by repeat' (first|refine bT ?_ ?_|rfl|exact bV|exact bU|exact bW rfl)) (by exact rfl) (by exact rfl),i+1,row,by omega,rfl,hst⟩
    · (refine aA<|rgN<|klt O O (cP (by omega))<|aB<|aA<|aE O ?_;refine aH ?_;refine aA<|aG<|aA<|rgN<|aR O O cC (by omega) hio dR<|aY O hX (by kernel_rfl) hsiz hcs dR<|aP O dR ?_;refine aM O O O O O O dR ?_;refine aB<|aA<|rgN<|kfa O O ?_;refine kl1 O O O<|kmv O<|keq O O (cR hme)<|kmv O<|aC O O O<|aC O O O<|kpf O O<|aB<|aF O ?_;refine aH ?_;refine rgN<|kad O O hadd<|kmv O<|aB ?_)
      exact ⟨_,frSt old (some ⟨blk,off,none⟩) rs.length cap (i+1) (fromP (rs.take i) old) row X,by omega,Le.ofR [(500,500)] (by exact ⟨rfl,rfl,rfl,rfl,rfl,trivial⟩) (by repeat' (first|exact trivial|refine cQ ⟨_,rfl,?_⟩ ?_|refine cQ ⟨_,rfl⟩ ?_|rfl|exact bX _ _ _ _|exact bY _ _ _ _|exact bZ rfl)) (by exact rfl) (by exact rfl) (by repeat' (first|refine bT ?_ ?_|rfl|exact bV|exact bU|exact bW rfl)) (by exact rfl) (by exact rfl),i+1,row,by omega,rfl,hst⟩
end Go.Proofs.YtamplgnbbanamaaGreatDoor
end
section
namespace Go.Proofs.YtamplgnbbanamaaGreatDoor
open Go Go.Lg Go.Lg.Fml Go.Lg.Fld Go.Lg.Arith
set_option maxRecDepth 100000
def e4:List UInt8×Bool→Nat×List UInt8×Bool
  | (l,b)=>if b=false∧4≤l.length then (le (l.take 4),l.drop 4,false) else (0,l,true)
theorem e4_less (x:List UInt8×Bool):Lss x (e4 x).2:=by
  obtain ⟨l,b⟩:=x
  unfold e4
  simp only
  by_cases h:b=false∧4≤l.length
  · rw [if_pos h];exact ⟨by simp only [dA];omega,fun e=>(by rw [h.1] at e;cases e)⟩
  · rw [if_neg h];exact ⟨dN _,fun _=>rfl⟩
theorem e4_lt (x:List UInt8×Bool):(e4 x).1<4294967296:=by
  obtain ⟨l,b⟩:=x
  unfold e4
  simp only
  split
  · exact le4 l
  · show 0<4294967296
    omega
theorem e4_cons (a b c d:UInt8) (r:List UInt8):e4 (a::b::c::d::r,false)=(le [a,b,c,d],r,false):=by
  have h:(false=false∧4≤(a::b::c::d::r).length):=⟨rfl,by simp⟩
  show (if false=false∧4≤(a::b::c::d::r).length then (le ((a::b::c::d::r).take 4),(a::b::c::d::r).drop 4,false) else (0,a::b::c::d::r,true))=_
  rw [if_pos h]
  rfl
theorem eS_good {l l':List UInt8} {b:Bool} {c:UInt8} (h:eS (l,b)=(c,l',false)):b=false∧l=c::l':=by
  cases b<;>cases l<;>simp [eS] at h
  exact ⟨rfl,by rw [h.1,h.2]⟩
structure KE (l:List UInt8) (b:Bool) (c:List Ins) (l':List UInt8) (b':Bool):Prop where
  less:l'.length≤l.length
  bad:b=true→b'=true
  ok:c.length<256∧∀ x∈c,smallI x
  get:(b=false∧b'=false∧getE l=some (c,l'))∨((b=true∨getE l=none)∧(b'=true∨c=[]))
structure KEs (l:List UInt8) (b:Bool) (i:Nat) (cs:List (List Ins)) (l':List UInt8) (b':Bool):Prop where
  len:cs.length=i
  less:l'.length≤l.length
  bad:b=true→b'=true
  ok:∀ c∈cs,c.length<256∧∀ x∈c,smallI x
  get:(b=false∧b'=false∧getEs i l=some (cs,l'))∨((b=true∨∀ k,getEs (i+k) l=none)∧(b'=true∨[]∈cs))
theorem KEs.nil (l:List UInt8) (b:Bool):KEs l b 0 [] l b:=⟨rfl,dN _,id,fun c h=>(by cases h),by
  cases b with
  | false=>exact .inl ⟨rfl,rfl,rfl⟩
  | true=>exact .inr ⟨.inl rfl,.inl rfl⟩⟩
theorem KEs.step {l l' l2:List UInt8} {b b' b2:Bool} {i:Nat} {cs:List (List Ins)} {c:List Ins} (h:KEs l b i cs l' b') (h2:KE l' b' c l2 b2):KEs l b (i+1) (cs++[c]) l2 b2:=⟨by rw [cV,h.len];rfl,Nat.le_trans h2.less h.less,fun e=>h2.bad (h.bad e),fun d hd=>by
  rcases List.mem_append.1 hd with hd|hd
  · exact h.ok d hd
  · rw [List.mem_singleton.1 hd];exact h2.ok,by
  rcases h.get with ⟨g1,g2,g3⟩|⟨g1,g2⟩
  · rcases h2.get with ⟨_,f2,f3⟩|⟨f1,f2⟩
    · exact .inl ⟨g1,f2,getEs_step g3 f3⟩
    · refine .inr ⟨.inr fun k => ?_,?_⟩
      · rcases f1 with f1|f1
        · rw [g2] at f1;cases f1
        · exact getEs_fail g3 (by omega) f1
      · rcases f2 with f2|f2
        · exact .inl f2
        · exact .inr (by rw [f2];simp)
  · refine .inr ⟨?_,?_⟩
    · rcases g1 with g1|g1
      · exact .inl g1
      · exact .inr fun k=>by rw [Nat.add_assoc];exact g1 _
    · rcases g2 with g2|g2
      · exact .inl (h2.bad g2)
      · exact .inr (List.mem_append_left _ g2)⟩
def okK (r:Rl):Prop:=(0≤r.nw∧r.nw<256)∧(0≤r.old∧r.old<256)∧r.ex.length<256∧∀ c∈r.ex,c.length<256∧∀ x∈c,smallI x
structure KR (l:List UInt8) (b:Bool) (r:Rl) (l':List UInt8) (b':Bool):Prop where
  less:l'.length≤l.length
  bad:b=true→b'=true
  ok:okK r
  get:(b=false∧b'=false∧getRl l=some (r,l'))∨((b=true∨getRl l=none)∧(b'=true∨[]∈r.ex))
theorem KR.mk' {l l1 l2 l3 l':List UInt8} {b b1 b2 b3 b':Bool} {c0 c1 c2:UInt8} {cs:List (List Ins)} (h0:eS (l,b)=(c0,l1,b1)) (h1:eS (l1,b1)=(c1,l2,b2)) (h2:eS (l2,b2)=(c2,l3,b3)) (h:KEs l3 b3 c2.toNat cs l' b'):KR l b ⟨(c0.toNat:Nat),(c1.toNat:Nat),cs⟩ l' b':=by
  have k0:=eS_less (l,b)
  have k1:=eS_less (l1,b1)
  have k2:=eS_less (l2,b2)
  rw [h0] at k0
  rw [h1] at k1
  rw [h2] at k2
  have hc0:=c0.toNat_lt
  have hc1:=c1.toNat_lt
  have hc2:=c2.toNat_lt
  have hl:=h.len
  refine ⟨Nat.le_trans h.less (Nat.le_trans k2.1 (Nat.le_trans k1.1 k0.1)),fun e=>h.bad (k2.2 (k1.2 (k0.2 e))),⟨⟨by simp only;omega,by simp only;omega⟩,⟨by simp only;omega,by simp only;omega⟩,by show cs.length<256;omega,h.ok⟩,?_⟩
  cases hb3:b3 with
  | false =>
    rw [hb3] at h2
    obtain ⟨e2,q2⟩:=eS_good h2
    rw [e2] at h1
    obtain ⟨e1,q1⟩:=eS_good h1
    rw [e1] at h0
    obtain ⟨e0,q0⟩:=eS_good h0
    subst q2 q1 q0
    rcases h.get with ⟨_,g2,g3⟩|⟨g1,g2⟩
    · exact .inl ⟨e0,g2,getRl_yes g3⟩
    · refine .inr ⟨.inr ?_,g2⟩
      rcases g1 with g1|g1
      · rw [hb3] at g1;cases g1
      · exact getRl_no (g1 0)
  | true =>
    rcases h.get with ⟨g1,_⟩|⟨_,g2⟩
    · rw [hb3] at g1;cases g1
    refine .inr ⟨?_,g2⟩
    cases hb:b with
    | true=>exact .inl rfl
    | false =>
      refine .inr ?_
      subst hb
      match l,h0 with
      | [],_=>rfl
      | [_],h0 =>
        simp only [eS,Prod.mk.injEq] at h0
        rfl
      | [_,_],_=>rfl
      | x::y::z::t,h0 =>
        simp only [eS,Prod.mk.injEq] at h0
        obtain ⟨_,rfl,rfl⟩:=h0
        simp only [eS,Prod.mk.injEq] at h1
        obtain ⟨_,rfl,rfl⟩:=h1
        simp only [eS,Prod.mk.injEq] at h2
        obtain ⟨_,_,h2⟩:=h2
        rw [hb3] at h2
        cases h2
structure KRs (l:List UInt8) (b:Bool) (i:Nat) (rs:List Rl) (l':List UInt8) (b':Bool):Prop where
  len:rs.length=i
  less:l'.length≤l.length
  bad:b=true→b'=true
  ok:∀ r∈rs,okK r
  get:(b=false∧b'=false∧getRls i l=some (rs,l'))∨((b=true∨∀ k,getRls (i+k) l=none)∧(b'=true∨∃ r∈rs,[]∈r.ex))
theorem KRs.nil (l:List UInt8) (b:Bool):KRs l b 0 [] l b:=⟨rfl,dN _,id,fun c h=>(by cases h),by
  cases b with
  | false=>exact .inl ⟨rfl,rfl,rfl⟩
  | true=>exact .inr ⟨.inl rfl,.inl rfl⟩⟩
theorem KRs.step {l l' l2:List UInt8} {b b' b2:Bool} {i:Nat} {rs:List Rl} {r:Rl} (h:KRs l b i rs l' b') (h2:KR l' b' r l2 b2):KRs l b (i+1) (rs++[r]) l2 b2:=⟨by rw [cV,h.len];rfl,Nat.le_trans h2.less h.less,fun e=>h2.bad (h.bad e),fun d hd=>by
  rcases List.mem_append.1 hd with hd|hd
  · exact h.ok d hd
  · rw [List.mem_singleton.1 hd];exact h2.ok,by
  rcases h.get with ⟨g1,g2,g3⟩|⟨g1,g2⟩
  · rcases h2.get with ⟨_,f2,f3⟩|⟨f1,f2⟩
    · exact .inl ⟨g1,f2,getRls_step g3 f3⟩
    · refine .inr ⟨.inr fun k => ?_,?_⟩
      · rcases f1 with f1|f1
        · rw [g2] at f1;cases f1
        · exact getRls_fail g3 (by omega) f1
      · rcases f2 with f2|f2
        · exact .inl f2
        · exact .inr ⟨r,by simp,f2⟩
  · refine .inr ⟨?_,?_⟩
    · rcases g1 with g1|g1
      · exact .inl g1
      · exact .inr fun k=>by rw [Nat.add_assoc];exact g1 _
    · rcases g2 with g2|⟨q,hq,g2⟩
      · exact .inl (h2.bad g2)
      · exact .inr ⟨q,List.mem_append_left _ hq,g2⟩⟩
theorem chk_nilE {p:Pg} (h:∃ r∈p.rs,[]∈r.ex):chkP p≠0:=fun h0=>by
  obtain ⟨r,hr,hx⟩:=h
  obtain ⟨last,hl⟩:=chkRs_mem (chkP_zero h0).2.2.1 r hr
  have:=firstX_zero (chkR_zero hl).2.2.2.2.2 [] hx
  exact absurd this (by decide)
theorem decP_k {s l1 l2 l3 l4 l':List UInt8} {b1 b2 b3 b4 b':Bool} {c m:UInt8} {va vb:Nat} {rs:List Rl} (h1:eS (s,false)=(c,l1,b1)) (h2:e4 (l1,b1)=(va,l2,b2)) (h3:e4 (l2,b2)=(vb,l3,b3)) (h4:eS (l3,b3)=(m,l4,b4)) (h:KRs l4 b4 m.toNat rs l' b'):
    decP s=if (!b'&&(l'==[]))=true∧c.toNat=77∧chkP ⟨(va:Nat),(vb:Nat),rs⟩=0 then some ⟨(va:Nat),(vb:Nat),rs⟩ else none:=by
  have hbad:(b'=true∨∃ r∈rs,[]∈r.ex)→¬((!b'&&(l'==[]))=true∧c.toNat=77∧chkP ⟨(va:Nat),(vb:Nat),rs⟩=0):=fun h ⟨q1,_,q3⟩=>by
    rcases h with h|h
    · rw [h] at q1;cases q1
    · exact chk_nilE (p:=⟨va,vb,rs⟩) h q3
  by_cases h10:s.length<10
  · rw [decP_short h10]
    have hb4:b4=true:=by
      cases hb:b4 with
      | true=>rfl
      | false =>
        exfalso
        rw [hb] at h4
        obtain ⟨e3,q3⟩:=eS_good h4
        have good4:∀ {l l':List UInt8} {b:Bool} {v:Nat},e4 (l,b)=(v,l',false)→b=false∧4+l'.length=l.length:=fun {l l' b v} h=>by
          unfold e4 at h
          simp only at h
          split at h
          · rename_i hc
            simp only [Prod.mk.injEq] at h
            exact ⟨hc.1,by rw [← h.2.1,dA];omega⟩
          · simp only [Prod.mk.injEq] at h
            exact absurd h.2.2 (by decide)
        rw [e3] at h3
        obtain ⟨e2,q2⟩:=good4 h3
        rw [e2] at h2
        obtain ⟨e1,q1⟩:=good4 h2
        rw [e1] at h1
        obtain ⟨_,q0⟩:=eS_good h1
        rw [q3,dI] at q2
        rw [q0,dI] at h10
        omega
    rcases h.get with ⟨g1,_⟩|⟨_,g2⟩
    · rw [hb4] at g1;cases g1
    · rw [if_neg (hbad g2)]
  obtain ⟨c',a0,a1,a2,a3,b0,b1',b2',b3',nb,r,rfl⟩:∃ c a0 a1 a2 a3 b0 b1 b2 b3 nb r,s=c::a0::a1::a2::a3::b0::b1::b2::b3::nb::r:=by
    match s,h10 with
    | c::a0::a1::a2::a3::b0::b1::b2::b3::nb::r,_=>exact ⟨c,a0,a1,a2,a3,b0,b1,b2,b3,nb,r,rfl⟩
    | [],h=>exact absurd (by simp) h
    | [_],h=>exact absurd (by simp) h
    | [_,_],h=>exact absurd (by simp) h
    | [_,_,_],h=>exact absurd (by simp) h
    | [_,_,_,_],h=>exact absurd (by simp) h
    | [_,_,_,_,_],h=>exact absurd (by simp) h
    | [_,_,_,_,_,_],h=>exact absurd (by simp) h
    | [_,_,_,_,_,_,_],h=>exact absurd (by simp) h
    | [_,_,_,_,_,_,_,_],h=>exact absurd (by simp) h
    | [_,_,_,_,_,_,_,_,_],h=>exact absurd (by simp) h
  simp only [eS,Prod.mk.injEq] at h1
  obtain ⟨rfl,rfl,rfl⟩:=h1
  rw [e4_cons] at h2
  simp only [Prod.mk.injEq] at h2
  obtain ⟨rfl,rfl,rfl⟩:=h2
  rw [e4_cons] at h3
  simp only [Prod.mk.injEq] at h3
  obtain ⟨rfl,rfl,rfl⟩:=h3
  simp only [eS,Prod.mk.injEq] at h4
  obtain ⟨rfl,rfl,rfl⟩:=h4
  by_cases hm:c'=77
  case neg =>
    rw [decP_head hm,if_neg]
    rintro ⟨_,e,_⟩
    exact hm (UInt8.toNat_inj.1 e)
  subst hm
  rw [decP_long]
  rcases h.get with ⟨_,g2,g3⟩|⟨g1,g2⟩
  · rw [g3,g2]
    cases l' with
    | nil =>
      simp only
      by_cases hz:chkP ⟨(le [a0,a1,a2,a3]:Nat),(le [b0,b1',b2',b3']:Nat),rs⟩=0
      · rw [if_pos hz,if_pos ⟨rfl,rfl,hz⟩]
      · rw [if_neg hz,if_neg (fun h=>hz h.2.2)]
    | cons x t =>
      rw [if_neg]
      rintro ⟨e,_⟩
      cases e
  · rw [if_neg (hbad g2)]
    rcases g1 with g1|g1
    · cases g1
    · have:=g1 0
      rw [Nat.add_zero] at this
      rw [this]
theorem okK_small {r:Rl} (h:okK r):smallR r:=⟨by have:=h.1;omega,by have:=h.2.1;omega⟩
theorem okK_size {rs:List Rl} (h:∀ r∈rs,okK r):sizeR rs:=fun r hr=>⟨by have:=(h r hr).2.2.1;omega,fun c hc=>by have:=((h r hr).2.2.2 c hc).1;omega⟩
variable (X:Nat→Option Obj)
theorem Num4_e (l:List UInt8) (b:Bool) (hl:l.length<4611686018427387904):MSpec Tryz.prog X 34 [Lp 1000000,Ln .i64 4] (rd 1000000 l b) (Ln .u64 ((e4 (l,b)).1:Nat)) (rd 1000000 (e4 (l,b)).2.1 (e4 (l,b)).2.2):=by
  by_cases h:b=false∧4≤l.length
  · obtain ⟨rfl,h4⟩:=h
    rw [show e4 (l,false)=(le (l.take 4),l.drop 4,false) from if_pos ⟨rfl,h4⟩]
    exact Num_ok X l 4 O h4 hl
  · rw [show e4 (l,b)=(0,l,true) from if_neg h]
    refine Num_no X l b 4 ?_
    unfold rawOk
    cases b with
    | true=>rfl
    | false =>
      rw [cO (fun h2=>h ⟨rfl,by have:=h2.2;omega⟩)]
      rfl
def lfB (l:List UInt8) (b:Bool):Nat:=if b=true then 0 else l.length
def ePt:List UInt8×Bool→List UInt8×List UInt8×Bool
  | (l,b)=>if partOk l b (lfB l b:Nat)=true then ((l.drop 4).take (le (l.take 4)),(l.drop 4).drop (le (l.take 4)),false)
    else if b=false∧4≤l.length then ([],l.drop 4,true) else ([],l,true)
theorem Part_e (l:List UInt8) (b:Bool) (hl:l.length<4611686018427387904):MSpec Tryz.prog X 60 [Lp 1000000,Ln .i64 (lfB l b:Nat)] (rd 1000000 l b) (Ls (ePt (l,b)).1) (rd 1000000 (ePt (l,b)).2.1 (ePt (l,b)).2.2):=by
  have hlf:lfB l b≤l.length:=by unfold lfB;split<;>omega
  by_cases hp:partOk l b (lfB l b:Nat)=true
  · rw [show ePt (l,b)=((l.drop 4).take (le (l.take 4)),(l.drop 4).drop (le (l.take 4)),false) from if_pos hp]
    cases b with
    | true=>cases hp
    | false=>exact Part_ok X l (lfB l false:Nat) (by omega) hp hl
  have hp2:partOk l b (lfB l b:Nat)=false:=by
    cases h:partOk l b (lfB l b:Nat) with
    | true=>exact absurd h hp
    | false=>rfl
  have he:ePt (l,b)=if b=false∧4≤l.length then ([],l.drop 4,true) else ([],l,true):=if_neg hp
  rw [he]
  have wm:IntKind.u64.wrap ((lfB l b:Nat):Int)=((lfB l b:Nat):Int):=by rw [IntKind.wrap_u64];omega
  by_cases h:b=false∧4≤l.length
  · rw [if_pos h]
    obtain ⟨rfl,h1⟩:=h
    have h4:=le4 l
    have hN:=Num_ok X l 4 rfl h1 hl
    have hd:(l.drop 4).length=l.length-4:=dA
    have hq:¬((le (l.take 4):Int)≤(lfB l false:Nat)∧le (l.take 4)≤l.length-4):=by
      intro ⟨q1,q2⟩
      unfold partOk at hp2
      rw [cP h1,cP q1,cP q2] at hp2
      cases hp2
    clear hp hp2 he
    generalize lfB l false=most at *
    generalize le (l.take 4)=z at *
    generalize l.drop 4=t at *
    refine cG Tryz.func60 rfl (by kernel_rfl) rfl rfl rfl rfl rfl ?_
    intro C
    by_cases hz:(z:Int)≤most
    · have h2:rawOk t false (z:Nat)=false:=by unfold rawOk;rw [cO (by omega)];rfl
      (refine aA<|rgN<|kas O<|aB<|aA<|rgN<|kmv O<|aU [] (rd 1000000 t false) (hN) O O (by exact (cQ ⟨_,O,O⟩ trivial)) (by exact (bT (bT O (bT O O)) O)) O O O O (by exact (.box O O .nil)) dR<|kas O<|aB<|aA<|aA<|rgN<|kmv O ?_;refine klt O O (cO (by omega))<|kmv O<|gmv O O O<|gmv O O O<|K.conv O wm (dS O O) ?_;refine aS O O (cO (by omega)) (dS O O) ?_;refine kpf O O<|aB<|aF O ?_;refine aH ?_;refine aA<|rgN<|kmv O<|kmv O<|kcv O (by exact cH (by omega)) ?_;refine aU [] (rd 1000000 t true) (Raw_no X t false (z:Nat) h2) O O (by exact (cQ ⟨_,O,O⟩ trivial)) (by exact (bT (bT O (bT O O)) O)) O O O O (by exact (.box O O .nil)) dR<|kas O<|aB<|aI ?_)
      exact ⟨[],⟨[_],⟨O,trivial⟩,O⟩,⟨⟨_,O,O⟩,trivial⟩,O,O⟩
    · (refine aA<|rgN<|kas O<|aB<|aA<|rgN<|kmv O<|aU [] (rd 1000000 t false) (hN) O O (by exact (cQ ⟨_,O,O⟩ trivial)) (by exact (bT (bT O (bT O O)) O)) O O O O (by exact (.box O O .nil)) dR<|kas O<|aB<|aA<|aA<|rgN<|kmv O ?_;refine klt O O (cO (by omega))<|kmv O<|gmv O O O<|gmv O O O<|K.conv O wm (dS O O) ?_;refine aS O O (cP (by omega)) (dS O O) ?_;refine kpf O O<|aB<|aE O ?_;refine aA<|rgN<|kmv O<|aU [] (rd 1000000 t true) (spoil_spec X t false) O O (by exact (cQ ⟨_,O,O⟩ trivial)) (by exact (bT (bT O (bT O O)) O)) O O O O (by exact (.box O O .nil)) dR<|aB<|aA<|rgN<|kas O<|aB<|aI ?_)
      exact ⟨[],⟨[_],⟨O,trivial⟩,O⟩,⟨⟨_,O,O⟩,trivial⟩,O,O⟩
  · rw [if_neg h]
    have hb:(isW 4&&rawOk l b 4)=false:=by
      unfold rawOk
      cases b with
      | true=>rfl
      | false=>rw [cO (fun h2=>h ⟨rfl,by have:=h2.2;omega⟩)];rfl
    have h1:=Num_no X l b 4 hb
    clear hp hp2 he
    generalize lfB l b=most at *
    refine cG Tryz.func60 rfl (by kernel_rfl) rfl rfl rfl rfl rfl ?_
    intro C
    (refine aA<|rgN<|kas O<|aB<|aA<|rgN<|kmv O<|aU [] (rd 1000000 l true) (h1) O O (by exact (cQ ⟨_,O,O⟩ trivial)) (by exact (bT (bT O (bT O O)) O)) O O O O (by exact (.box O O .nil)) dR<|kas O<|aB<|aA<|aA<|rgN<|kmv O ?_;refine klt O O (cO (by omega))<|kmv O<|gmv O O O<|gmv O O O<|K.conv O wm (dS O O) ?_;refine aS O O (cO (by omega)) (dS O O) ?_;refine kpf O O<|aB<|aF O ?_;refine aH ?_;refine aA<|rgN<|kmv O<|kmv O<|kcv O (by exact cH (by omega)) ?_;refine aU [] (rd 1000000 l true) (Raw_no X l true 0 O) O O (by exact (cQ ⟨_,O,O⟩ trivial)) (by exact (bT (bT O (bT O O)) O)) O O O O (by exact (.box O O .nil)) dR<|kas O<|aB<|aI ?_)
    exact ⟨[],⟨[_],⟨O,trivial⟩,O⟩,⟨⟨_,O,O⟩,trivial⟩,O,O⟩
def rqE (x:List UInt8×Bool):List Ins×List UInt8×Bool:=(match decX (ePt x).1 with|some c=>c|none=>[],(ePt x).2)
theorem rqE_some {x:List UInt8×Bool} {c:List Ins} (h:decX (ePt x).1=some c):rqE x=(c,(ePt x).2):=by unfold rqE;rw [h]
theorem rqE_none {x:List UInt8×Bool} (h:decX (ePt x).1=none):rqE x=([],(ePt x).2):=by unfold rqE;rw [h]
theorem ePt_len (l:List UInt8) (b:Bool):(ePt (l,b)).1.length≤l.length∧(ePt (l,b)).2.1.length≤l.length:=by
  unfold ePt
  simp only
  split
  · simp only [cZ,dA];omega
  · split
    · simp only [dO,dA];omega
    · simp only [dO];omega
theorem rqE_k (l:List UInt8) (b:Bool):KE l b (rqE (l,b)).1 (rqE (l,b)).2.1 (rqE (l,b)).2.2:=by
  have hlen:=(ePt_len l b).2
  by_cases hp:partOk l b (lfB l b:Nat)=true
  · have he:ePt (l,b)=((l.drop 4).take (le (l.take 4)),(l.drop 4).drop (le (l.take 4)),false):=if_pos hp
    cases b with
    | true=>cases hp
    | false =>
      simp only [partOk,Bool.not_false,Bool.true_and,Bool.and_eq_true,decide_eq_true_eq] at hp
      obtain ⟨p1,_,p3⟩:=hp
      have hg:=getE_at p1 (by rw [dA];exact p3)
      cases hd:decX ((l.drop 4).take (le (l.take 4))) with
      | none =>
        rw [rqE_none (by rw [he];exact hd)]
        rw [hd] at hg
        rw [he] at hlen ⊢
        exact ⟨hlen,fun e=>(by cases e),⟨(by show (0:Nat)<256;decide),fun x hx=>(by cases hx)⟩,.inr ⟨.inr hg,.inr rfl⟩⟩
      | some c =>
        rw [rqE_some (by rw [he];exact hd)]
        rw [hd] at hg
        rw [he] at hlen ⊢
        have hc:=(chkX_zero (encX_dec hd).2.2.1).1
        exact ⟨hlen,fun e=>(by cases e),⟨by simp only;omega,small_dec hd⟩,.inl ⟨rfl,rfl,hg⟩⟩
  · have hp2:partOk l b (lfB l b:Nat)=false:=by
      cases h:partOk l b (lfB l b:Nat) with
      | true=>exact absurd h hp
      | false=>rfl
    have he:ePt (l,b)=if b=false∧4≤l.length then ([],l.drop 4,true) else ([],l,true):=if_neg hp
    have h0:(ePt (l,b)).1=[]∧(ePt (l,b)).2.2=true:=by rw [he];split<;>exact ⟨rfl,rfl⟩
    rw [rqE_none (by rw [h0.1];rfl)]
    simp only
    rw [h0.2]
    refine ⟨hlen,fun _=>rfl,⟨(by show (0:Nat)<256;decide),fun x hx=>(by cases hx)⟩,.inr ⟨?_,.inl rfl⟩⟩
    cases b with
    | true=>exact .inl rfl
    | false =>
      refine .inr ?_
      have hp2:partOk l false (l.length:Nat)=false:=hp2
      by_cases q1:4≤l.length
      · refine getE_long q1 ?_
        rw [dA]
        by_cases q2:le (l.take 4)≤l.length-4
        · exfalso
          unfold partOk at hp2
          rw [cP q1,cP q2,cP (show (le (l.take 4):Int)≤(l.length:Nat) by omega)] at hp2
          cases hp2
        · omega
      · exact getE_short (by omega)
def rqEs (x:List UInt8×Bool):Nat→List (List Ins)×List UInt8×Bool
  | 0=>([],x)
  | n+1=>((rqEs x n).1++[(rqE (rqEs x n).2).1],(rqE (rqEs x n).2).2)
theorem rqEs_k (l:List UInt8) (b:Bool):∀ n,KEs l b n (rqEs (l,b) n).1 (rqEs (l,b) n).2.1 (rqEs (l,b) n).2.2
  | 0=>KEs.nil l b
  | n+1=>(rqEs_k l b n).step (rqE_k _ _)
def rqR (x:List UInt8×Bool):Rl×List UInt8×Bool:=
  (⟨((eS x).1.toNat:Nat),((eS (eS x).2).1.toNat:Nat),(rqEs (eS (eS (eS x).2).2).2 (eS (eS (eS x).2).2).1.toNat).1⟩,(rqEs (eS (eS (eS x).2).2).2 (eS (eS (eS x).2).2).1.toNat).2)
theorem rqR_k (l:List UInt8) (b:Bool):KR l b (rqR (l,b)).1 (rqR (l,b)).2.1 (rqR (l,b)).2.2:=KR.mk' rfl rfl rfl (rqEs_k _ _ _)
def rqRs (x:List UInt8×Bool):Nat→List Rl×List UInt8×Bool
  | 0=>([],x)
  | n+1=>((rqRs x n).1++[(rqR (rqRs x n).2).1],(rqR (rqRs x n).2).2)
theorem rqRs_k (l:List UInt8) (b:Bool):∀ n,KRs l b n (rqRs (l,b) n).1 (rqRs (l,b) n).2.1 (rqRs (l,b) n).2.2
  | 0=>KRs.nil l b
  | n+1=>(rqRs_k l b n).step (rqR_k _ _)
end Go.Proofs.YtamplgnbbanamaaGreatDoor
end
section
namespace Go.Proofs.YtamplgnbbanamaaGreatDoor
open Go Go.Lg Go.Lg.Fml Go.Lg.Fld Go.Lg.Arith
set_option maxRecDepth 100000
def zerR (k:Nat):List Value:=(List.replicate k [Value.int .i64 0,.int .i64 0,.slice none 0 0]).flatten
theorem zerR_succ (k:Nat):zerR (k+1)=[Value.int .i64 0,.int .i64 0,.slice none 0 0]++zerR k:=by unfold zerR;rw [List.replicate_succ,List.flatten_cons]
theorem zerR_len (k:Nat):(zerR k).length=k*3:=by
  induction k with
  | zero=>rfl
  | succ k ih=>rw [zerR_succ,cV,ih];simp;omega
section
variable {n:Nat} {C:Ctx} {X:Nat→Option Obj} {s:List (Nat×LV)} {bx:List (Nat×Option Box)} {k:Nat}
theorem rl_shutW {P:Program} {Q:Exit→St→Prop} {c:Code} {t:TypeId} {rs:List Rl} {H:Nat→Option Obj} {ws:List Value} (hO:OwnedM C X H) (G:RulesH H ws rs) (hs:∀ r∈rs,smallR r)
    (h:LWP P n C c Q ⟨s,rlB t k rs::bx,X⟩):LWP P n C c Q ⟨s,(k,some ⟨t,(rwZ rs ws).map .val,false⟩)::bx,joinM X H⟩:=by
  refine LWP.closeRes (vals:=rwZ rs ws) hO (fun ρ fr h1 h2 h3 => ?_) h
  refine ⟨⟨_,fr,cN _ _ _,by rw [h3];simp⟩,?_⟩
  exact rules_block (sp:=[]) (cN _ _ _) (by simp) (G.mono (cJ h1)) hs
end
variable (X:Nat→Option Obj)
theorem kTake (l:List UInt8) (b:Bool) (hl:l.length<4611686018427387904):MSpec Tryz.prog X 33 [Lp 1000000] (rd 1000000 l b) (Ln .i64 ((eS (l,b)).1.toNat:Nat)) (rd 1000000 (eS (l,b)).2.1 (eS (l,b)).2.2):=by
  have h:=eNum1 X l b hl
  have hk:=(eS (l,b)).1.toNat_lt
  generalize (eS (l,b)).1.toNat=k at *
  generalize (eS (l,b)).2.1=l2 at *
  generalize (eS (l,b)).2.2=b2 at *
  refine cG Tryz.func33 rfl (by kernel_rfl) rfl rfl rfl rfl rfl ?_
  intro C
  have hw:IntKind.i64.wrap ((k:Nat):Int)=((k:Nat):Int):=cH (by omega)
  (refine aA<|rgN<|kas O<|aB<|aA<|rgN<|kmv O<|aU [] (rd 1000000 l2 b2) (h) O O (by exact (cQ ⟨_,O,O⟩ trivial)) (by exact (bT (bT O (bT O O)) O)) O O O O (by exact (.box O O .nil)) dR<|kcv O hw ?_;refine kas O<|aB<|aI ?_)
  exact ⟨[],⟨[_],⟨O,trivial⟩,O⟩,⟨⟨_,O,O⟩,trivial⟩,O,O⟩
abbrev rdB' (k:Nat) (l:List UInt8) (b:Bool):Nat×Option Box:=(k,some ⟨109,[vs l,.val (.bool b)],false⟩)
abbrev trSt (nw old:Int) (l:List UInt8) (b:Bool) (m i:Nat) (cells:List Value) (Y:Nat→Option Obj):St:=
  ⟨[(0,Lp 1000000),(2,Lp 2),(3,Lp 3),(16,Ln .i64 (m:Nat)),(17,Ln .i64 (i:Nat))],[(12,some ⟨68,cells.map .val,false⟩),rdB' 1000000 l b,(3,some ⟨46,[.val (.int .i64 nw),.val (.int .i64 old),.slc 12 0 m 1],false⟩),v3B 46 2 0 0 none 0 0],Y⟩
set_option maxHeartbeats 6400000 in
theorem kTakeRule (l:List UInt8) (b:Bool) (hl:l.length≤1099511627776):MSpec Tryz.prog X 35 [Lp 1000000] (rd 1000000 l b) (.sv (SRs (rqR (l,b)).1 1000001)) (rd 1000000 (rqR (l,b)).2.1 (rqR (l,b)).2.2++[cdB 1000001 (rqR (l,b)).1.ex]):=by
  have h1:=kTake X l b (by omega)
  have g1:=(eS_less (l,b)).1
  have k1:=(eS (l,b)).1.toNat_lt
  unfold rqR
  rcases hy1:eS (l,b) with ⟨c0,l1,b1⟩
  rw [hy1] at h1 g1 k1
  simp only at h1 g1 k1 ⊢
  have h2:=kTake X l1 b1 (by omega)
  have g2:=(eS_less (l1,b1)).1
  have k2:=(eS (l1,b1)).1.toNat_lt
  rcases hy2:eS (l1,b1) with ⟨c1,l2,b2⟩
  rw [hy2] at h2 g2 k2
  simp only at h2 g2 k2 ⊢
  have h3:=kTake X l2 b2 (by omega)
  have g3:=(eS_less (l2,b2)).1
  have k3:=(eS (l2,b2)).1.toNat_lt
  rcases hy3:eS (l2,b2) with ⟨c2,l3,b3⟩
  rw [hy3] at h3 g3 k3
  simp only at h3 g3 k3 ⊢
  generalize c2.toNat=m at *
  generalize ((c0.toNat:Nat):Int)=nw at *
  generalize ((c1.toNat:Nat):Int)=old at *
  have hmk:slcBuild Tryz.prog 44 m=some (nilV m,1,68):=slcBuild_one (by kernel_rfl) (by kernel_rfl) (by omega)
  refine cG Tryz.func35 rfl (by kernel_rfl) rfl (by exact (by repeat' (first|refine bT ?_ ?_|rfl|exact bV|exact bU|exact bW rfl))) (by exact (by repeat' (first|refine bT ?_ ?_|rfl|exact bV|exact bU|exact bW rfl))) rfl rfl ?_
  intro C
  refine LWP.ends ?_
  (refine aA<|rgN<|aP O dR ?_;refine aB<|aA<|rgN<|kmv O<|aU [] (rd 1000000 l1 b1) (h1) O O (by exact (cQ ⟨_,O,O⟩ trivial)) (by exact (bT (bT O (bT O O)) O)) O O O O (by exact (.box O O .nil)) dR<|kmv O<|aU [] (rd 1000000 l2 b2) (h2) O O (by exact (cQ ⟨_,O,O⟩ trivial)) (by exact (bT (bT O (bT O O)) O)) O O O O (by exact (.box O O .nil)) dR<|aT O O (by exact O) (by exact nl3 O O O O) dR ?_;refine aP O dR ?_;refine aM O O O O O O dR ?_;refine aB<|aA<|rgN<|kmv O<|aU [] (rd 1000000 l3 b3) (h3) O O (by exact (cQ ⟨_,O,O⟩ trivial)) (by exact (bT (bT O (bT O O)) O)) O O O O (by exact (.box O O .nil)) dR<|K.makeSlc (m:=m) (bytes:=24) O O hmk (by kernel_rfl) (by omega) O O dR<|kfa O O ?_;refine bG O O O O O (nl3 O O O O) dR<|aB<|aA<|aA<|rgN<|kfa O O ?_;refine kl1 O O O<|K.lenSlc O cC O dR ?_;refine kmv O<|aB<|aG ?_)
  refine cM (fun k σ=>∃ (i:Nat) (cs:List (List Ins)) (l':List UInt8) (b':Bool) (vs:List Value) (H:Nat→Option Obj),i≤m∧k=m-i∧rqEs (l3,b3) i=(cs,l',b')∧OwnedM C X H∧FormsH H vs cs∧σ=trSt nw old l' b' m i (vs++nilV (m-i)) (joinM X H)) m
    (cE (σ':=trSt nw old l3 b3 m 0 ([]++nilV (m-0)) X) ?_ (cD ⟨0,[],l3,b3,[],fun _=>none,by omega,by omega,rfl,OwnedM.nil _ _,FormsH.nil,by rw [joinM_nil]⟩)) ?_
  · exact Le.of (by exact ⟨rfl,rfl,rfl,rfl,rfl,trivial⟩) (by exact ⟨rfl,rfl,rfl,rfl,trivial⟩) (by exact rfl) (by exact rfl) (by repeat' (first|refine bT ?_ ?_|rfl|exact bV|exact bU|exact bW rfl))
  rintro k σ ⟨i,cs,l',b',vs,H,hi,rfl,hT,hO,GF,rfl⟩
  have hK:=rqEs_k l3 b3 i
  rw [hT] at hK
  simp only at hK
  have hcn:cs.length=i:=hK.len
  have hl':=hK.less
  have hvl:vs.length=i:=by rw [GF.len,hcn]
  by_cases hlt:i<m
  · have hLf:=Left_spec (joinM X H) l' b'
    rw [show (if b'=true then (0:Int) else (l'.length:Nat))=((lfB l' b':Nat):Int) by unfold lfB;cases b'<;>rfl] at hLf
    have hPt:=Part_e (joinM X H) l' b' (by omega)
    have hT2:rqEs (l3,b3) (i+1)=(cs++[(rqE (l',b')).1],(rqE (l',b')).2):=by simp only [rqEs,hT]
    have hpl:=ePt_len l' b'
    have hix:0+Int.toNat (i:Int)*1=i:=by rw [dG];omega
    have hroom:i+1≤((vs++nilV (m-i)).map CV.val).length:=by rw [cW,cV,hvl,nilV_len];omega
    have hk:m-i=(m-(i+1))+1:=by omega
    have hadd:IntKind.i64.wrap (((i:Nat):Int)+1)=((i+1:Nat):Int):=by rw [cH (by omega)];omega
    cases hd:decX (ePt (l',b')).1 with
    | none =>
      rw [rqE_none hd] at hT2
      have hD:=gDecode_no (joinM X H) (ePt (l',b')).1 (by omega) hd
      rcases hy:ePt (l',b') with ⟨s,l4,b4⟩
      rw [hy] at hPt hT2 hD hpl
      simp only at hPt hT2 hD hpl
      have hspl:splice ((vs++nilV (m-i)).map CV.val) i [.val (.slice none 0 0)]=((vs++[Value.slice none 0 0])++nilV (m-(i+1))).map CV.val:=by
        rw [hk,nilV_splice hvl];simp
      (refine aA<|rgN<|klt O O (cP (by omega))<|aB<|aA<|aE O ?_;refine aH ?_;refine aA<|aG<|aA<|rgN<|kmv O<|kas O<|aB<|rgD mixed<|kfa O O ?_;refine kl1 O O O<|kmv O<|kmv O<|kmv O<|K.callR [(1000000,1000000)] (hLf) O O (by exact (cQ ⟨_,O,O⟩ trivial)) (by exact (bT (bT O (bT O O)) O)) O O O O dR<|aU [] (rd 1000000 l4 b4) (hPt) O O (by exact (cQ ⟨_,O,O⟩ trivial)) (by exact (bT (bT O (bT O O)) O)) O O O O (by exact (.box O O .nil)) dR<|kca O O hD<|kmv O<|kex O O<|kex O O<|K.indexSlc O O (by omega) hix dR ?_;refine K.store O O O O (by kernel_rfl) hroom hspl dR<|aB<|rgA ?_;refine rgN<|kad O O hadd<|kmv O<|aB ?_)
      exact cE (σ':=trSt nw old l4 b4 m (i+1) ((vs++[.slice none 0 0])++nilV (m-(i+1))) (joinM X H)) (Le.of (by exact ⟨O,O,O,O,O,trivial⟩) (by exact ⟨O,O,O,O,trivial⟩) (by exact O) (by exact O) (by repeat' (first|refine bT ?_ ?_|rfl|exact bV|exact bU|exact bW O))) (cD ⟨m-(i+1),by omega,i+1,cs++[[]],l4,b4,vs++[.slice none 0 0],H,by omega,O,hT2,hO,GF.push ⟨none,0,O,InsIn.nil'⟩,O⟩)
    | some c =>
      rw [rqE_some hd] at hT2
      have hD:=gDecode_ok (joinM X H) (ePt (l',b')).1 (by omega) hd
      have hsm:=small_dec hd
      rcases hy:ePt (l',b') with ⟨s,l4,b4⟩
      rw [hy] at hPt hT2 hD hpl
      simp only at hPt hT2 hD hpl
      have hspl:splice ((vs++nilV (m-i)).map CV.val) i [.slc 600 0 c.length 6]=vs.map CV.val ++ .slc 600 0 c.length 6::(nilV (m-(i+1))).map CV.val:=by
        rw [hk,nilV_splice hvl]
      (refine aA<|rgN<|klt O O (cP (by omega))<|aB<|aA<|aE O ?_;refine aH ?_;refine aA<|aG<|aA<|rgN<|kmv O<|kas O<|aB<|rgD mixed<|kfa O O ?_;refine kl1 O O O<|kmv O<|kmv O<|kmv O<|K.callR [(1000000,1000000)] (hLf) O O (by exact (cQ ⟨_,O,O⟩ trivial)) (by exact (bT (bT O (bT O O)) O)) O O O O dR<|aU [] (rd 1000000 l4 b4) (hPt) O O (by exact (cQ ⟨_,O,O⟩ trivial)) (by exact (bT (bT O (bT O O)) O)) O O O O (by exact (.box O O .nil)) dR<|bE [(1000001,600)] (.tup [.one (.slc 600 0 c.length 6),Sn .i64 0]) [inB 600 c] (hD) O O (by exact trivial) O O O O O (by exact (.box O (bY _ _ _ _) .nil)) dR<|kmv O<|kex O O<|kex O O<|K.indexSlc O O (by omega) hix dR ?_;refine K.store O O O O (by kernel_rfl) hroom hspl dR<|aB<|rgA ?_;refine rgN<|kad O O hadd<|kmv O<|aB ?_)
      refine cE (σ':=⟨[(0,Lp 1000000),(2,Lp 2),(3,Lp 3),(16,Ln .i64 (m:Nat)),(17,Ln .i64 (i+1:Nat))],[(12,some ⟨68,vs.map CV.val ++ .slc 600 0 c.length 6::(nilV (m-(i+1))).map CV.val,false⟩),inB 600 c,rdB' 1000000 l4 b4,(3,some ⟨46,[.val (.int .i64 nw),.val (.int .i64 old),.slc 12 0 m 1],false⟩),v3B 46 2 0 0 none 0 0],joinM X H⟩) (Le.of (by exact ⟨O,O,O,O,O,trivial⟩) (by exact ⟨O,O,O,O,O,trivial⟩) (by exact O) (by exact O) (by repeat' (first|refine bT ?_ ?_|rfl|exact bV|exact bU|exact bW O))) ?_
      refine Leads.closeCell hO (by have:=inssV_len c;rw [cW] at this;exact this) rfl bU bU rfl rfl rfl fun b o v q1 _ hO3 hv=>cD ⟨m-(i+1),by omega,i+1,cs++[c],l4,b4,vs++[v],withBlock H b o,by omega,rfl,hT2,hO3,(GF.mono (cJ q1)).push (ins_leads hv hsm),?_⟩
      unfold trSt
      simp
  · have e:i=m:=by omega
    subst e
    rw [hT]
    simp only
    rw [Nat.sub_self,show nilV 0=[] from rfl,dJ]
    subst hcn
    (refine aA<|rgN<|klt O O (cO (by omega))<|aB<|aA<|aF O ?_;refine aJ<|aA<|rgN<|aK O O O dR ?_;refine aM O O O O O O dR ?_;refine aB<|aI ?_)
    refine cE (σ':=⟨[(2,Lp 2)],[(12,some ⟨68,vs.map .val,false⟩),rdB' 1000000 l' b',(2,some ⟨46,[.val (.int .i64 nw),.val (.int .i64 old),.slc 12 0 cs.length 1],false⟩)],joinM X H⟩) (Le.of (by exact ⟨O,trivial⟩) (by exact ⟨O,O,O,trivial⟩) (by exact O) (by exact O) (by repeat' (first|refine bT ?_ ?_|rfl|exact bV|exact bU|exact bW O))) ?_
    refine cd_shut hO GF (cD ?_)
    exact ⟨[(1000001,12)],⟨[_],⟨⟨_,_,rfl,rfl,rfl,.inl ⟨AggT.h,rfl⟩⟩,trivial⟩,rfl⟩,(by repeat' (first|exact trivial|refine cQ ⟨_,rfl,?_⟩ ?_|refine cQ ⟨_,rfl⟩ ?_|rfl|exact bX _ _ _ _|exact bY _ _ _ _|exact bZ rfl)),rfl,rfl⟩
end Go.Proofs.YtamplgnbbanamaaGreatDoor
end
section
namespace Go.Proofs.YtamplgnbbanamaaGreatDoor
open Go Go.Lg Go.Lg.Fml Go.Lg.Fld Go.Lg.Arith
set_option maxRecDepth 100000
def kpR (s:List UInt8):LV:=match decP s with
  | none=>.tup [.agg [.val (.int .i64 0),.val (.int .i64 0),.val (.slice none 0 0)],Sn .i64 4]
  | some p=>.tup [.agg [.val (.int .i64 p.va),.val (.int .i64 p.vb),.slc 1000001 0 p.rs.length 3],Sn .i64 0]
def kpBx (s:List UInt8):List (Nat×Option Box):=match decP s with
  | none=>[]
  | some p=>[rlB 46 1000001 p.rs]
theorem kp_none {s:List UInt8} (h:decP s=none):kpR s = .tup [.agg [.val (.int .i64 0),.val (.int .i64 0),.val (.slice none 0 0)],Sn .i64 4]∧kpBx s=[]:=by unfold kpR kpBx;rw [h];exact ⟨rfl,rfl⟩
theorem kp_some {s:List UInt8} {p:Pg} (h:decP s=some p):kpR s = .tup [.agg [.val (.int .i64 p.va),.val (.int .i64 p.vb),.slc 1000001 0 p.rs.length 3],Sn .i64 0]∧kpBx s=[rlB 46 1000001 p.rs]:=by unfold kpR kpBx;rw [h];exact ⟨rfl,rfl⟩
theorem kpBx_use (l:List UInt8):((kpBx l).all fun p=>match p.2 with|some b=>b.cells.all (CV.inUse (kpBx l))|none=>true)=true:=by
  cases h:decP l with
  | none=>rw [(kp_none h).2];rfl
  | some s=>rw [(kp_some h).2];rfl
theorem kpR_use (l:List UInt8):LV.inUse (kpBx l) (kpR l)=true:=by
  cases h:decP l with
  | none=>rw [(kp_none h).1,(kp_none h).2];rfl
  | some s=>rw [(kp_some h).1,(kp_some h).2];rfl
theorem okK_in {rs:List Rl} (h:∀ r∈rs,okK r):∀ r∈rs,smallR r:=fun r hr=>okK_small (h r hr)
variable (X:Nat→Option Obj)
theorem kcheck_lent {S:Nat→Option (Option Box)} {va vb:Int} {k:Nat} {rs:List Rl} {e:TypeId} {cc:List CV} {t:TypeId} {ce:Int} (hbig:rs.length<4611686018427387904) (hsz:sizeR rs) (hce:chkP ⟨va,vb,rs⟩=ce) (hk:S k=some (some ⟨e,cc,.res (rlR t rs)⟩)):
    ∀ (Y:Nat→Option Obj) (us:List Value),(∀ b o,X b=some o→Y b=some o)→LentLs S Y [.sv (.agg [.val (.int .i64 va),.val (.int .i64 vb),.slc k 0 rs.length 3])] us→PSpec Tryz.prog Y 12 (us.map toLV) (Ln .i64 ce):=by
  intro Y us _ hL
  obtain ⟨u1,us1,rfl,⟨av,rfl,a1,av1,rfl,g1,a2,av2,rfl,g2,a3,av3,rfl,⟨b,blk,cap2,m,hk',rfl,hc,hfit,hB⟩,rfl⟩,rfl⟩:=hL
  have g1:a1 = .int .i64 va:=g1
  have g2:a2 = .int .i64 vb:=g2
  subst g1 g2
  rw [hk] at hk'
  simp only [Option.some.injEq] at hk'
  subst hk'
  obtain ⟨H,hR,hHY⟩:=hB
  have:=kCheck Y ⟨va,vb,rs⟩ (some ⟨blk,0,none⟩) cap2 (hR.2.mono hHY) hbig hsz
  rw [hce] at this
  exact this
abbrev pdB (k:Nat) (va vb:Int) (j n:Nat):Nat×Option Box:=(k,some ⟨24,[.val (.int .i64 va),.val (.int .i64 vb),.slc j 0 n 3],false⟩)
abbrev dpSt (l:List UInt8) (b:Bool) (first:Nat) (va vb:Int) (m i:Nat) (cells:List Value) (Y:Nat→Option Obj):St:=
  ⟨[(2,Lp 2),(4,Lp 700),(5,Ln .i64 (first:Nat)),(6,Lp 6),(25,Ln .i64 (m:Nat)),(26,Ln .i64 (i:Nat))],[(21,some ⟨46,cells.map .val,false⟩),rdB' 700 l b,pdB 6 va vb 21 m,v3B 24 2 0 0 none 0 0],Y⟩
set_option maxHeartbeats 12800000 in
theorem kDecodeM (s:List UInt8) (hs:s.length≤1099511627776):MSpec Tryz.prog X 14 [Ls s] [] (kpR s) (kpBx s):=by
  have h1:=kTake X s false (by omega)
  have g1:=(eS_less (s,false)).1
  have k1:=(eS (s,false)).1.toNat_lt
  rcases hy1:eS (s,false) with ⟨first,l1,b1⟩
  rw [hy1] at h1 g1 k1
  simp only at h1 g1 k1
  have h2:=Num4_e X l1 b1 (by omega)
  have g2:=(e4_less (l1,b1)).1
  have k2:=e4_lt (l1,b1)
  rcases hy2:e4 (l1,b1) with ⟨va,l2,b2⟩
  rw [hy2] at h2 g2 k2
  simp only at h2 g2 k2
  have h3:=Num4_e X l2 b2 (by omega)
  have g3:=(e4_less (l2,b2)).1
  have k3:=e4_lt (l2,b2)
  rcases hy3:e4 (l2,b2) with ⟨vb,l3,b3⟩
  rw [hy3] at h3 g3 k3
  simp only at h3 g3 k3
  have h4:=kTake X l3 b3 (by omega)
  have g4:=(eS_less (l3,b3)).1
  have k4:=(eS (l3,b3)).1.toNat_lt
  rcases hy4:eS (l3,b3) with ⟨c4,l4,b4⟩
  rw [hy4] at h4 g4 k4
  simp only at h4 g4 k4
  have hS:=fun (rs:List Rl) (l':List UInt8) (b':Bool) (h:KRs l4 b4 c4.toNat rs l' b')=>decP_k hy1 hy2 hy3 hy4 h
  generalize c4.toNat=m at *
  generalize first.toNat=fi at *
  have hmk:slcBuild Tryz.prog 22 m=some (zerR m,3,46):=slcBuild_many (z := #[.int .i64 0,.int .i64 0,.slice none 0 0]) (by kernel_rfl) (by kernel_rfl) rfl (by omega)
  have hw2:IntKind.i64.wrap ((va:Nat):Int)=((va:Nat):Int):=cH (by omega)
  have hw3:IntKind.i64.wrap ((vb:Nat):Int)=((vb:Nat):Int):=cH (by omega)
  have hR:=Read_spec X s
  refine cG Tryz.func14 rfl (by kernel_rfl) rfl (kpR_use s) (kpBx_use s) rfl rfl ?_
  intro C
  (refine aA<|rgN<|aP O dR ?_;refine kas O<|aB<|aA<|rgN<|kmv O<|bE [(1000001,700)] (Lp 700) (rd 700 s false) (hR) O O (by exact trivial) O O O O O (by exact (.box O O .nil)) dR<|kas O<|aB<|aA<|rgN<|kmv O<|aU [(1000000,700)] (rd 700 l1 b1) (h1) O O (by exact (cQ ⟨_,O,O⟩ trivial)) (by exact (bT (bT O (bT O O)) O)) O O O O (by exact (.box O O .nil)) dR<|kas O<|aB ?_;refine aA<|rgN<|kmv O<|aU [(1000000,700)] (rd 700 l2 b2) (h2) O O (by exact (cQ ⟨_,O,O⟩ trivial)) (by exact (bT (bT O (bT O O)) O)) O O O O (by exact (.box O O .nil)) dR<|kcv O hw2 ?_;refine kmv O<|aU [(1000000,700)] (rd 700 l3 b3) (h3) O O (by exact (cQ ⟨_,O,O⟩ trivial)) (by exact (bT (bT O (bT O O)) O)) O O O O (by exact (.box O O .nil)) dR<|kcv O hw3 ?_;refine aT O O (by exact O) (by exact nl3 O O O O) dR ?_;refine aP O dR ?_;refine aM O O O O O O dR ?_;refine aB<|aA<|rgN<|kmv O<|aU [(1000000,700)] (rd 700 l4 b4) (h4) O O (by exact (cQ ⟨_,O,O⟩ trivial)) (by exact (bT (bT O (bT O O)) O)) O O O O (by exact (.box O O .nil)) dR<|K.makeSlc (m:=m) (bytes:=40) O O hmk (by kernel_rfl) (by omega) O O dR<|kfa O O ?_;refine bG O O O O O (nl3 O O O O) dR<|aB<|aA<|aA<|rgN<|kfa O O ?_;refine kl1 O O O<|K.lenSlc O cC O dR ?_;refine kmv O<|aB<|aG ?_)
  refine cM (fun k σ=>∃ (i:Nat) (rs:List Rl) (l':List UInt8) (b':Bool) (ws:List Value) (H:Nat→Option Obj),i≤m∧k=m-i∧rqRs (l4,b4) i=(rs,l',b')∧OwnedM C X H∧RulesH H ws rs∧σ=dpSt l' b' fi (va:Nat) (vb:Nat) m i (rwZ rs ws++zerR (m-i)) (joinM X H)) m
    (cE (σ':=dpSt l4 b4 fi (va:Nat) (vb:Nat) m 0 (rwZ [] []++zerR (m-0)) X) ?_ (cD ⟨0,[],l4,b4,[],fun _=>none,by omega,by omega,rfl,OwnedM.nil _ _,RulesH.nil,by rw [joinM_nil]⟩)) ?_
  · exact Le.of (by exact ⟨rfl,rfl,rfl,rfl,rfl,rfl,trivial⟩) (by exact ⟨rfl,rfl,rfl,rfl,trivial⟩) (by exact rfl) (by exact rfl) (by repeat' (first|refine bT ?_ ?_|rfl|exact bV|exact bU|exact bW rfl))
  rintro k σ ⟨i,rs,l',b',ws,H,hi,rfl,hT,hO,GR,rfl⟩
  have hK:=rqRs_k l4 b4 i
  rw [hT] at hK
  simp only at hK
  have hcn:rs.length=i:=hK.len
  have hl':=hK.less
  by_cases hlt:i<m
  · have hF:=kTakeRule (joinM X H) l' b' (by omega)
    have hT2:rqRs (l4,b4) (i+1)=(rs++[(rqR (l',b')).1],(rqR (l',b')).2):=by simp only [rqRs,hT]
    rcases hy:rqR (l',b') with ⟨r,l5,b5⟩
    rw [hy] at hF hT2
    simp only at hF hT2
    have hix:0+Int.toNat (i:Int)*3=i*3:=by rw [dG];omega
    have hpl:(rwZ rs ws).length=i*3:=by rw [rwZ_len GR.len,hcn]
    have hroom:i*3+3≤((rwZ rs ws++zerR (m-i)).map CV.val).length:=by rw [cW,cV,hpl,zerR_len];omega
    have hspl:splice ((rwZ rs ws++zerR (m-i)).map CV.val) (i*3) [.val (.int .i64 r.nw),.val (.int .i64 r.old),.slc 30 0 r.ex.length 1]=(rwZ rs ws++[Value.int .i64 r.nw,Value.int .i64 r.old]).map CV.val ++ .slc 30 0 r.ex.length 1::(zerR (m-(i+1))).map .val:=by
      unfold splice
      rw [show m-i=(m-(i+1))+1 by omega,zerR_succ]
      simp only [dH,dM]
      have hml:((rwZ rs ws).map CV.val).length=i*3:=by rw [cW,hpl]
      generalize (rwZ rs ws).map CV.val=R at *
      rw [← hml,List.take_left,List.drop_length_add_append]
      simp
    have hadd:IntKind.i64.wrap (((i:Nat):Int)+1)=((i+1:Nat):Int):=by rw [cH (by omega)];omega
    (refine aA<|rgN<|klt O O (cP (by omega))<|aB<|aA<|aE O ?_;refine aH ?_;refine aA<|aG<|aA<|rgN<|kmv O<|kas O<|aB<|rgD mixed<|kfa O O ?_;refine kl1 O O O<|kmv O<|kmv O<|bE [(1000000,700),(1000001,30)] (.sv (SRs r 30)) (rd 700 l5 b5++[cdB 30 r.ex]) (hF) O O (by exact (cQ ⟨_,O,O⟩ trivial)) (by exact (bT (bT O (bT O O)) O)) O O O O (by exact (.box O O (.box O O .nil))) dR<|K.indexSlc O O (by omega) hix dR ?_;refine K.store O O O O (by kernel_rfl) hroom hspl dR<|aB<|rgA ?_;refine rgN<|kad O O hadd<|kmv O<|aB ?_)
    refine cE (σ':=⟨[(2,Lp 2),(4,Lp 700),(5,Ln .i64 (fi:Nat)),(6,Lp 6),(25,Ln .i64 (m:Nat)),(26,Ln .i64 (i+1:Nat))],[(21,some ⟨46,(rwZ rs ws++[Value.int .i64 r.nw,Value.int .i64 r.old]).map CV.val ++ .slc 30 0 r.ex.length 1::(zerR (m-(i+1))).map .val,false⟩),cdB 30 r.ex,rdB' 700 l5 b5,pdB 6 (va:Nat) (vb:Nat) 21 m,v3B 24 2 0 0 none 0 0],joinM X H⟩) (Le.of (by exact ⟨O,O,O,O,O,O,trivial⟩) (by exact ⟨O,O,O,O,O,trivial⟩) (by exact O) (by exact O) (by repeat' (first|refine bT ?_ ?_|rfl|exact bV|exact bU|exact bW O))) ?_
    refine Leads.fixCell O bU bU O O O fun ρ H2 cap2 hR2 hO2 _ _ => ?_
    rw [joinM_join]
    refine cD ⟨m-(i+1),by omega,i+1,rs++[r],l5,b5,ws++[.slice (some ⟨ρ.1,0,none⟩) r.ex.length cap2],joinM H H2,by omega,O,hT2,hO.join hO2,(GR.mono (joinM_keeps hO2)).push ⟨_,_,O,hR2.2.mono fun b o h=>joinM_in h⟩,?_⟩
    rw [rwZ_add GR.len]
    unfold dpSt
    simp
  · have e:i=m:=by omega
    subst e
    have hS:=hS rs l' b' hK
    rw [Nat.sub_self,show zerR 0=[] from rfl,dJ]
    rw [← hcn] at *
    have hsm:=okK_in hK.ok
    have hsz:=okK_size hK.ok
    (refine aA<|rgN<|klt O O (cO (by omega))<|aB<|aA<|aF O ?_;refine aJ<|aA<|aA ?_)
    refine LWP.le (σ':=⟨[(2,Lp 2),(4,Lp 700),(5,Ln .i64 (fi:Nat)),(6,Lp 6)],[(21,some ⟨46,(rwZ rs ws).map .val,false⟩),rdB' 700 l' b',pdB 6 (va:Nat) (vb:Nat) 21 rs.length,v3B 24 2 0 0 none 0 0],joinM X H⟩) (Le.of (by exact ⟨O,O,O,O,trivial⟩) (by exact ⟨O,O,O,O,trivial⟩) (by exact O) (by exact O) (by repeat' (first|refine bT ?_ ?_|rfl|exact bV|exact bU|exact bW O))) ?_
    refine rl_shutW hO GR hsm ?_
    have hD:=Done_spec X l' b' _ rfl
    by_cases hd:(!b'&&(l'==[]))=true
    case neg =>
      rw [if_neg fun h=>hd h.1] at hS
      obtain ⟨q1,q2⟩:=kp_none hS
      rw [q1,q2]
      rw [Bool.not_eq_true] at hd
      rw [hd] at hD
      (refine rgN<|kmv O<|aU [(1000000,700)] (rd 700 l' b') (hD) O O (by exact (cQ ⟨_,O,O⟩ trivial)) (by exact (bT (bT O (bT O O)) O)) O O O O (by exact (.box O O .nil)) dR<|aV O O dR<|kmv O<|aC O O O<|aC O O O<|kpt O O<|kmv O<|aC O O O<|aC O O O<|aC O O O<|kpt O O<|aB ?_;refine aE O ?_;refine aA<|rgN<|aT O O (by exact O) (by exact nl3 O O O O) dR ?_;refine aM O O O O O O dR ?_;refine kas O<|aB<|aI ?_)
      exact ⟨[],⟨[_,_],⟨⟨_,_,rfl,rfl,rfl,.inl ⟨AggT.h,rfl⟩⟩,rfl,trivial⟩,rfl⟩,(by repeat' (first|exact trivial|refine cQ ⟨_,rfl,?_⟩ ?_|refine cQ ⟨_,rfl⟩ ?_|rfl|exact bX _ _ _ _|exact bY _ _ _ _|exact bZ rfl)),rfl,rfl⟩
    rw [hd] at hD
    by_cases hm:fi=77
    case neg =>
      rw [if_neg fun h=>hm h.2.1] at hS
      obtain ⟨q1,q2⟩:=kp_none hS
      rw [q1,q2]
      have hne:(((fi:Nat):Int) != 77)=true:=by rw [bne_iff_ne];omega
      (refine rgN<|kmv O<|aU [(1000000,700)] (rd 700 l' b') (hD) O O (by exact (cQ ⟨_,O,O⟩ trivial)) (by exact (bT (bT O (bT O O)) O)) O O O O (by exact (.box O O .nil)) dR<|aV O O dR<|kmv O<|gmv O O O<|aX O O hne (dS O O) ?_;refine kpf O O<|kmv O<|aC O O O<|aC O O O<|aC O O O<|kpt O O<|aB<|aE O ?_;refine aA<|rgN<|aT O O (by exact O) (by exact nl3 O O O O) dR ?_;refine aM O O O O O O dR ?_;refine kas O<|aB<|aI ?_)
      exact ⟨[],⟨[_,_],⟨⟨_,_,rfl,rfl,rfl,.inl ⟨AggT.h,rfl⟩⟩,rfl,trivial⟩,rfl⟩,(by repeat' (first|exact trivial|refine cQ ⟨_,rfl,?_⟩ ?_|refine cQ ⟨_,rfl⟩ ?_|rfl|exact bX _ _ _ _|exact bY _ _ _ _|exact bZ rfl)),rfl,rfl⟩
    have hne:(((fi:Nat):Int) != 77)=false:=by rw [bne_eq_false_iff_eq];omega
    by_cases hz:chkP ⟨(va:Nat),(vb:Nat),rs⟩=0
    · rw [if_pos ⟨hd,hm,hz⟩] at hS
      obtain ⟨q1,q2⟩:=kp_some hS
      rw [q1,q2]
      have hc:=fun (S:Nat→Option (Option Box)) (hk:S 21=some (some ⟨0,[],.res (rlR 46 rs)⟩))=>kcheck_lent X (S:=S) (k:=21) (va:=(va:Nat)) (vb:=(vb:Nat)) (by omega) hsz hz hk
      (refine rgN<|kmv O<|aU [(1000000,700)] (rd 700 l' b') (hD) O O (by exact (cQ ⟨_,O,O⟩ trivial)) (by exact (bT (bT O (bT O O)) O)) O O O O (by exact (.box O O .nil)) dR<|aV O O dR<|kmv O<|gmv O O O<|aX O O hne (dS O O) ?_;refine kpf O O<|kmv O<|aK O O O (dS O O) ?_;refine K.callL [21] O O O (hc _ O) (dS O O) ?_;refine aX O O (r:=false) (by decide) (dS O O) ?_;refine kpf O O<|aB<|aF O ?_;refine aH ?_;refine aA<|rgN<|aK O O O dR ?_;refine aM O O O O O O dR ?_;refine kas O<|aB<|aI ?_)
      exact ⟨[(1000001,21)],⟨[_,_],⟨⟨_,_,rfl,rfl,rfl,.inl ⟨AggT.h,rfl⟩⟩,rfl,trivial⟩,rfl⟩,(by repeat' (first|exact trivial|refine cQ ⟨_,rfl,?_⟩ ?_|refine cQ ⟨_,rfl⟩ ?_|rfl|exact bX _ _ _ _|exact bY _ _ _ _|exact bZ rfl)),rfl,rfl⟩
    · rw [if_neg fun h=>hz h.2.2] at hS
      obtain ⟨q1,q2⟩:=kp_none hS
      rw [q1,q2]
      have hne2:(chkP ⟨(va:Nat),(vb:Nat),rs⟩ != 0)=true:=by rw [bne_iff_ne];exact hz
      have hc:=fun (S:Nat→Option (Option Box)) (hk:S 21=some (some ⟨0,[],.res (rlR 46 rs)⟩))=>kcheck_lent X (S:=S) (k:=21) (va:=(va:Nat)) (vb:=(vb:Nat)) (by omega) hsz rfl hk
      generalize chkP ⟨(va:Nat),(vb:Nat),rs⟩=ce at *
      (refine rgN<|kmv O<|aU [(1000000,700)] (rd 700 l' b') (hD) O O (by exact (cQ ⟨_,O,O⟩ trivial)) (by exact (bT (bT O (bT O O)) O)) O O O O (by exact (.box O O .nil)) dR<|aV O O dR<|kmv O<|gmv O O O<|aX O O hne (dS O O) ?_;refine kpf O O<|kmv O<|aK O O O (dS O O) ?_;refine K.callL [21] O O O (hc _ O) (dS O O) ?_;refine aX O O hne2 (dS O O) ?_;refine kpf O O<|aB<|aE O ?_;refine aA<|rgN<|aT O O (by exact O) (by exact nl3 O O O O) dR ?_;refine aM O O O O O O dR ?_;refine kas O<|aB<|aI ?_)
      exact ⟨[],⟨[_,_],⟨⟨_,_,rfl,rfl,rfl,.inl ⟨AggT.h,rfl⟩⟩,rfl,trivial⟩,rfl⟩,(by repeat' (first|exact trivial|refine cQ ⟨_,rfl,?_⟩ ?_|refine cQ ⟨_,rfl⟩ ?_|rfl|exact bX _ _ _ _|exact bY _ _ _ _|exact bZ rfl)),rfl,rfl⟩
end Go.Proofs.YtamplgnbbanamaaGreatDoor
end
section
namespace Go.Proofs.YtamplgnbbanamaaGreatDoor
open Go Go.Lg Go.Lg.Fml Go.Lg.Fld Go.Lg.Arith
set_option maxRecDepth 100000
def txt1 (l:List (List UInt8)):List Value:=l.map fun t=>.string ⟨t.toArray⟩
theorem txt1_len (l:List (List UInt8)):(txt1 l).length=l.length:=cW _
theorem txt1_snoc (l:List (List UInt8)) (t:List UInt8):txt1 (l++[t])=txt1 l++[.string ⟨t.toArray⟩]:=by unfold txt1;simp
def wordsR (r:Rl):List (List UInt8):=if r.old=0 then [[102,114,101,115,104],dg1 r.nw] else [dg1 r.nw,[102,114,111,109],dg1 r.old]++r.ex.map showX
theorem tailL_join:∀ l:List (List Ins),Lib.joinTail [32] (l.map showX)=tailL l
  | []=>rfl
  | c::t=>by
    have:=tailL_join t
    unfold Lib.joinTail at this ⊢
    simp only [List.map_cons,List.flatten_cons,tailL,this]
    rfl
theorem words_join (r:Rl):Lib.join (wordsR r) [32]=lineR r:=by
  unfold wordsR lineR
  by_cases h:r.old=0
  · rw [if_pos h,if_pos h,Lib.join_cons]
    simp [Lib.joinTail]
  · rw [if_neg h,if_neg h,List.cons_append,Lib.join_cons,← tailL_join]
    simp [Lib.joinTail]
theorem lineR_len {r:Rl} (h1:0≤r.nw∧r.nw≤24) (h2:0≤r.old∧r.old≤24) (hi:∀ c∈r.ex,∀ x∈c,In2 x.k.2):(lineR r).length≤100+3201*r.ex.length:=by
  have l1:=Lib.itoa_length_le r.nw (by omega) (by omega)
  have l2:=Lib.itoa_length_le r.old (by omega) (by omega)
  have l3:=tailL_len r.ex hi
  unfold lineR dg1
  split
  · rw [cV]
    simp only [dI,dO]
    omega
  · rw [cV,cV,cV]
    simp only [dI,dO]
    omega
variable (X:Nat→Option Obj)
theorem kItoa (n:Nat) (h1:n<100):PSpec Tryz.prog X 70 [Ln .i64 (n:Nat)] (Ls (dg1 (n:Nat))):=
  PSpec.ofBelow (vals:=[.int .i64 (n:Nat)]) (v:=.string ⟨(Lib.itoa (n:Nat)).toArray⟩) (by kernel_rfl) rfl rfl (fun w _=>(Tryz.strconv_Itoa_small n h1 w).mono fun _ _ ⟨he,hw⟩=>⟨by rw [Lib.itoa_nonneg];exact he,by rw [hw];exact Go.RowKit.Below.refl _ _⟩)
theorem kJoin_lent {S:Nat→Option (Option Box)} {l:List (List UInt8)} {k:Nat} {el:TypeId} {row:Bool} (hl:l.length≤140737488355328) (hj:(Lib.join l [32]).length≤140737488355328) (hk:S k=some (some ⟨el,(txt1 l).map .val,row⟩)):
    ∀ (Y:Nat→Option Obj) (us:List Value),(∀ b o,X b=some o→Y b=some o)→LentLs S Y [.sv (.one (.slc k 0 l.length)),Ls [32]] us→PSpec Tryz.prog Y 44 (us.map toLV) (Ls (Lib.join l [32])):=by
  intro Y us hY hL
  obtain ⟨u1,us1,rfl,⟨b,blk,cap2,m,hk',rfl,hc,hfit,hB⟩,u2,us2,rfl,h2,rfl⟩:=hL
  have h2:u2 = .string ⟨([32]:List UInt8).toArray⟩:=h2
  subst h2
  rw [hk] at hk'
  simp only [Option.some.injEq] at hk'
  subst hk'
  obtain ⟨arr,fr,us',sp,hYb,hsz,harr,hv⟩:=hB
  have:=hv _ rfl
  subst this
  refine PSpec.ofBelow (vals:=[.slice (some ⟨blk,0,none⟩) l.length cap2,.string ⟨([32]:List UInt8).toArray⟩]) (v:=.string ⟨(Lib.join l [32]).toArray⟩) (by kernel_rfl) O O fun w hX => ?_
  have hb:=hX _ _ hYb
  have hbk:blk<w.heap.size:=(Array.getElem?_eq_some_iff.1 hb).1
  have hcells:∀ (j:Nat) (x:ByteArray),(l.map fun t=>(⟨t.toArray⟩:ByteArray))[j]? = some x→w.cell? ⟨blk,0+j,none⟩=some (.string x):=fun j x hx=>by
    rw [dL] at hx
    cases ht:l[j]? with
    | none=>rw [ht] at hx;cases hx
    | some t =>
      rw [ht] at hx
      simp only [Option.map_some,Option.some.injEq] at hx
      subst hx
      have hjl:=(List.getElem?_eq_some_iff.1 ht).1
      have ha:arr[0+j]? = some (.string ⟨t.toArray⟩):=by
        rw [Nat.zero_add,← Array.getElem?_toList,harr,dQ (by rw [txt1_len];exact hjl)]
        unfold txt1
        rw [dL,ht]
        rfl
      simpa [World.cell?,hb] using ha
  have hmap:((l.map fun t=>(⟨t.toArray⟩:ByteArray)).map fun x=>x.data.toList)=l:=by rw [List.map_map];exact List.map_id _
  have h:=Tryz.strings_Join blk 0 cap2 (l.map fun t=>(⟨t.toArray⟩:ByteArray)) ⟨([32]:List UInt8).toArray⟩ w hcells hbk (by rw [cW];exact hl) (by rw [cW];exact hc) (by rw [hmap];exact hj)
  rw [hmap,cW] at h
  exact h
abbrev txB (k:Nat) (l:List (List UInt8)) (r:Bool):Nat×Option Box:=(k,some ⟨9,(txt1 l).map .val,r⟩)
abbrev woSt (ead:Option Addr) (n ecap i:Nat) (l:List (List UInt8)) (r:Bool) (Y:Nat→Option Obj):St:=
  ⟨[(4,.sv (.one (.slc 500 0 l.length 1))),(21,Lx ead n ecap),(22,Ln .i64 (n:Nat)),(23,Ln .i64 (i:Nat))],[txB 500 l r],Y⟩
set_option maxHeartbeats 6400000 in
theorem kWords (hT:XTab X) (r:Rl) (ead:Option Addr) (ecap:Nat) (hE:CodesIn X ead r.ex) (h1:0≤r.nw∧r.nw≤24) (h2:0≤r.old∧r.old≤24) (hn:r.ex.length≤65536) (hc:∀ c∈r.ex,c.length≤65536):
    MSpec Tryz.prog X 45 [LPg r.nw r.old ead r.ex.length ecap] [] (.sv (.one (.slc 1000001 0 (wordsR r).length 1))) [txB 1000001 (wordsR r) true]:=by
  obtain ⟨nw,old,ex⟩:=r
  simp only at hE h1 h2 hn hc ⊢
  obtain ⟨a,rfl⟩:=Int.eq_ofNat_of_zero_le h1.1
  obtain ⟨b,rfl⟩:=Int.eq_ofNat_of_zero_le h2.1
  have hA:=kItoa X a (by omega)
  have hB:=kItoa X b (by omega)
  have hrl:∀ l:List (List UInt8),((txt1 l).map CV.val).length=l.length*1:=fun l=>by rw [cW,txt1_len,Nat.mul_one]
  refine cG Tryz.func45 rfl (by kernel_rfl) rfl (by exact (by repeat' (first|refine bT ?_ ?_|rfl|exact bV|exact bU|exact bW rfl))) (by exact (by repeat' (first|refine bT ?_ ?_|rfl|exact bV|exact bU|exact bW rfl))) rfl rfl ?_
  intro C
  refine LWP.ends ?_
  by_cases h0:((b:Nat):Int)=0
  · rw [show wordsR ⟨(a:Nat),(b:Nat),ex⟩=[[102,114,101,115,104],dg1 (a:Nat)] from if_pos h0]
    generalize dg1 (a:Nat)=da at *
    (refine aA<|rgN<|aL O O O dR<|kas O<|aB<|aA<|rgN<|kfa O O ?_;refine kl1 O O O<|kca O O hA<|kas O<|aB<|aA<|aA<|rgN<|kfa O O ?_;refine kl1 O O O<|keq O O (cU h0)<|aB<|aE O ?_;refine aA<|rgN<|kmv O<|aZ (zs:=[.string ⟨#[]⟩,.string ⟨#[]⟩]) (sz:=1) (e:=9) (cs':=[.val (.string ⟨([102,114,101,115,104]:List UInt8).toArray⟩),.val (.string ⟨da.toArray⟩)]) (by kernel_rfl) O O O O O O dR<|kas O<|aB<|aI ?_)
    refine cE (σ':=⟨[(2,.sv (.one (.slc 14 0 2 1)))],[txB 14 [[102,114,101,115,104],da] false],X⟩) (Le.of (by exact ⟨O,trivial⟩) (by exact ⟨O,trivial⟩) (by exact O) (by exact O) (by repeat' (first|refine bT ?_ ?_|rfl|exact bV|exact bU|exact bW O))) ?_
    refine cE Le.loose (cD ?_)
    exact ⟨[(1000001,14)],⟨[_],⟨rfl,trivial⟩,rfl⟩,(by repeat' (first|exact trivial|refine cQ ⟨_,rfl,?_⟩ ?_|refine cQ ⟨_,rfl⟩ ?_|rfl|exact bX _ _ _ _|exact bY _ _ _ _|exact bZ rfl)),rfl,rfl⟩
  rw [show wordsR ⟨(a:Nat),(b:Nat),ex⟩=[dg1 (a:Nat),[102,114,111,109],dg1 (b:Nat)]++ex.map showX from if_neg h0]
  generalize dg1 (a:Nat)=da at *
  generalize dg1 (b:Nat)=db at *
  (refine aA<|rgN<|aL O O O dR<|kas O<|aB<|aA<|rgN<|kfa O O ?_;refine kl1 O O O<|kca O O hA<|kas O<|aB<|aA<|aA<|rgN<|kfa O O ?_;refine kl1 O O O<|keq O O (cR h0)<|aB<|aF O ?_;refine aH ?_;refine aA<|rgN<|kmv O<|kfa O O ?_;refine kl1 O O O<|kca O O hB<|aZ (zs:=[.string ⟨#[]⟩,.string ⟨#[]⟩,.string ⟨#[]⟩]) (sz:=1) (e:=9) (cs':=[.val (.string ⟨da.toArray⟩),.val (.string ⟨([102,114,111,109]:List UInt8).toArray⟩),.val (.string ⟨db.toArray⟩)]) (by kernel_rfl) O O O O O O dR<|kas O<|aB<|aA<|aA<|rgN<|kfa O O ?_;refine kl1 O O O<|aQ O cC O dR ?_;refine kmv O<|aB<|aG ?_)
  refine cL (fun m σ=>∃ (i:Nat) (r:Bool),i≤ex.length∧m=ex.length-i∧σ=woSt ead ex.length ecap i ([da,[102,114,111,109],db]++(ex.take i).map showX) r X) ex.length
    ⟨woSt ead ex.length ecap 0 [da,[102,114,111,109],db] false X,Le.ofR [(500,19)] (by exact ⟨rfl,rfl,rfl,rfl,trivial⟩) (by repeat' (first|exact trivial|refine cQ ⟨_,rfl,?_⟩ ?_|refine cQ ⟨_,rfl⟩ ?_|rfl|exact bX _ _ _ _|exact bY _ _ _ _|exact bZ rfl)) (by exact rfl) (by exact rfl) (by repeat' (first|refine bT ?_ ?_|rfl|exact bV|exact bU|exact bW rfl)) (by exact rfl) (by exact rfl),0,false,by omega,by omega,rfl⟩ ?_
  rintro m σ ⟨i,row,hi,rfl,rfl⟩
  by_cases hlt:i<ex.length
  case neg =>
    have e:i=ex.length:=by omega
    subst e
    rw [dF]
    generalize [da,[102,114,111,109],db]++ex.map showX=L at *
    (refine aA<|rgN<|klt O O (cO (by omega))<|aB<|aA<|aF O ?_;refine aJ<|aA<|rgN<|kmv O<|kas O<|aB<|aI ?_)
    refine cE (σ':=⟨[(2,.sv (.one (.slc 500 0 L.length 1)))],[txB 500 L row],X⟩) (Le.ofR [(500,500)] (by exact ⟨rfl,trivial⟩) (by repeat' (first|exact trivial|refine cQ ⟨_,rfl,?_⟩ ?_|refine cQ ⟨_,rfl⟩ ?_|rfl|exact bX _ _ _ _|exact bY _ _ _ _|exact bZ rfl)) (by exact rfl) (by exact rfl) (by repeat' (first|refine bT ?_ ?_|rfl|exact bV|exact bU|exact bW rfl)) (by exact rfl) (by exact rfl)) ?_
    refine cE Le.loose (cD ?_)
    exact ⟨[(1000001,500)],⟨[_],⟨rfl,trivial⟩,rfl⟩,(by repeat' (first|exact trivial|refine cQ ⟨_,rfl,?_⟩ ?_|refine cQ ⟨_,rfl⟩ ?_|rfl|exact bX _ _ _ _|exact bY _ _ _ _|exact bZ rfl)),rfl,rfl⟩
  obtain ⟨c,hcc⟩:∃ c,ex[i]? = some c:=⟨_,cX hlt⟩
  obtain ⟨eb,eo,earr,eel,efr,vad,vcap,rfl,hEX,hec,hI⟩:=hE.get hcc
  have hio:eo+Int.toNat (i:Int)*1=eo+i*1:=by simp
  have hcl:=hc c (dD hcc)
  have hG:=gShow X hT c vad vcap hI (by omega)
  have hnx:[da,[102,114,111,109],db]++(ex.take (i+1)).map showX=([da,[102,114,111,109],db]++(ex.take i).map showX)++[showX c]:=by rw [take_snoc hcc,dH,dM];rfl
  have hLl:([da,[102,114,111,109],db]++(ex.take i).map showX).length=3+i:=by
    rw [cV,cW,cZ]
    simp only [dI,dO]
    omega
  generalize [da,[102,114,111,109],db]++(ex.take i).map showX=L at *
  generalize showX c=sc at *
  have hadd:IntKind.i64.wrap (((i:Nat):Int)+1)=((i+1:Nat):Int):=by rw [cH (by omega)];omega
  have hnc:(txt1 L).map CV.val++[.val (.string ⟨sc.toArray⟩)]=(txt1 (L++[sc])).map CV.val:=by rw [txt1_snoc,dH];rfl
  have hnl:L.length+1=(L++[sc]).length:=by rw [cV];rfl
  (refine aA<|rgN<|klt O O (cP (by omega))<|aB<|aA<|aE O ?_;refine aH ?_;refine aA<|aG<|aA<|rgN<|aR O O cC (by omega) hio dR<|aW O hEX O hec dR<|kas O<|aB<|rgN<|kmv O<|kmv O<|kca O O hG<|aZ (zs:=[.string ⟨#[]⟩]) (sz:=1) (e:=9) (cs':=[.val (.string ⟨sc.toArray⟩)]) (by kernel_rfl) O O O O O O dR<|bQ (by_:=16) (e2:=9) (l2:=[.val (.string ⟨sc.toArray⟩)]) (nl:=(L++[sc]).length) (nc:=(txt1 (L++[sc])).map .val) O O (hrl L) O O (dN _) O O (by kernel_rfl) (by kernel_rfl) (by omega) (by omega) O hnl hnc dR ?_;refine kas O<|aB<|rgN<|kad O O hadd<|kmv O<|aB ?_)
  exact ⟨_,woSt (some ⟨eb,eo,none⟩) ex.length ecap (i+1) (L++[sc]) true X,by omega,Le.ofR [(500,31)] (by exact ⟨rfl,rfl,rfl,rfl,trivial⟩) (by repeat' (first|exact trivial|refine cQ ⟨_,rfl,?_⟩ ?_|refine cQ ⟨_,rfl⟩ ?_|rfl|exact bX _ _ _ _|exact bY _ _ _ _|exact bZ rfl)) (by exact rfl) (by exact rfl) (by repeat' (first|refine bT ?_ ?_|rfl|exact bV|exact bU|exact bW rfl)) (by exact rfl) (by exact rfl),i+1,true,by omega,rfl,by rw [hnx]⟩
def zerS (k:Nat):List Value:=List.replicate k (.string ⟨#[]⟩)
theorem zerS_splice {l:List (List UInt8)} {k i:Nat} {t:List UInt8} (hi:l.length=i):splice ((txt1 l++zerS (k+1)).map CV.val) i [.val (.string ⟨t.toArray⟩)]=(txt1 (l++[t])++zerS k).map CV.val:=by
  unfold splice
  rw [show zerS (k+1) = .string ⟨#[]⟩::zerS k from List.replicate_succ,txt1_snoc]
  simp only [dH,dM]
  have hml:((txt1 l).map CV.val).length=i:=by rw [cW,txt1_len,hi]
  generalize (txt1 l).map CV.val=R at *
  rw [← hml,List.take_left,List.drop_length_add_append]
  simp
abbrev liSt (ad:Option Addr) (n cap i:Nat) (l:List (List UInt8)) (Y:Nat→Option Obj):St:=
  ⟨[(3,.sv (.one (.slc 12 0 n 1))),(14,Lx ad n cap),(15,Ln .i64 (n:Nat)),(16,Ln .i64 (i:Nat))],[(12,some ⟨9,(txt1 l++zerS (n-i)).map .val,false⟩)],Y⟩
theorem kLines_no (p:Pg) (ad:Option Addr) (cap:Nat) (hin:RulesIn X ad p.rs) (hbig:p.rs.length<4611686018427387904) (hsz:sizeR p.rs) (hz:chkP p≠0):PSpec Tryz.prog X 21 [LPg p.va p.vb ad p.rs.length cap] (.sv Vnil):=by
  have hc:=kCheck X p ad cap hin hbig hsz
  have hne:(chkP p != 0)=true:=by rw [bne_iff_ne];exact hz
  generalize chkP p=ce at *
  refine cF Tryz.func21 rfl (by kernel_rfl) rfl rfl ?_
  intro C
  (refine aA<|rgN<|aL O O O dR<|kas O<|aB<|aA<|aA<|rgN<|aK O O O dR ?_;refine kca O O hc<|kne O O hne<|aB<|aE O ?_;refine aA<|rgN<|kas O<|aB<|aI ?_)
  exact ⟨[_],⟨O,trivial⟩,O⟩
set_option maxHeartbeats 6400000 in
theorem kLines_ok (hT:XTab X) (p:Pg) (ad:Option Addr) (cap:Nat) (hin:RulesIn X ad p.rs) (hbig:p.rs.length<4611686018427387904) (hsz:sizeR p.rs) (hz:chkP p=0):
    MSpec Tryz.prog X 21 [LPg p.va p.vb ad p.rs.length cap] [] (.sv (.one (.slc 1000001 0 p.rs.length 1))) [txB 1000001 (p.rs.map lineR) true]:=by
  have hc:=kCheck X p ad cap hin hbig hsz
  rw [hz] at hc
  obtain ⟨_,_,hcr,h24⟩:=chkP_zero hz
  obtain ⟨va,vb,rs⟩:=p
  simp only at hin hbig hsz hc hcr h24 ⊢
  have hi2:=hin.in2
  have hmk:slcBuild Tryz.prog 55 rs.length=some (zerS rs.length,1,9):=slcBuild_one (by kernel_rfl) (by kernel_rfl) (by omega)
  refine cG Tryz.func21 rfl (by kernel_rfl) rfl (by exact (by repeat' (first|refine bT ?_ ?_|rfl|exact bV|exact bU|exact bW rfl))) (by exact (by repeat' (first|refine bT ?_ ?_|rfl|exact bV|exact bU|exact bW rfl))) rfl rfl ?_
  intro C
  refine LWP.ends ?_
  (refine aA<|rgN<|aL O O O dR<|kas O<|aB<|aA<|aA<|rgN<|aK O O O dR ?_;refine kca O O hc<|kne O O (r:=false) O<|aB<|aF O ?_;refine aH ?_;refine aA<|rgN<|kfa O O ?_;refine kl1 O O O<|aQ O cC O dR ?_;refine K.makeSlc (m:=rs.length) (bytes:=16) O O hmk (by kernel_rfl) (by omega) O O dR<|kas O<|aB<|aA<|aA<|rgN<|kfa O O ?_;refine kl1 O O O<|aQ O cC O dR ?_;refine kmv O<|aB<|aG ?_)
  refine cL (fun m σ=>∃ i:Nat,i≤rs.length∧m=rs.length-i∧σ=liSt ad rs.length cap i ((rs.take i).map lineR) X) rs.length
    ⟨liSt ad rs.length cap 0 [] X,Le.of (by exact ⟨rfl,rfl,rfl,rfl,trivial⟩) (by exact ⟨rfl,trivial⟩) (by exact rfl) (by exact rfl) (by repeat' (first|refine bT ?_ ?_|rfl|exact bV|exact bU|exact bW rfl)),0,by omega,by omega,rfl⟩ ?_
  rintro m σ ⟨i,hi,rfl,rfl⟩
  by_cases hlt:i<rs.length
  case neg =>
    have e:i=rs.length:=by omega
    subst e
    unfold liSt
    rw [dF,Nat.sub_self,show zerS 0=[] from rfl,dJ]
    (refine aA<|rgN<|klt O O (cO (by omega))<|aB<|aA<|aF O ?_;refine aJ<|aA<|rgN<|kmv O<|kas O<|aB<|aI ?_)
    refine cE (σ':=⟨[(2,.sv (.one (.slc 12 0 rs.length 1)))],[txB 12 (rs.map lineR) false],X⟩) (Le.of (by exact ⟨O,trivial⟩) (by exact ⟨O,trivial⟩) (by exact O) (by exact O) (by repeat' (first|refine bT ?_ ?_|rfl|exact bV|exact bU|exact bW O))) ?_
    refine cE Le.loose (cD ?_)
    exact ⟨[(1000001,12)],⟨[_],⟨rfl,trivial⟩,rfl⟩,(by repeat' (first|exact trivial|refine cQ ⟨_,rfl,?_⟩ ?_|refine cQ ⟨_,rfl⟩ ?_|rfl|exact bX _ _ _ _|exact bY _ _ _ _|exact bZ rfl)),rfl,rfl⟩
  obtain ⟨r,hr⟩:∃ r,rs[i]? = some r:=⟨_,cX hlt⟩
  have hmem:=dD hr
  obtain ⟨last,hl⟩:=chkRs_mem hcr r hmem
  obtain ⟨q1,q2,_,_,q5,q6⟩:=chkR_zero hl
  obtain ⟨blk,off,arr,el,fr,ead,ecap,rfl,hX,hsiz,hcs,_,_,_,hE⟩:=hin.get hr
  have hio:off+Int.toNat (i:Int)*3=off+i*3:=by simp
  have hix:0+Int.toNat (i:Int)*1=i:=by rw [dG];omega
  have hcl:∀ c∈r.ex,c.length≤65536:=fun c hc=>by
    have he:=firstX_zero q6 c hc
    by_cases hz:chkX c=0
    · have:=(chkX_zero hz).1;omega
    · exact absurd ((if_neg hz:encErr c=chkX c)▸he) hz
  have hW:=kWords X hT r ead ecap hE ⟨by omega,q1.2⟩ q2 (by omega) hcl
  have hll:=lineR_len ⟨by omega,q1.2⟩ q2 (hi2 r hmem)
  have hwj:=words_join r
  have hJ:=fun (S:Nat→Option (Option Box)) (hk:S 601=some (some ⟨9,(txt1 (wordsR r)).map .val,true⟩))=>kJoin_lent X (S:=S) (l:=wordsR r) (k:=601) (by
    unfold wordsR
    split
    · simp
    · rw [cV,cW];simp only [dI,dO];omega) (by rw [hwj];omega) hk
  rw [hwj] at hJ
  have hml:((rs.take i).map lineR).length=i:=by rw [cW,cZ];omega
  have hnx:(rs.take (i+1)).map lineR=(rs.take i).map lineR++[lineR r]:=by rw [take_snoc hr,dH];rfl
  clear hll hwj
  generalize wordsR r=W at *
  generalize lineR r=ln at *
  generalize (rs.take i).map lineR=L at *
  have hroom:i+1≤((txt1 L++zerS (rs.length-i)).map CV.val).length:=by
    rw [cW,cV,txt1_len,hml]
    unfold zerS
    rw [dE];omega
  have hspl:splice ((txt1 L++zerS (rs.length-i)).map CV.val) i [.val (.string ⟨ln.toArray⟩)]=(txt1 (L++[ln])++zerS (rs.length-(i+1))).map CV.val:=by
    rw [show rs.length-i=(rs.length-(i+1))+1 by omega,zerS_splice hml]
  have hadd:IntKind.i64.wrap (((i:Nat):Int)+1)=((i+1:Nat):Int):=by rw [cH (by omega)];omega
  (refine aA<|rgN<|klt O O (cP (by omega))<|aB<|aA<|aE O ?_;refine aH ?_;refine aA<|aG<|aA<|rgN<|kmv O<|aR O O cC (by omega) hio dR<|aY O hX (by kernel_rfl) hsiz hcs dR<|aP O dR ?_;refine kas O<|aM O O O O O O dR ?_;refine aB<|rgN<|kmv O<|kmv O<|aK O O O dR ?_;refine bE [(1000001,601)] (.sv (.one (.slc 601 0 W.length 1))) [txB 601 W true] (hW) O O (by exact trivial) O O O O O (by exact (.box O (bY _ _ _ _) .nil)) dR<|K.callL [601] O O O (hJ _ O) dR ?_;refine K.indexSlc O O (by omega) hix dR ?_;refine K.store O O O O (by kernel_rfl) hroom hspl dR<|aB<|rgN<|kad O O hadd<|kmv O<|aB ?_)
  exact ⟨_,liSt (some ⟨blk,off,none⟩) rs.length cap (i+1) (L++[ln]) X,by omega,Le.of (by exact ⟨rfl,rfl,rfl,rfl,trivial⟩) (by exact ⟨rfl,trivial⟩) (by exact rfl) (by exact rfl) (by repeat' (first|refine bT ?_ ?_|rfl|exact bV|exact bU|exact bW rfl)),i+1,by omega,rfl,by rw [hnx]⟩
end Go.Proofs.YtamplgnbbanamaaGreatDoor
end
section
namespace Go.Proofs.YtamplgnbbanamaaGreatDoor
open Go Go.Lg Go.Lg.Fml Go.Lg.Fld Go.Lg.Arith
set_option maxRecDepth 100000
def pgOk (p:Pg):Prop:=p.rs.length≤30∧∀ r∈p.rs,r.ex.length≤12∧∀ c∈r.ex,c.length≤80
theorem pgOk.size {p:Pg} (h:pgOk p):sizeR p.rs:=fun r hr=>by
  obtain ⟨h1,h2⟩:=h.2 r hr
  exact ⟨by omega,fun c hc=>by have:=h2 c hc;omega⟩
theorem pgOk.big {p:Pg} (h:pgOk p):p.rs.length<4611686018427387904:=by have:=h.1;omega
theorem pgOk.half {p:Pg} (h:pgOk p):∀ r∈p.rs,r.ex.length≤65536∧∀ c∈r.ex,c.length≤65536:=fun r hr=>by
  obtain ⟨h1,h2⟩:=h.2 r hr
  exact ⟨by omega,fun c hc=>by have:=h2 c hc;omega⟩
variable (X:Nat→Option Obj)
section
variable (p:Pg) (ad:Option Addr) (cap:Nat) (hin:RulesIn X ad p.rs) (hs:pgOk p)
include hin hs
theorem hCheck:PSpec Tryz.prog X 12 [LPg p.va p.vb ad p.rs.length cap] (Ln .i64 (chkP p)):=kCheck X p ad cap hin hs.big hs.size
theorem hEncode:PSpec Tryz.prog X 11 [LPg p.va p.vb ad p.rs.length cap] (.tup [Ss (encPT p),Sn .i64 (chkP p)]):=kEncode X p ad cap hin hs.big hs.size
theorem hFind_yes (id:Int) {r:Rl} (h:findP p.rs id=some r):MSpec Tryz.prog X 18 [LPg p.va p.vb ad p.rs.length cap,Ln .i64 id] [] (.tup [SRs r 1000001,Sb true]) [cdB 1000001 r.ex]:=kFind_yes X p ad cap hin hs.big hs.half id h
theorem hFind_no (id:Int) (h:findP p.rs id=none):PSpec Tryz.prog X 18 [LPg p.va p.vb ad p.rs.length cap,Ln .i64 id] (.tup [SPg 0 0 none 0 0,Sb false]):=kFind_no X p ad cap hin hs.big id h
theorem hFrom (old:Int):MSpec Tryz.prog X 20 [LPg p.va p.vb ad p.rs.length cap,Ln .i64 old] [] (.sv (.one (.slc 1000001 0 (fromP p.rs old).length 1))) [(1000001,some ⟨3,(int1 (fromP p.rs old)).map .val,true⟩)]:=kFrom X p ad cap hin (by have:=hs.1;omega) old
theorem hLines_no (hz:chkP p≠0):PSpec Tryz.prog X 21 [LPg p.va p.vb ad p.rs.length cap] (.sv Vnil):=kLines_no X p ad cap hin hs.big hs.size hz
theorem hLines (hT:XTab X) (hz:chkP p=0):MSpec Tryz.prog X 21 [LPg p.va p.vb ad p.rs.length cap] [] (.sv (.one (.slc 1000001 0 p.rs.length 1))) [txB 1000001 (p.rs.map lineR) true]:=kLines_ok X hT p ad cap hin hs.big hs.size hz
theorem hSame (q:Pg) (bd:Option Addr) (cap2:Nat) (hin2:RulesIn X bd q.rs):PSpec Tryz.prog X 19 [LPg p.va p.vb ad p.rs.length cap,LPg q.va q.vb bd q.rs.length cap2] (Lb (decide (p=q))):=kSame X p q ad bd cap cap2 hin hin2 hs.big hs.size
end
theorem hDecode_no (s:List UInt8) (hs:s.length≤1099511627776) (h:decP s=none):PSpec Tryz.prog X 14 [Ls s] (.tup [SPg 0 0 none 0 0,Sn .i64 4]):=by
  have hM:=kDecodeM X s hs
  obtain ⟨q1,q2⟩:=kp_none h
  rw [q1,q2] at hM
  exact hM.plain
theorem hDecode_ok (s:List UInt8) (hs:s.length≤1099511627776) {p:Pg} (h:decP s=some p):MSpec Tryz.prog X 14 [Ls s] [] (.tup [.agg [.val (.int .i64 p.va),.val (.int .i64 p.vb),.slc 1000001 0 p.rs.length 3],Sn .i64 0]) [rlB 46 1000001 p.rs]:=by
  have hM:=kDecodeM X s hs
  obtain ⟨q1,q2⟩:=kp_some h
  rw [q1,q2] at hM
  exact hM
theorem hsame_lent {S:Nat→Option (Option Box)} {p q:Pg} {ad:Option Addr} {cap k:Nat} {e:TypeId} {cc:List CV} {t:TypeId} {r:Bool} (hin:RulesIn X ad p.rs) (hs:pgOk p) (he:decide (p=q)=r) (hk:S k=some (some ⟨e,cc,.res (rlR t q.rs)⟩)):
    ∀ (Y:Nat→Option Obj) (us:List Value),(∀ b o,X b=some o→Y b=some o)→LentLs S Y [LPg p.va p.vb ad p.rs.length cap,.sv (.agg [.val (.int .i64 q.va),.val (.int .i64 q.vb),.slc k 0 q.rs.length 3])] us→PSpec Tryz.prog Y 19 (us.map toLV) (Lb r):=by
  intro Y us hY hL
  obtain ⟨u1,us1,rfl,⟨av,rfl,a1,av1,rfl,g1,a2,av2,rfl,g2,a3,av3,rfl,g3,rfl⟩,u2,us2,rfl,⟨bv,rfl,b1,bv1,rfl,f1,b2,bv2,rfl,f2,b3,bv3,rfl,f3,rfl⟩,rfl⟩:=hL
  have g1:a1 = .int .i64 p.va:=g1
  have g2:a2 = .int .i64 p.vb:=g2
  have g3:a3 = .slice ad p.rs.length cap:=g3
  have f1:b1 = .int .i64 q.va:=f1
  have f2:b2 = .int .i64 q.vb:=f2
  subst g1 g2 g3 f1 f2
  obtain ⟨bb,blk,cap2,m,hk',rfl,hc,hfit,hB⟩:=f3
  rw [hk] at hk'
  simp only [Option.some.injEq] at hk'
  subst hk'
  obtain ⟨H,hR,hHY⟩:=hB
  have:=hSame Y p ad cap (hin.mono hY) hs q (some ⟨blk,0,none⟩) cap2 (hR.2.mono hHY)
  rw [he] at this
  exact this
end Go.Proofs.YtamplgnbbanamaaGreatDoor
end
section
namespace Go.Proofs.YtamplgnbbanamaaGreatDoor
open Go Go.Lg Go.Lg.Fml Go.Lg.Fld Go.Lg.Arith
set_option maxRecDepth 100000
def prog0:Pg:=⟨1,2,[⟨1,0,[]⟩,⟨2,1,[code0]⟩]⟩
theorem chk0:chkP prog0=0:=by rfl
theorem in0:InP prog0:=by
  intro r hr c hc x hx
  simp only [prog0,List.mem_cons,List.not_mem_nil,or_false] at hr
  rcases hr with rfl|rfl
  · cases hc
  · simp only [List.mem_cons,List.not_mem_nil,or_false] at hc
    subst hc
    exact (small_0 x hx).2.2.2
theorem encT0:encPT prog0=encP prog0:=if_pos chk0
theorem dec0:decP (encPT prog0)=some prog0:=by rw [encT0];exact decP_enc chk0 in0
theorem len0:20<(encPT prog0).length∧(encPT prog0).length≤1099511627776:=by rw [encT0];exact ⟨by decide,by decide⟩
theorem dg1_1:dg1 1=[49]:=by
  show Lib.itoa 1=[49]
  rw [show (1:Int)=((1:Nat):Int) from rfl]
  first
    | rfl
    | decide
    | simp [Lib.itoa,Lib.decDigits]
theorem dg1_2:dg1 2=[50]:=by
  show Lib.itoa 2=[50]
  rw [show (2:Int)=((2:Nat):Int) from rfl]
  first
    | rfl
    | decide
    | simp [Lib.itoa,Lib.decDigits]
def line1:List UInt8:=[102,114,101,115,104,32,49]
def line2:List UInt8:=[50,32,102,114,111,109,32,49,32,109,117,108,40,102,48,46,48,44,50,41]
theorem lines0:prog0.rs.map lineR=[line1,line2]:=by
  show [lineR ⟨1,0,[]⟩,lineR ⟨2,1,[code0]⟩]=_
  have h1:lineR ⟨1,0,[]⟩=line1:=by
    show [102,114,101,115,104,32]++dg1 1=_
    rw [dg1_1];rfl
  have h2:lineR ⟨2,1,[code0]⟩=line2:=by
    show ((dg1 2++[32,102,114,111,109,32])++dg1 1)++((32::showX code0)++[])=_
    rw [dg1_1,dg1_2,show0];rfl
  rw [h1,h2]
theorem from0:fromP prog0.rs 1=[2]:=by rfl
theorem find0:findP prog0.rs 2=some ⟨2,1,[code0]⟩:=by rfl
theorem ok0:pgOk prog0:=⟨by decide,by
  intro r hr
  simp only [prog0,List.mem_cons,List.not_mem_nil,or_false] at hr
  rcases hr with rfl|rfl
  · exact ⟨by decide,fun c hc=>by cases hc⟩
  · exact ⟨by decide,fun c hc=>by
      simp only [List.mem_cons,List.not_mem_nil,or_false] at hc
      subst hc
      decide⟩⟩
theorem smallR0:∀ r∈prog0.rs,smallR r:=by
  intro r hr
  simp only [prog0,List.mem_cons,List.not_mem_nil,or_false] at hr
  rcases hr with rfl|rfl<;>exact ⟨by decide,by decide⟩
variable (X:Nat→Option Obj)
abbrev izs12:List Value:=[.int .i64 0,.int .i64 0,.int .i64 0,.bool false,.int .u64 0,.int .u64 0]
abbrev rzs12:List Value:=[.int .i64 0,.int .i64 0,.slice none 0 0]
set_option maxHeartbeats 12800000 in
theorem awake12_spec (hTab:XTab X):PSpec Tryz.prog X 7 [] (Lb true):=by
  have o2:=Of_spec X 2 (by decide)
  refine cF Tryz.func7 rfl (by kernel_rfl) rfl rfl ?_
  intro C
  (refine aA<|rgN<|kas O<|aB<|aA<|rgN<|aT O O (by exact O) (by exact nl6 O O O O O O O) dR ?_;refine kca O O (o2)<|aT O O (by exact O) (by exact nl6 O O O O O O O) dR ?_;refine aT O O (by exact O) (by exact nl6 O O O O O O O) dR ?_;refine aZ (zs:=(List.replicate 3 izs12).flatten) (sz:=6) (e:=66) (cs':=(inssV code0).map .val) (by kernel_rfl) O O O O O O dR<|kas O<|aB<|aA ?_)
  refine LWP.le (σ':=⟨[(1,.sv (.one (.slc 17 0 3 6)))],[(17,some ⟨66,(inssV code0).map .val,false⟩)],X⟩) (Le.of (by exact ⟨O,trivial⟩) (by exact ⟨O,trivial⟩) (by exact O) (by exact O) (by repeat' (first|refine bT ?_ ?_|rfl|exact bV|exact bU|exact bW O))) ?_
  refine LWP.freeze O O O ?_
  intro blk cap arr fr hXn hFz hcp hfit hsp
  have hin1:InsIn (withBlock X blk (.cells arr 66 fr)) (some ⟨blk,0,none⟩) code0:=ins_in (cN _ _ _) small_0 hsp
  replace hTab:XTab (withBlock X blk (.cells arr 66 fr)):=xtab_mono (cJ hXn) hTab
  generalize withBlock X blk (.cells arr 66 fr)=Y at *
  (refine rgN<|aT O O (by exact O) (by exact nl3 O O O O) dR ?_;refine kmv O<|aZ (zs:=[.slice none 0 0]) (sz:=1) (e:=68) (cs':=[.val (.slice (some ⟨blk,0,none⟩) 3 cap)]) (by kernel_rfl) O O O O O O dR<|aT O O (by exact O) (by exact nl3 O O O O) dR ?_;refine aZ (zs:=(List.replicate 2 rzs12).flatten) (sz:=3) (e:=46) (cs':=[.val (.int .i64 1),.val (.int .i64 0),.val (.slice none 0 0),.val (.int .i64 2),.val (.int .i64 1),.slc 20 0 1 1]) (by kernel_rfl) O O O O O O dR<|aT O O (by exact O) (by exact nl3 O O O O) dR ?_;refine aP O dR ?_;refine aM O O O O O O dR ?_;refine aB<|aA ?_)
  refine LWP.le (σ':=⟨[(2,Lp 2)],[(22,some ⟨46,[.val (.int .i64 1),.val (.int .i64 0),.val (.slice none 0 0),.val (.int .i64 2),.val (.int .i64 1)] ++ .slc 20 0 1 1::[],false⟩),(20,some ⟨68,[Value.slice (some ⟨blk,0,none⟩) 3 cap].map .val,false⟩),(2,some ⟨24,[.val (.int .i64 1),.val (.int .i64 2),.slc 22 0 2 3],false⟩)],Y⟩) (Le.of (by exact ⟨O,trivial⟩) (by exact ⟨O,O,O,trivial⟩) (by exact O) (by exact O) (by repeat' (first|refine bT ?_ ?_|rfl|exact bV|exact bU|exact bW O))) ?_
  refine LWP.freezeCell O O O O O O ?_
  intro b2 c2 arr2 fr2 hn2 _ _ _ hsp2
  have hin2:CodesIn (withBlock Y b2 (.cells arr2 68 fr2)) (some ⟨b2,0,none⟩) [code0]:=by
    obtain ⟨sp,e⟩:=hsp2
    exact forms_block (cN _ _ _) e (FormsH.nil.push ⟨_,_,O,hin1.mono (cJ hn2)⟩)
  replace hTab:XTab (withBlock Y b2 (.cells arr2 68 fr2)):=xtab_mono (cJ hn2) hTab
  generalize withBlock Y b2 (.cells arr2 68 fr2)=Y2 at *
  refine LWP.le (σ':=⟨[(2,Lp 2)],[(2,some ⟨24,[.val (.int .i64 1),.val (.int .i64 2)] ++ .slc 22 0 2 3::[],false⟩),(22,some ⟨46,(rwZ prog0.rs [.slice none 0 0,.slice (some ⟨b2,0,none⟩) 1 c2]).map .val,false⟩)],Y2⟩) (Le.of (by exact ⟨O,trivial⟩) (by exact ⟨O,O,trivial⟩) (by exact O) (by exact O) (by repeat' (first|refine bT ?_ ?_|rfl|exact bV|exact bU|exact bW O))) ?_
  refine LWP.freezeCell O O O O O O ?_
  intro b3 c3 arr3 fr3 hn3 _ _ _ hsp3
  have hin:RulesIn (withBlock Y2 b3 (.cells arr3 46 fr3)) (some ⟨b3,0,none⟩) prog0.rs:=by
    obtain ⟨sp,e⟩:=hsp3
    exact rules_block (cN _ _ _) e ((RulesH.nil.push CodesIn.nilIn).push ⟨_,_,O,hin2.mono (cJ hn3)⟩) smallR0
  replace hTab:XTab (withBlock Y2 b3 (.cells arr3 46 fr3)):=xtab_mono (cJ hn3) hTab
  generalize withBlock Y2 b3 (.cells arr3 46 fr3)=Z at *
  refine LWP.le (σ':=⟨[(2,Lp 2)],[v3B 24 2 1 2 (some ⟨b3,0,none⟩) 2 c3],Z⟩) (Le.of (by exact ⟨O,trivial⟩) (by exact ⟨O,trivial⟩) (by exact O) (by exact O) (by repeat' (first|refine bT ?_ ?_|rfl|exact bV|exact bU|exact bW O))) ?_
  have hE:PSpec Tryz.prog Z 11 [LPg 1 2 (some ⟨b3,0,none⟩) 2 c3] (.tup [Ss (encPT prog0),Sn .i64 (chkP prog0)]):=hEncode Z prog0 _ c3 hin ok0
  rw [chk0] at hE
  have hD:MSpec Tryz.prog Z 14 [Ls (encPT prog0)] [] (.tup [.agg [.val (.int .i64 1),.val (.int .i64 2),.slc 1000001 0 2 3],Sn .i64 0]) [rlB 46 1000001 prog0.rs]:=hDecode_ok Z _ len0.2 dec0
  have hD7:=hDecode_no Z [77] (by decide) (decP_short (by decide))
  have hF:MSpec Tryz.prog Z 18 [LPg 1 2 (some ⟨b3,0,none⟩) 2 c3,Ln .i64 2] [] (.tup [SRs ⟨2,1,[code0]⟩ 1000001,Sb true]) [cdB 1000001 [code0]]:=hFind_yes Z prog0 _ c3 hin ok0 2 find0
  have hL:MSpec Tryz.prog Z 21 [LPg 1 2 (some ⟨b3,0,none⟩) 2 c3] [] (.sv (.one (.slc 1000001 0 2 1))) [txB 1000001 [line1,line2] true]:=by
    have h:=hLines Z prog0 (some ⟨b3,0,none⟩) c3 hin ok0 hTab chk0
    rw [lines0] at h
    exact h
  have hR:MSpec Tryz.prog Z 20 [LPg 1 2 (some ⟨b3,0,none⟩) 2 c3,Ln .i64 1] [] (.sv (.one (.slc 1000001 0 1 1))) [(1000001,some ⟨3,(int1 [2]).map .val,true⟩)]:=by
    have h:=hFrom Z prog0 (some ⟨b3,0,none⟩) c3 hin ok0 1
    rw [from0] at h
    exact h
  have hS:=fun S e cc hk=>hsame_lent Z (S:=S) (p:=prog0) (q:=prog0) (cap:=c3) (k:=601) (e:=e) (cc:=cc) (t:=46) (r:=true) hin ok0 (cP rfl) hk
  have hC:PSpec Tryz.prog Z 12 [LPg 0 0 none 0 0] (Ln .i64 1):=hCheck Z ⟨0,0,[]⟩ none 0 RulesIn.nil ⟨by decide,fun r hr=>by cases hr⟩
  have hlen:(⟨(encPT prog0).toArray⟩:ByteArray).size=(encPT prog0).length:=rfl
  have hl20:=len0.1
  generalize encPT prog0=bytes at *
  (refine rgN<|aK O O O dR ?_;refine kca O O hE<|kmv O<|kex O O<|kex O O<|kas O<|kas O<|aB<|aA<|rgN<|kmv O<|bE [(1000001,601)] (.tup [.agg [.val (.int .i64 1),.val (.int .i64 2),.slc 601 0 2 3],Sn .i64 0]) [rlB 46 601 prog0.rs] (hD) O O (by exact trivial) O O O O O (by exact (.box O O .nil)) dR<|kmv O<|kex O O<|kex O O ?_;refine aP O dR ?_;refine aM O O O O O O dR ?_;refine kas O<|aB<|aA<|rgN<|kca O O hD7<|kmv O<|kex O O<|kex O O<|aP O dR ?_;refine aM O O O O O O dR ?_;refine kas O<|aB<|aA<|rgN<|aK O O O dR ?_;refine bE [(1000001,602)] (.sv (.one (.slc 602 0 2 1))) [txB 602 [line1,line2] true] (hL) O O (by exact trivial) O O O O O (by exact (.box O O .nil)) dR<|kas O<|aB<|aA<|rgN<|aK O O O dR ?_;refine bE [(1000001,604)] (.tup [SRs ⟨2,1,[code0]⟩ 604,Sb true]) [cdB 604 [code0]] (hF) O O (by repeat' (first|exact trivial|refine cQ ⟨_,O,?_⟩ ?_|refine cQ ⟨_,O⟩ ?_|rfl|exact bX _ _ _ _|exact bY _ _ _ _|exact bZ O)) (by repeat' (first|refine bT ?_ ?_|rfl|exact bV|exact bU|exact bW O)) O O O O (by repeat' (first|exact .nil|refine .box O ?_ ?_|refine .dead O ?_|rfl|exact bX _ _ _ _|exact bY _ _ _ _|exact bZ O)) dR ?_;refine kmv O<|kex O O<|kex O O<|aP O dR ?_;refine aM O O O O O O dR ?_;refine kas O<|aB<|aA<|rgN<|aK O O O dR ?_;refine bE [(1000001,603)] (.sv (.one (.slc 603 0 1 1))) [(603,some ⟨3,(int1 [2]).map .val,true⟩)] (hR) O O (by exact trivial) O O O O O (by exact (.box O O .nil)) dR<|kas O<|aB<|aA ?_)
  refine LWP.le (σ':=⟨[(2,Lp 2),(3,Ls bytes),(4,Ln .i64 0),(5,Lp 5),(6,Ln .i64 0),(8,Ln .i64 4),(9,.sv (.one (.slc 602 0 2 1))),(10,Lp 10),(11,Lb true),(12,.sv (.one (.slc 603 0 1 1)))],[v3B 24 2 1 2 (some ⟨b3,0,none⟩) 2 c3,(5,some ⟨24,[.val (.int .i64 1),.val (.int .i64 2),.slc 601 0 2 3],false⟩),rlB 46 601 prog0.rs,txB 602 [line1,line2] true,(10,some ⟨46,[.val (.int .i64 2),.val (.int .i64 1),.slc 604 0 1 1],false⟩),(603,some ⟨3,(int1 [2]).map .val,true⟩),cdB 604 [code0]],Z⟩) (Le.of (by exact ⟨O,O,O,O,O,O,O,O,O,O,trivial⟩) (by exact ⟨O,O,O,O,O,O,O,trivial⟩) (by exact O) (by exact O) (by repeat' (first|refine bT ?_ ?_|rfl|exact bV|exact bU|exact bW O))) ?_
  ((refine rgN<|kmv O<|keq O O (r:=true) O<|kmv O<|gmv O O O<|K.lenStr O (dS O O) ?_;refine aS O O (cP (by rw [hlen];omega)) (dS O O) ?_;refine kpt O O<|kmv O<|gmv O O O<|bC O O (r:=true) O (dS O O) ?_;refine kpt O O<|kmv O<|aK O O O (dS O O) ?_;refine aK O O O (dS O O) ?_;refine K.callL [601] O O O (hS _ _ _ O) (dS O O) ?_;refine kpt O O<|kmv O<|gmv O O O<|bC O O (r:=true) O (dS O O) ?_;refine kpt O O<|kmv O<|gmv O O O<|K.lenSlc O cC O (dS O O) ?_;refine bC O O (r:=true) O (dS O O) ?_;refine kpt O O<|kmv O<|gmv O O O<|K.indexSlc O O (by decide) O (dS O O) ?_;refine aO O O O (dS O O) ?_;refine K.strEq O O (strs_eq (r:=true) (by decide)) (dS O O) ?_);(refine kpt O O<|kmv O<|gmv O O O<|K.indexSlc O O (by decide) O (dS O O) ?_;refine aO O O O (dS O O) ?_;refine K.strEq O O (strs_eq (r:=true) (by decide)) (dS O O) ?_;refine kpt O O<|kmv O<|gmv O O O<|kpt O O<|kmv O<|aN O O (dS O O) ?_;refine aO O O O (dS O O) ?_;refine bC O O (r:=true) O (dS O O) ?_;refine kpt O O<|kmv O<|gmv O O O<|K.lenSlc O cC O (dS O O) ?_;refine bC O O (r:=true) O (dS O O) ?_;refine kpt O O<|kmv O<|gmv O O O<|K.indexSlc O O (by decide) O (dS O O) ?_;refine aO O O O (dS O O) ?_;refine bC O O (r:=true) O (dS O O) ?_;refine kpt O O<|kmv O<|aT O O (by exact O) (by exact nl3 O O O O) (dS O O) ?_);(refine gca O O hC O O<|bC O O (r:=true) O (dS O O) ?_;refine kpt O O<|kas O<|aB<|aI ?_))
  exact ⟨[_],⟨O,trivial⟩,O⟩
end Go.Proofs.YtamplgnbbanamaaGreatDoor
end
section
namespace Go.Proofs.YtamplgnbbanamaaGreatDoor
open Go Go.Lg Go.Lg.Fml Go.Lg.Fld Go.Lg.Arith
set_option maxRecDepth 100000
def IntsI (X:Nat→Option Obj) (ad:Option Addr) (l:List Int):Prop:=Go.Lg.RowsIn X ad 1 (l.map fun n=>[.int .i64 n])
theorem IntsI.at {X:Nat→Option Obj} {ad:Option Addr} {l:List Int} (h:IntsI X ad l) {i:Nat} {x:Int} (hx:l[i]? = some x):∃ (blk off:Nat) (arr:Array Value) (el:TypeId) (fr:Nat×Nat),ad=some ⟨blk,off,none⟩∧X blk=some (.cells arr el fr)∧arr[off+i*1]? = some (.int .i64 x):=by
  obtain ⟨blk,off,arr,el,fr,h1,h2,h3,h4⟩:=h i [.int .i64 x] (by rw [dL,hx];rfl)
  have:=congrArg (fun l:List Value=>l[0]?) h4
  exact ⟨blk,off,arr,el,fr,h1,h2,by simpa [List.getElem?_take,List.getElem?_drop] using this⟩
theorem flat_one {α β:Type} (f:α→β) (l:List α):(l.map fun x=>[f x]).flatten=l.map f:=by
  induction l with
  | nil=>rfl
  | cons x t ih=>rw [List.map_cons,List.flatten_cons,ih];rfl
theorem intsI_frozen {X:Nat→Option Obj} {blk:Nat} {arr:Array Value} {el:TypeId} {fr:Nat×Nat} {l:List Int} (h:∃ sp,arr.toList=int1 l++sp):IntsI (withBlock X blk (.cells arr el fr)) (some ⟨blk,0,none⟩) l:=
  rows_frozen (fun r hr=>by obtain ⟨x,_,rfl⟩:=List.mem_map.1 hr;rfl) (by rw [flat_one];exact h)
theorem ok_of_grt {p:Pg} (h:grtP p.rs=false):pgOk p:=grtP_false h
variable (X:Nat→Option Obj)
end Go.Proofs.YtamplgnbbanamaaGreatDoor
end
section
namespace Go.Proofs.YtamplgnbbanamaaGreatDoor
open Go Go.Lg Go.Lg.Fml Go.Lg.Fld Go.Lg.Arith
set_option maxRecDepth 100000
variable (X:Nat→Option Obj)
theorem lent_rl {S:Nat→Option (Option Box)} {Y:Nat→Option Obj} {k n:Nat} {rs:List Rl} {t e:TypeId} {cc:List CV} {u:Value} (hk:S k=some (some ⟨e,cc,.res (rlR t rs)⟩)) (hu:LentC S Y (.slc k 0 n 3) u):∃ (blk cap:Nat),u = .slice (some ⟨blk,0,none⟩) n cap∧RulesIn Y (some ⟨blk,0,none⟩) rs:=by
  obtain ⟨b,blk,cap2,m,hk',rfl,hc,hfit,hB⟩:=hu
  rw [hk] at hk'
  simp only [Option.some.injEq] at hk'
  subst hk'
  obtain ⟨H,hR,hHY⟩:=hB
  exact ⟨blk,cap2,O,hR.2.mono hHY⟩
end Go.Proofs.YtamplgnbbanamaaGreatDoor
end
section
namespace Go.Proofs.YtamplgnbbanamaaGreatDoor
open Go Go.Lg Go.Lg.Fml Go.Lg.Fld Go.Lg.Arith
set_option maxRecDepth 100000
variable (X:Nat→Option Obj)
theorem joinM_old {C:Ctx} {X H:Nat→Option Obj} (hO:OwnedM C X H):∀ b o,X b=some o→joinM X H b=some o:=fun _ _ h=>joinM_has hO h
end Go.Proofs.YtamplgnbbanamaaGreatDoor
end
section
namespace Go.Proofs.YtamplgnbbanamaaGreatDoor
open Go Go.Lg Go.Lg.Fml Go.Lg.Fld Go.Lg.Arith
set_option maxRecDepth 100000
theorem placeI_at {rs:List Rl} {id:Int} {i:Nat} {r:Rl} (h:∀ (j:Nat) (r:Rl),j<i→rs[j]? = some r→(r.nw==id)=false) (hr:rs[i]? = some r) (he:(r.nw==id)=true):placeI rs id=(i:Nat):=by
  have hi:=(List.getElem?_eq_some_iff.1 hr).1
  unfold placeI
  rw [placeP_at h hr he,if_pos hi]
theorem placeI_no {rs:List Rl} {id:Int} (h:∀ (j:Nat) (r:Rl),rs[j]? = some r→(r.nw==id)=false):placeI rs id = -1:=by
  unfold placeI
  rw [if_neg]
  have:=placeP_ge (i:=rs.length) (fun j r _ hr=>h j r hr) (dN _)
  omega
theorem rules_at {X:Nat→Option Obj} {ud:Option Addr} {rs:List Rl} {i:Nat} {r:Rl} (h:RulesIn X ud rs) (hr:rs[i]? = some r):smallR r:=h.small r (dD hr)
variable (X:Nat→Option Obj)
theorem same12_lent2 {S:Nat→Option (Option Box)} {p q:Pg} {ad:Option Addr} {cap k:Nat} {t e:TypeId} {cc:List CV} {r:Bool} (hin:RulesIn X ad p.rs) (hs:pgOk p) (hs2:pgOk q) (he:decide (p=q)=r) (hk:S k=some (some ⟨e,cc,.res (rlR t q.rs)⟩)):
    ∀ (Y:Nat→Option Obj) (us:List Value),(∀ b o,X b=some o→Y b=some o)→LentLs S Y [LPg p.va p.vb ad p.rs.length cap,.sv (.agg [.val (.int .i64 q.va),.val (.int .i64 q.vb),.slc k 0 q.rs.length 3])] us→PSpec Tryz.prog Y 16 (us.map toLV) (Lb r):=by
  intro Y us hY hL
  obtain ⟨u1,us1,rfl,⟨av,rfl,a1,av1,rfl,g1,a2,av2,rfl,g2,a3,av3,rfl,g3,rfl⟩,u2,us2,rfl,⟨bv,rfl,b1,bv1,rfl,f1,b2,bv2,rfl,f2,b3,bv3,rfl,f3,rfl⟩,rfl⟩:=hL
  have g1:a1 = .int .i64 p.va:=g1
  have g2:a2 = .int .i64 p.vb:=g2
  have g3:a3 = .slice ad p.rs.length cap:=g3
  have f1:b1 = .int .i64 q.va:=f1
  have f2:b2 = .int .i64 q.vb:=f2
  subst g1 g2 g3 f1 f2
  obtain ⟨blk,cap3,rfl,hin2⟩:=lent_rl hk f3
  have:=same12_spec Y p q ad cap (hin.mono hY) hs.big hs.size (some ⟨blk,0,none⟩) cap3 hin2 hs2.big hs2.size
  rw [he] at this
  exact this
abbrev q1B (k:Nat) (q:Rl) (rd:Option Addr) (rc:Nat):Nat×Option Box:=(k,some ⟨46,[.val (.int .i64 q.nw),.val (.int .i64 q.old),.val (.slice rd q.ex.length rc)],false⟩)
theorem form_one (q:Rl) (rd:Option Addr) (rc:Nat) (hE:CodesIn X rd q.ex) (hs:smallR q) (h1:q.ex.length≤12) (h2:∀ c∈q.ex,c.length≤80):
    MSpec Tryz.prog X 9 [.sv (.agg [.val (.int .i64 0),.val (.int .i64 0),.slc 1000000 0 1 3])] [q1B 1000000 q rd rc] (.sv (.agg [.val (.int .i64 0),.val (.int .i64 0),.slc 1000001 0 1 3])) ([q1B 1000000 q rd rc]++[rlB 51 1000001 [q]]):=by
  refine MSpec.lend (by kernel_rfl) O O O O O fun Y us hY hL => ?_
  obtain ⟨u1,us1,rfl,⟨av,rfl,a1,av1,rfl,g1,a2,av2,rfl,g2,a3,av3,rfl,g3,rfl⟩,rfl⟩:=hL
  have g1:a1 = .int .i64 0:=g1
  have g2:a2 = .int .i64 0:=g2
  subst g1 g2
  obtain ⟨b,blk,cap2,m,hk',rfl,hc,hfit,hB⟩:=g3
  have hk':some (some (⟨46,[.val (.int .i64 q.nw),.val (.int .i64 q.old),.val (.slice rd q.ex.length rc)],false⟩:Box))=some (some b):=hk'
  simp only [Option.some.injEq] at hk'
  subst hk'
  obtain ⟨arr,fr,us',sp,hYb,hsz,harr,hv⟩:=hB
  have:=hv [.int .i64 q.nw,.int .i64 q.old,.slice rd q.ex.length rc] rfl
  subst this
  have hin:RulesIn Y (some ⟨blk,0,none⟩) [q]:=rules_block (rs:=[q]) (ws:=[.slice rd q.ex.length rc]) hYb harr (RulesH.nil.push ⟨rd,rc,rfl,hE.mono hY⟩) (fun r hr=>by rw [List.mem_singleton.1 hr];exact hs)
  exact form12_some Y 0 0 [q] (some ⟨blk,0,none⟩) cap2 hin (by show 0<1;decide) ⟨by show 1≤30;decide,fun r hr=>by rw [List.mem_singleton.1 hr];exact ⟨h1,h2⟩⟩
abbrev fnSt (a b:Pg) (id:Int) (ad bd ud:Option Addr) (ca cb uc:Nat) (more:List (Nat×LV)) (mb:List (Nat×Option Box)) (Y:Nat→Option Obj):St:=
  ⟨(2,Ln .i64 id)::(3,Lp 3)::(4,Lp 4)::(7,Lp 7)::more,v3B 24 3 a.va a.vb ad a.rs.length ca::v3B 24 4 b.va b.vb bd b.rs.length cb::v3B 29 7 a.va a.vb ud a.rs.length uc::mb,Y⟩
abbrev f1St (rs:List Rl) (va vb id:Int) (ad ud ld:Option Addr) (ca uc lc n k:Nat) (Y:Nat→Option Obj):St:=
  ⟨[(2,Ln .i64 id),(3,Lp 3),(7,Lp 7),(13,Lx ld (fromP rs id).length lc),(14,Ln .i64 (n:Nat)),(15,Ln .i64 (k:Nat))],[v3B 24 3 va vb ad rs.length ca,v3B 29 7 va vb ud rs.length uc],Y⟩
abbrev f2St (rs:List Rl) (va vb id:Int) (ud ld:Option Addr) (uc lc k:Nat) (Y:Nat→Option Obj):St:=
  ⟨[(7,Lp 7),(13,Lx ld (fromP rs id).length lc),(14,Ln .i64 ((fromP rs id).length:Nat)),(16,.sv (.one (.slc 605 0 rs.length 1))),(17,Ln .i64 (k:Nat))],[v3B 29 7 va vb ud rs.length uc,txB 605 (rs.map lineR) true],Y⟩
set_option maxHeartbeats 25600000 in
theorem RuleFinds_spec (hTab:XTab X) (a b:Pg) (id:Int) (ad bd:Option Addr) (ca cb:Nat) (ha:RulesIn X ad a.rs) (hb:RulesIn X bd b.rs) (la:a.rs.length<9223372036854775808) (lb:b.rs.length<9223372036854775808) (za:sizeB a.rs) (zb:sizeB b.rs):
    PSpec Tryz.prog X 4 [LPg a.va a.vb ad a.rs.length ca,LPg b.va b.vb bd b.rs.length cb,Ln .i64 id] (Lb true):=by
  have hW:=awake12_spec X hTab
  have hG:=great12_spec X a ad ca ha la za
  have hG2:=great12_spec X b bd cb hb lb zb
  refine cF Tryz.func4 rfl (by kernel_rfl) rfl rfl ?_
  intro C
  cases hg:grtP a.rs with
  | true =>
    rw [hg] at hG
    (refine aA<|rgN<|aL O O O dR<|aL O O O dR<|kas O<|aB<|aA<|aA<|rgN<|kca O O (hW)<|aV O O dR<|aB<|aF O ?_;refine aH ?_;refine aA<|aA<|rgN<|aK O O O dR ?_;refine kca O O hG<|kmv O<|aC O O O<|aC O O O<|kpt O O<|aB<|aE O ?_;refine aA<|rgN<|kas O<|aB<|aI ?_)
    exact ⟨[_],⟨O,trivial⟩,O⟩
  | false =>
  rw [hg] at hG
  cases hg2:grtP b.rs with
  | true =>
    rw [hg2] at hG2
    (refine aA<|rgN<|aL O O O dR<|aL O O O dR<|kas O<|aB<|aA<|aA<|rgN<|kca O O (hW)<|aV O O dR<|aB<|aF O ?_;refine aH ?_;refine aA<|aA<|rgN<|aK O O O dR ?_;refine kca O O hG<|kmv O<|aK O O O (dS O O) ?_;refine gca O O hG2 O O<|kpf O O<|aB<|aE O ?_;refine aA<|rgN<|kas O<|aB<|aI ?_)
    exact ⟨[_],⟨O,trivial⟩,O⟩
  | false =>
  rw [hg2] at hG2
  have hS:=ok_of_grt hg
  have hS2:=ok_of_grt hg2
  (refine aA<|rgN<|aL O O O dR<|aL O O O dR<|kas O<|aB<|aA<|aA<|rgN<|kca O O (hW)<|aV O O dR<|aB<|aF O ?_;refine aH ?_;refine aA<|aA<|rgN<|aK O O O dR ?_;refine kca O O hG<|kmv O<|aK O O O (dS O O) ?_;refine gca O O hG2 O O<|kpf O O<|aB<|aF O ?_;refine aH ?_;refine aA ?_)
  repeat refine aA ?_
  refine LWP.meetL (fun σ=>∃ (Y:Nat→Option Obj) (ud:Option Addr) (uc:Nat),(∀ b o,X b=some o→Y b=some o)∧RulesIn Y ud a.rs∧σ=fnSt a b id ad bd ud ca cb uc [] [] Y) ?_ ?_
  · by_cases h0:a.rs=[]
    · have hF:=form12_nil X a.va a.vb ad ca
      obtain ⟨va,vb,rs⟩:=a
      simp only at h0
      subst h0
      (refine rgN<|aK O O O dR ?_;refine aU [] [] (hF) O O (by exact trivial) O O O O O (by exact .nil) dR<|aP O dR ?_;refine aM O O O O O O dR ?_;refine aB ?_)
      exact Leads.here (σ':=fnSt ⟨va,vb,[]⟩ b id ad bd none ca cb 0 [] [] X) (Le.of (by exact ⟨O,O,O,O,trivial⟩) (by exact ⟨O,O,O,trivial⟩) (by exact O) (by exact O) (by repeat' (first|refine bT ?_ ?_|rfl|exact bV|exact bU|exact bW O))) ⟨X,none,0,fun _ _ h=>h,RulesIn.nil,O⟩
    · have hF:=form12_some X a.va a.vb a.rs ad ca ha (List.length_pos_iff.2 h0) hS
      (refine rgN<|aK O O O dR ?_;refine bE [(1000001,601)] (.sv (.agg [.val (.int .i64 a.va),.val (.int .i64 a.vb),.slc 601 0 a.rs.length 3])) [rlB 51 601 a.rs] (hF) O O (by exact trivial) O O O O O (by exact (.box O O .nil)) dR<|aP O dR ?_;refine aM O O O O O O dR ?_;refine aB ?_)
      refine cE (σ':=⟨[(2,Ln .i64 id),(3,Lp 3),(4,Lp 4),(7,Lp 7)],[(7,some ⟨29,[.val (.int .i64 a.va),.val (.int .i64 a.vb)] ++ .slc 601 0 a.rs.length 3::[],false⟩),rlB 51 601 a.rs,v3B 24 3 a.va a.vb ad a.rs.length ca,v3B 24 4 b.va b.vb bd b.rs.length cb],X⟩) (Le.of (by exact ⟨O,O,O,O,trivial⟩) (by exact ⟨O,O,O,O,trivial⟩) (by exact O) (by exact O) (by repeat' (first|refine bT ?_ ?_|rfl|exact bV|exact bU|exact bW O))) ?_
      refine Leads.fixCell O O O O O O fun ρ H uc hR hO _ _ => ?_
      exact cE (σ':=fnSt a b id ad bd (some ⟨ρ.1,0,none⟩) ca cb uc [] [] (joinM X H)) (Le.of (by exact ⟨O,O,O,O,trivial⟩) (by exact ⟨O,O,O,trivial⟩) (by exact O) (by exact O) (by repeat' (first|refine bT ?_ ?_|rfl|exact bV|exact bU|exact bW O))) (cD ⟨joinM X H,some ⟨ρ.1,0,none⟩,uc,joinM_old hO,hR.2.mono fun b o h=>joinM_in h,O⟩)
  rintro σ ⟨Y,ud,uc,hY,hU,rfl⟩
  replace ha:=ha.mono hY
  replace hb:=hb.mono hY
  replace hTab:=xtab_mono hY hTab
  have hRF:=rFind12 Y a id ud uc hU hS.big
  (refine aA<|rgN<|aK O O O dR ?_;refine kmv O<|kca O O hRF<|kas O<|aB<|aA ?_)
  refine LWP.meetL (fun σ=>∃ (Z:Nat→Option Obj) (q:Rl) (rd:Option Addr) (rc:Nat) (i:Int) (is:Bool),(∀ b o,Y b=some o→Z b=some o)∧CodesIn Z rd q.ex∧smallR q∧(q.ex.length≤12∧∀ c∈q.ex,c.length≤80)∧decide (i≥0)=is∧((∃ j:Nat,i=(j:Nat)∧a.rs[j]? = some q)∨(i<0∧q=⟨0,0,[]⟩)) ∧
    σ=fnSt a b id ad bd ud ca cb uc [(8,Ln .i64 i),(9,Lp 9),(10,Lb is)] [v3B 46 9 q.nw q.old rd q.ex.length rc] Z) ?_ ?_
  · cases hf:findP a.rs id with
    | none =>
      have hN:=hFind_no Y a ad ca ha hS id hf
      rw [placeI_no (find_nowhere hf)]
      (refine rgN<|aK O O O dR ?_;refine kmv O<|kca O O hN<|kmv O<|kex O O<|kex O O<|aP O dR ?_;refine aM O O O O O O dR ?_;refine kas O<|aB ?_)
      exact Leads.here (σ':=fnSt a b id ad bd ud ca cb uc [(8,Ln .i64 (-1)),(9,Lp 9),(10,Lb false)] [v3B 46 9 0 0 none 0 0] Y) (Le.of (by exact ⟨rfl,rfl,rfl,rfl,rfl,rfl,rfl,trivial⟩) (by exact ⟨rfl,rfl,rfl,rfl,trivial⟩) (by exact rfl) (by exact rfl) (by repeat' (first|refine bT ?_ ?_|rfl|exact bV|exact bU|exact bW rfl))) ⟨Y,⟨0,0,[]⟩,none,0,-1,false,fun _ _ h=>h,CodesIn.nil,⟨by decide,by decide⟩,⟨by decide,fun c hc=>by cases hc⟩,rfl,.inr ⟨by decide,rfl⟩,rfl⟩
    | some r =>
      have hF:=hFind_yes Y a ad ca ha hS id hf
      obtain ⟨i,hr,he,hpre⟩:=rfind_at hf
      rw [placeI_at hpre hr he]
      (refine rgN<|aK O O O dR ?_;refine kmv O<|bE [(1000001,601)] (.tup [SRs r 601,Sb true]) [cdB 601 r.ex] (hF) O O (by exact trivial) O O O O O (by exact (.box O O .nil)) dR<|kmv O<|kex O O<|kex O O<|aP O dR ?_;refine aM O O O O O O dR ?_;refine kas O<|aB ?_)
      refine cE (σ':=⟨[(2,Ln .i64 id),(3,Lp 3),(4,Lp 4),(7,Lp 7),(8,Ln .i64 (i:Nat)),(9,Lp 9),(10,Lb true)],[(9,some ⟨46,[.val (.int .i64 r.nw),.val (.int .i64 r.old)] ++ .slc 601 0 r.ex.length 1::[],false⟩),cdB 601 r.ex,v3B 24 3 a.va a.vb ad a.rs.length ca,v3B 24 4 b.va b.vb bd b.rs.length cb,v3B 29 7 a.va a.vb ud a.rs.length uc],Y⟩) (Le.of (by exact ⟨O,O,O,O,O,O,O,trivial⟩) (by exact ⟨O,O,O,O,O,trivial⟩) (by exact O) (by exact O) (by repeat' (first|refine bT ?_ ?_|rfl|exact bV|exact bU|exact bW O))) ?_
      refine Leads.fixCell O O O O O O fun ρ H rc hR hO _ _ => ?_
      exact cE (σ':=fnSt a b id ad bd ud ca cb uc [(8,Ln .i64 (i:Nat)),(9,Lp 9),(10,Lb true)] [v3B 46 9 r.nw r.old (some ⟨ρ.1,0,none⟩) r.ex.length rc] (joinM Y H)) (Le.of (by exact ⟨O,O,O,O,O,O,O,trivial⟩) (by exact ⟨O,O,O,O,trivial⟩) (by exact O) (by exact O) (by repeat' (first|refine bT ?_ ?_|rfl|exact bV|exact bU|exact bW O))) (cD ⟨joinM Y H,r,some ⟨ρ.1,0,none⟩,rc,(i:Nat),true,joinM_old hO,hR.2.mono fun b o h=>joinM_in h,rules_at ha hr,hS.2 r (dD hr),cP (by omega),.inl ⟨i,O,hr⟩,O⟩)
  rintro σ ⟨Z,q,rd,rc,i,is,hZ,hQ,hqs,hql,hge,hiq,rfl⟩
  replace ha:=ha.mono hZ
  replace hb:=hb.mono hZ
  replace hU:=hU.mono hZ
  replace hTab:=xtab_mono hZ hTab
  have hF1:=form_one Z q rd rc hQ hqs hql.1 hql.2
  (refine aA<|rgN<|aK O O O dR ?_;refine aZ (zs:=[.int .i64 0,.int .i64 0,.slice none 0 0]) (sz:=3) (e:=46) (cs':=[.val (.int .i64 q.nw),.val (.int .i64 q.old),.val (.slice rd q.ex.length rc)]) (by kernel_rfl) O O O O O O dR<|aT O O (by exact O) (by exact nl3 O O O O) dR ?_;refine bE [(1000000,38),(1000001,602)] (.sv (.agg [.val (.int .i64 0),.val (.int .i64 0),.slc 602 0 1 3])) [q1B 38 q rd rc,rlB 51 602 [q]] (hF1) O O (by exact (cQ ⟨_,O,O⟩ trivial)) (by exact (bT (bT O (bT O (bT O O))) O)) O O O O (by exact (.box O O (.box O O .nil))) dR<|aP O dR ?_;refine aM O O O O O O dR ?_;refine aB<|aA ?_)
  refine LWP.le (σ':=⟨[(2,Ln .i64 id),(3,Lp 3),(4,Lp 4),(7,Lp 7),(8,Ln .i64 i),(10,Lb is),(11,Lp 11)],[(11,some ⟨29,[.val (.int .i64 0),.val (.int .i64 0)] ++ .slc 602 0 1 3::[],false⟩),rlB 51 602 [q],v3B 24 3 a.va a.vb ad a.rs.length ca,v3B 24 4 b.va b.vb bd b.rs.length cb,v3B 29 7 a.va a.vb ud a.rs.length uc],Z⟩) (Le.of (by exact ⟨O,O,O,O,O,O,O,trivial⟩) (by exact ⟨O,O,O,O,O,trivial⟩) (by exact O) (by exact O) (by repeat' (first|refine bT ?_ ?_|rfl|exact bV|exact bU|exact bW O))) ?_
  refine LWP.fixCell O O O O O O fun ρ H gc hR hO _ _ => ?_
  have hGot:=hR.2.mono fun b o h=>joinM_in (X:=Z) h
  have hV:=joinM_old hO
  replace ha:=ha.mono hV
  replace hb:=hb.mono hV
  replace hU:=hU.mono hV
  replace hTab:=xtab_mono hV hTab
  clear hO hR hV hF1 hQ hRF
  generalize joinM Z H=V at *
  generalize (some ⟨ρ.1,0,none⟩:Option Addr)=gd at *
  (refine rgN<|aT O O (by exact O) (by exact nl3 O O O O) dR ?_;refine aZ (zs:=[.int .i64 0,.int .i64 0,.slice none 0 0]) (sz:=3) (e:=51) (cs':=[.val (.int .i64 0),.val (.int .i64 0),.val (.slice none 0 0)]) (by kernel_rfl) O O O O O O dR<|aT O O (by exact O) (by exact nl3 O O O O) dR ?_;refine aP O dR ?_;refine aM O O O O O O dR ?_;refine aB<|aA<|aA ?_)
  refine LWP.cutL (fun σ=>∃ (W:Nat→Option Obj) (wd:Option Addr) (wc:Nat),(∀ b o,V b=some o→W b=some o)∧RulesIn W wd [q]∧σ=fnSt a b id ad bd ud ca cb uc [(8,Ln .i64 i),(10,Lb is),(11,Lp 11),(12,Lp 12)] [v3B 29 11 0 0 gd 1 gc,v3B 29 12 0 0 wd 1 wc] W) ?_ ?_
  · rcases hiq with ⟨j,rfl,hr⟩|⟨hneg,rfl⟩
    · obtain ⟨ub,uo,uarr,uel,ufr,uead,uecap,rfl,hUX,usz,ucs,_,_,_,hUE⟩:=hU.get hr
      have hj:=(List.getElem?_eq_some_iff.1 hr).1
      have hio:uo+Int.toNat (j:Int)*3=uo+j*3:=by simp
      have h30:=hS.1
      (refine rgN<|kmv O<|bD O O (cP (by omega)) dR<|aB<|aE O ?_;refine rgD mixed<|kfa O O ?_;refine kl1 O O O<|kfa O O ?_;refine kl1 O O O<|kmv O<|aR O O cC (by omega) hio dR<|aY O hUX (by kernel_rfl) usz ucs dR<|K.indexSlc O O (by decide) O dR ?_;refine K.store O O O O (by kernel_rfl) (dN 3) O dR<|aB<|rgA ?_)
      refine cE (σ':=⟨[(2,Ln .i64 id),(3,Lp 3),(4,Lp 4),(7,Lp 7),(8,Ln .i64 (j:Nat)),(10,Lb is),(11,Lp 11),(12,Lp 12)],[(12,some ⟨29,[.val (.int .i64 0),.val (.int .i64 0)] ++ .slc 42 0 1 3::[],false⟩),(42,some ⟨51,[Value.int .i64 q.nw,.int .i64 q.old,.slice uead q.ex.length uecap].map .val,false⟩),v3B 29 11 0 0 gd 1 gc,v3B 24 3 a.va a.vb ad a.rs.length ca,v3B 24 4 b.va b.vb bd b.rs.length cb,v3B 29 7 a.va a.vb (some ⟨ub,uo,none⟩) a.rs.length uc],V⟩) (Le.of (by exact ⟨O,O,O,O,O,O,O,O,trivial⟩) (by exact ⟨O,O,O,O,O,O,trivial⟩) (by exact O) (by exact O) (by repeat' (first|refine bT ?_ ?_|rfl|exact bV|exact bU|exact bW O))) ?_
      refine Leads.freezeCell O O O O O O fun b2 c2 arr2 fr2 hn2 _ _ _ hsp2 => ?_
      have hw:RulesIn (withBlock V b2 (.cells arr2 51 fr2)) (some ⟨b2,0,none⟩) [q]:=by
        obtain ⟨sp,e⟩:=hsp2
        exact rules_block (rs:=[q]) (ws:=[.slice uead q.ex.length uecap]) (cN _ _ _) e (RulesH.nil.push ⟨uead,uecap,rfl,hUE.mono (cJ hn2)⟩) (fun r hr=>by rw [List.mem_singleton.1 hr];exact hqs)
      exact cE (σ':=fnSt a b id ad bd (some ⟨ub,uo,none⟩) ca cb uc [(8,Ln .i64 (j:Nat)),(10,Lb is),(11,Lp 11),(12,Lp 12)] [v3B 29 11 0 0 gd 1 gc,v3B 29 12 0 0 (some ⟨b2,0,none⟩) 1 c2] (withBlock V b2 (.cells arr2 51 fr2))) (Le.of (by exact ⟨O,O,O,O,O,O,O,O,trivial⟩) (by exact ⟨O,O,O,O,O,trivial⟩) (by exact O) (by exact O) (by repeat' (first|refine bT ?_ ?_|rfl|exact bV|exact bU|exact bW O))) (cD ⟨_,some ⟨b2,0,none⟩,c2,cJ hn2,hw,O⟩)
    · (refine rgN<|kmv O<|bD O O (cO (by omega)) dR<|aB<|aF O ?_;refine aH ?_)
      refine cE (σ':=⟨[(2,Ln .i64 id),(3,Lp 3),(4,Lp 4),(7,Lp 7),(8,Ln .i64 i),(10,Lb is),(11,Lp 11),(12,Lp 12)],[(12,some ⟨29,[.val (.int .i64 0),.val (.int .i64 0)] ++ .slc 42 0 1 3::[],false⟩),(42,some ⟨51,[Value.int .i64 0,.int .i64 0,.slice none 0 0].map .val,false⟩),v3B 29 11 0 0 gd 1 gc,v3B 24 3 a.va a.vb ad a.rs.length ca,v3B 24 4 b.va b.vb bd b.rs.length cb,v3B 29 7 a.va a.vb ud a.rs.length uc],V⟩) (Le.of (by exact ⟨O,O,O,O,O,O,O,O,trivial⟩) (by exact ⟨O,O,O,O,O,O,trivial⟩) (by exact O) (by exact O) (by repeat' (first|refine bT ?_ ?_|rfl|exact bV|exact bU|exact bW O))) ?_
      refine Leads.freezeCell O O O O O O fun b2 c2 arr2 fr2 hn2 _ _ _ hsp2 => ?_
      have hw:RulesIn (withBlock V b2 (.cells arr2 51 fr2)) (some ⟨b2,0,none⟩) [⟨0,0,[]⟩]:=by
        obtain ⟨sp,e⟩:=hsp2
        exact rules_block (rs:=[⟨0,0,[]⟩]) (ws:=[.slice none 0 0]) (cN _ _ _) e (RulesH.nil.push CodesIn.nilIn) (fun r hr=>by rw [List.mem_singleton.1 hr];exact hqs)
      exact cE (σ':=fnSt a b id ad bd ud ca cb uc [(8,Ln .i64 i),(10,Lb is),(11,Lp 11),(12,Lp 12)] [v3B 29 11 0 0 gd 1 gc,v3B 29 12 0 0 (some ⟨b2,0,none⟩) 1 c2] (withBlock V b2 (.cells arr2 51 fr2))) (Le.of (by exact ⟨O,O,O,O,O,O,O,O,trivial⟩) (by exact ⟨O,O,O,O,O,trivial⟩) (by exact O) (by exact O) (by repeat' (first|refine bT ?_ ?_|rfl|exact bV|exact bU|exact bW O))) (cD ⟨_,some ⟨b2,0,none⟩,c2,cJ hn2,hw,O⟩)
  rintro σ ⟨W,wd,wc,hVW,hWant,rfl⟩
  replace ha:=ha.mono hVW
  replace hb:=hb.mono hVW
  replace hU:=hU.mono hVW
  replace hGot:=hGot.mono hVW
  replace hTab:=xtab_mono hVW hTab
  have hq1:pgOk ⟨0,0,[q]⟩:=⟨by show 1≤30;decide,fun r hr=>by rw [List.mem_singleton.1 hr];exact hql⟩
  have hq:=same12_spec W ⟨0,0,[q]⟩ ⟨0,0,[q]⟩ gd gc hGot hq1.big hq1.size wd wc hWant hq1.big hq1.size
  rw [cP rfl] at hq
  have hSm:=hSame W a ad ca ha hS b bd cb hb
  have hnn:(is != is)=false:=by cases is<;>rfl
  repeat refine aA ?_
  refine LWP.cut (fun σ=>σ=⟨[(2,Ln .i64 id),(3,Lp 3),(7,Lp 7)],[v3B 24 3 a.va a.vb ad a.rs.length ca,v3B 29 7 a.va a.vb ud a.rs.length uc],W⟩) ?_ ?_
  · by_cases h0:b.rs=[]
    · have hF:=form12_nil W b.va b.vb bd cb
      have hsm:=same12_spec W a b ud uc hU hS.big hS.size none 0 (by rw [h0];exact RulesIn.nil) hS2.big hS2.size
      generalize decide (a=b)=r at *
      have hrr:(r != r)=false:=by cases r<;>rfl
      obtain ⟨va,vb,rs⟩:=b
      simp only at h0
      subst h0
      (refine rgD mixed<|kmv O<|kmv O<|bD O O hge dR<|K.neqB O O hnn dR<|kmv O<|aK O O O (dS O O) ?_;refine aK O O O (dS O O) ?_;refine gca O O hq O O<|aV O O (dS O O) ?_;refine kpf O O<|kmv O<|aK O O O (dS O O) ?_;refine aK O O O (dS O O) ?_;refine gca O O hSm O O<|aK O O O (dS O O) ?_;refine aK O O O (dS O O) ?_;refine aU [] [] (hF) O O (by exact trivial) O O O O O (by exact .nil) (dS O O) ?_;refine gca O O hsm O O<|K.neqB O O hrr (dS O O) ?_;refine kpf O O<|aB<|rgA ?_;refine aF O ?_;refine aH ?_)
      exact ⟨_,Le.of (by exact ⟨O,O,O,trivial⟩) (by exact ⟨O,O,trivial⟩) (by exact O) (by exact O) (by repeat' (first|refine bT ?_ ?_|rfl|exact bV|exact bU|exact bW O)),O⟩
    · have hF:=form12_some W b.va b.vb b.rs bd cb hb (List.length_pos_iff.2 h0) hS2
      have hsm:=fun (r:Bool) (he:decide (a=b)=r) (S:Nat→Option (Option Box)) (hk:S 704=some (some ⟨0,[],.res (rlR 51 b.rs)⟩))=>same12_lent2 W (S:=S) (p:=a) (q:=b) (cap:=uc) (k:=704) hU hS hS2 he hk
      generalize hr:decide (a=b)=r at *
      have hsm:=hsm r rfl
      have hrr:(r != r)=false:=by cases r<;>rfl
      (refine rgD mixed<|kmv O<|kmv O<|bD O O hge dR<|K.neqB O O hnn dR<|kmv O<|aK O O O (dS O O) ?_;refine aK O O O (dS O O) ?_;refine gca O O hq O O<|aV O O (dS O O) ?_;refine kpf O O<|kmv O<|aK O O O (dS O O) ?_;refine aK O O O (dS O O) ?_;refine gca O O hSm O O<|aK O O O (dS O O) ?_;refine aK O O O (dS O O) ?_;refine bE [(1000001,704)] (.sv (.agg [.val (.int .i64 b.va),.val (.int .i64 b.vb),.slc 704 0 b.rs.length 3])) [rlB 51 704 b.rs] (hF) O O (by exact trivial) O O O O O (by exact (.box O O .nil)) (dS O O) ?_;refine K.callL [704] O O O (hsm _ O) (dS O O) ?_;refine K.neqB O O hrr (dS O O) ?_;refine kpf O O<|aB<|rgA ?_;refine aF O ?_;refine aH ?_)
      exact ⟨_,Le.of (by exact ⟨O,O,O,trivial⟩) (by exact ⟨O,O,trivial⟩) (by exact O) (by exact O) (by repeat' (first|refine bT ?_ ?_|rfl|exact bV|exact bU|exact bW O)),O⟩
  rintro σ rfl
  have hR:=hFrom W a ad ca ha hS id
  clear hSm hq hq1 hGot hWant hiq hge hql hqs hb hS2 hg2 hg hG hG2 hW hVW
  (refine aA<|rgN<|aK O O O dR ?_;refine kmv O<|bE [(1000001,600)] (.sv (.one (.slc 600 0 (fromP a.rs id).length 1))) [(600,some ⟨3,(int1 (fromP a.rs id)).map .val,true⟩)] (hR) O O (by exact trivial) O O O O O (by exact (.box O (bY _ _ _ _) .nil)) dR<|kas O<|aB<|aA ?_)
  refine LWP.le (σ':=⟨[(13,.sv (.one (.slc 600 0 (fromP a.rs id).length 1))),(2,Ln .i64 id),(3,Lp 3),(7,Lp 7)],[(600,some ⟨3,(int1 (fromP a.rs id)).map .val,true⟩),v3B 24 3 a.va a.vb ad a.rs.length ca,v3B 29 7 a.va a.vb ud a.rs.length uc],W⟩) (Le.of (by exact ⟨O,O,O,O,trivial⟩) (by exact ⟨O,O,O,trivial⟩) (by exact O) (by exact O) (by repeat' (first|refine bT ?_ ?_|rfl|exact bV|exact bU|exact bW O))) ?_
  refine LWP.freeze O O O fun b1 lc a1 f1 hn _ _ _ hsp => ?_
  have hLin:=intsI_frozen (X:=W) (blk:=b1) (arr:=a1) (el:=3) (fr:=f1) hsp
  replace ha:=ha.mono (cJ (o:=.cells a1 3 f1) hn)
  replace hU:=hU.mono (cJ (o:=.cells a1 3 f1) hn)
  replace hTab:=xtab_mono (cJ (o:=.cells a1 3 f1) hn) hTab
  clear hR hsp hn
  generalize withBlock W b1 (.cells a1 3 f1)=T at *
  generalize (some ⟨b1,0,none⟩:Option Addr)=ld at *
  have hsz:=hS.size
  obtain ⟨va,vb,rs⟩:=a
  simp only at ha hU hLin hsz ⊢
  have h30:rs.length≤30:=hS.1
  have hfl:=fromP_len rs id
  (refine rgN<|kas O<|aB<|aA<|aA<|rgN<|kas O<|aB<|aG ?_)
  refine cL (fun m σ=>∃ k:Nat,k≤rs.length∧m=rs.length-k∧σ=f1St rs va vb id ad ud ld ca uc lc (fromP (rs.take k) id).length k T) rs.length
    ⟨f1St rs va vb id ad ud ld ca uc lc 0 0 T,Le.of (by exact ⟨rfl,rfl,rfl,rfl,rfl,rfl,trivial⟩) (by exact ⟨rfl,rfl,trivial⟩) (by exact rfl) (by exact rfl) (by repeat' (first|refine bT ?_ ?_|rfl|exact bV|exact bU|exact bW rfl)),0,by omega,by omega,by rw [show fromP (rs.take 0) id=[] from fromP_none id];rfl⟩ ?_
  rintro m σ ⟨k,hk,rfl,rfl⟩
  by_cases hlt:k<rs.length
  case pos =>
    obtain ⟨r,hr⟩:∃ r,rs[k]? = some r:=⟨_,cX hlt⟩
    obtain ⟨ub,uo,uarr,uel,ufr,uead,uecap,rfl,hUX,usz,ucs,u1,u2,u3,hUE⟩:=hU.get hr
    have hio:uo+Int.toNat (k:Int)*3=uo+k*3:=by simp
    have hadk:IntKind.i64.wrap ((k:Int)+1)=((k+1:Nat):Int):=by rw [cH (by omega)];omega
    have hpre:=fromP_len (rs.take k) id
    rw [cZ] at hpre
    have hsplit:fromP rs id=fromP (rs.take k) id++fromP (r::rs.drop (k+1)) id:=by rw [← fromP_app,← drop_at hr,List.take_append_drop]
    have hnext:fromP (rs.take (k+1)) id=fromP (rs.take k) id++fromP [r] id:=by rw [take_snoc hr,fromP_app]
    by_cases hm:r.old=id∧id≠0
    case neg =>
      rw [fromP_not hm,fromP_none,dJ] at hnext
      have hst:f1St rs va vb id ad (some ⟨ub,uo,none⟩) ld ca uc lc (fromP (rs.take k) id).length (k+1) T=f1St rs va vb id ad (some ⟨ub,uo,none⟩) ld ca uc lc (fromP (rs.take (k+1)) id).length (k+1) T:=by rw [hnext]
      by_cases h0:id=0
      · (refine aA<|aA<|rgN<|kmv O<|kfa O O ?_;refine kl1 O O O<|aQ O cC O dR ?_;refine klt O O (cP (by omega))<|aB<|aE O ?_;refine aH ?_;refine aA<|aG<|aA<|aA<|rgN<|kmv O<|keq O O (cU h0)<|kmv O<|aC O O O<|aC O O O<|aC O O O<|aC O O O<|aC O O O<|aC O O O ?_;refine aC O O O<|aC O O O<|kpt O O<|aB<|aE O ?_;refine aJ<|rgN<|kmv O<|kad O O hadk<|kas O<|aB ?_)
        exact ⟨_,f1St rs va vb id ad (some ⟨ub,uo,none⟩) ld ca uc lc (fromP (rs.take k) id).length (k+1) T,by omega,Le.of (by exact ⟨O,O,O,O,O,O,trivial⟩) (by exact ⟨O,O,trivial⟩) (by exact O) (by exact O) (by repeat' (first|refine bT ?_ ?_|rfl|exact bV|exact bU|exact bW O)),k+1,by omega,O,hst⟩
      · have hne:r.old≠id:=fun e=>hm ⟨e,h0⟩
        (refine aA<|aA<|rgN<|kmv O<|kfa O O ?_;refine kl1 O O O<|aQ O cC O dR ?_;refine klt O O (cP (by omega))<|aB<|aE O ?_;refine aH ?_;refine aA<|aG<|aA<|aA<|rgN<|kmv O<|keq O O (cR h0)<|kmv O<|aN O O (dS O O) ?_;refine aO O O O (dS O O) ?_;refine gmv O O O<|aR O O cC (by omega) hio (dS O O) ?_;refine bH O O (dS O O) ?_;refine aW O hUX O u2 (dS O O) ?_;refine gmv O O O<|aX O O (cT hne) (dS O O) ?_;refine kpf O O<|aB<|aE O ?_;refine aJ<|rgN<|kmv O<|kad O O hadk<|kas O<|aB ?_)
        exact ⟨_,f1St rs va vb id ad (some ⟨ub,uo,none⟩) ld ca uc lc (fromP (rs.take k) id).length (k+1) T,by omega,Le.of (by exact ⟨O,O,O,O,O,O,trivial⟩) (by exact ⟨O,O,trivial⟩) (by exact O) (by exact O) (by repeat' (first|refine bT ?_ ?_|rfl|exact bV|exact bU|exact bW O)),k+1,by omega,O,hst⟩
    rw [fromP_yes hm.1 hm.2,fromP_none] at hnext
    rw [fromP_yes hm.1 hm.2] at hsplit
    have hat:(fromP rs id)[(fromP (rs.take k) id).length]? = some r.nw:=by rw [hsplit,List.getElem?_append_right (dN _),Nat.sub_self];rfl
    have hlt2:=(List.getElem?_eq_some_iff.1 hat).1
    obtain ⟨lb,lo,larr,lel,lfr,rfl,hlX,hlc⟩:=hLin.at hat
    have hnl:(fromP (rs.take (k+1)) id).length=(fromP (rs.take k) id).length+1:=by rw [hnext,cV];rfl
    clear hsplit hnext hLin hat
    generalize (fromP (rs.take k) id).length=n at *
    have hlo:lo+Int.toNat (n:Int)*1=lo+n*1:=by simp
    have hadn:IntKind.i64.wrap ((n:Int)+1)=((n+1:Nat):Int):=by rw [cH (by omega)];omega
    ((refine aA<|aA<|rgN<|kmv O<|kfa O O ?_;refine kl1 O O O<|aQ O cC O dR ?_;refine klt O O (cP (by omega))<|aB<|aE O ?_;refine aH ?_;refine aA<|aG<|aA<|aA<|rgN<|kmv O<|keq O O (cR hm.2)<|kmv O<|aN O O (dS O O) ?_;refine aO O O O (dS O O) ?_;refine gmv O O O<|aR O O cC (by omega) hio (dS O O) ?_;refine bH O O (dS O O) ?_;refine aW O hUX O u2 (dS O O) ?_;refine gmv O O O<|aX O O (cS hm.1) (dS O O) ?_;refine kpf O O<|aB<|aF O ?_;refine aH ?_);(refine aA<|aA<|rgD mixed<|kmv O<|kmv O<|aQ O cC O dR ?_;refine bD O O (cO (by omega)) dR<|kmv O<|gmv O O O<|gmv O O O<|aR O O cC (by omega) hlo (dS O O) ?_;refine aW O hlX O hlc (dS O O) ?_;refine aN O O (dS O O) ?_;refine aO O O O (dS O O) ?_;refine gmv O O O<|aR O O cC (by omega) hio (dS O O) ?_;refine bH O O (dS O O) ?_;refine aW O hUX O u1 (dS O O) ?_;refine aX O O (cS O) (dS O O) ?_;refine kpf O O<|aB<|rgA ?_;refine aF O ?_;refine aH ?_);(refine rgN<|kmv O<|kad O O hadn<|kas O<|aB<|rgN<|kmv O<|kad O O hadk<|kas O<|aB ?_))
    exact ⟨_,f1St rs va vb id ad (some ⟨ub,uo,none⟩) (some ⟨lb,lo,none⟩) ca uc lc (n+1) (k+1) T,by omega,Le.of (by exact ⟨rfl,rfl,rfl,rfl,rfl,rfl,trivial⟩) (by exact ⟨rfl,rfl,trivial⟩) (by exact rfl) (by exact rfl) (by repeat' (first|refine bT ?_ ?_|rfl|exact bV|exact bU|exact bW rfl)),k+1,by omega,rfl,by rw [hnl]⟩
  have e:k=rs.length:=by omega
  subst e
  rw [dF]
  have hRC:=rCheck12 T ⟨va,vb,rs⟩ ud uc hU hS.big hS.size
  by_cases hz:chkP ⟨va,vb,rs⟩=0
  case neg =>
    have hL:=hLines_no T ⟨va,vb,rs⟩ ad ca ha hS hz
    have hne:(chkP ⟨va,vb,rs⟩ != 0)=true:=by rw [bne_iff_ne];exact hz
    generalize chkP ⟨va,vb,rs⟩=ce at *
    (refine aA<|aA<|rgN<|kmv O<|kfa O O ?_;refine kl1 O O O<|aQ O cC O dR ?_;refine klt O O (cO (by omega))<|aB<|aF O ?_;refine aJ<|aA<|rgN<|aK O O O dR ?_;refine kca O O hL<|kas O<|aB<|aA<|aA<|rgN<|aK O O O dR ?_;refine kca O O hRC<|kne O O hne<|aB<|aE O ?_;refine aA<|rgN<|kmv O<|kmv O<|aQ O cC O dR ?_;refine keq O O (cU O)<|kmv O<|gmv O O O<|aQ O cC O (dS O O) ?_;refine bC O O (r:=true) O (dS O O) ?_;refine kpt O O<|kas O<|aB<|aI ?_)
    exact ⟨[_],⟨O,trivial⟩,O⟩
  have hL:=hLines T ⟨va,vb,rs⟩ ad ca ha hS hTab hz
  simp only at hL
  rw [hz] at hRC
  (refine aA<|aA<|rgN<|kmv O<|kfa O O ?_;refine kl1 O O O<|aQ O cC O dR ?_;refine klt O O (cO (by omega))<|aB<|aF O ?_;refine aJ<|aA<|rgN<|aK O O O dR ?_;refine bE [(1000001,605)] (.sv (.one (.slc 605 0 rs.length 1))) [txB 605 (rs.map lineR) true] (hL) O O (by exact trivial) O O O O O (by exact (.box O (bY _ _ _ _) .nil)) dR<|kas O<|aB<|aA<|aA<|rgN<|aK O O O dR ?_;refine kca O O hRC<|kne O O (r:=false) O<|aB<|aF O ?_;refine aH ?_;refine aA<|aA<|rgN<|kas O<|aB<|aG ?_)
  refine cL (fun m σ=>∃ k:Nat,k≤rs.length∧m=rs.length-k∧σ=f2St rs va vb id ud ld uc lc k T) rs.length
    ⟨f2St rs va vb id ud ld uc lc 0 T,Le.of (by exact ⟨rfl,rfl,rfl,rfl,rfl,trivial⟩) (by exact ⟨rfl,rfl,trivial⟩) (by exact rfl) (by exact rfl) (by repeat' (first|refine bT ?_ ?_|rfl|exact bV|exact bU|exact bW rfl)),0,by omega,by omega,rfl⟩ ?_
  rintro m σ ⟨k,hk,rfl,rfl⟩
  by_cases hlt:k<rs.length
  · obtain ⟨r,hr⟩:∃ r,rs[k]? = some r:=⟨_,cX hlt⟩
    obtain ⟨ub,uo,uarr,uel,ufr,uead,uecap,rfl,hUX,usz,ucs,u1,u2,u3,hUE⟩:=hU.get hr
    have hio:uo+Int.toNat (k:Int)*3=uo+k*3:=by simp
    have hadk:IntKind.i64.wrap ((k:Int)+1)=((k+1:Nat):Int):=by rw [cH (by omega)];omega
    obtain ⟨y1,y2⟩:=hS.2 r (dD hr)
    have hLn:=rLine12 T r uead uecap hUE (rules_at hU hr) (by omega) (fun c hc=>by have:=y2 c hc;omega)
    have hixk:0+Int.toNat (k:Int)*1=k:=by rw [dG];omega
    have hat:((txt1 (rs.map lineR)).map CV.val)[k]? = some (.val (.string ⟨(lineR r).toArray⟩)):=by
      unfold txt1
      rw [dL,dL,dL,hr]
      rfl
    have hlm:(rs.map lineR).length=rs.length:=cW _
    generalize lineR r=ln at *
    (refine aA<|aA<|rgN<|kmv O<|kfa O O ?_;refine kl1 O O O<|aQ O cC O dR ?_;refine klt O O (cP (by omega))<|aB<|aE O ?_;refine aH ?_;refine aA<|aG<|aA<|rgD mixed<|kmv O<|kmv O<|K.lenSlc O cC O dR ?_;refine bD O O (cO (by omega)) dR<|kmv O<|gmv O O O<|gmv O O O<|K.indexSlc O O (by omega) hixk (dS O O) ?_;refine aO O O hat (dS O O) ?_;refine aN O O (dS O O) ?_;refine aO O O O (dS O O) ?_;refine gmv O O O<|aR O O cC (by omega) hio (dS O O) ?_;refine aY O hUX (by kernel_rfl) usz ucs (dS O O) ?_;refine gca O O hLn O O<|K.strNe O O (strs_ne (r:=false) (by simp)) (dS O O) ?_;refine kpf O O<|aB<|rgA ?_;refine aF O ?_;refine aH ?_;refine rgN<|kmv O<|kad O O hadk<|kas O<|aB ?_)
    exact ⟨_,f2St rs va vb id (some ⟨ub,uo,none⟩) ld uc lc (k+1) T,by omega,Le.of (by exact ⟨O,O,O,O,O,trivial⟩) (by exact ⟨O,O,trivial⟩) (by exact O) (by exact O) (by repeat' (first|refine bT ?_ ?_|rfl|exact bV|exact bU|exact bW O)),k+1,by omega,O,O⟩
  · have e:k=rs.length:=by omega
    subst e
    (refine aA<|aA<|rgN<|kmv O<|kfa O O ?_;refine kl1 O O O<|aQ O cC O dR ?_;refine klt O O (cO (by omega))<|aB<|aF O ?_;refine aJ<|aA<|rgN<|kmv O<|kmv O<|aQ O cC O dR ?_;refine keq O O (cU O)<|kmv O<|gmv O O O<|K.lenSlc O cC O (dS O O) ?_;refine aN O O (dS O O) ?_;refine aO O O O (dS O O) ?_;refine aQ O cC O (dS O O) ?_;refine bC O O (cU O) (dS O O) ?_;refine kpt O O<|kas O<|aB<|aI ?_)
    exact ⟨[_],⟨O,trivial⟩,O⟩
end Go.Proofs.YtamplgnbbanamaaGreatDoor
end
section
namespace Go.Proofs.YtamplgnbbanamaaGreatDoor
open Go Go.Lg Go.RowKit Go.ChangeShapes Go.WideShapes Go.Joins
set_option maxRecDepth 100000
theorem tab_of_laid11 {W : World} (h : laidMetH Tryz.prog [("math/bits.deBruijn32tab", Rows.laid_math_bits_deBruijn32tab), ("math/bits.deBruijn64tab", Rows.laid_math_bits_deBruijn64tab), ("internal/strconv.uint64pow10", Rows.laid_internal_strconv_uint64pow10)] W) : Lib.TabIs Tryz.prog W "internal/strconv.uint64pow10" .u64 Lib.pow10Tab := by
  rw [MakeChecks.laidMetH_plain _ _ _ (by kernel_rfl)] at h
  have h3 : laidMet Tryz.prog (("internal/strconv.uint64pow10", Lib.tabData .u64 Lib.pow10Tab) :: []) W := (h.tail).tail
  exact Lib.tabIs_of_head (g:=1) (t:=209) (e:=62) (n:=20) (by kernel_rfl) (by kernel_rfl) (by kernel_rfl) (by kernel_rfl) (by kernel_rfl) (by kernel_rfl) h3
theorem xtab11 {W : World} (h : Lib.TabIs Tryz.prog W "internal/strconv.uint64pow10" .u64 Lib.pow10Tab) : XTab (fun b => W.heap[b]?) := by
  intro w hX
  unfold Lib.TabIs World.var? at h ⊢
  have hg : Tryz.prog.globalNamed "internal/strconv.uint64pow10" = some 1 := by kernel_rfl
  rw [hg] at h ⊢
  simp only [Option.bind_some] at h ⊢
  cases e:W.heap[1]? with
  | none=>rw [e] at h;cases h
  | some o=>rw [hX _ _ e];rw [e] at h;exact h
end Go.Proofs.YtamplgnbbanamaaGreatDoor
end
