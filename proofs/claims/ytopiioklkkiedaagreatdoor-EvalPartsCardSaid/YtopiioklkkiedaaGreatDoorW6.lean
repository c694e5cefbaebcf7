/- A piece of a proof over this program: contracts of its functions, and a logic to prove them by. -/
import Derived.Test.YtopiioklkkiedaaGreatDoorW6b
section
set_option maxHeartbeats 12800000
set_option maxRecDepth 100000
namespace Go.Proofs.YtopiioklkkiedaaGreatDoor
open Go Go.Lg Go.Lg.Fml Go.Lg.Fld Go.Lg.Arith
set_option maxRecDepth 100000
variable (X:Nat→Option Obj)
theorem tSmall (n:Int):PSpec Tryz.prog X 197 [Ln .i64 n] (Lb (decide (0≤n)&&decide (n≤7))):=by
 by_cases h:0≤n
 ·rw [cP h,Bool.true_and]
  refine cF Tryz.func197 rfl V5 rfl rfl ?_
  intro C
  (refine U7 ?_;refine bD O O (r:=true) (cP h) dS ?_;refine U2 ?_;refine K.leq O O O (dT O O) ?_;refine U4 ?_)
  exact V6
 ·rw [cO h,Bool.false_and]
  refine cF Tryz.func197 rfl V5 rfl rfl ?_
  intro C
  (refine U7 ?_;refine bD O O (r:=false) (cO h) dS ?_;refine U7 ?_)
  exact V6
def bndI (x:Ins):Bool:=(decide (0≤x.a)&&decide (x.a≤7))&&((decide (0≤x.b)&&decide (x.b≤7))&&gd x.k)
theorem okI_bnd (x:Ins):okI x=((decide (1≤x.op)&&decide (x.op≤17))&&bndI x):=by
 unfold okI bndI
 cases gd x.k<;>cases (decide (0≤x.a)&&decide (x.a≤7))<;>cases (decide (0≤x.b)&&decide (x.b≤7))<;>rfl
theorem tBounded (x:Ins) (hx:smallI x) (r:Bool) (hr:bndI x=r):PSpec Tryz.prog X 144 [LIn x] (Lb r):=by
 subst hr
 unfold bndI
 have hA:=tSmall X x.a
 have hB:=tSmall X x.b
 have hG:=tForm X x.k hx.2.2.2 _ rfl
 generalize (decide (0≤x.a)&&decide (x.a≤7))=A at *
 generalize (decide (0≤x.b)&&decide (x.b≤7))=B at *
 generalize gd x.k=G at *
 cases A with
 | false =>
  refine cF Tryz.func144 rfl V5 rfl rfl ?_
  intro C
  refine U23 ?_
  exact V6
 | true =>
 cases B with
 | false =>
  refine cF Tryz.func144 rfl V5 rfl rfl ?_
  intro C
  refine U23 ?_
  exact V6
 | true =>
  refine cF Tryz.func144 rfl V5 rfl rfl ?_
  intro C
  refine U23 ?_
  exact V6
def rowVs (p:Int×Value):List Value:=rowL p.1++[p.2]
def rwsV (q:List (Int×Value)):List Value:=(q.map rowVs).flatten
theorem rowVs_len (p:Int×Value):(rowVs p).length=6:=rfl
theorem rwsV_len (q:List (Int×Value)):(rwsV q).length=q.length*6:=by
 unfold rwsV
 induction q with
 | nil=>rfl
 | cons x t ih=>rw [List.map_cons,List.flatten_cons,cW,ih,rowVs_len,dJ];omega
theorem rwsV_snoc (q:List (Int×Value)) (p:Int×Value):rwsV (q++[p])=rwsV q++rowVs p:=by
 unfold rwsV
 rw [dI,List.flatten_append]
 simp
def zeR (k:Nat):List Value:=(List.replicate k [Value.string ⟨#[]⟩,.int .i64 0,.bool false,.bool false,.bool false,.nilFunc]).flatten
theorem zeR_succ (k:Nat):zeR (k+1)=[Value.string ⟨#[]⟩,.int .i64 0,.bool false,.bool false,.bool false,.nilFunc]++zeR k:=by unfold zeR;rw [List.replicate_succ,List.flatten_cons]
theorem zeR_len (k:Nat):(zeR k).length=k*6:=by
 induction k with
 | zero=>rfl
 | succ k ih=>rw [zeR_succ,cW,ih];simp;omega
def rowsR (l:List Ins):Rsc:=⟨fun ρ H=>∃ (q:List (Int×Value)) (fr:Nat×Nat),H ρ.1=some (.cells (rwsV q).toArray 190 fr)∧ρ.2=(rwsV q).length∧q.map (·.1)=l.map Ins.op∧∀ p∈q,DeedV H p.2 p.1⟩
structure RowsOK (Y:Nat→Option Obj) (ad:Option Addr) (l:List Ins):Prop where
 ex:∃ q:List (Int×Value),Go.Lg.RowsIn Y ad 6 (q.map rowVs)∧q.map (·.1)=l.map Ins.op∧∀ p∈q,DeedV Y p.2 p.1
theorem RowsOK.mono {Y Z:Nat→Option Obj} (h:MoreM Y Z) {ad:Option Addr} {l:List Ins} (hr:RowsOK Y ad l):RowsOK Z ad l:=by
 obtain ⟨q,h1,h2,h3⟩:=hr.ex
 exact ⟨q,h1.mono h,h2,fun p hp=>(h3 p hp).mono h⟩
theorem rows_fix {l:List Ins} {ρ:Nat×Nat} {H Y:Nat→Option Obj} (h:(rowsR l).holds ρ H) (hY:MoreM H Y):RowsOK Y (some ⟨ρ.1,0,none⟩) l:=by
 obtain ⟨q,fr,h1,h2,h3,h4⟩:=h
 refine ⟨q,rows_in (hY _ _ h1) (fun r hr=>by obtain ⟨x,_,rfl⟩:=List.mem_map.1 hr;rfl) ⟨[],by rw [dK];rfl⟩,h3,fun p hp=>(h4 p hp).mono hY⟩
theorem RowsOK.at {Y:Nat→Option Obj} {ad:Option Addr} {l:List Ins} (h:RowsOK Y ad l) {i:Nat} {x:Ins} (hx:l[i]? = some x):
  ∃ (blk off:Nat) (arr:Array Value) (el:TypeId) (fr:Nat×Nat) (v:Value),ad=some ⟨blk,off,none⟩∧Y blk=some (.cells arr el fr)∧off+i*6+6≤arr.size∧((arr.toList.drop (off+i*6)).take 6).map CV.val=(rowVs (x.op,v)).map CV.val∧DeedV Y v x.op:=by
 obtain ⟨q,h1,h2,h3⟩:=h.ex
 have hq:(q.map (·.1))[i]? = some x.op:=by rw [h2,dM,hx];rfl
 rw [dM] at hq
 cases hp:q[i]? with
 | none=>rw [hp] at hq;cases hq
 | some p =>
  rw [hp] at hq
  have hq:p.1=x.op:=by simpa using hq
  obtain ⟨blk,off,arr,el,fr,e1,e2,e3,e4⟩:=h1 i (rowVs p) (by rw [dM,hp];rfl)
  have h5:=h3 p (dE hp)
  obtain ⟨o,v⟩:=p
  have hq:o=x.op:=hq
  subst hq
  exact ⟨blk,off,arr,el,fr,v,e1,e2,e3,by rw [e4],h5⟩
def rsR (l:List Ins):LV:=if chkX l=0 then .tup [.one (.slc 1000001 0 l.length 6),Sn .i64 0] else .tup [Vnil,Sn .i64 (chkX l)]
def rsBx (l:List Ins):List (Nat×Option Box):=if chkX l=0 then [(1000001,some ⟨0,[],.res (rowsR l)⟩)] else []
theorem rs_ok {l:List Ins} (h:chkX l=0):rsR l = .tup [.one (.slc 1000001 0 l.length 6),Sn .i64 0]∧rsBx l=[(1000001,some ⟨0,[],.res (rowsR l)⟩)]:=⟨if_pos h,if_pos h⟩
theorem rs_no {l:List Ins} (h:chkX l≠0):rsR l = .tup [Vnil,Sn .i64 (chkX l)]∧rsBx l=[]:=⟨if_neg h,if_neg h⟩
theorem rsBx_use (l:List Ins):((rsBx l).all fun p=>match p.2 with|some b=>b.cells.all (CV.inUse (rsBx l))|none=>true)=true:=by
 by_cases h:chkX l=0
 ·rw [(rs_ok h).2];rfl
 ·rw [(rs_no h).2];rfl
theorem rsR_use (l:List Ins):LV.inUse (rsBx l) (rsR l)=true:=by
 by_cases h:chkX l=0
 ·rw [(rs_ok h).1,(rs_ok h).2];rfl
 ·rw [(rs_no h).1,(rs_no h).2];rfl
theorem joinM_assoc (X H G:Nat→Option Obj):joinM (joinM X H) G=joinM X (joinM H G):=by
 funext b
 unfold joinM
 cases G b<;>rfl
theorem owned_join {C:Ctx} {X H G:Nat→Option Obj} (h:OwnedM C X H) (h':OwnedM C (joinM X H) G):OwnedM C X (joinM H G)∧MoreM H (joinM H G)∧MoreM G (joinM H G):=by
 have hn:∀ b o,G b=some o→H b=none∧X b=none:=fun b o hb=>joinM_none (h'.own b o hb).2.2
 refine ⟨⟨fun b o hb => ?_⟩,fun b o hb => ?_,fun b o hb=>joinM_in hb⟩
 ·cases hg:G b with
  | some o' =>
   rw [joinM_in hg] at hb
   cases hb
   obtain ⟨h1,h2,_⟩:=h'.own b o hg
   exact ⟨h1,h2,(hn b o hg).2⟩
  | none=>rw [joinM_out hg] at hb;exact h.own b o hb
 ·cases hg:G b with
  | some o'=>rw [(hn b o' hg).1] at hb;cases hb
  | none=>rw [joinM_out hg];exact hb
abbrev rwSt (ad:Option Addr) (n cap i:Nat) (d:Nat) (cells:List Value) (ms:List (Nat×LV)) (mb:List (Nat×Option Box)) (Y:Nat→Option Obj):St:=
 ⟨ms++[(0,Lx ad n cap),(4,.sv (.one (.slc 500 0 n 6))),(5,Ln .i64 (d:Nat)),(15,Lx ad n cap),(16,Ln .i64 (n:Nat)),(17,Ln .i64 (i:Nat))],mb++[(500,some ⟨190,cells.map .val,false⟩)],Y⟩
abbrev rdB8 (x:Ins) (c:CV):List (Nat×Option Box):=[(7,some ⟨88,(insV x).map .val,false⟩),(8,some ⟨190,(rowL x.op).map .val++[c],false⟩)]
set_option maxHeartbeats 12800000 in
theorem tRowsOf (l:List Ins) (ad:Option Addr) (cap:Nat) (hin:InsIn X ad l) (hbig:l.length<1152921504606846976):MSpec Tryz.prog X 103 [Lx ad l.length cap] [] (rsR l) (rsBx l):=by
 refine cG Tryz.func103 rfl V5 rfl (rsR_use l) (rsBx_use l) rfl rfl ?_
 intro C
 by_cases h64:64<l.length
 ·have hc:chkX l=5:=if_pos h64
  obtain ⟨q1,q2⟩:=rs_no (l:=l) V34
  rw [q1,q2,hc]
  (refine U10 ?_;refine aS O O (r:=true) (cP V3) dS ?_;refine U8 ?_)
  exact V1C
 have hmk:slcBuild Tryz.prog 181 l.length=some (zeR l.length,6,190):=slcBuild_many (z := #[.string ⟨#[]⟩,.int .i64 0,.bool false,.bool false,.bool false,.nilFunc]) V5 V5 rfl V3
 refine LWP.ends ?_
 (refine U10 ?_;refine aS O O (r:=false) (cO V3) dS ?_;refine U7 ?_;refine K.makeSlc (m:=l.length) (bytes:=40) O O hmk V5 V3 O O dS ?_;refine U11 ?_)
 refine cM (fun k σ=>∃ (i d:Nat) (q:List (Int×Value)) (H:Nat→Option Obj),i≤l.length∧k=l.length-i∧q.map (·.1)=(l.take i).map Ins.op∧(∀ p∈q,DeedV H p.2 p.1)∧OwnedM C X H∧dep okI 0 (l.take i)=some d∧σ=rwSt ad l.length cap i d (rwsV q++zeR (l.length-i)) [] [] (joinM X H)) l.length
  (cE (σ':=rwSt ad l.length cap 0 0 (rwsV []++zeR (l.length-0)) [] [] X) ?_ (cD ⟨0,0,[],fun _=>none,by omega,by omega,rfl,fun p hp=>absurd hp V21,OwnedM.nil _ _,rfl,by rw [joinM_nil]⟩)) ?_
 ·exact Le.ofR [(500,14)] V11 V1 V2 V2 V0 V2 V2
 rintro k σ ⟨i,d,q,H,hi,rfl,hq,hD,hO,hdep,rfl⟩
 have hqn:q.length=i:=by
  have:=congrArg List.length hq
  rw [cX,cX,dA] at this
  omega
 have hd16:=dep_le V3 hdep
 by_cases hlt:i<l.length
 ·obtain ⟨x,hx⟩:=wg hlt
  have hmem:=dE hx
  have hsx:=hin.small x hmem
  have hinJ:InsIn (joinM X H) ad l:=hin.mono fun b o hb=>by
   cases hc:H b with
   | none=>rw [joinM_out hc];exact hb
   | some o'=>have:=(hO.own b o' hc).2.2;rw [hb] at this;cases this
  obtain ⟨blk,off,arr,el,fr,rfl,hX,hsz,hcs,hop⟩:=hinJ.at hx
  have hio:=wo off i 6
  have hin0:0≤(i:Int)∧(i:Int)<(l.length:Nat):=by omega
  have hsn:=dep_snoc hdep hx
  have hok:=okI_bnd x
  have htk:=takes_le x.op
  have bad:¬ (okI x=true∧takes x.op≤d∧d-takes x.op+1≤16)→chkX l=4:=fun h=>chkX_bad h64 hdep hx h
  by_cases hop17:x.op<1∨17<x.op
  ·have hc:=bad (fun h=>by have:=(okI_facts h.1).1;omega)
   obtain ⟨q1,q2⟩:=rs_no (l:=l) V34
   rw [q1,q2,hc]
   have hR:=rowOf_no (joinM X H) x.op hop17
   (refine U31 ?_;refine K.funcNil O V5 (r:=true) (.inl ⟨O,O⟩) dS ?_;refine U19 ?_)
   exact cD ⟨[],⟨[_,_],⟨O,O,trivial⟩,O⟩,trivial,O,O⟩
  refine U19 ?_
  refine LWP.meetL (fun σ=>∃ (v:Value) (G:Nat→Option Obj),DeedV G v x.op∧MoreM H G∧OwnedM C X G∧σ=rwSt (some ⟨blk,off,none⟩) l.length cap i d (rwsV q++zeR (l.length-i)) [(6,Ln .i64 (i:Nat)),(7,Lp 7),(8,Lp 8)] (rdB8 x (.val v)) (joinM X G)) ?_ ?_
  ·by_cases h5:x.op<5
   ·obtain ⟨f,hDf,hR⟩:∃ f,DeedV H (fnV f) x.op∧PSpec Tryz.prog (joinM X H) 143 [Ln .i64 x.op] (LRow x.op (.val (fnV f))):=by
     generalize x.op=op at *
     rcases (show op=1∨op=2∨op=3∨op=4 by omega) with rfl|rfl|rfl|rfl
     ·exact ⟨_,deed_num H,rowOf_1 _⟩
     ·exact ⟨_,deed_elem H,rowOf_2 _⟩
     ·exact ⟨_,deed_here H,rowOf_3 _⟩
     ·exact ⟨_,deed_place H,rowOf_4 _⟩
    refine U7 ?_
    exact cE (Le.of V1B V9 V2 V2 V0) (cD ⟨_,H,hDf,MoreM.refl H,hO,O⟩)
   ·have hR:=rowOf_fn (joinM X H) x.op V3
    (refine U3 ?_;refine bE [(1000001,600)] (LRow x.op (ptrF (cloF x.op) 600)) [dB 600 x.op] (hR) O O VC O O O O O V19 dS ?_;refine U3 ?_)
    refine cE (σ':=⟨[(6,Ln .i64 (i:Nat)),(7,Lp 7),(8,Lp 8),(0,Lx (some ⟨blk,off,none⟩) l.length cap),(4,.sv (.one (.slc 500 0 l.length 6))),(5,Ln .i64 (d:Nat)),(15,Lx (some ⟨blk,off,none⟩) l.length cap),(16,Ln .i64 (l.length:Nat)),(17,Ln .i64 (i:Nat))],rdB8 x (ptrF (cloF x.op) 600)++dB 600 x.op::[(500,some ⟨190,(rwsV q++zeR (l.length-i)).map .val,false⟩)],joinM X H⟩) (Le.of V1B V8 V2 V2 V0) ?_
    refine Leads.fixRsc [] (rdB8 x (ptrF (cloF x.op) 600)) O O V7 O O fun ρ G2 hR2 hO2 => ?_
    obtain ⟨k1,k2,k3⟩:=owned_join hO hO2
    rw [joinM_assoc]
    exact cD ⟨.func (.func (cloF x.op)) #[] #[pv ρ.1],joinM H G2,DeedV.mono k3 hR2,k2,k1,O⟩
  rintro σ ⟨v,G,hDv,hHG,hOG,rfl⟩
  obtain ⟨f,caps,ev,_⟩:=id hDv
  subst ev
  have hB:=tBounded (joinM X G) x hsx _ rfl
  cases hb:bndI x with
  | false =>
   rw [hb] at hB hok
   have hc:=bad (fun h=>by rw [hok,Bool.and_false] at h;cases h.1)
   obtain ⟨q1,q2⟩:=rs_no (l:=l) V34
   rw [q1,q2,hc]
   (refine U5 ?_;refine K.funcNil O V5 (r:=false) (.inr ⟨⟨_,_,_,O⟩,O⟩) dS ?_;refine U19 ?_)
   exact cD ⟨[],⟨[_,_],⟨O,O,trivial⟩,O⟩,trivial,O,O⟩
  | true =>
  rw [hb] at hB hok
  rw [cP (show 1≤x.op by omega),cP (show x.op≤17 by omega)] at hok
  have hok:okI x=true:=hok
  by_cases hd:d<takes x.op
  ·have hc:=bad (fun h=>by omega)
   obtain ⟨q1,q2⟩:=rs_no (l:=l) V34
   rw [q1,q2,hc]
   (refine U5 ?_;refine K.funcNil O V5 (r:=false) (.inr ⟨⟨_,_,_,O⟩,O⟩) dS ?_;refine U9 ?_;refine bK O O (r:=true) (cP V3) (dT O O) ?_;refine U9 ?_)
   exact cD ⟨[],⟨[_,_],⟨O,O,trivial⟩,O⟩,trivial,O,O⟩
  have hix:0+Int.toNat (i:Int)*6=i*6:=by rw [dH];omega
  have hpl:(rwsV q).length=i*6:=by rw [rwsV_len,hqn]
  have hroom:i*6+6≤((rwsV q++zeR (l.length-i)).map CV.val).length:=by rw [cX,cW,hpl,zeR_len];omega
  have hspl:splice ((rwsV q++zeR (l.length-i)).map CV.val) (i*6) ((rowL x.op).map .val++[.val (.func (.func f) #[] caps.toArray)])=(rwsV (q++[(x.op,.func (.func f) #[] caps.toArray)])++zeR (l.length-(i+1))).map CV.val:=by
   rw [rwsV_snoc,show l.length-i=(l.length-(i+1))+1 by omega,zeR_succ]
   unfold splice
   simp only [dI,dN]
   have hml:((rwsV q).map CV.val).length=i*6:=by rw [cX,hpl]
   generalize (rwsV q).map CV.val=R at *
   rw [← hml,List.take_left,List.drop_length_add_append]
   simp [rowVs,rowL]
  have hsub:IntKind.i64.wrap (1-((takes x.op:Nat):Int))=1-((takes x.op:Nat):Int):=cH V3
  have hadd:IntKind.i64.wrap (((d:Nat):Int)+(1-((takes x.op:Nat):Int)))=((d-takes x.op+1:Nat):Int):=by rw [cH V3];omega
  have hinc:=wi i V3
  by_cases h16:16<d-takes x.op+1
  ·have hc:=bad (fun h=>by omega)
   obtain ⟨q1,q2⟩:=rs_no (l:=l) V34
   rw [q1,q2,hc]
   (refine U5 ?_;refine K.funcNil O V5 (r:=false) (.inr ⟨⟨_,_,_,O⟩,O⟩) dS ?_;refine U9 ?_;refine bK O O (r:=false) (cO V3) (dT O O) ?_;refine U10 ?_;refine K.store O O O O V5 hroom hspl dS ?_;refine U13 ?_;refine aS O O (r:=true) (cP V3) dS ?_;refine U8 ?_)
   exact cD ⟨[],⟨[_,_],⟨O,O,trivial⟩,O⟩,trivial,O,O⟩
  ·rw [if_pos ⟨hok,by omega,by omega⟩] at hsn
   (refine U5 ?_;refine K.funcNil O V5 (r:=false) (.inr ⟨⟨_,_,_,O⟩,O⟩) dS ?_;refine U9 ?_;refine bK O O (r:=false) (cO V3) (dT O O) ?_;refine U10 ?_;refine K.store O O O O V5 hroom hspl dS ?_;refine U13 ?_;refine aS O O (r:=false) (cO V3) dS ?_;refine U7 ?_)
   refine cE (σ':=rwSt (some ⟨blk,off,none⟩) l.length cap (i+1) (d-takes x.op+1) (rwsV (q++[(x.op,.func (.func f) #[] caps.toArray)])++zeR (l.length-(i+1))) [] [] (joinM X G)) (Le.of V11 V13 V2 V2 V0) (cD ⟨l.length-(i+1),by omega,i+1,_,_,G,by omega,O,?_,?_,hOG,hsn,O⟩)
   ·rw [dI,hq,List.take_add_one,hx,dI]
    rfl
   ·intro p hp
    rcases List.mem_append.1 hp with hp|hp
    ·exact (hD p hp).mono hHG
    ·rw [List.mem_singleton] at hp
     subst hp
     exact hDv
 ·have e:i=l.length:=by omega
  subst e
  rw [dG] at hq hdep
  have hz:zeR (l.length-l.length)=[]:=by rw [Nat.sub_self];rfl
  rw [hz,dK]
  by_cases h1:d=1
  ·subst h1
   have hc:chkX l=0:=by unfold chkX;rw [if_neg h64,if_pos hdep]
   obtain ⟨q1,q2⟩:=rs_ok hc
   rw [q1,q2]
   refine U22 ?_
   refine cE (σ':=⟨[(2,.sv (.one (.slc 500 0 l.length 6))),(3,Ln .i64 0)],[(500,some ⟨190,(rwsV q).map .val,false⟩)],joinM X H⟩) (Le.of VE V13 V2 V2 V0) ?_
   refine Leads.closeRes (R:=rowsR l) hO (fun ρ fr g1 g2 g3=>⟨q,fr,cN _ _ _,g3,hq,fun p hp=>(hD p hp).mono (cJ g1)⟩) (cD ?_)
   exact ⟨[(1000001,500)],⟨[_,_],⟨O,O,trivial⟩,O⟩,V1,O,O⟩
  ·have hc:chkX l=4:=by unfold chkX;rw [if_neg h64,if_neg (fun h=>h1 (by rw [hdep] at h;exact Option.some.inj h))]
   obtain ⟨q1,q2⟩:=rs_no (l:=l) V34
   rw [q1,q2,hc]
   refine U20 ?_
   exact cD ⟨[],⟨[_,_],⟨O,O,trivial⟩,O⟩,trivial,O,O⟩
theorem gCheck' (l:List Ins) (ad:Option Addr) (cap:Nat) (hin:InsIn X ad l) (hl:l.length<1152921504606846976):PSpec Tryz.prog X 139 [Lx ad l.length cap] (Ln .i64 (chkX l)):=by
 have hR:=tRowsOf X l ad cap hin hl
 refine cF Tryz.func139 rfl V5 rfl rfl ?_
 intro C
 by_cases h:chkX l=0
 ·rw [(rs_ok h).1,(rs_ok h).2] at hR
  rw [h]
  (refine U7 ?_;refine bE [(1000001,500)] (.tup [.one (.slc 500 0 l.length 6),Sn .i64 0]) [(500,some ⟨0,[],.res (rowsR l)⟩)] (hR) O O VC O O O O O V19 dS ?_;refine U12 ?_)
  exact V6
 ·rw [(rs_no h).1,(rs_no h).2] at hR
  (refine U7 ?_;refine aU [] [] (hR) O O VC O O O O O V2B dS ?_;refine U12 ?_)
  exact V6
end Go.Proofs.YtopiioklkkiedaaGreatDoor
end
section
set_option maxHeartbeats 12800000
set_option maxRecDepth 100000
namespace Go.Lg.Fml
theorem dep_step {okJ:Ins→Bool} {l:List Ins} {m i d:Nat} {x:Ins} (h:dep okJ 0 l=some m) (hd:dep okJ 0 (l.take i)=some d) (hx:l[i]? = some x):okJ x=true∧takes x.op≤d∧d-takes x.op+1≤16∧dep okJ 0 (l.take (i+1))=some (d-takes x.op+1):=by
 have h1:=dep_snoc hd hx
 by_cases c:okJ x=true∧takes x.op≤d∧d-takes x.op+1≤16
 ·rw [if_pos c] at h1
  exact ⟨c.1,c.2.1,c.2.2,h1⟩
 ·rw [if_neg c] at h1
  have:=dep_none h1
  rw [h] at this
  cases this
section
variable {V:Type} {one:Ins→List V→Except Int V}
theorem run_snoc {l:List Ins} {i:Nat} {x:Ins} {st:List V} (h:run one (l.take i) [] = .ok st) (hx:l[i]? = some x):run one (l.take (i+1)) []=match one x (st.take (takes x.op)).reverse with | .error e=>.error e | .ok v=>.ok (v::st.drop (takes x.op)):=by
 rw [List.take_add_one,hx,run_app,h]
 simp only [Option.toList_some,run]
 cases one x (st.take (takes x.op)).reverse<;>rfl
theorem run_fail {l:List Ins} {i:Nat} {x:Ins} {st:List V} {e:Int} (h:run one (l.take i) [] = .ok st) (hx:l[i]? = some x) (ho:one x (st.take (takes x.op)).reverse = .error e):run one l [] = .error e:=by
 have h1:=run_snoc h hx
 rw [ho] at h1
 rw [← List.take_append_drop (i+1) l,run_app,h1]
def headX:Except Int (List V)→Except Int V
 | .error e=>.error e
 | .ok (v::_)=>.ok v
 | .ok []=>.error 0
end
end Go.Lg.Fml
namespace Go.Proofs.YtopiioklkkiedaaGreatDoor
open Go Go.Lg Go.Lg.Fml Go.Lg.Fld Go.Lg.Arith
set_option maxRecDepth 100000
theorem exR_closed (r:Except Int Nm):(exR r).closed=true:=by cases r<;>rfl
def StepN (Y:Nat→Option Obj) (v:Value) (one:Ins→List Nm→Except Int Nm):Prop := ∃ (f:FuncId) (caps:List Value),v = .func (.func f) #[] caps.toArray∧∀ Z,MoreM Y Z→∀ x:Ins,smallI x→∀ dv:Value,DeedV Z dv x.op→∀ (tad:Option Addr) (tcap:Nat) (ts:List Nm),NumsIn Z tad ts→ts.length=takes x.op →
 PSpec Tryz.prog Z f ([LRow x.op (.val dv),LIn x,Lx tad ts.length tcap]++capL caps) (exR (one x ts))
theorem step_eval {Y:Nat→Option Obj} {blk:Nat} {arr:Array Value} {el:TypeId} {fr:Nat×Nat} {fad:Option Addr} {fcap:Nat} {fs:List (List Nm)} {at_:Int} (hY:Y blk=some (.cells arr el fr)) (hsp:∃ sp,arr.toList=[.slice fad fs.length fcap,.int .i64 at_]++sp) (hE:EnvIn Y fad fs at_):StepN Y (.func (.func 105) #[] #[pv blk]) (oneX fs at_):=by
 refine ⟨105,[pv blk],O,fun Z hZ x hx dv hD tad tcap ts hts hlen => ?_⟩
 obtain ⟨f,caps,rfl,hF⟩:=hD
 have hP:=hF Z (MoreM.refl Z) x rfl hx fad fcap fs at_ (hE.mono hZ) tad tcap ts hts hlen
 have hX:=hZ _ _ hY
 obtain ⟨sp,hsp⟩:=hsp
 have hs0:0+2≤arr.size:=by rw [← Array.length_toList,hsp];simp
 have hc0:((arr.toList.drop 0).take 2).map CV.val=[.val (.slice fad fs.length fcap),.val (.int .i64 at_)]:=by rw [hsp];rfl
 show PSpec _ Z _ [LRow x.op (.val (.func (.func f) #[] caps.toArray)),LIn x,Lx tad ts.length tcap,.sv (.one (.val (pv blk)))] (exR (oneX fs at_ x ts))
 rw [exR_eq] at hP ⊢
 generalize exE (oneX fs at_ x ts)=e at *
 generalize exV (oneX fs at_ x ts)=v at *
 obtain ⟨vb,vN⟩:=v
 refine cF Tryz.func105 rfl V5 rfl rfl ?_
 intro C
 (refine U14 ?_;refine K.callF O O O hP dS ?_;refine U6 ?_)
 exact V4
theorem nums_tail {Z:Nat→Option Obj} {sb:Nat} {arr:Array Value} {el:TypeId} {fr:Nat×Nat} {ns:List Nm} {rest cap:Nat} (hZ:Z sb=some (.cells arr el fr)) (h2:∀ u∈ns,In2 u.2) (hsp:∃ sp,arr.toList=nmsV ns++sp) (hc:cap=rest→ns.drop rest=[]):
  NumsIn Z (some ⟨sb,if cap=rest then 0 else 0+rest*3,none⟩) (ns.drop rest):=by
 have hN:=nms_in hZ h2 hsp
 refine ⟨fun i r hi => ?_,fun u hu=>h2 u (List.mem_of_mem_drop hu)⟩
 by_cases c:cap=rest
 ·rw [hc c] at hi;simp at hi
 ·rw [if_neg c]
  rw [dM,List.getElem?_drop] at hi
  obtain ⟨blk,off,arr',el',fr',e1,e2,e3,e4⟩:=hN.rows (rest+i) r (by rw [dM];exact hi)
  simp only [Option.some.injEq,Addr.mk.injEq] at e1
  obtain ⟨rfl,rfl,_⟩:=e1
  refine ⟨sb,0+rest*3,arr',el',fr',O,e2,by omega,?_⟩
  rw [← e4,show 0+rest*3+i*3=0+(rest+i)*3 by omega]
theorem nmsV_app (a b:List Nm):nmsV (a++b)=nmsV a++nmsV b:=by unfold nmsV;rw [dI,List.flatten_append]
theorem more_join {C:Ctx} {X H:Nat→Option Obj} (hO:OwnedM C X H):MoreM X (joinM X H)∧MoreM H (joinM X H):=by
 refine ⟨fun b o hb => ?_,fun b o hb=>joinM_in hb⟩
 cases hc:H b with
 | none=>rw [joinM_out hc];exact hb
 | some o'=>have:=(hO.own b o' hc).2.2;rw [hb] at this;cases this
variable (X:Nat→Option Obj)
abbrev rnSt (rad ad:Option Addr) (n rcap cap i:Nat) (v:Value) (ms:List (Nat×LV)) (mb:List (Nat×Option Box)) (Y:Nat→Option Obj):St:=
 ⟨ms++[(0,Lx rad n rcap),(1,Lx ad n cap),(2,.sv (.one (.val v))),(6,Lp 6),(15,Lx rad n rcap),(16,Ln .i64 (n:Nat)),(17,Ln .i64 (i:Nat))],mb++[(6,some ⟨86,[.val (.bool false),.val (.int .u64 0),.val (.int .u64 0)],false⟩)],Y⟩
set_option maxHeartbeats 12800000 in
theorem tRunN (l:List Ins) (hchk:chkX l=0) (ad:Option Addr) (cap:Nat) (hin:InsIn X ad l) (rad:Option Addr) (rcap:Nat) (hrows:RowsOK X rad l) (v:Value) (one:Ins→List Nm→Except Int Nm) (hv:StepN X v one)
  (h2:∀ x∈l,∀ a u,(∀ w∈a,In2 w.2)→one x a = .ok u→In2 u.2) (he:∀ x a e,a.length=takes x.op→one x a = .error e→e≠0):
  PSpec Tryz.prog X 104 [Lx rad l.length rcap,Lx ad l.length cap,.sv (.one (.val v))] (exR (headX (run one l []))):=by
 obtain ⟨h64,hdep1⟩:=chkX_zero hchk
 obtain ⟨f,caps,rfl,hF⟩:=hv
 refine cF Tryz.func104 rfl V5 rfl (exR_closed _) ?_
 intro C
 have hmk:slcBuild Tryz.prog 28 16=some ((List.replicate 16 [Value.bool false,.int .u64 0,.int .u64 0]).flatten,3,86):=slcBuild_many (z := #[.bool false,.int .u64 0,.int .u64 0]) V5 V5 rfl V3
 (refine U7 ?_;refine K.makeSlc0 (m:=16) (bytes:=24) O O hmk V5 V3 O dS ?_;refine U10 ?_)
 refine cL (fun k σ=>∃ (i:Nat) (st:List Nm),i≤l.length∧k=l.length-i∧run one (l.take i) [] = .ok st∧(∀ w∈st,In2 w.2)∧dep okI 0 (l.take i)=some st.length∧σ=rnSt rad ad l.length rcap cap i (.func (.func f) #[] caps.toArray) [(8,.sv (.one (.slc 500 0 st.length 3)))] [(500,some ⟨86,(nmsV st.reverse).map .val,true⟩)] X) l.length
  ⟨rnSt rad ad l.length rcap cap 0 (.func (.func f) #[] caps.toArray) [(8,.sv (.one (.slc 500 0 0 3)))] [(500,some ⟨86,[],true⟩)] X,Le.ofR [(500,14),(6,6)] V15 V1 V2 V2 V0 V2 V2,0,[],by omega,by omega,rfl,fun w hw=>absurd hw V21,rfl,rfl⟩ ?_
 rintro k σ ⟨i,st,hi,rfl,hst,hst2,hdep,rfl⟩
 by_cases hlt:i<l.length
 ·obtain ⟨x,hx⟩:=wg hlt
  have hmem:=dE hx
  have hsx:=hin.small x hmem
  obtain ⟨hok,htk,h16,hdn⟩:=dep_step hdep1 hdep hx
  have hd16:=dep_le V3 hdep
  obtain ⟨rblk,roff,rarr,rel,rfr,dv,rfl,hXr,hszr,hcsr,hDv⟩:=hrows.at hx
  obtain ⟨g,gcaps,egv,_⟩:=id hDv
  subst egv
  obtain ⟨blk,off,arr,el,fr,rfl,hX,hsz,hcs,hop⟩:=hin.at hx
  have hio:=wo off i 6
  have hior:=wo roff i 6
  have hin0:0≤(i:Int)∧(i:Int)<(l.length:Nat):=by omega
  obtain ⟨rest,hrest⟩:∃ rest,st.length-takes x.op=rest:=⟨_,rfl⟩
  have hsub:IntKind.i64.wrap (((st.length:Nat):Int)-((takes x.op:Nat):Int))=((rest:Nat):Int):=by rw [cH V3];omega
  refine U28 ?_
  refine LWP.le (σ':=⟨[(8,.sv (.one (.slc 500 0 st.length 3))),(0,Lx (some ⟨rblk,roff,none⟩) l.length rcap),(1,Lx (some ⟨blk,off,none⟩) l.length cap),(2,.sv (.one (.val (.func (.func f) #[] caps.toArray)))),(6,Lp 6),(9,Ln .i64 (i:Nat)),(10,Lp 10),(11,Ln .i64 (rest:Nat)),(15,Lx (some ⟨rblk,roff,none⟩) l.length rcap),(16,Ln .i64 (l.length:Nat)),(17,Ln .i64 (i:Nat))],[(500,some ⟨86,(nmsV st.reverse).map .val,true⟩),(6,some ⟨86,[.val (.bool false),.val (.int .u64 0),.val (.int .u64 0)],false⟩),(10,some ⟨190,(rowVs (x.op,.func (.func g) #[] gcaps.toArray)).map .val,false⟩)],X⟩) (Le.of (by exact ⟨O,O,O,O,O,O,O,O,O,O,O,trivial⟩) V9 V2 V2 V0) ?_
  refine LWP.freeze O V7 O fun sb scap sarr sfr hn hFz hcp hfit hsp => ?_
  have hXZ:MoreM X (withBlock X sb (.cells sarr 86 sfr)):=cJ hn
  have hts:st.reverse.drop rest=(st.take (takes x.op)).reverse:=by rw [List.drop_reverse,← hrest,show st.length-(st.length-takes x.op)=takes x.op by omega]
  have hln:((st.take (takes x.op)).reverse).length=takes x.op:=by rw [List.length_reverse,dA];omega
  have hN:=nums_tail (cap:=scap) (rest:=rest) (cN X sb (.cells sarr 86 sfr)) (fun u hu=>hst2 u (List.mem_reverse.1 hu)) hsp (fun e=>List.drop_eq_nil_of_le (by rw [List.length_reverse];omega))
  rw [hts] at hN
  have hP:=hF _ hXZ x hsx _ (hDv.mono hXZ) _ (scap-rest) _ hN hln
  have hln2:st.length-rest=((st.take (takes x.op)).reverse).length:=by rw [hln];omega
  have hXc:=hXZ _ _ hX
  have hsn:=run_snoc hst hx
  cases hone:one x (st.take (takes x.op)).reverse with
  | error e =>
   have hne:=he x _ e hln hone
   rw [run_fail hst hx hone]
   rw [hone] at hP
   show LWP _ _ _ _ _ _
   (refine rgD mixed ?_;refine U8 ?_;refine K.cutLoX O O cC V3 O hln2 O dS ?_;refine K.callF O O O hP dS ?_;refine U12 ?_;refine kne O O (r:=true) (cU hne) ?_;refine U10 ?_)
   exact V4
  | ok u =>
   rw [hone] at hP hsn
   simp only at hsn
   have hu2:=h2 x hmem _ u (fun w hw=>hst2 w (List.mem_of_mem_take (List.mem_reverse.1 hw))) hone
   obtain ⟨ub,uN⟩:=u
   have hP:PSpec Tryz.prog (withBlock X sb (.cells sarr 86 sfr)) f ([LRow x.op (.val (.func (.func g) #[] gcaps.toArray)),LIn x,Lx (some ⟨sb,if scap=rest then 0 else 0+rest*3,none⟩) ((st.take (takes x.op)).reverse).length (scap-rest)]++capL caps) (.tup [SI ub uN,Sn .i64 0]):=hP
   (refine rgD mixed ?_;refine U8 ?_;refine K.cutLoX O O cC V3 O hln2 O dS ?_;refine K.callF O O O hP dS ?_;refine U16 ?_)
   have hspl:nmsV st.reverse=nmsV (st.reverse.take rest)++nmsV (st.reverse.drop rest):=by rw [← nmsV_app,List.take_append_drop]
   have hsp2:∃ sp,sarr.toList=nmsV (st.reverse.take rest)++sp:=by
    obtain ⟨sp,hsp⟩:=hsp
    exact ⟨_,by rw [hsp,hspl,dN]⟩
   have hrl:(st.reverse.take rest).length=rest:=by rw [dA,List.length_reverse];omega
   refine LWP.le (σ':=⟨[(8,.sv (.one (.val (.slice (some ⟨sb,0,none⟩) st.length scap)))),(0,Lx (some ⟨rblk,roff,none⟩) l.length rcap),(1,Lx (some ⟨blk,off,none⟩) l.length cap),(2,.sv (.one (.val (.func (.func f) #[] caps.toArray)))),(6,Lp 6),(11,Ln .i64 (rest:Nat)),(12,Lp 12),(15,Lx (some ⟨rblk,roff,none⟩) l.length rcap),(16,Ln .i64 (l.length:Nat)),(17,Ln .i64 (i:Nat))],[(6,some ⟨86,[.val (.bool false),.val (.int .u64 0),.val (.int .u64 0)],false⟩),(12,some ⟨86,cI ub uN,false⟩)],withBlock X sb (.cells sarr 86 sfr)⟩) (Le.of V24 VE V2 V2 V0) ?_
   refine LWP.thaw (k:=500) (sz:=3) (vals:=nmsV (st.reverse.take rest)) hn hFz hcp hfit hsp2 O O O VA ?_
   have hl3:((nmsV (st.reverse.take rest)).map CV.val).length=rest*3:=by rw [nmsV_len,hrl]
   have hnc:=nmsV_snoc (st.reverse.take rest) (ub,uN)
   have hinc:=wi i V3
   have hst':st.reverse.take rest=(st.drop (takes x.op)).reverse:=by rw [List.take_reverse,← hrest,show st.length-(st.length-takes x.op)=takes x.op by omega]
   have hlen2:(((ub,uN):Nm)::st.drop (takes x.op)).length=rest+1:=by rw [dJ,dC];omega
   (refine rgD mixed ?_;refine U2 ?_;refine K.cutSlc O O cC V3 dS ?_;refine U1 ?_;refine aZ (zs:=[Value.bool false,.int .u64 0,.int .u64 0]) (sz:=3) (e:=86) (cs':=[.val (.bool ub),.val (.int .u64 (uN/18446744073709551616)),.val (.int .u64 (uN%18446744073709551616))]) V5 O O O O O O dS<|bQ (by_:=24) (e2:=86) (l2:=[.val (.bool ub),.val (.int .u64 (uN/18446744073709551616)),.val (.int .u64 (uN%18446744073709551616))]) (nl:=rest+1) (nc:=(nmsV (st.reverse.take rest++[(ub,uN)])).map .val) O O hl3 O O (dO _) O O V5 V5 V3 V3 O O hnc dS ?_;refine U7 ?_)
   exact ⟨l.length-(i+1),rnSt (some ⟨rblk,roff,none⟩) (some ⟨blk,off,none⟩) l.length rcap cap (i+1) (.func (.func f) #[] caps.toArray) [(8,.sv (.one (.slc 500 0 (rest+1) 3)))] [(500,some ⟨86,(nmsV (st.reverse.take rest++[(ub,uN)])).map .val,true⟩)] X,by omega,Le.ofR [(500,49),(6,6)] V15 V1 V2 V2 V0 V2 V2,i+1,(ub,uN)::st.drop (takes x.op),by omega,O,hsn,(fun w hw=>by
    rcases List.mem_cons.1 hw with rfl|hw
    ·exact hu2
    ·exact hst2 w (List.mem_of_mem_drop hw)),by rw [hdn,hlen2];congr 1;omega,by rw [hlen2,List.reverse_cons,← hst']⟩
 ·have e:i=l.length:=by omega
  subst e
  rw [dG] at hst hdep
  have hl1:st.length=1:=by rw [hdep1] at hdep;exact (Option.some.inj hdep).symm
  match st,hl1,hst,hst2 with
  | [(ub,uN)],_,hst,hst2 =>
  rw [hst]
  show LWP _ _ _ _ _ _
  refine LWP.le (σ':=rnSt rad ad l.length rcap cap l.length (.func (.func f) #[] caps.toArray) [(8,.sv (.one (.slc 500 0 1 3)))] [(500,some ⟨86,cI ub uN,true⟩)] X) (Le.of V15 VE V2 V2 V0) ?_
  (refine U10 ?_;refine K.indexSlc (off':=0) O O V3 O dS ?_;refine bJ O O O O dS ?_;refine U4 ?_)
  exact V4
theorem run_len {V:Type} {one:Ins→List V→Except Int V} {okJ:Ins→Bool}:∀ {l:List Ins} {st st':List V} {n m:Nat},st.length=n→dep okJ n l=some m→run one l st = .ok st'→st'.length=m
 | [],st,st',n,m,h,hd,hr=>by
  simp only [dep,Option.some.injEq] at hd
  simp only [run,Except.ok.injEq] at hr
  rw [← hr,h,hd]
 | x::l,st,st',n,m,h,hd,hr=>by
  simp only [dep] at hd
  split at hd
  ·rename_i c
   simp only [run] at hr
   cases ho:one x (st.take (takes x.op)).reverse with
   | error e=>rw [ho] at hr;cases hr
   | ok v =>
    rw [ho] at hr
    exact run_len (n:=n-takes x.op+1) (by rw [dJ,dC,h]) hd hr
  ·cases hd
set_option maxHeartbeats 6400000 in
theorem gEval' (l:List Ins) (ad:Option Addr) (cap:Nat) (hin:InsIn X ad l) (hbig:l.length<1152921504606846976) (fad:Option Addr) (fcap:Nat) (fs:List (List Nm)) (at_:Int) (hE:EnvIn X fad fs at_) (hf2:∀ r∈fs,∀ u∈r,In2 u.2):
  PSpec Tryz.prog X 70 [Lx ad l.length cap,LEnv fad fs.length fcap at_] (exR (evX l fs at_)):=by
 have hR:=tRowsOf X l ad cap hin hbig
 by_cases h:chkX l=0
 ·rw [(rs_ok h).1,(rs_ok h).2] at hR
  refine cF Tryz.func70 rfl V5 rfl (exR_closed _) ?_
  intro C
  (refine U9 ?_;refine bE [(1000001,500)] (.tup [.one (.slc 500 0 l.length 6),Sn .i64 0]) [(500,some ⟨0,[],.res (rowsR l)⟩)] (hR) O O VC O O O O O V19 dS ?_;refine U15 ?_)
  refine LWP.le (σ':=⟨[(6,.sv (.one (.slc 500 0 l.length 6))),(3,Lp 3),(0,Lx ad l.length cap),(4,Lp 4),(5,Ln .i64 0),(7,Ln .i64 0)],[(500,some ⟨0,[],.res (rowsR l)⟩),(3,some ⟨100,[.val (.slice fad fs.length fcap),.val (.int .i64 at_)],false⟩),(4,some ⟨86,[.val (.bool false),.val (.int .u64 0),.val (.int .u64 0)],false⟩)],X⟩) (Le.of V11 V9 V2 V2 V0) ?_
  refine LWP.fixRes O O O fun ρ H rcap hRr hO _ _ => ?_
  obtain ⟨m1,m2⟩:=more_join hO
  have hrows:=rows_fix hRr m2
  refine LWP.le (σ':=⟨[(3,Lp 3),(6,Lx (some ⟨ρ.1,0,none⟩) l.length rcap),(0,Lx ad l.length cap),(4,Lp 4),(5,Ln .i64 0),(7,Ln .i64 0)],[(3,some ⟨100,([.slice fad fs.length fcap,.int .i64 at_]:List Value).map .val,false⟩),(4,some ⟨86,[.val (.bool false),.val (.int .u64 0),.val (.int .u64 0)],false⟩)],joinM X H⟩) (Le.of V11 VE V2 V2 V0) ?_
  refine LWP.freezePtr O O O fun eb earr efr hn hF hsp => ?_
  have m3:MoreM (joinM X H) (withBlock (joinM X H) eb (.cells earr 100 efr)):=cJ hn
  have hS:=step_eval (cN (joinM X H) eb (.cells earr 100 efr)) hsp (hE.mono (m1.trans m3))
  have hP:=tRunN _ l h ad cap (hin.mono (m1.trans m3)) (some ⟨ρ.1,0,none⟩) rcap (hrows.mono m3) _ (oneX fs at_) hS (fun x hx a u ha ho=>one_in2 hf2 (hin.small x hx).2.2.2 hE.place.2 ha ho) (fun x a e hl ho=>one_err hl ho)
  have hev:evX l fs at_=lastX (run (oneX fs at_) l []):=if_pos h
  rw [hev]
  cases hr:run (oneX fs at_) l [] with
  | error e =>
   have hne:e≠0:=by
    have:=evX_err (l:=l) (fs:=fs) (at_:=at_) (e:=e) (by rw [hev,hr];rfl)
    exact this
   rw [hr] at hP
   show LWP _ _ _ _ _ _
   (refine U3 ?_;refine K.makeFunc O O dS ?_;refine U13 ?_;refine kne O O (r:=true) (cU hne) ?_;refine U11 ?_)
   exact V4
  | ok st =>
   have hl1:=run_len rfl (chkX_zero h).2 hr
   match st,hl1,hr with
   | [(ub,uN)],_,hr =>
   rw [hr] at hP
   have hP:PSpec Tryz.prog (withBlock (joinM X H) eb (.cells earr 100 efr)) 104 [Lx (some ⟨ρ.1,0,none⟩) l.length rcap,Lx ad l.length cap,.sv (.one (.val (.func (.func 105) #[] #[pv eb])))] (.tup [SI ub uN,Sn .i64 0]):=hP
   have hu2:In2 uN:=by
    obtain ⟨t,ht,hfl⟩:=parse (chkX_zero h).2
    have h5:t.ev (oneX fs at_) = .ok (ub,uN):=by
     have h6:=run_flat (one:=oneX fs at_) (t:=t) (rest:=[]) (st:=[]) ht
     rw [dK,hfl,hr] at h6
     cases hv:t.ev (oneX fs at_) with
     | error e=>rw [hv] at h6;cases h6
     | ok v=>rw [hv] at h6;simp only [run,Except.ok.injEq,List.cons.injEq,and_true] at h6;rw [h6]
    exact tree_in2 hf2 hE.place.2 (fun x hx=>(hin.small x (by rw [← hfl];exact hx)).2.2.2) h5
   have hG:=tForm (withBlock (joinM X H) eb (.cells earr 100 efr)) (ub,uN) hu2 _ rfl
   show LWP _ _ _ _ _ _
   cases hg:gd (ub,uN) with
   | false =>
    rw [hg] at hG
    rw [show lastX (.ok [(ub,uN)]) = .error 4 by unfold lastX;simp only;rw [hg];rfl]
    (refine U3 ?_;refine K.makeFunc O O dS ?_;refine U32 ?_)
    exact V4
   | true =>
    rw [hg] at hG
    rw [show lastX (.ok [(ub,uN)]) = .ok (ub,uN) by unfold lastX;simp only;rw [hg];rfl]
    (refine U3 ?_;refine K.makeFunc O O dS ?_;refine U33 ?_)
    exact V4
 ·rw [(rs_no h).1,(rs_no h).2] at hR
  rw [show evX l fs at_ = .error (chkX l) from if_neg h]
  refine cF Tryz.func70 rfl V5 rfl rfl ?_
  intro C
  (refine U9 ?_;refine aU [] [] (hR) O O VC O O O O O V2B dS ?_;refine U10 ?_;refine kne O O (r:=true) (cU h) ?_;refine U10 ?_)
  exact V4
end Go.Proofs.YtopiioklkkiedaaGreatDoor
end
section
set_option maxHeartbeats 12800000
set_option maxRecDepth 100000
namespace Go.Proofs.YtopiioklkkiedaaGreatDoor
open Go Go.Lg Go.Lg.Fml Go.Lg.Fld Go.Lg.Arith
set_option maxRecDepth 100000
theorem leB1o (n:Nat):leB 1 n=[o8 (n:Nat)]:=by
 simp only [leB]
 congr 1
abbrev LOp (op:Int):LV:=.sv (.agg [.val (.bool (op==2||op==3)),.val (.bool (op==2)),.val (.bool (op==1))])
theorem op_1:LOp 1 = .sv (.agg [.val (.bool false),.val (.bool false),.val (.bool true)]):=rfl
theorem op_2:LOp 2 = .sv (.agg [.val (.bool true),.val (.bool true),.val (.bool false)]):=rfl
theorem op_3:LOp 3 = .sv (.agg [.val (.bool true),.val (.bool false),.val (.bool false)]):=rfl
theorem op_no {op:Int} (h1:op≠1) (h2:op≠2) (h3:op≠3):LOp op = .sv (.agg [.val (.bool false),.val (.bool false),.val (.bool false)]):=by
 unfold LOp
 rw [cS h1,cS h2,cS h3]
 rfl
variable (X:Nat→Option Obj)
set_option maxHeartbeats 6400000 in
theorem tOnly3 (A B K:Bool) (x:Ins) (hx:smallI x):PSpec Tryz.prog X 137 [.sv (.agg [.val (.bool A),.val (.bool B),.val (.bool K)]),LIn x] (Lb ((A||(x.a==0))&&(B||(x.b==0))&&(K||decide (x.k=(false,0))))):=by
 have q:=eqI (b:=x.k.1) (b':=false) (h:=x.k.2/18446744073709551616) (h':=0) (l:=x.k.2%18446744073709551616) (l':=0) _ (eqZ hx.2.2.2)
 rw [show decide (((x.k.1,x.k.2):Nm)=(false,0))=decide (x.k=(false,0)) from rfl] at q
 generalize hr:decide (x.k=(false,0))=r at *
 generalize hp:(x.a==0)=p
 generalize hq:(x.b==0)=s
 cases A<;>cases p<;>cases B<;>cases s<;>cases K
 all_goals
  refine cF Tryz.func137 rfl V5 rfl rfl ?_
  intro C
  (first|(refine U31 ?_;refine bR O O O O V5 q (.inl ⟨O,O⟩) (dT O O) ?_;refine U5 ?_)|(refine U31 ?_;refine bR O O O O V5 q (.inl ⟨O,O⟩) (dT O O) ?_;refine U5 ?_)|(refine U31 ?_;refine bR O O O O V5 q (.inl ⟨O,O⟩) (dT O O) ?_;refine U5 ?_)|(refine U31 ?_;refine bR O O O O V5 q (.inl ⟨O,O⟩) (dT O O) ?_;refine U5 ?_)|(refine U37 ?_)|(refine U37 ?_)|(refine U37 ?_)|(refine U37 ?_)|(refine U37 ?_)|(refine U37 ?_)|(refine U37 ?_))
  exact V6
theorem tOnly (x:Ins) (hx:smallI x):PSpec Tryz.prog X 137 [LOp x.op,LIn x] (Lb (plainI x)):=by
 have h:=tOnly3 X (x.op==2||x.op==3) (x.op==2) (x.op==1) x hx
 have e:(((x.op==2||x.op==3)||(x.a==0))&&((x.op==2)||(x.b==0))&&((x.op==1)||decide (x.k=(false,0))))=plainI x:=by
  unfold plainI
  have hb:∀ a b:Int,(a==b)=decide (a=b):=fun a b=>rfl
  rw [hb,hb,hb,hb,hb]
  generalize decide (x.op=1)=a1
  generalize decide (x.op=2)=a2
  generalize decide (x.op=3)=a3
  generalize decide (x.a=0)=b1
  generalize decide (x.b=0)=b2
  generalize decide (x.k=(false,0))=b3
  cases a1<;>cases a2<;>cases a3<;>cases b1<;>cases b2<;>cases b3<;>rfl
 rw [e] at h
 exact h
theorem ePut_0 (n:Nat) (h:n<256):MSpec Tryz.prog X 136 [Lp 1000000,Ln .i64 (n:Nat)] (w0 1000000) (.tup []) (w1 1000000 1000001 1000002 [o8 (n:Nat)]):=by
 have hN:=WNum_0_1 X n V3 V3
 rw [leB1o n] at hN
 refine cG Tryz.func136 rfl V5 rfl rfl V0 rfl rfl ?_
 intro C
 have hw:IntKind.u64.wrap ((n:Nat):Int)=((n:Nat):Int):=wrap_u64 V3
 (refine U4 ?_;refine aU [(1000001,501),(1000002,502)] (w1 1000000 501 502 [o8 (n:Nat)]) (hN) O O V17 V16 O O O O V23 dS ?_;refine U1 ?_)
 exact ⟨[(1000001,501),(1000002,502)],⟨[],trivial,O⟩,V1,O,O⟩
theorem ePut_1 (l:List UInt8) (n:Int) (h:0≤n∧n<256) (hl:l.length<900000000):MSpec Tryz.prog X 136 [Lp 1000000,Ln .i64 n] (w1 1000000 1000001 1000002 l) (.tup []) (w1 1000000 1000001 1000003 (l++[o8 n])++[(1000002,none)]):=by
 obtain ⟨k,rfl⟩:=Int.eq_ofNat_of_zero_le h.1
 have hk:k<256:=by omega
 have hN:=WNum_1_1 X l k V3 V3 hl
 rw [leB1o k] at hN
 refine cG Tryz.func136 rfl V5 rfl rfl V0 rfl rfl ?_
 intro C
 have hw:IntKind.u64.wrap ((k:Nat):Int)=((k:Nat):Int):=wrap_u64 V3
 (refine U4 ?_;refine aU [(1000003,501)] (w1 1000000 1000001 501 (l++[o8 (k:Nat)])++[(1000002,none)]) (hN) O O VD VB O O O O V12 dS ?_;refine U1 ?_)
 exact ⟨[(1000003,501)],⟨[],trivial,O⟩,V1,O,O⟩
def numX (k:Nm):List UInt8:=sgB k.1::(leB 8 (loW k.2)++leB 8 (hiW k.2))
theorem LI_words {N:Int} (h:In2 N) (b:Bool):LI b N=Li b ((hiW N:Nat):Int) ((loW N:Nat):Int):=by
 obtain ⟨h1,h2,h3⟩:=words h
 unfold LI
 have e1:N/18446744073709551616=((hiW N:Nat):Int):=by unfold In2 at h;unfold hiW;omega
 have e2:N%18446744073709551616=((loW N:Nat):Int):=by unfold loW;omega
 rw [e1,e2]
set_option maxHeartbeats 3200000 in
theorem ePutNum (l:List UInt8) (k:Nm) (hk:In2 k.2) (hl:l.length<800000000):MSpec Tryz.prog X 177 [Lp 1000000,LI k.1 k.2] (w1 1000000 1000001 1000002 l) (.tup []) (w1 1000000 1000001 1000003 (l++numX k)++[(1000002,none)]):=by
 rw [LI_words hk]
 obtain ⟨_,h2,h3⟩:=words hk
 have hp:(256:Nat)^8=18446744073709551616:=by decide
 obtain ⟨b,N⟩:=k
 unfold numX
 simp only at hk h2 h3 ⊢
 generalize loW N=lo at *
 generalize hiW N=hi at *
 have p1:=fun n h=>ePut_1 X l n h V3
 have p2:=WNum_1_8 X (l++[sgB b]) lo V3 V3 (by rw [cW,cZ];omega)
 have p3:=WNum_1_8 X ((l++[sgB b])++leB 8 lo) hi V3 V3 (by rw [cW,cW,cZ,leB_length];omega)
 have hfin:l++sgB b::(leB 8 lo++leB 8 hi)=((l++[sgB b])++leB 8 lo)++leB 8 hi:=by simp
 rw [hfin]
 refine cG Tryz.func177 rfl V5 rfl rfl V0 rfl rfl ?_
 intro C
 cases b with
 | false =>
  have p1:MSpec Tryz.prog X 136 [Lp 1000000,Ln .i64 0] (w1 1000000 1000001 1000002 l) (.tup []) (w1 1000000 1000001 1000003 (l++[sgB false])++[(1000002,none)]):=p1 0 ⟨by decide,by decide⟩
  (refine U20 ?_;refine aU [(1000003,501)] (w1 1000000 1000001 501 (l++[sgB false])++[(1000002,none)]) (p1) O O VD VB O O O O V12 dS ?_;refine U6 ?_;refine aU [(1000002,501),(1000003,502)] (w1 1000000 1000001 502 ((l++[sgB false])++leB 8 lo)++[(501,none)]) (p2) O O VD VB O O O O V12 dS ?_;refine U5 ?_;refine aU [(1000002,502),(1000003,503)] (w1 1000000 1000001 503 (((l++[sgB false])++leB 8 lo)++leB 8 hi)++[(502,none)]) (p3) O O VD VB O O O O V12 dS ?_;refine U1 ?_)
  exact ⟨[(1000003,503)],⟨[],trivial,O⟩,V1,O,O⟩
 | true =>
  have p1:MSpec Tryz.prog X 136 [Lp 1000000,Ln .i64 1] (w1 1000000 1000001 1000002 l) (.tup []) (w1 1000000 1000001 1000003 (l++[sgB true])++[(1000002,none)]):=p1 1 ⟨by decide,by decide⟩
  (refine U22 ?_;refine aU [(1000003,501)] (w1 1000000 1000001 501 (l++[sgB true])++[(1000002,none)]) (p1) O O VD VB O O O O V12 dS ?_;refine U6 ?_;refine aU [(1000002,501),(1000003,502)] (w1 1000000 1000001 502 ((l++[sgB true])++leB 8 lo)++[(501,none)]) (p2) O O VD VB O O O O V12 dS ?_;refine U5 ?_;refine aU [(1000002,502),(1000003,503)] (w1 1000000 1000001 503 (((l++[sgB true])++leB 8 lo)++leB 8 hi)++[(502,none)]) (p3) O O VD VB O O O O V12 dS ?_;refine U1 ?_)
  exact ⟨[(1000003,503)],⟨[],trivial,O⟩,V1,O,O⟩
set_option maxHeartbeats 3200000 in
theorem ePutIns (l:List UInt8) (x:Ins) (hx:smallI x) (hok:okI x=true) (hl:l.length<700000000):MSpec Tryz.prog X 138 [Lp 1000000,LOp x.op,LIn x] (w1 1000000 1000001 1000002 l) (.tup []) (w1 1000000 1000001 1000003 (l++encI x)++[(1000002,none)]):=by
 obtain ⟨h17,hgk,ha7,hb7⟩:=okI_facts hok
 have hk2:=hx.2.2.2
 obtain ⟨op,a,b,k⟩:=x
 simp only at h17 hgk ha7 hb7 hk2 ⊢
 have p1:=ePut_1 X l op V3 V3
 have pa:=ePut_1 X (l++[o8 op]) a V3 (by rw [cW,cZ];omega)
 have pb:=ePut_1 X ((l++[o8 op])++[o8 a]) b V3 (by rw [cW,cW,cZ,cZ];omega)
 have pk:=ePutNum X (l++[o8 op]) k hk2 (by rw [cW,cZ];omega)
 by_cases c1:op=1
 ·subst c1
  rw [show encI ⟨1,a,b,k⟩=o8 1::numX k from rfl,show l++o8 1::numX k=(l++[o8 1])++numX k by simp,op_1]
  refine cG Tryz.func138 rfl V5 rfl rfl V0 rfl rfl ?_
  intro C
  (refine U10 ?_;refine aU [(1000003,501)] (w1 1000000 1000001 501 (l++[o8 1])++[(1000002,none)]) (p1) O O VD VB O O O O V12 dS ?_;refine U26 ?_;refine bJ O O O V28 dS ?_;refine aU [(1000002,501),(1000003,502)] (w1 1000000 1000001 502 ((l++[o8 1])++numX k)++[(501,none)]) (pk) O O VD VB O O O O V12 dS ?_;refine U1 ?_)
  exact ⟨[(1000003,502)],⟨[],trivial,O⟩,V1,O,O⟩
 by_cases c2:op=2
 ·subst c2
  rw [show encI ⟨2,a,b,k⟩=[o8 2,o8 a,o8 b] from rfl,show l++[o8 2,o8 a,o8 b]=((l++[o8 2])++[o8 a])++[o8 b] by simp,op_2]
  refine cG Tryz.func138 rfl V5 rfl rfl V0 rfl rfl ?_
  intro C
  (refine U10 ?_;refine aU [(1000003,501)] (w1 1000000 1000001 501 (l++[o8 2])++[(1000002,none)]) (p1) O O VD VB O O O O V12 dS ?_;refine U12 ?_;refine aU [(1000002,501),(1000003,502)] (w1 1000000 1000001 502 ((l++[o8 2])++[o8 a])++[(501,none)]) (pa) O O VD VB O O O O V12 dS ?_;refine U12 ?_;refine aU [(1000002,502),(1000003,503)] (w1 1000000 1000001 503 (((l++[o8 2])++[o8 a])++[o8 b])++[(502,none)]) (pb) O O VD VB O O O O V12 dS ?_;refine U8 ?_)
  exact ⟨[(1000003,503)],⟨[],trivial,O⟩,V1,O,O⟩
 by_cases c3:op=3
 ·subst c3
  rw [show encI ⟨3,a,b,k⟩=[o8 3,o8 a] from rfl,show l++[o8 3,o8 a]=(l++[o8 3])++[o8 a] by simp,op_3]
  refine cG Tryz.func138 rfl V5 rfl rfl V0 rfl rfl ?_
  intro C
  (refine U10 ?_;refine aU [(1000003,501)] (w1 1000000 1000001 501 (l++[o8 3])++[(1000002,none)]) (p1) O O VD VB O O O O V12 dS ?_;refine U12 ?_;refine aU [(1000002,501),(1000003,502)] (w1 1000000 1000001 502 ((l++[o8 3])++[o8 a])++[(501,none)]) (pa) O O VD VB O O O O V12 dS ?_;refine U16 ?_)
  exact ⟨[(1000003,502)],⟨[],trivial,O⟩,V1,O,O⟩
 rw [show encI ⟨op,a,b,k⟩=[o8 op] by unfold encI;simp only;rw [if_neg c1,if_neg c2,if_neg c3],op_no c1 c2 c3]
 refine cG Tryz.func138 rfl V5 rfl rfl V0 rfl rfl ?_
 intro C
 (refine U10 ?_;refine aU [(1000003,501)] (w1 1000000 1000001 501 (l++[o8 op])++[(1000002,none)]) (p1) O O VD VB O O O O V12 dS ?_;refine U24 ?_)
 exact ⟨[(1000003,501)],⟨[],trivial,O⟩,V1,O,O⟩
abbrev enSt (rad ad:Option Addr) (n rcap cap i:Nat) (B:List UInt8) (Y:Nat→Option Obj):St:=
 ⟨[(0,Lx ad n cap),(6,Lp 18),(23,Lx rad n rcap),(24,Ln .i64 (n:Nat)),(25,Ln .i64 (i:Nat))],w1 18 601 500 B,Y⟩
set_option maxHeartbeats 6400000 in
theorem gEncode' (l:List Ins) (ad:Option Addr) (cap:Nat) (hin:InsIn X ad l) (hbig:l.length<1152921504606846976):PSpec Tryz.prog X 101 [Lx ad l.length cap] (.tup [Ss (encTX l),Sn .i64 (encErr l)]):=by
 have hR:=tRowsOf X l ad cap hin hbig
 refine cF Tryz.func101 rfl V5 rfl rfl ?_
 intro C
 by_cases h:chkX l=0
 ·rw [(rs_ok h).1,(rs_ok h).2] at hR
  have h64:=(chkX_zero h).1
  have hall:=chkX_ok h
  (refine U8 ?_;refine bE [(1000001,500)] (.tup [.one (.slc 500 0 l.length 6),Sn .i64 0]) [(500,some ⟨0,[],.res (rowsR l)⟩)] (hR) O O VC O O O O O V19 dS ?_;refine U15 ?_)
  refine LWP.le (σ':=⟨[(4,.sv (.one (.slc 500 0 l.length 6))),(0,Lx ad l.length cap)],[(500,some ⟨0,[],.res (rowsR l)⟩)],X⟩) (Le.of VE V13 V2 V2 V0) ?_
  refine LWP.fixRes O O O fun ρ H rcap hRr hO _ _ => ?_
  obtain ⟨m1,m2⟩:=more_join hO
  have hrows:=rows_fix hRr m2
  replace hin:=hin.mono m1
  generalize joinM X H=Y at *
  have p1:=ePut_0 Y l.length V3
  (refine U10 ?_;refine aU [(1000000,18),(1000001,601),(1000002,602)] (w1 18 601 602 [o8 (l.length:Nat)]) (p1) O O V17 V16 O O O O V23 dS ?_;refine U9 ?_)
  refine cL (fun m σ=>∃ i:Nat,i≤l.length∧m=l.length-i∧(∀ x∈l.take i,plainI x=true)∧σ=enSt (some ⟨ρ.1,0,none⟩) ad l.length rcap cap i (o8 (l.length:Nat)::encIs (l.take i)) Y) l.length
   ⟨enSt (some ⟨ρ.1,0,none⟩) ad l.length rcap cap 0 (o8 (l.length:Nat)::encIs (l.take 0)) Y,Le.ofR [(500,602)] V10 V1 V2 V2 V0 V2 V2,0,Nat.zero_le _,rfl,fun x hx=>absurd hx V21,rfl⟩ ?_
  rintro m σ ⟨i,hi,rfl,hpl,rfl⟩
  have hBl:=encIs_len (l.take i)
  rw [dA] at hBl
  by_cases hlt:i<l.length
  ·obtain ⟨x,hx⟩:=wg hlt
   have hmem:=dE hx
   have hsx:=hin.small x hmem
   have hok:=hall x hmem
   obtain ⟨rblk,roff,rarr,rel,rfr,dv,hrad,hXr,hszr,hcsr,hDv⟩:=hrows.at hx
   simp only [Option.some.injEq,Addr.mk.injEq] at hrad
   obtain ⟨rfl,rfl,_⟩:=hrad
   obtain ⟨g,gcaps,egv,_⟩:=id hDv
   subst egv
   obtain ⟨blk,off,arr,el,fr,rfl,hX,hsz,hcs,hop⟩:=hin.at hx
   have hio:=wo off i 6
   have hior:=wo 0 i 6
   have hin0:0≤(i:Int)∧(i:Int)<(l.length:Nat):=by omega
   have hO:=tOnly Y x hsx
   cases hp:plainI x with
   | false =>
    have he:encErr l=1:=by
     unfold encErr
     rw [if_pos h,if_neg]
     intro ha
     have:=List.all_eq_true.1 ha x hmem
     rw [hp] at this
     cases this
    rw [show encTX l=[] by unfold encTX;rw [he];rfl,he]
    rw [hp] at hO
    (refine U20 ?_;refine rgD mixed ?_;refine U1 ?_;refine bJ O O O O dS ?_;refine U15 ?_)
    exact V1E
   | true =>
    rw [hp] at hO
    have hnext:o8 (l.length:Nat)::encIs (l.take (i+1))=(o8 (l.length:Nat)::encIs (l.take i))++encI x:=by
     rw [List.take_add_one,hx,encIs_app]
     simp [encIs]
    have q:=ePutIns Y (o8 (l.length:Nat)::encIs (l.take i)) x hsx hok (by rw [dJ];omega)
    rw [← hnext] at q
    have hinc:=wi i V3
    (refine U20 ?_;refine rgD mixed ?_;refine U1 ?_;refine bJ O O O O dS ?_;refine U10 ?_;refine rgD mixed ?_;refine U2 ?_;refine bJ O O O O dS ?_;refine U4 ?_;refine aU [(1000000,18),(1000001,601),(1000002,500),(1000003,605)] (w1 18 601 605 (o8 (l.length:Nat)::encIs (l.take (i+1)))++[(500,none)]) (q) O O VD (by exact (bT (bT O (bT O O)) (bT (bT O O) (bT (bT O bytes_inUse) O)))) O O O O V12 dS ?_;refine U6 ?_)
    exact ⟨_,enSt (some ⟨ρ.1,0,none⟩) (some ⟨blk,off,none⟩) l.length rcap cap (i+1) (o8 (l.length:Nat)::encIs (l.take (i+1))) Y,by omega,Le.ofR [(500,605)] V10 V1 V2 V2 V0 V2 V2,i+1,by omega,O,(fun y hy=>by
     rw [List.take_add_one,hx] at hy
     rcases List.mem_append.1 hy with hy|hy
     ·exact hpl y hy
     ·simp only [Option.toList_some,List.mem_singleton] at hy;rw [hy];exact hp),rfl⟩
  ·have e:i=l.length:=by omega
   subst e
   rw [dG] at hpl
   have he:encErr l=0:=by
    unfold encErr
    rw [if_pos h,if_pos (List.all_eq_true.2 hpl)]
   rw [show encTX l=o8 (l.length:Nat)::encIs l by unfold encTX;rw [if_pos he];rfl,he,dG]
   have q:=String_1 Y (o8 (l.length:Nat)::encIs l)
   (refine U10 ?_;refine aU [(1000000,18),(1000001,601),(1000002,500)] (w1 18 601 500 (o8 (l.length:Nat)::encIs l)) (q) O O VD (by exact (bT (bT O (bT O O)) (bT (bT O O) (bT (bT O bytes_inUse) O)))) O O O O (by exact (.box O O (.box O O (.box O (Box.ren_bytes _ _ _ _) .nil)))) dS ?_;refine U4 ?_)
   exact V1E
 ·rw [(rs_no h).1,(rs_no h).2] at hR
  have he:encErr l=chkX l:=if_neg h
  rw [show encTX l=[] by unfold encTX;rw [he,if_neg h],he]
  (refine U8 ?_;refine aU [] [] (hR) O O VC O O O O O V2B dS ?_;refine U10 ?_;refine kne O O (r:=true) (cU h) ?_;refine U9 ?_)
  exact V1E
end Go.Proofs.YtopiioklkkiedaaGreatDoor
end
section
set_option maxHeartbeats 12800000
set_option maxRecDepth 100000
namespace Go.Proofs.YtopiioklkkiedaaGreatDoor
open Go Go.Lg Go.Lg.Fml Go.Lg.Fld Go.Lg.Arith
set_option maxRecDepth 100000
def eS:List UInt8×Bool→UInt8×List UInt8×Bool
 | (c::t,false)=>(c,t,false)
 | (l,_)=>(0,l,true)
def eW:List UInt8×Bool→Nat×List UInt8×Bool
 | (l,b)=>if b=false∧8≤l.length then (le (l.take 8),l.drop 8,false) else (0,l,true)
def eN (x:List UInt8×Bool):(Nm×Bool)×List UInt8×Bool:=
 if 1<(eS x).1.toNat then (((false,0),false),(eS x).2)
 else (((decide ((eS x).1.toNat=1),(((eW (eS x).2).1+18446744073709551616*(eW (eW (eS x).2).2).1:Nat):Int)),true),(eW (eW (eS x).2).2).2)
def Lss (x y:List UInt8×Bool):Prop:=y.1.length≤x.1.length∧(x.2=true→y.2=true)
variable (X:Nat→Option Obj)
end Go.Proofs.YtopiioklkkiedaaGreatDoor
end
section
set_option maxHeartbeats 12800000
set_option maxRecDepth 100000
namespace Go.Proofs.YtopiioklkkiedaaGreatDoor
open Go Go.Lg Go.Lg.Fml Go.Lg.Fld Go.Lg.Arith
set_option maxRecDepth 100000
variable (X:Nat→Option Obj)
abbrev usSt (ad:Option Addr) (n cap i:Nat) (q:List Ins) (r:Bool) (Y:Nat→Option Obj):St:=
 ⟨[(0,Lx ad n cap),(3,.sv (.one (.slc 500 0 q.length 6))),(7,Lx ad n cap),(8,Ln .i64 (n:Nat)),(9,Ln .i64 (i:Nat))],[(500,some ⟨88,(inssV q).map .val,r⟩)],Y⟩
theorem uses_take {l:List Ins} {i:Nat} {x:Ins} (hx:l[i]? = some x):usesX (l.take (i+1))=if (x.op==2||x.op==3)=true then usesX (l.take i)++[x] else usesX (l.take i):=by
 unfold usesX
 rw [List.take_add_one,hx,List.filter_append]
 simp only [Option.toList_some,List.filter_cons,List.filter_nil]
 split<;>simp
theorem uses_le (l:List Ins):(usesX l).length≤l.length:=List.length_filter_le _ _
set_option maxHeartbeats 6400000 in
theorem gUses' (l:List Ins) (ad:Option Addr) (cap:Nat) (hin:InsIn X ad l) (hl:l.length≤1000):MSpec Tryz.prog X 140 [Lx ad l.length cap] [] (.sv (.one (.slc 1000001 0 (usesX l).length 6))) [(1000001,some ⟨88,(inssV (usesX l)).map .val,true⟩)]:=by
 refine cG Tryz.func140 rfl V5 rfl V7 V7 rfl rfl ?_
 intro C
 refine LWP.ends ?_
 (refine U6 ?_;refine aZ (zs:=[]) (sz:=6) (e:=88) V5 O O O O O O dS ?_;refine U10 ?_)
 refine cL (fun m σ=>∃ (i:Nat) (r:Bool),i≤l.length∧m=l.length-i∧σ=usSt ad l.length cap i (usesX (l.take i)) r X) l.length
  ⟨usSt ad l.length cap 0 (usesX (l.take 0)) false X,Le.ofR [(500,6)] V10 V1 V2 V2 V0 V2 V2,0,false,by omega,by omega,rfl⟩ ?_
 rintro m σ ⟨i,r,hi,rfl,rfl⟩
 by_cases hlt:i<l.length
 ·obtain ⟨x,hx⟩:=wg hlt
  obtain ⟨blk,off,arr,el,fr,rfl,hX,hsz,hcs,hop⟩:=hin.at hx
  have hio:=wo off i 6
  have hin0:0≤(i:Int)∧(i:Int)<(l.length:Nat):=by omega
  have hut:=uses_take hx
  have hul:=uses_le (l.take i)
  rw [dA] at hul
  have hinc:=wi i V3
  by_cases h2:x.op=2
  ·rw [if_pos (by rw [cV h2];rfl)] at hut
   generalize usesX (l.take i)=q at *
   have hcl:=inssV_len q
   have hnc:(inssV q).map CV.val++(insV x).map CV.val=(inssV (q++[x])).map CV.val:=inssV_snoc q x rfl
   have hnl:q.length+1=(q++[x]).length:=by rw [cW];rfl
   (refine U20 ?_;refine keq O O (r:=true) (cV h2) ?_;refine U10 ?_;refine aZ (zs:=[Value.int .i64 0,.int .i64 0,.int .i64 0,.bool false,.int .u64 0,.int .u64 0]) (sz:=6) (e:=88) (cs':=(insV x).map .val) V5 O O O O O O dS<|bQ (by_:=48) (e2:=88) (l2:=(insV x).map .val) (nl:=(q++[x]).length) (nc:=(inssV (q++[x])).map .val) O O hcl O O (dO _) O O V5 V5 V3 V3 O hnl hnc dS ?_;refine U6 ?_)
   exact ⟨_,usSt (some ⟨blk,off,none⟩) l.length cap (i+1) (q++[x]) true X,by omega,Le.ofR [(500,24)] V10 V1 V2 V2 V0 V2 V2,i+1,true,by omega,rfl,by rw [hut]⟩
  ·by_cases h3:x.op=3
   ·rw [if_pos (by rw [cV h3,Bool.or_true])] at hut
    generalize usesX (l.take i)=q at *
    have hcl:=inssV_len q
    have hnc:(inssV q).map CV.val++(insV x).map CV.val=(inssV (q++[x])).map CV.val:=inssV_snoc q x rfl
    have hnl:q.length+1=(q++[x]).length:=by rw [cW];rfl
    (refine U20 ?_;refine keq O O (r:=false) (cS h2) ?_;refine U3 ?_;refine bC O O (r:=true) (cV h3) (dT O O) ?_;refine U6 ?_;refine aZ (zs:=[Value.int .i64 0,.int .i64 0,.int .i64 0,.bool false,.int .u64 0,.int .u64 0]) (sz:=6) (e:=88) (cs':=(insV x).map .val) V5 O O O O O O dS<|bQ (by_:=48) (e2:=88) (l2:=(insV x).map .val) (nl:=(q++[x]).length) (nc:=(inssV (q++[x])).map .val) O O hcl O O (dO _) O O V5 V5 V3 V3 O hnl hnc dS ?_;refine U6 ?_)
    exact ⟨_,usSt (some ⟨blk,off,none⟩) l.length cap (i+1) (q++[x]) true X,by omega,Le.ofR [(500,24)] V10 V1 V2 V2 V0 V2 V2,i+1,true,by omega,rfl,by rw [hut]⟩
   ·rw [if_neg (by rw [cS h2,cS h3];decide)] at hut
    generalize usesX (l.take i)=q at *
    (refine U20 ?_;refine keq O O (r:=false) (cS h2) ?_;refine U3 ?_;refine bC O O (r:=false) (cS h3) (dT O O) ?_;refine U8 ?_)
    exact ⟨_,usSt (some ⟨blk,off,none⟩) l.length cap (i+1) q r X,by omega,Le.of V10 V13 V2 V2 V0,i+1,r,by omega,rfl,by rw [hut]⟩
 ·have e:i=l.length:=by omega
  subst e
  rw [dG]
  refine U13 ?_
  refine cE (σ':=⟨[(2,.sv (.one (.slc 500 0 (usesX l).length 6)))],[(500,some ⟨88,(inssV (usesX l)).map .val,r⟩)],X⟩) (Le.of V13 V13 V2 V2 V0) ?_
  refine cE Le.loose (cD ?_)
  exact ⟨[(1000001,500)],⟨[_],⟨O,trivial⟩,O⟩,V1,O,O⟩
end Go.Proofs.YtopiioklkkiedaaGreatDoor
end
section
set_option maxHeartbeats 12800000
set_option maxRecDepth 100000
namespace Go.Proofs.YtopiioklkkiedaaGreatDoor
open Go Go.Lg Go.Lg.Fml Go.Lg.Fld Go.Lg.Arith
set_option maxRecDepth 100000
variable (X:Nat→Option Obj)
theorem gCheck (l:List Ins) (ad:Option Addr) (cap:Nat) (hin:InsIn X ad l) (hl:l.length<1152921504606846976):PSpec Tryz.prog X 139 [Lx ad l.length cap] (Ln .i64 (chkX l)):=by
 exact gCheck' X l ad cap hin hl
theorem gEval (l:List Ins) (ad:Option Addr) (cap:Nat) (hin:InsIn X ad l) (hbig:l.length<1152921504606846976) (fad:Option Addr) (fcap:Nat) (fs:List (List Nm)) (hfs:FssIn X fad fs) (hfl:fs.length<4611686018427387904) (hrl:∀ r∈fs,r.length<4611686018427387904) (hf2:∀ r∈fs,∀ u∈r,In2 u.2) (at_:Int) (hat : -9223372036854775808≤at_∧at_<9223372036854775808):
  PSpec Tryz.prog X 70 [Lx ad l.length cap,LEnv fad fs.length fcap at_] (exR (evX l fs at_)):=by
 exact gEval' X l ad cap hin hbig fad fcap fs at_ ⟨hfs,hfl,hrl,hat⟩ hf2
end Go.Proofs.YtopiioklkkiedaaGreatDoor
end
section
set_option maxHeartbeats 12800000
set_option maxRecDepth 100000
namespace Go.Proofs.YtopiioklkkiedaaGreatDoor
open Go Go.Lg Go.Lg.Fml Go.Lg.Fld Go.Lg.Arith
set_option maxRecDepth 100000
variable (X:Nat→Option Obj)
def sizeB (rs:List Rl):Prop := ∀ r∈rs,r.ex.length<9223372036854775808∧∀ c∈r.ex,c.length<9223372036854775808
def grtR (r:Rl):Bool:=decide (12<r.ex.length)||r.ex.any fun c=>decide (80<c.length)
def grtP (rs:List Rl):Bool:=decide (30<rs.length)||rs.any grtR
theorem grtP_false {rs:List Rl} (h:grtP rs=false):rs.length≤30∧∀ r∈rs,r.ex.length≤12∧∀ c∈r.ex,c.length≤80:=by
 unfold grtP at h
 rw [Bool.or_eq_false_iff,decide_eq_false_iff_not] at h
 refine ⟨by omega,fun r hr => ?_⟩
 have h1:grtR r=false:=by have:=List.any_eq_false.1 h.2 r hr;simpa using this
 unfold grtR at h1
 rw [Bool.or_eq_false_iff,decide_eq_false_iff_not] at h1
 refine ⟨by omega,fun c hc => ?_⟩
 have:=List.any_eq_false.1 h1.2 c hc
 simpa using this
end Go.Proofs.YtopiioklkkiedaaGreatDoor
end
