/- A piece of a proof over this program: contracts of its functions, and a logic to prove them by. -/
import Derived.Test.YtopiioklkkiedaaGreatDoorU2
import Derived.Test.YtopiioklkkiedaaGreatDoorU3
import Derived.Test.YtopiioklkkiedaaGreatDoorU4
import Derived.Test.YtopiioklkkiedaaGreatDoorU5
import Derived.Test.YtopiioklkkiedaaGreatDoorU6
import Derived.Lib.ItoaNum
import Derived.Lib.Walk
import Derived.Lib.ItoaMem
import Derived.Lib.AppendIntMem
import Derived.WalkKit
import Derived.BigCall
import Derived.BigGuard
import Derived.Lib.Repeat
import Derived.Lib.Join
import Derived.Lib.SmallJoins
import Derived.Test.YtopiioklkkiedaaGreatDoorRows
import Derived.Lib.ItoaLen
import Derived.Laws.BitsAllLaws
import Derived.Lib.IndexLaws
section
set_option maxHeartbeats 12800000
set_option maxRecDepth 100000
namespace Go.Proofs.YtopiioklkkiedaaGreatDoor
open Go Go.Lg Go.Lg.Fml Go.Lg.Fld Go.Lg.Arith
set_option maxRecDepth 100000
variable (X:Nat→Option Obj)
theorem tSmall (n:Int):PSpec Tryz.prog X 197 [Ln .i64 n] (Lb (decide (0≤n)&&decide (n≤7))):=by
 by_cases h:0≤n
 ·rw [cL h,Bool.true_and]
  refine cC Tryz.func197 rfl y5 rfl rfl ?_
  intro C
  (refine aA<|rgN<|kas O<|aB<|aA<|rgN<|kmv O<|bD O O (r:=true) (cL h) dO<|kmv O<|gmv O O O<|K.leq O O O (dP O O) ?_;refine kpt O O<|kas O<|aB<|aI ?_)
  exact y6
 ·rw [cK h,Bool.false_and]
  refine cC Tryz.func197 rfl y5 rfl rfl ?_
  intro C
  (refine aA<|rgN<|kas O<|aB<|aA<|rgN<|kmv O<|bD O O (r:=false) (cK h) dO<|kmv O<|aC O O O<|aC O O O<|kpf O O<|kas O<|aB ?_;refine aI ?_)
  exact y6
def bndI (x:Ins):Bool:=(decide (0≤x.a)&&decide (x.a≤7))&&((decide (0≤x.b)&&decide (x.b≤7))&&gd x.k)
theorem okI_bnd (x:Ins):okI x=((decide (1≤x.op)&&decide (x.op≤17))&&bndI x):=by
 unfold okI bndI
 cases gd x.k<;>cases (decide (0≤x.a)&&decide (x.a≤7))<;>cases (decide (0≤x.b)&&decide (x.b≤7))<;>rfl
theorem tBounded (x:Ins) (hx:smallI x) (r:Bool) (hr:bndI x=r):PSpec Tryz.prog X 144 [LIn x] (Lb r):=by
 subst hr
 unfold bndI
 have hA:=tSmall X x.a
 have hB:=tSmall X x.b
 have hG:=tForm X x.k hx.2.2.2 _ rfl
 generalize (decide (0≤x.a)&&decide (x.a≤7))=A at *
 generalize (decide (0≤x.b)&&decide (x.b≤7))=B at *
 generalize gd x.k=G at *
 cases A with
 | false =>
  refine cC Tryz.func144 rfl y5 rfl rfl ?_
  intro C
  (refine aA<|rgN<|aL O O O dO<|kas O<|aB<|aA<|rgN<|kfa O O ?_;refine kl1 O O O<|kca O O hA<|kmv O<|aC O O O<|aC O O O<|aC O O O<|kpf O O<|kmv O<|aC O O O<|aC O O O<|aC O O O<|kpf O O<|kas O<|aB ?_;refine aI ?_)
  exact y6
 | true =>
 cases B with
 | false =>
  refine cC Tryz.func144 rfl y5 rfl rfl ?_
  intro C
  (refine aA<|rgN<|aL O O O dO<|kas O<|aB<|aA<|rgN<|kfa O O ?_;refine kl1 O O O<|kca O O hA<|kmv O<|aN O O (dP O O) ?_;refine aO O O O (dP O O) ?_;refine gca O O hB O O<|kpt O O<|kmv O<|aC O O O<|aC O O O<|aC O O O<|kpf O O<|kas O<|aB<|aI ?_)
  exact y6
 | true =>
  refine cC Tryz.func144 rfl y5 rfl rfl ?_
  intro C
  (refine aA<|rgN<|aL O O O dO<|kas O<|aB<|aA<|rgN<|kfa O O ?_;refine kl1 O O O<|kca O O hA<|kmv O<|aN O O (dP O O) ?_;refine aO O O O (dP O O) ?_;refine gca O O hB O O<|kpt O O<|kmv O<|aN O O (dP O O) ?_;refine bJ O O O y28 (dP O O) ?_;refine gca O O (hG) O O<|kpt O O<|kas O<|aB<|aI ?_)
  exact y6
def rowVs (p:Int×Value):List Value:=rowL p.1++[p.2]
def rwsV (q:List (Int×Value)):List Value:=(q.map rowVs).flatten
theorem rowVs_len (p:Int×Value):(rowVs p).length=6:=rfl
theorem rwsV_len (q:List (Int×Value)):(rwsV q).length=q.length*6:=by
 unfold rwsV
 induction q with
 | nil=>rfl
 | cons x t ih=>rw [List.map_cons,List.flatten_cons,cS,ih,rowVs_len,dF];omega
theorem rwsV_snoc (q:List (Int×Value)) (p:Int×Value):rwsV (q++[p])=rwsV q++rowVs p:=by
 unfold rwsV
 rw [dE,List.flatten_append]
 simp
def zeR (k:Nat):List Value:=(List.replicate k [Value.string ⟨#[]⟩,.int .i64 0,.bool false,.bool false,.bool false,.nilFunc]).flatten
theorem zeR_succ (k:Nat):zeR (k+1)=[Value.string ⟨#[]⟩,.int .i64 0,.bool false,.bool false,.bool false,.nilFunc]++zeR k:=by unfold zeR;rw [List.replicate_succ,List.flatten_cons]
theorem zeR_len (k:Nat):(zeR k).length=k*6:=by
 induction k with
 | zero=>rfl
 | succ k ih=>rw [zeR_succ,cS,ih];simp;omega
def rowsR (l:List Ins):Rsc:=⟨fun ρ H=>∃ (q:List (Int×Value)) (fr:Nat×Nat),H ρ.1=some (.cells (rwsV q).toArray 190 fr)∧ρ.2=(rwsV q).length∧q.map (·.1)=l.map Ins.op∧∀ p∈q,DeedV H p.2 p.1⟩
structure RowsOK (Y:Nat→Option Obj) (ad:Option Addr) (l:List Ins):Prop where
 ex:∃ q:List (Int×Value),Go.Lg.RowsIn Y ad 6 (q.map rowVs)∧q.map (·.1)=l.map Ins.op∧∀ p∈q,DeedV Y p.2 p.1
theorem RowsOK.mono {Y Z:Nat→Option Obj} (h:MoreM Y Z) {ad:Option Addr} {l:List Ins} (hr:RowsOK Y ad l):RowsOK Z ad l:=by
 obtain ⟨q,h1,h2,h3⟩:=hr.ex
 exact ⟨q,h1.mono h,h2,fun p hp=>(h3 p hp).mono h⟩
theorem rows_fix {l:List Ins} {ρ:Nat×Nat} {H Y:Nat→Option Obj} (h:(rowsR l).holds ρ H) (hY:MoreM H Y):RowsOK Y (some ⟨ρ.1,0,none⟩) l:=by
 obtain ⟨q,fr,h1,h2,h3,h4⟩:=h
 refine ⟨q,rows_in (hY _ _ h1) (fun r hr=>by obtain ⟨x,_,rfl⟩:=List.mem_map.1 hr;rfl) ⟨[],by rw [dG];rfl⟩,h3,fun p hp=>(h4 p hp).mono hY⟩
theorem RowsOK.at {Y:Nat→Option Obj} {ad:Option Addr} {l:List Ins} (h:RowsOK Y ad l) {i:Nat} {x:Ins} (hx:l[i]? = some x):
  ∃ (blk off:Nat) (arr:Array Value) (el:TypeId) (fr:Nat×Nat) (v:Value),ad=some ⟨blk,off,none⟩∧Y blk=some (.cells arr el fr)∧off+i*6+6≤arr.size∧((arr.toList.drop (off+i*6)).take 6).map CV.val=(rowVs (x.op,v)).map CV.val∧DeedV Y v x.op:=by
 obtain ⟨q,h1,h2,h3⟩:=h.ex
 have hq:(q.map (·.1))[i]? = some x.op:=by rw [h2,dI,hx];rfl
 rw [dI] at hq
 cases hp:q[i]? with
 | none=>rw [hp] at hq;cases hq
 | some p =>
  rw [hp] at hq
  have hq:p.1=x.op:=by simpa using hq
  obtain ⟨blk,off,arr,el,fr,e1,e2,e3,e4⟩:=h1 i (rowVs p) (by rw [dI,hp];rfl)
  have h5:=h3 p (cZ hp)
  obtain ⟨o,v⟩:=p
  have hq:o=x.op:=hq
  subst hq
  exact ⟨blk,off,arr,el,fr,v,e1,e2,e3,by rw [e4],h5⟩
def rsR (l:List Ins):LV:=if chkX l=0 then .tup [.one (.slc 1000001 0 l.length 6),Sn .i64 0] else .tup [Vnil,Sn .i64 (chkX l)]
def rsBx (l:List Ins):List (Nat×Option Box):=if chkX l=0 then [(1000001,some ⟨0,[],.res (rowsR l)⟩)] else []
theorem rs_ok {l:List Ins} (h:chkX l=0):rsR l = .tup [.one (.slc 1000001 0 l.length 6),Sn .i64 0]∧rsBx l=[(1000001,some ⟨0,[],.res (rowsR l)⟩)]:=⟨if_pos h,if_pos h⟩
theorem rs_no {l:List Ins} (h:chkX l≠0):rsR l = .tup [Vnil,Sn .i64 (chkX l)]∧rsBx l=[]:=⟨if_neg h,if_neg h⟩
theorem rsBx_use (l:List Ins):((rsBx l).all fun p=>match p.2 with|some b=>b.cells.all (CV.inUse (rsBx l))|none=>true)=true:=by
 by_cases h:chkX l=0
 ·rw [(rs_ok h).2];rfl
 ·rw [(rs_no h).2];rfl
theorem rsR_use (l:List Ins):LV.inUse (rsBx l) (rsR l)=true:=by
 by_cases h:chkX l=0
 ·rw [(rs_ok h).1,(rs_ok h).2];rfl
 ·rw [(rs_no h).1,(rs_no h).2];rfl
theorem joinM_assoc (X H G:Nat→Option Obj):joinM (joinM X H) G=joinM X (joinM H G):=by
 funext b
 unfold joinM
 cases G b<;>rfl
theorem owned_join {C:Ctx} {X H G:Nat→Option Obj} (h:OwnedM C X H) (h':OwnedM C (joinM X H) G):OwnedM C X (joinM H G)∧MoreM H (joinM H G)∧MoreM G (joinM H G):=by
 have hn:∀ b o,G b=some o→H b=none∧X b=none:=fun b o hb=>joinM_none (h'.own b o hb).2.2
 refine ⟨⟨fun b o hb => ?_⟩,fun b o hb => ?_,fun b o hb=>joinM_in hb⟩
 ·cases hg:G b with
  | some o' =>
   rw [joinM_in hg] at hb
   cases hb
   obtain ⟨h1,h2,_⟩:=h'.own b o hg
   exact ⟨h1,h2,(hn b o hg).2⟩
  | none=>rw [joinM_out hg] at hb;exact h.own b o hb
 ·cases hg:G b with
  | some o'=>rw [(hn b o' hg).1] at hb;cases hb
  | none=>rw [joinM_out hg];exact hb
abbrev rwSt (ad:Option Addr) (n cap i:Nat) (d:Nat) (cells:List Value) (ms:List (Nat×LV)) (mb:List (Nat×Option Box)) (Y:Nat→Option Obj):St:=
 ⟨ms++[(0,Lx ad n cap),(4,.sv (.one (.slc 500 0 n 6))),(5,Ln .i64 (d:Nat)),(15,Lx ad n cap),(16,Ln .i64 (n:Nat)),(17,Ln .i64 (i:Nat))],mb++[(500,some ⟨190,cells.map .val,false⟩)],Y⟩
abbrev rdB8 (x:Ins) (c:CV):List (Nat×Option Box):=[(7,some ⟨88,(insV x).map .val,false⟩),(8,some ⟨190,(rowL x.op).map .val++[c],false⟩)]
set_option maxHeartbeats 12800000 in
theorem tRowsOf (l:List Ins) (ad:Option Addr) (cap:Nat) (hin:InsIn X ad l) (hbig:l.length<1152921504606846976):MSpec Tryz.prog X 103 [Lx ad l.length cap] [] (rsR l) (rsBx l):=by
 refine cD Tryz.func103 rfl y5 rfl (rsR_use l) (rsBx_use l) rfl rfl ?_
 intro C
 by_cases h64:64<l.length
 ·have hc:chkX l=5:=if_pos h64
  obtain ⟨q1,q2⟩:=rs_no (l:=l) y34
  rw [q1,q2,hc]
  (refine aA<|rgN<|kas O<|kas O<|aB<|aA<|aA<|rgN<|kmv O<|aQ O bZ O dO ?_;refine aS O O (r:=true) (cL y3) dO<|aB<|aE O ?_;refine aA<|rgN<|kas O<|kas O<|aB<|aI ?_)
  exact y1C
 have hmk:slcBuild Tryz.prog 181 l.length=some (zeR l.length,6,190):=slcBuild_many (z := #[.string ⟨#[]⟩,.int .i64 0,.bool false,.bool false,.bool false,.nilFunc]) y5 y5 rfl y3
 refine LWP.ends ?_
 (refine aA<|rgN<|kas O<|kas O<|aB<|aA<|aA<|rgN<|kmv O<|aQ O bZ O dO ?_;refine aS O O (r:=false) (cK y3) dO<|aB<|aF O ?_;refine aH ?_;refine aA<|rgN<|kmv O<|aQ O bZ O dO ?_;refine K.makeSlc (m:=l.length) (bytes:=40) O O hmk y5 y3 O O dO<|kas O<|kas O<|aB<|aA<|aA<|rgN<|kmv O<|aQ O bZ O dO ?_;refine kmv O<|aB<|aG ?_)
 refine cH (fun k σ=>∃ (i d:Nat) (q:List (Int×Value)) (H:Nat→Option Obj),i≤l.length∧k=l.length-i∧q.map (·.1)=(l.take i).map Ins.op∧(∀ p∈q,DeedV H p.2 p.1)∧OwnedM C X H∧dep okI 0 (l.take i)=some d∧σ=rwSt ad l.length cap i d (rwsV q++zeR (l.length-i)) [] [] (joinM X H)) l.length
  (cB (σ':=rwSt ad l.length cap 0 0 (rwsV []++zeR (l.length-0)) [] [] X) ?_ (cA ⟨0,0,[],fun _=>none,by omega,by omega,rfl,fun p hp=>absurd hp y21,OwnedM.nil _ _,rfl,by rw [joinM_nil]⟩)) ?_
 ·exact Le.ofR [(500,14)] y11 y1 y2 y2 y0 y2 y2
 rintro k σ ⟨i,d,q,H,hi,rfl,hq,hD,hO,hdep,rfl⟩
 have hqn:q.length=i:=by
  have:=congrArg List.length hq
  rw [cT,cT,cW] at this
  omega
 have hd16:=dep_le y3 hdep
 by_cases hlt:i<l.length
 ·obtain ⟨x,hx⟩:=wg hlt
  have hmem:=cZ hx
  have hsx:=hin.small x hmem
  have hinJ:InsIn (joinM X H) ad l:=hin.mono fun b o hb=>by
   cases hc:H b with
   | none=>rw [joinM_out hc];exact hb
   | some o'=>have:=(hO.own b o' hc).2.2;rw [hb] at this;cases this
  obtain ⟨blk,off,arr,el,fr,rfl,hX,hsz,hcs,hop⟩:=hinJ.at hx
  have hio:=wo off i 6
  have hin0:0≤(i:Int)∧(i:Int)<(l.length:Nat):=by omega
  have hsn:=dep_snoc hdep hx
  have hok:=okI_bnd x
  have htk:=takes_le x.op
  have bad:¬ (okI x=true∧takes x.op≤d∧d-takes x.op+1≤16)→chkX l=4:=fun h=>chkX_bad h64 hdep hx h
  by_cases hop17:x.op<1∨17<x.op
  ·have hc:=bad (fun h=>by have:=(okI_facts h.1).1;omega)
   obtain ⟨q1,q2⟩:=rs_no (l:=l) y34
   rw [q1,q2,hc]
   have hR:=rowOf_no (joinM X H) x.op hop17
   (refine aA<|rgN<|klt O O (cL y3)<|aB<|aA<|aE O ?_;refine aH ?_;refine aA<|aG<|aA<|rgN<|kmv O<|aR O O bZ hin0 hio dO<|aY O hX y5 hsz hcs dO<|aP O dO ?_;refine kas O<|aM O O O O O O dO ?_;refine aB<|aA<|rgN<|kfa O O ?_;refine kl1 O O O<|kca O O (hR)<|aP O dO ?_;refine aM O O O O O O dO ?_;refine aB<|aA<|aA<|rgN<|kfa O O ?_;refine kl1 O O O<|K.funcNil O y5 (r:=true) (.inl ⟨O,O⟩) dO ?_;refine kmv O<|aC O O O<|aC O O O<|aC O O O<|kpt O O<|kmv O<|aC O O O<|aC O O O<|aC O O O<|aC O O O<|kpt O O<|aB<|aE O ?_;refine aA<|rgN<|kas O<|kas O<|aB<|aI ?_)
   exact cA ⟨[],⟨[_,_],⟨O,O,trivial⟩,O⟩,trivial,O,O⟩
  (refine aA<|rgN<|klt O O (cL y3)<|aB<|aA<|aE O ?_;refine aH ?_;refine aA<|aG<|aA<|rgN<|kmv O<|aR O O bZ hin0 hio dO<|aY O hX y5 hsz hcs dO<|aP O dO ?_;refine kas O<|aM O O O O O O dO ?_;refine aB<|aA ?_)
  refine LWP.meetL (fun σ=>∃ (v:Value) (G:Nat→Option Obj),DeedV G v x.op∧MoreM H G∧OwnedM C X G∧σ=rwSt (some ⟨blk,off,none⟩) l.length cap i d (rwsV q++zeR (l.length-i)) [(6,Ln .i64 (i:Nat)),(7,Lp 7),(8,Lp 8)] (rdB8 x (.val v)) (joinM X G)) ?_ ?_
  ·by_cases h5:x.op<5
   ·obtain ⟨f,hDf,hR⟩:∃ f,DeedV H (fnV f) x.op∧PSpec Tryz.prog (joinM X H) 143 [Ln .i64 x.op] (LRow x.op (.val (fnV f))):=by
     generalize x.op=op at *
     rcases (show op=1∨op=2∨op=3∨op=4 by omega) with rfl|rfl|rfl|rfl
     ·exact ⟨_,deed_num H,rowOf_1 _⟩
     ·exact ⟨_,deed_elem H,rowOf_2 _⟩
     ·exact ⟨_,deed_here H,rowOf_3 _⟩
     ·exact ⟨_,deed_place H,rowOf_4 _⟩
    (refine rgN<|kfa O O ?_;refine kl1 O O O<|kca O O (hR)<|aP O dO ?_;refine aM O O O O O O dO ?_;refine aB ?_)
    exact cB (Le.of y1B y9 y2 y2 y0) (cA ⟨_,H,hDf,MoreM.refl H,hO,O⟩)
   ·have hR:=rowOf_fn (joinM X H) x.op y3
    (refine rgN<|kfa O O ?_;refine kl1 O O O<|bE [(1000001,600)] (LRow x.op (ptrF (cloF x.op) 600)) [dB 600 x.op] (hR) O O yC O O O O O y19 dO<|aP O dO ?_;refine aM O O O O O O dO ?_;refine aB ?_)
    refine cB (σ':=⟨[(6,Ln .i64 (i:Nat)),(7,Lp 7),(8,Lp 8),(0,Lx (some ⟨blk,off,none⟩) l.length cap),(4,.sv (.one (.slc 500 0 l.length 6))),(5,Ln .i64 (d:Nat)),(15,Lx (some ⟨blk,off,none⟩) l.length cap),(16,Ln .i64 (l.length:Nat)),(17,Ln .i64 (i:Nat))],rdB8 x (ptrF (cloF x.op) 600)++dB 600 x.op::[(500,some ⟨190,(rwsV q++zeR (l.length-i)).map .val,false⟩)],joinM X H⟩) (Le.of y1B y8 y2 y2 y0) ?_
    refine Leads.fixRsc [] (rdB8 x (ptrF (cloF x.op) 600)) O O y7 O O fun ρ G2 hR2 hO2 => ?_
    obtain ⟨k1,k2,k3⟩:=owned_join hO hO2
    rw [joinM_assoc]
    exact cA ⟨.func (.func (cloF x.op)) #[] #[pv ρ.1],joinM H G2,DeedV.mono k3 hR2,k2,k1,O⟩
  rintro σ ⟨v,G,hDv,hHG,hOG,rfl⟩
  obtain ⟨f,caps,ev,_⟩:=id hDv
  subst ev
  have hB:=tBounded (joinM X G) x hsx _ rfl
  cases hb:bndI x with
  | false =>
   rw [hb] at hB hok
   have hc:=bad (fun h=>by rw [hok,Bool.and_false] at h;cases h.1)
   obtain ⟨q1,q2⟩:=rs_no (l:=l) y34
   rw [q1,q2,hc]
   (refine aA<|aA<|rgN<|kfa O O ?_;refine kl1 O O O<|K.funcNil O y5 (r:=false) (.inr ⟨⟨_,_,_,O⟩,O⟩) dO ?_;refine kmv O<|aK O O O (dP O O) ?_;refine gca O O hB O O<|aV O O (dP O O) ?_;refine kpf O O<|kmv O<|aC O O O<|aC O O O<|aC O O O<|aC O O O<|kpt O O<|aB<|aE O ?_;refine aA<|rgN<|kas O<|kas O<|aB<|aI ?_)
   exact cA ⟨[],⟨[_,_],⟨O,O,trivial⟩,O⟩,trivial,O,O⟩
  | true =>
  rw [hb] at hB hok
  rw [cL (show 1≤x.op by omega),cL (show x.op≤17 by omega)] at hok
  have hok:okI x=true:=hok
  by_cases hd:d<takes x.op
  ·have hc:=bad (fun h=>by omega)
   obtain ⟨q1,q2⟩:=rs_no (l:=l) y34
   rw [q1,q2,hc]
   (refine aA<|aA<|rgN<|kfa O O ?_;refine kl1 O O O<|K.funcNil O y5 (r:=false) (.inr ⟨⟨_,_,_,O⟩,O⟩) dO ?_;refine kmv O<|aK O O O (dP O O) ?_;refine gca O O hB O O<|aV O O (dP O O) ?_;refine kpf O O<|kmv O<|gmv O O O<|aN O O (dP O O) ?_;refine aO O O O (dP O O) ?_;refine bK O O (r:=true) (cL y3) (dP O O) ?_;refine kpf O O<|aB<|aE O ?_;refine aA<|rgN<|kas O<|kas O<|aB<|aI ?_)
   exact cA ⟨[],⟨[_,_],⟨O,O,trivial⟩,O⟩,trivial,O,O⟩
  have hix:0+Int.toNat (i:Int)*6=i*6:=by rw [dD];omega
  have hpl:(rwsV q).length=i*6:=by rw [rwsV_len,hqn]
  have hroom:i*6+6≤((rwsV q++zeR (l.length-i)).map CV.val).length:=by rw [cT,cS,hpl,zeR_len];omega
  have hspl:splice ((rwsV q++zeR (l.length-i)).map CV.val) (i*6) ((rowL x.op).map .val++[.val (.func (.func f) #[] caps.toArray)])=(rwsV (q++[(x.op,.func (.func f) #[] caps.toArray)])++zeR (l.length-(i+1))).map CV.val:=by
   rw [rwsV_snoc,show l.length-i=(l.length-(i+1))+1 by omega,zeR_succ]
   unfold splice
   simp only [dE,dJ]
   have hml:((rwsV q).map CV.val).length=i*6:=by rw [cT,hpl]
   generalize (rwsV q).map CV.val=R at *
   rw [← hml,List.take_left,List.drop_length_add_append]
   simp [rowVs,rowL]
  have hsub:IntKind.i64.wrap (1-((takes x.op:Nat):Int))=1-((takes x.op:Nat):Int):=cE y3
  have hadd:IntKind.i64.wrap (((d:Nat):Int)+(1-((takes x.op:Nat):Int)))=((d-takes x.op+1:Nat):Int):=by rw [cE y3];omega
  have hinc:=wi i y3
  by_cases h16:16<d-takes x.op+1
  ·have hc:=bad (fun h=>by omega)
   obtain ⟨q1,q2⟩:=rs_no (l:=l) y34
   rw [q1,q2,hc]
   (refine aA<|aA<|rgN<|kfa O O ?_;refine kl1 O O O<|K.funcNil O y5 (r:=false) (.inr ⟨⟨_,_,_,O⟩,O⟩) dO ?_;refine kmv O<|aK O O O (dP O O) ?_;refine gca O O hB O O<|aV O O (dP O O) ?_;refine kpf O O<|kmv O<|gmv O O O<|aN O O (dP O O) ?_;refine aO O O O (dP O O) ?_;refine bK O O (r:=false) (cK y3) (dP O O) ?_;refine kpf O O<|aB<|aF O ?_;refine aH ?_;refine aA<|rgN<|kmv O<|kmv O<|aK O O O dO ?_;refine K.indexSlc O O y3 hix dO ?_;refine K.store O O O O y5 hroom hspl dO<|aB<|aA<|rgN<|kmv O<|kfa O O ?_;refine kl1 O O O<|bA O O hsub dO<|kad O O hadd<|kas O<|aB<|aA<|rgN<|kmv O<|aS O O (r:=true) (cL y3) dO<|aB<|aE O ?_;refine aA<|rgN<|kas O<|kas O<|aB<|aI ?_)
   exact cA ⟨[],⟨[_,_],⟨O,O,trivial⟩,O⟩,trivial,O,O⟩
  ·rw [if_pos ⟨hok,by omega,by omega⟩] at hsn
   (refine aA<|aA<|rgN<|kfa O O ?_;refine kl1 O O O<|K.funcNil O y5 (r:=false) (.inr ⟨⟨_,_,_,O⟩,O⟩) dO ?_;refine kmv O<|aK O O O (dP O O) ?_;refine gca O O hB O O<|aV O O (dP O O) ?_;refine kpf O O<|kmv O<|gmv O O O<|aN O O (dP O O) ?_;refine aO O O O (dP O O) ?_;refine bK O O (r:=false) (cK y3) (dP O O) ?_;refine kpf O O<|aB<|aF O ?_;refine aH ?_;refine aA<|rgN<|kmv O<|kmv O<|aK O O O dO ?_;refine K.indexSlc O O y3 hix dO ?_;refine K.store O O O O y5 hroom hspl dO<|aB<|aA<|rgN<|kmv O<|kfa O O ?_;refine kl1 O O O<|bA O O hsub dO<|kad O O hadd<|kas O<|aB<|aA<|rgN<|kmv O<|aS O O (r:=false) (cK y3) dO<|aB<|aF O ?_;refine aH ?_;refine rgN<|kad O O hinc<|kmv O<|aB ?_)
   refine cB (σ':=rwSt (some ⟨blk,off,none⟩) l.length cap (i+1) (d-takes x.op+1) (rwsV (q++[(x.op,.func (.func f) #[] caps.toArray)])++zeR (l.length-(i+1))) [] [] (joinM X G)) (Le.of y11 y13 y2 y2 y0) (cA ⟨l.length-(i+1),by omega,i+1,_,_,G,by omega,O,?_,?_,hOG,hsn,O⟩)
   ·rw [dE,hq,List.take_add_one,hx,dE]
    rfl
   ·intro p hp
    rcases List.mem_append.1 hp with hp|hp
    ·exact (hD p hp).mono hHG
    ·rw [List.mem_singleton] at hp
     subst hp
     exact hDv
 ·have e:i=l.length:=by omega
  subst e
  rw [dC] at hq hdep
  have hz:zeR (l.length-l.length)=[]:=by rw [Nat.sub_self];rfl
  rw [hz,dG]
  by_cases h1:d=1
  ·subst h1
   have hc:chkX l=0:=by unfold chkX;rw [if_neg h64,if_pos hdep]
   obtain ⟨q1,q2⟩:=rs_ok hc
   rw [q1,q2]
   (refine aA<|rgN<|klt O O (cK y3)<|aB<|aA<|aF O ?_;refine aJ<|aA<|aA<|rgN<|kmv O<|kne O O (r:=false) O<|aB<|aF O ?_;refine aH ?_;refine aA<|rgN<|kmv O<|kas O<|kas O<|aB<|aI ?_)
   refine cB (σ':=⟨[(2,.sv (.one (.slc 500 0 l.length 6))),(3,Ln .i64 0)],[(500,some ⟨190,(rwsV q).map .val,false⟩)],joinM X H⟩) (Le.of yE y13 y2 y2 y0) ?_
   refine Leads.closeRes (R:=rowsR l) hO (fun ρ fr g1 g2 g3=>⟨q,fr,cJ _ _ _,g3,hq,fun p hp=>(hD p hp).mono (cF g1)⟩) (cA ?_)
   exact ⟨[(1000001,500)],⟨[_,_],⟨O,O,trivial⟩,O⟩,y1,O,O⟩
  ·have hc:chkX l=4:=by unfold chkX;rw [if_neg h64,if_neg (fun h=>h1 (by rw [hdep] at h;exact Option.some.inj h))]
   obtain ⟨q1,q2⟩:=rs_no (l:=l) y34
   rw [q1,q2,hc]
   (refine aA<|rgN<|klt O O (cK y3)<|aB<|aA<|aF O ?_;refine aJ<|aA<|aA<|rgN<|kmv O<|kne O O (r:=true) (cP y3)<|aB<|aE O ?_;refine aA<|rgN<|kas O<|kas O<|aB<|aI ?_)
   exact cA ⟨[],⟨[_,_],⟨O,O,trivial⟩,O⟩,trivial,O,O⟩
theorem gCheck' (l:List Ins) (ad:Option Addr) (cap:Nat) (hin:InsIn X ad l) (hl:l.length<1152921504606846976):PSpec Tryz.prog X 139 [Lx ad l.length cap] (Ln .i64 (chkX l)):=by
 have hR:=tRowsOf X l ad cap hin hl
 refine cC Tryz.func139 rfl y5 rfl rfl ?_
 intro C
 by_cases h:chkX l=0
 ·rw [(rs_ok h).1,(rs_ok h).2] at hR
  rw [h]
  (refine aA<|rgN<|kas O<|aB<|aA<|rgN<|kmv O<|bE [(1000001,500)] (.tup [.one (.slc 500 0 l.length 6),Sn .i64 0]) [(500,some ⟨0,[],.res (rowsR l)⟩)] (hR) O O yC O O O O O y19 dO<|kmv O<|kex O O<|kex O O<|kas O<|kas O<|aB ?_;refine aA<|rgN<|kmv O<|kas O<|aB<|aI ?_)
  exact y6
 ·rw [(rs_no h).1,(rs_no h).2] at hR
  (refine aA<|rgN<|kas O<|aB<|aA<|rgN<|kmv O<|aU [] [] (hR) O O yC O O O O O y2B dO<|kmv O<|kex O O<|kex O O<|kas O<|kas O<|aB ?_;refine aA<|rgN<|kmv O<|kas O<|aB<|aI ?_)
  exact y6
end Go.Proofs.YtopiioklkkiedaaGreatDoor
end
section
set_option maxHeartbeats 12800000
set_option maxRecDepth 100000
namespace Go.Lg.Fml
theorem dep_step {okJ:Ins→Bool} {l:List Ins} {m i d:Nat} {x:Ins} (h:dep okJ 0 l=some m) (hd:dep okJ 0 (l.take i)=some d) (hx:l[i]? = some x):okJ x=true∧takes x.op≤d∧d-takes x.op+1≤16∧dep okJ 0 (l.take (i+1))=some (d-takes x.op+1):=by
 have h1:=dep_snoc hd hx
 by_cases c:okJ x=true∧takes x.op≤d∧d-takes x.op+1≤16
 ·rw [if_pos c] at h1
  exact ⟨c.1,c.2.1,c.2.2,h1⟩
 ·rw [if_neg c] at h1
  have:=dep_none h1
  rw [h] at this
  cases this
section
variable {V:Type} {one:Ins→List V→Except Int V}
theorem run_snoc {l:List Ins} {i:Nat} {x:Ins} {st:List V} (h:run one (l.take i) [] = .ok st) (hx:l[i]? = some x):run one (l.take (i+1)) []=match one x (st.take (takes x.op)).reverse with | .error e=>.error e | .ok v=>.ok (v::st.drop (takes x.op)):=by
 rw [List.take_add_one,hx,run_app,h]
 simp only [Option.toList_some,run]
 cases one x (st.take (takes x.op)).reverse<;>rfl
theorem run_fail {l:List Ins} {i:Nat} {x:Ins} {st:List V} {e:Int} (h:run one (l.take i) [] = .ok st) (hx:l[i]? = some x) (ho:one x (st.take (takes x.op)).reverse = .error e):run one l [] = .error e:=by
 have h1:=run_snoc h hx
 rw [ho] at h1
 rw [← List.take_append_drop (i+1) l,run_app,h1]
def headX:Except Int (List V)→Except Int V
 | .error e=>.error e
 | .ok (v::_)=>.ok v
 | .ok []=>.error 0
end
end Go.Lg.Fml
namespace Go.Proofs.YtopiioklkkiedaaGreatDoor
open Go Go.Lg Go.Lg.Fml Go.Lg.Fld Go.Lg.Arith
set_option maxRecDepth 100000
theorem exR_closed (r:Except Int Nm):(exR r).closed=true:=by cases r<;>rfl
def StepN (Y:Nat→Option Obj) (v:Value) (one:Ins→List Nm→Except Int Nm):Prop := ∃ (f:FuncId) (caps:List Value),v = .func (.func f) #[] caps.toArray∧∀ Z,MoreM Y Z→∀ x:Ins,smallI x→∀ dv:Value,DeedV Z dv x.op→∀ (tad:Option Addr) (tcap:Nat) (ts:List Nm),NumsIn Z tad ts→ts.length=takes x.op →
 PSpec Tryz.prog Z f ([LRow x.op (.val dv),LIn x,Lx tad ts.length tcap]++capL caps) (exR (one x ts))
theorem step_eval {Y:Nat→Option Obj} {blk:Nat} {arr:Array Value} {el:TypeId} {fr:Nat×Nat} {fad:Option Addr} {fcap:Nat} {fs:List (List Nm)} {at_:Int} (hY:Y blk=some (.cells arr el fr)) (hsp:∃ sp,arr.toList=[.slice fad fs.length fcap,.int .i64 at_]++sp) (hE:EnvIn Y fad fs at_):StepN Y (.func (.func 105) #[] #[pv blk]) (oneX fs at_):=by
 refine ⟨105,[pv blk],O,fun Z hZ x hx dv hD tad tcap ts hts hlen => ?_⟩
 obtain ⟨f,caps,rfl,hF⟩:=hD
 have hP:=hF Z (MoreM.refl Z) x rfl hx fad fcap fs at_ (hE.mono hZ) tad tcap ts hts hlen
 have hX:=hZ _ _ hY
 obtain ⟨sp,hsp⟩:=hsp
 have hs0:0+2≤arr.size:=by rw [← Array.length_toList,hsp];simp
 have hc0:((arr.toList.drop 0).take 2).map CV.val=[.val (.slice fad fs.length fcap),.val (.int .i64 at_)]:=by rw [hsp];rfl
 show PSpec _ Z _ [LRow x.op (.val (.func (.func f) #[] caps.toArray)),LIn x,Lx tad ts.length tcap,.sv (.one (.val (pv blk)))] (exR (oneX fs at_ x ts))
 rw [exR_eq] at hP ⊢
 generalize exE (oneX fs at_ x ts)=e at *
 generalize exV (oneX fs at_ x ts)=v at *
 obtain ⟨vb,vN⟩:=v
 refine cC Tryz.func105 rfl y5 rfl rfl ?_
 intro C
 (refine aA<|rgN<|aL O O O dO<|aL O O O dO<|aP O dO ?_;refine kas O<|aB<|aA<|rgN<|kfa O O ?_;refine kl1 O O O<|aK O O O dO ?_;refine aY O hX y5 hs0 hc0 dO<|kmv O<|K.callF O O O hP dO ?_;refine kex O O<|kex O O<|aM O O O O O O dO ?_;refine kas O<|aB<|aI ?_)
 exact y4
theorem nums_tail {Z:Nat→Option Obj} {sb:Nat} {arr:Array Value} {el:TypeId} {fr:Nat×Nat} {ns:List Nm} {rest cap:Nat} (hZ:Z sb=some (.cells arr el fr)) (h2:∀ u∈ns,In2 u.2) (hsp:∃ sp,arr.toList=nmsV ns++sp) (hc:cap=rest→ns.drop rest=[]):
  NumsIn Z (some ⟨sb,if cap=rest then 0 else 0+rest*3,none⟩) (ns.drop rest):=by
 have hN:=nms_in hZ h2 hsp
 refine ⟨fun i r hi => ?_,fun u hu=>h2 u (List.mem_of_mem_drop hu)⟩
 by_cases c:cap=rest
 ·rw [hc c] at hi;simp at hi
 ·rw [if_neg c]
  rw [dI,List.getElem?_drop] at hi
  obtain ⟨blk,off,arr',el',fr',e1,e2,e3,e4⟩:=hN.rows (rest+i) r (by rw [dI];exact hi)
  simp only [Option.some.injEq,Addr.mk.injEq] at e1
  obtain ⟨rfl,rfl,_⟩:=e1
  refine ⟨sb,0+rest*3,arr',el',fr',O,e2,by omega,?_⟩
  rw [← e4,show 0+rest*3+i*3=0+(rest+i)*3 by omega]
theorem nmsV_app (a b:List Nm):nmsV (a++b)=nmsV a++nmsV b:=by unfold nmsV;rw [dE,List.flatten_append]
theorem more_join {C:Ctx} {X H:Nat→Option Obj} (hO:OwnedM C X H):MoreM X (joinM X H)∧MoreM H (joinM X H):=by
 refine ⟨fun b o hb => ?_,fun b o hb=>joinM_in hb⟩
 cases hc:H b with
 | none=>rw [joinM_out hc];exact hb
 | some o'=>have:=(hO.own b o' hc).2.2;rw [hb] at this;cases this
variable (X:Nat→Option Obj)
abbrev rnSt (rad ad:Option Addr) (n rcap cap i:Nat) (v:Value) (ms:List (Nat×LV)) (mb:List (Nat×Option Box)) (Y:Nat→Option Obj):St:=
 ⟨ms++[(0,Lx rad n rcap),(1,Lx ad n cap),(2,.sv (.one (.val v))),(6,Lp 6),(15,Lx rad n rcap),(16,Ln .i64 (n:Nat)),(17,Ln .i64 (i:Nat))],mb++[(6,some ⟨86,[.val (.bool false),.val (.int .u64 0),.val (.int .u64 0)],false⟩)],Y⟩
set_option maxHeartbeats 12800000 in
theorem tRunN (l:List Ins) (hchk:chkX l=0) (ad:Option Addr) (cap:Nat) (hin:InsIn X ad l) (rad:Option Addr) (rcap:Nat) (hrows:RowsOK X rad l) (v:Value) (one:Ins→List Nm→Except Int Nm) (hv:StepN X v one)
  (h2:∀ x∈l,∀ a u,(∀ w∈a,In2 w.2)→one x a = .ok u→In2 u.2) (he:∀ x a e,a.length=takes x.op→one x a = .error e→e≠0):
  PSpec Tryz.prog X 104 [Lx rad l.length rcap,Lx ad l.length cap,.sv (.one (.val v))] (exR (headX (run one l []))):=by
 obtain ⟨h64,hdep1⟩:=chkX_zero hchk
 obtain ⟨f,caps,rfl,hF⟩:=hv
 refine cC Tryz.func104 rfl y5 rfl (exR_closed _) ?_
 intro C
 have hmk:slcBuild Tryz.prog 28 16=some ((List.replicate 16 [Value.bool false,.int .u64 0,.int .u64 0]).flatten,3,86):=slcBuild_many (z := #[.bool false,.int .u64 0,.int .u64 0]) y5 y5 rfl y3
 (refine aA<|rgN<|aP O dO ?_;refine kas O<|aB<|aA<|rgN<|K.makeSlc0 (m:=16) (bytes:=24) O O hmk y5 y3 O dO ?_;refine kas O<|aB<|aA<|aA<|rgN<|kmv O<|aQ O bZ O dO ?_;refine kmv O<|aB<|aG ?_)
 refine cG (fun k σ=>∃ (i:Nat) (st:List Nm),i≤l.length∧k=l.length-i∧run one (l.take i) [] = .ok st∧(∀ w∈st,In2 w.2)∧dep okI 0 (l.take i)=some st.length∧σ=rnSt rad ad l.length rcap cap i (.func (.func f) #[] caps.toArray) [(8,.sv (.one (.slc 500 0 st.length 3)))] [(500,some ⟨86,(nmsV st.reverse).map .val,true⟩)] X) l.length
  ⟨rnSt rad ad l.length rcap cap 0 (.func (.func f) #[] caps.toArray) [(8,.sv (.one (.slc 500 0 0 3)))] [(500,some ⟨86,[],true⟩)] X,Le.ofR [(500,14),(6,6)] y15 y1 y2 y2 y0 y2 y2,0,[],by omega,by omega,rfl,fun w hw=>absurd hw y21,rfl,rfl⟩ ?_
 rintro k σ ⟨i,st,hi,rfl,hst,hst2,hdep,rfl⟩
 by_cases hlt:i<l.length
 ·obtain ⟨x,hx⟩:=wg hlt
  have hmem:=cZ hx
  have hsx:=hin.small x hmem
  obtain ⟨hok,htk,h16,hdn⟩:=dep_step hdep1 hdep hx
  have hd16:=dep_le y3 hdep
  obtain ⟨rblk,roff,rarr,rel,rfr,dv,rfl,hXr,hszr,hcsr,hDv⟩:=hrows.at hx
  obtain ⟨g,gcaps,egv,_⟩:=id hDv
  subst egv
  obtain ⟨blk,off,arr,el,fr,rfl,hX,hsz,hcs,hop⟩:=hin.at hx
  have hio:=wo off i 6
  have hior:=wo roff i 6
  have hin0:0≤(i:Int)∧(i:Int)<(l.length:Nat):=by omega
  obtain ⟨rest,hrest⟩:∃ rest,st.length-takes x.op=rest:=⟨_,rfl⟩
  have hsub:IntKind.i64.wrap (((st.length:Nat):Int)-((takes x.op:Nat):Int))=((rest:Nat):Int):=by rw [cE y3];omega
  (refine aA<|rgN<|klt O O (cL y3)<|aB<|aA<|aE O ?_;refine aH ?_;refine aA<|aG<|aA<|rgN<|kmv O<|aR O O bZ hin0 hior dO<|aY O hXr y5 hszr hcsr dO<|aP O dO ?_;refine kas O<|aM O O O O O O dO ?_;refine aB<|aA<|rgN<|kmv O<|K.lenSlc O bZ O dO ?_;refine kfa O O ?_;refine kl1 O O O<|bA O O hsub dO<|kas O<|aB<|aA ?_)
  refine LWP.le (σ':=⟨[(8,.sv (.one (.slc 500 0 st.length 3))),(0,Lx (some ⟨rblk,roff,none⟩) l.length rcap),(1,Lx (some ⟨blk,off,none⟩) l.length cap),(2,.sv (.one (.val (.func (.func f) #[] caps.toArray)))),(6,Lp 6),(9,Ln .i64 (i:Nat)),(10,Lp 10),(11,Ln .i64 (rest:Nat)),(15,Lx (some ⟨rblk,roff,none⟩) l.length rcap),(16,Ln .i64 (l.length:Nat)),(17,Ln .i64 (i:Nat))],[(500,some ⟨86,(nmsV st.reverse).map .val,true⟩),(6,some ⟨86,[.val (.bool false),.val (.int .u64 0),.val (.int .u64 0)],false⟩),(10,some ⟨190,(rowVs (x.op,.func (.func g) #[] gcaps.toArray)).map .val,false⟩)],X⟩) (Le.of (by exact ⟨O,O,O,O,O,O,O,O,O,O,O,trivial⟩) y9 y2 y2 y0) ?_
  refine LWP.freeze O y7 O fun sb scap sarr sfr hn hFz hcp hfit hsp => ?_
  have hXZ:MoreM X (withBlock X sb (.cells sarr 86 sfr)):=cF hn
  have hts:st.reverse.drop rest=(st.take (takes x.op)).reverse:=by rw [List.drop_reverse,← hrest,show st.length-(st.length-takes x.op)=takes x.op by omega]
  have hln:((st.take (takes x.op)).reverse).length=takes x.op:=by rw [List.length_reverse,cW];omega
  have hN:=nums_tail (cap:=scap) (rest:=rest) (cJ X sb (.cells sarr 86 sfr)) (fun u hu=>hst2 u (List.mem_reverse.1 hu)) hsp (fun e=>List.drop_eq_nil_of_le (by rw [List.length_reverse];omega))
  rw [hts] at hN
  have hP:=hF _ hXZ x hsx _ (hDv.mono hXZ) _ (scap-rest) _ hN hln
  have hln2:st.length-rest=((st.take (takes x.op)).reverse).length:=by rw [hln];omega
  have hXc:=hXZ _ _ hX
  have hsn:=run_snoc hst hx
  cases hone:one x (st.take (takes x.op)).reverse with
  | error e =>
   have hne:=he x _ e hln hone
   rw [run_fail hst hx hone]
   rw [hone] at hP
   show LWP _ _ _ _ _ _
   (refine rgD mixed<|kmv O<|aK O O O dO ?_;refine kmv O<|kmv O<|aR O O bZ hin0 hio dO<|aY O hXc y5 hsz hcs dO<|kmv O<|kmv O<|K.cutLoX O O bZ y3 O hln2 O dO ?_;refine K.callF O O O hP dO ?_;refine kmv O<|kex O O<|kex O O<|aP O dO ?_;refine aM O O O O O O dO ?_;refine kas O<|aB<|rgA ?_;refine aA<|aA<|rgN<|kmv O<|kne O O (r:=true) (cP hne)<|aB<|aE O ?_;refine aA<|rgN<|aK O O O dO ?_;refine kmv O<|aM O O O O O O dO ?_;refine kas O<|aB<|aI ?_)
   exact y4
  | ok u =>
   rw [hone] at hP hsn
   simp only at hsn
   have hu2:=h2 x hmem _ u (fun w hw=>hst2 w (List.mem_of_mem_take (List.mem_reverse.1 hw))) hone
   obtain ⟨ub,uN⟩:=u
   have hP:PSpec Tryz.prog (withBlock X sb (.cells sarr 86 sfr)) f ([LRow x.op (.val (.func (.func g) #[] gcaps.toArray)),LIn x,Lx (some ⟨sb,if scap=rest then 0 else 0+rest*3,none⟩) ((st.take (takes x.op)).reverse).length (scap-rest)]++capL caps) (.tup [SI ub uN,Sn .i64 0]):=hP
   (refine rgD mixed<|kmv O<|aK O O O dO ?_;refine kmv O<|kmv O<|aR O O bZ hin0 hio dO<|aY O hXc y5 hsz hcs dO<|kmv O<|kmv O<|K.cutLoX O O bZ y3 O hln2 O dO ?_;refine K.callF O O O hP dO ?_;refine kmv O<|kex O O<|kex O O<|aP O dO ?_;refine aM O O O O O O dO ?_;refine kas O<|aB<|rgA ?_;refine aA<|aA<|rgN<|kmv O<|kne O O (r:=false) O<|aB<|aF O ?_;refine aH ?_)
   have hspl:nmsV st.reverse=nmsV (st.reverse.take rest)++nmsV (st.reverse.drop rest):=by rw [← nmsV_app,List.take_append_drop]
   have hsp2:∃ sp,sarr.toList=nmsV (st.reverse.take rest)++sp:=by
    obtain ⟨sp,hsp⟩:=hsp
    exact ⟨_,by rw [hsp,hspl,dJ]⟩
   have hrl:(st.reverse.take rest).length=rest:=by rw [cW,List.length_reverse];omega
   refine LWP.le (σ':=⟨[(8,.sv (.one (.val (.slice (some ⟨sb,0,none⟩) st.length scap)))),(0,Lx (some ⟨rblk,roff,none⟩) l.length rcap),(1,Lx (some ⟨blk,off,none⟩) l.length cap),(2,.sv (.one (.val (.func (.func f) #[] caps.toArray)))),(6,Lp 6),(11,Ln .i64 (rest:Nat)),(12,Lp 12),(15,Lx (some ⟨rblk,roff,none⟩) l.length rcap),(16,Ln .i64 (l.length:Nat)),(17,Ln .i64 (i:Nat))],[(6,some ⟨86,[.val (.bool false),.val (.int .u64 0),.val (.int .u64 0)],false⟩),(12,some ⟨86,cI ub uN,false⟩)],withBlock X sb (.cells sarr 86 sfr)⟩) (Le.of y24 yE y2 y2 y0) ?_
   refine LWP.thaw (k:=500) (sz:=3) (vals:=nmsV (st.reverse.take rest)) hn hFz hcp hfit hsp2 O O O yA ?_
   have hl3:((nmsV (st.reverse.take rest)).map CV.val).length=rest*3:=by rw [nmsV_len,hrl]
   have hnc:=nmsV_snoc (st.reverse.take rest) (ub,uN)
   have hinc:=wi i y3
   have hst':st.reverse.take rest=(st.drop (takes x.op)).reverse:=by rw [List.take_reverse,← hrest,show st.length-(st.length-takes x.op)=takes x.op by omega]
   have hlen2:(((ub,uN):Nm)::st.drop (takes x.op)).length=rest+1:=by rw [dF,cX];omega
   (refine rgD mixed<|kmv O<|kmv O<|K.cutSlc O O bZ y3 dO<|aK O O O dO ?_;refine aZ (zs:=[Value.bool false,.int .u64 0,.int .u64 0]) (sz:=3) (e:=86) (cs':=[.val (.bool ub),.val (.int .u64 (uN/18446744073709551616)),.val (.int .u64 (uN%18446744073709551616))]) y5 O O O O O O dO<|bP (by_:=24) (e2:=86) (l2:=[.val (.bool ub),.val (.int .u64 (uN/18446744073709551616)),.val (.int .u64 (uN%18446744073709551616))]) (nl:=rest+1) (nc:=(nmsV (st.reverse.take rest++[(ub,uN)])).map .val) O O hl3 O O (dK _) O O y5 y5 y3 y3 O O hnc dO<|kas O<|aB<|rgA ?_;refine rgN<|kad O O hinc<|kmv O<|aB ?_)
   exact ⟨l.length-(i+1),rnSt (some ⟨rblk,roff,none⟩) (some ⟨blk,off,none⟩) l.length rcap cap (i+1) (.func (.func f) #[] caps.toArray) [(8,.sv (.one (.slc 500 0 (rest+1) 3)))] [(500,some ⟨86,(nmsV (st.reverse.take rest++[(ub,uN)])).map .val,true⟩)] X,by omega,Le.ofR [(500,49),(6,6)] y15 y1 y2 y2 y0 y2 y2,i+1,(ub,uN)::st.drop (takes x.op),by omega,O,hsn,(fun w hw=>by
    rcases List.mem_cons.1 hw with rfl|hw
    ·exact hu2
    ·exact hst2 w (List.mem_of_mem_drop hw)),by rw [hdn,hlen2];congr 1;omega,by rw [hlen2,List.reverse_cons,← hst']⟩
 ·have e:i=l.length:=by omega
  subst e
  rw [dC] at hst hdep
  have hl1:st.length=1:=by rw [hdep1] at hdep;exact (Option.some.inj hdep).symm
  match st,hl1,hst,hst2 with
  | [(ub,uN)],_,hst,hst2 =>
  rw [hst]
  show LWP _ _ _ _ _ _
  refine LWP.le (σ':=rnSt rad ad l.length rcap cap l.length (.func (.func f) #[] caps.toArray) [(8,.sv (.one (.slc 500 0 1 3)))] [(500,some ⟨86,cI ub uN,true⟩)] X) (Le.of y15 yE y2 y2 y0) ?_
  (refine aA<|rgN<|klt O O (cK y3)<|aB<|aA<|aF O ?_;refine aJ<|aA<|rgN<|kmv O<|K.indexSlc (off':=0) O O y3 O dO ?_;refine bJ O O O O dO ?_;refine aM O O O O O O dO ?_;refine kas O<|aB<|aI ?_)
  exact y4
theorem run_len {V:Type} {one:Ins→List V→Except Int V} {okJ:Ins→Bool}:∀ {l:List Ins} {st st':List V} {n m:Nat},st.length=n→dep okJ n l=some m→run one l st = .ok st'→st'.length=m
 | [],st,st',n,m,h,hd,hr=>by
  simp only [dep,Option.some.injEq] at hd
  simp only [run,Except.ok.injEq] at hr
  rw [← hr,h,hd]
 | x::l,st,st',n,m,h,hd,hr=>by
  simp only [dep] at hd
  split at hd
  ·rename_i c
   simp only [run] at hr
   cases ho:one x (st.take (takes x.op)).reverse with
   | error e=>rw [ho] at hr;cases hr
   | ok v =>
    rw [ho] at hr
    exact run_len (n:=n-takes x.op+1) (by rw [dF,cX,h]) hd hr
  ·cases hd
set_option maxHeartbeats 6400000 in
theorem gEval' (l:List Ins) (ad:Option Addr) (cap:Nat) (hin:InsIn X ad l) (hbig:l.length<1152921504606846976) (fad:Option Addr) (fcap:Nat) (fs:List (List Nm)) (at_:Int) (hE:EnvIn X fad fs at_) (hf2:∀ r∈fs,∀ u∈r,In2 u.2):
  PSpec Tryz.prog X 70 [Lx ad l.length cap,LEnv fad fs.length fcap at_] (exR (evX l fs at_)):=by
 have hR:=tRowsOf X l ad cap hin hbig
 by_cases h:chkX l=0
 ·rw [(rs_ok h).1,(rs_ok h).2] at hR
  refine cC Tryz.func70 rfl y5 rfl (exR_closed _) ?_
  intro C
  (refine aA<|rgN<|aL O O O dO<|aP O dO ?_;refine kas O<|aB<|aA<|rgN<|kmv O<|bE [(1000001,500)] (.tup [.one (.slc 500 0 l.length 6),Sn .i64 0]) [(500,some ⟨0,[],.res (rowsR l)⟩)] (hR) O O yC O O O O O y19 dO<|kmv O<|kex O O<|kex O O<|kas O<|kas O<|aB<|aA<|aA ?_;refine rgN<|kmv O<|kne O O ((cO y3))<|aB<|aF O ?_;refine aH ?_;refine aA ?_)
  refine LWP.le (σ':=⟨[(6,.sv (.one (.slc 500 0 l.length 6))),(3,Lp 3),(0,Lx ad l.length cap),(4,Lp 4),(5,Ln .i64 0),(7,Ln .i64 0)],[(500,some ⟨0,[],.res (rowsR l)⟩),(3,some ⟨100,[.val (.slice fad fs.length fcap),.val (.int .i64 at_)],false⟩),(4,some ⟨86,[.val (.bool false),.val (.int .u64 0),.val (.int .u64 0)],false⟩)],X⟩) (Le.of y11 y9 y2 y2 y0) ?_
  refine LWP.fixRes O O O fun ρ H rcap hRr hO _ _ => ?_
  obtain ⟨m1,m2⟩:=more_join hO
  have hrows:=rows_fix hRr m2
  refine LWP.le (σ':=⟨[(3,Lp 3),(6,Lx (some ⟨ρ.1,0,none⟩) l.length rcap),(0,Lx ad l.length cap),(4,Lp 4),(5,Ln .i64 0),(7,Ln .i64 0)],[(3,some ⟨100,([.slice fad fs.length fcap,.int .i64 at_]:List Value).map .val,false⟩),(4,some ⟨86,[.val (.bool false),.val (.int .u64 0),.val (.int .u64 0)],false⟩)],joinM X H⟩) (Le.of y11 yE y2 y2 y0) ?_
  refine LWP.freezePtr O O O fun eb earr efr hn hF hsp => ?_
  have m3:MoreM (joinM X H) (withBlock (joinM X H) eb (.cells earr 100 efr)):=cF hn
  have hS:=step_eval (cJ (joinM X H) eb (.cells earr 100 efr)) hsp (hE.mono (m1.trans m3))
  have hP:=tRunN _ l h ad cap (hin.mono (m1.trans m3)) (some ⟨ρ.1,0,none⟩) rcap (hrows.mono m3) _ (oneX fs at_) hS (fun x hx a u ha ho=>one_in2 hf2 (hin.small x hx).2.2.2 hE.place.2 ha ho) (fun x a e hl ho=>one_err hl ho)
  have hev:evX l fs at_=lastX (run (oneX fs at_) l []):=if_pos h
  rw [hev]
  cases hr:run (oneX fs at_) l [] with
  | error e =>
   have hne:e≠0:=by
    have:=evX_err (l:=l) (fs:=fs) (at_:=at_) (e:=e) (by rw [hev,hr];rfl)
    exact this
   rw [hr] at hP
   show LWP _ _ _ _ _ _
   (refine rgN<|kmv O<|kmv O<|K.makeFunc O O dO ?_;refine kca O O hP<|kmv O<|kex O O<|kex O O<|aP O dO ?_;refine aM O O O O O O dO ?_;refine kas O<|aB<|aA<|aG<|aA<|rgN<|kmv O<|kne O O (r:=true) (cP hne)<|kas O<|aB<|aE O ?_;refine aA<|rgN<|aT O O y2 y28 dO ?_;refine kmv O<|aM O O O O O O dO ?_;refine kas O<|aB<|aI ?_)
   exact y4
  | ok st =>
   have hl1:=run_len rfl (chkX_zero h).2 hr
   match st,hl1,hr with
   | [(ub,uN)],_,hr =>
   rw [hr] at hP
   have hP:PSpec Tryz.prog (withBlock (joinM X H) eb (.cells earr 100 efr)) 104 [Lx (some ⟨ρ.1,0,none⟩) l.length rcap,Lx ad l.length cap,.sv (.one (.val (.func (.func 105) #[] #[pv eb])))] (.tup [SI ub uN,Sn .i64 0]):=hP
   have hu2:In2 uN:=by
    obtain ⟨t,ht,hfl⟩:=parse (chkX_zero h).2
    have h5:t.ev (oneX fs at_) = .ok (ub,uN):=by
     have h6:=run_flat (one:=oneX fs at_) (t:=t) (rest:=[]) (st:=[]) ht
     rw [dG,hfl,hr] at h6
     cases hv:t.ev (oneX fs at_) with
     | error e=>rw [hv] at h6;cases h6
     | ok v=>rw [hv] at h6;simp only [run,Except.ok.injEq,List.cons.injEq,and_true] at h6;rw [h6]
    exact tree_in2 hf2 hE.place.2 (fun x hx=>(hin.small x (by rw [← hfl];exact hx)).2.2.2) h5
   have hG:=tForm (withBlock (joinM X H) eb (.cells earr 100 efr)) (ub,uN) hu2 _ rfl
   show LWP _ _ _ _ _ _
   cases hg:gd (ub,uN) with
   | false =>
    rw [hg] at hG
    rw [show lastX (.ok [(ub,uN)]) = .error 4 by unfold lastX;simp only;rw [hg];rfl]
    (refine rgN<|kmv O<|kmv O<|K.makeFunc O O dO ?_;refine kca O O hP<|kmv O<|kex O O<|kex O O<|aP O dO ?_;refine aM O O O O O O dO ?_;refine kas O<|aB<|aA<|aG<|aA<|rgN<|kmv O<|kne O O (r:=false) O<|kas O<|aB<|aF O ?_;refine aA<|rgN<|aK O O O dO ?_;refine kca O O (hG)<|aV O O dO<|kas O<|aB<|aE O ?_;refine aA<|rgN<|aT O O y2 y28 dO ?_;refine aM O O O O O O dO ?_;refine kas O<|aB<|aI ?_)
    exact y4
   | true =>
    rw [hg] at hG
    rw [show lastX (.ok [(ub,uN)]) = .ok (ub,uN) by unfold lastX;simp only;rw [hg];rfl]
    (refine rgN<|kmv O<|kmv O<|K.makeFunc O O dO ?_;refine kca O O hP<|kmv O<|kex O O<|kex O O<|aP O dO ?_;refine aM O O O O O O dO ?_;refine kas O<|aB<|aA<|aG<|aA<|rgN<|kmv O<|kne O O (r:=false) O<|kas O<|aB<|aF O ?_;refine aA<|rgN<|aK O O O dO ?_;refine kca O O (hG)<|aV O O dO<|kas O<|aB<|aF O ?_;refine aH ?_;refine aA<|rgN<|aK O O O dO ?_;refine aM O O O O O O dO ?_;refine kas O<|aB<|aI ?_)
    exact y4
 ·rw [(rs_no h).1,(rs_no h).2] at hR
  rw [show evX l fs at_ = .error (chkX l) from if_neg h]
  refine cC Tryz.func70 rfl y5 rfl rfl ?_
  intro C
  (refine aA<|rgN<|aL O O O dO<|aP O dO ?_;refine kas O<|aB<|aA<|rgN<|kmv O<|aU [] [] (hR) O O yC O O O O O y2B dO<|kmv O<|kex O O<|kex O O<|kas O<|kas O<|aB<|aA<|aA ?_;refine rgN<|kmv O<|kne O O (r:=true) (cP h)<|aB<|aE O ?_;refine aA<|rgN<|aT O O y2 y28 dO ?_;refine kmv O<|aM O O O O O O dO ?_;refine kas O<|aB<|aI ?_)
  exact y4
end Go.Proofs.YtopiioklkkiedaaGreatDoor
end
section
set_option maxHeartbeats 12800000
set_option maxRecDepth 100000
namespace Go.Proofs.YtopiioklkkiedaaGreatDoor
open Go Go.Lg Go.Lg.Fml Go.Lg.Fld Go.Lg.Arith
set_option maxRecDepth 100000
def eS:List UInt8×Bool→UInt8×List UInt8×Bool
 | (c::t,false)=>(c,t,false)
 | (l,_)=>(0,l,true)
def eW:List UInt8×Bool→Nat×List UInt8×Bool
 | (l,b)=>if b=false∧8≤l.length then (le (l.take 8),l.drop 8,false) else (0,l,true)
def eN (x:List UInt8×Bool):(Nm×Bool)×List UInt8×Bool:=
 if 1<(eS x).1.toNat then (((false,0),false),(eS x).2)
 else (((decide ((eS x).1.toNat=1),(((eW (eS x).2).1+18446744073709551616*(eW (eW (eS x).2).2).1:Nat):Int)),true),(eW (eW (eS x).2).2).2)
def Lss (x y:List UInt8×Bool):Prop:=y.1.length≤x.1.length∧(x.2=true→y.2=true)
variable (X:Nat→Option Obj)
end Go.Proofs.YtopiioklkkiedaaGreatDoor
end
section
set_option maxHeartbeats 12800000
set_option maxRecDepth 100000
namespace Go.Proofs.YtopiioklkkiedaaGreatDoor
open Go Go.Lg Go.Lg.Fml Go.Lg.Fld Go.Lg.Arith
set_option maxRecDepth 100000
variable (X:Nat→Option Obj)
abbrev usSt (ad:Option Addr) (n cap i:Nat) (q:List Ins) (r:Bool) (Y:Nat→Option Obj):St:=
 ⟨[(0,Lx ad n cap),(3,.sv (.one (.slc 500 0 q.length 6))),(7,Lx ad n cap),(8,Ln .i64 (n:Nat)),(9,Ln .i64 (i:Nat))],[(500,some ⟨88,(inssV q).map .val,r⟩)],Y⟩
theorem uses_take {l:List Ins} {i:Nat} {x:Ins} (hx:l[i]? = some x):usesX (l.take (i+1))=if (x.op==2||x.op==3)=true then usesX (l.take i)++[x] else usesX (l.take i):=by
 unfold usesX
 rw [List.take_add_one,hx,List.filter_append]
 simp only [Option.toList_some,List.filter_cons,List.filter_nil]
 split<;>simp
theorem uses_le (l:List Ins):(usesX l).length≤l.length:=List.length_filter_le _ _
set_option maxHeartbeats 6400000 in
theorem gUses' (l:List Ins) (ad:Option Addr) (cap:Nat) (hin:InsIn X ad l) (hl:l.length≤1000):MSpec Tryz.prog X 140 [Lx ad l.length cap] [] (.sv (.one (.slc 1000001 0 (usesX l).length 6))) [(1000001,some ⟨88,(inssV (usesX l)).map .val,true⟩)]:=by
 refine cD Tryz.func140 rfl y5 rfl y7 y7 rfl rfl ?_
 intro C
 refine LWP.ends ?_
 (refine aA<|rgN<|kas O<|aB<|aA<|rgN<|aZ (zs:=[]) (sz:=6) (e:=88) y5 O O O O O O dO<|kas O<|aB<|aA<|aA<|rgN<|kmv O<|aQ O bZ O dO ?_;refine kmv O<|aB<|aG ?_)
 refine cG (fun m σ=>∃ (i:Nat) (r:Bool),i≤l.length∧m=l.length-i∧σ=usSt ad l.length cap i (usesX (l.take i)) r X) l.length
  ⟨usSt ad l.length cap 0 (usesX (l.take 0)) false X,Le.ofR [(500,6)] y10 y1 y2 y2 y0 y2 y2,0,false,by omega,by omega,rfl⟩ ?_
 rintro m σ ⟨i,r,hi,rfl,rfl⟩
 by_cases hlt:i<l.length
 ·obtain ⟨x,hx⟩:=wg hlt
  obtain ⟨blk,off,arr,el,fr,rfl,hX,hsz,hcs,hop⟩:=hin.at hx
  have hio:=wo off i 6
  have hin0:0≤(i:Int)∧(i:Int)<(l.length:Nat):=by omega
  have hut:=uses_take hx
  have hul:=uses_le (l.take i)
  rw [cW] at hul
  have hinc:=wi i y3
  by_cases h2:x.op=2
  ·rw [if_pos (by rw [cR h2];rfl)] at hut
   generalize usesX (l.take i)=q at *
   have hcl:=inssV_len q
   have hnc:(inssV q).map CV.val++(insV x).map CV.val=(inssV (q++[x])).map CV.val:=inssV_snoc q x rfl
   have hnl:q.length+1=(q++[x]).length:=by rw [cS];rfl
   (refine aA<|rgN<|klt O O (cL y3)<|aB<|aA<|aE O ?_;refine aH ?_;refine aA<|aG<|aA<|rgN<|aR O O bZ hin0 hio dO<|aY O hX y5 hsz hcs dO<|aP O dO ?_;refine aM O O O O O O dO ?_;refine aB<|aA<|rgN<|kfa O O ?_;refine kl1 O O O<|keq O O (r:=true) (cR h2)<|kmv O<|aC O O O<|aC O O O<|aC O O O<|kpt O O<|aB<|aE O ?_;refine rgN<|kmv O<|aK O O O dO ?_;refine aZ (zs:=[Value.int .i64 0,.int .i64 0,.int .i64 0,.bool false,.int .u64 0,.int .u64 0]) (sz:=6) (e:=88) (cs':=(insV x).map .val) y5 O O O O O O dO<|bP (by_:=48) (e2:=88) (l2:=(insV x).map .val) (nl:=(q++[x]).length) (nc:=(inssV (q++[x])).map .val) O O hcl O O (dK _) O O y5 y5 y3 y3 O hnl hnc dO<|kas O<|aB<|rgN<|kad O O hinc<|kmv O<|aB ?_)
   exact ⟨_,usSt (some ⟨blk,off,none⟩) l.length cap (i+1) (q++[x]) true X,by omega,Le.ofR [(500,24)] y10 y1 y2 y2 y0 y2 y2,i+1,true,by omega,rfl,by rw [hut]⟩
  ·by_cases h3:x.op=3
   ·rw [if_pos (by rw [cR h3,Bool.or_true])] at hut
    generalize usesX (l.take i)=q at *
    have hcl:=inssV_len q
    have hnc:(inssV q).map CV.val++(insV x).map CV.val=(inssV (q++[x])).map CV.val:=inssV_snoc q x rfl
    have hnl:q.length+1=(q++[x]).length:=by rw [cS];rfl
    (refine aA<|rgN<|klt O O (cL y3)<|aB<|aA<|aE O ?_;refine aH ?_;refine aA<|aG<|aA<|rgN<|aR O O bZ hin0 hio dO<|aY O hX y5 hsz hcs dO<|aP O dO ?_;refine aM O O O O O O dO ?_;refine aB<|aA<|rgN<|kfa O O ?_;refine kl1 O O O<|keq O O (r:=false) (cN h2)<|kmv O<|aN O O (dP O O) ?_;refine aO O O O (dP O O) ?_;refine bC O O (r:=true) (cR h3) (dP O O) ?_;refine kpf O O<|aB<|aE O ?_;refine rgN<|kmv O<|aK O O O dO ?_;refine aZ (zs:=[Value.int .i64 0,.int .i64 0,.int .i64 0,.bool false,.int .u64 0,.int .u64 0]) (sz:=6) (e:=88) (cs':=(insV x).map .val) y5 O O O O O O dO<|bP (by_:=48) (e2:=88) (l2:=(insV x).map .val) (nl:=(q++[x]).length) (nc:=(inssV (q++[x])).map .val) O O hcl O O (dK _) O O y5 y5 y3 y3 O hnl hnc dO<|kas O<|aB<|rgN<|kad O O hinc<|kmv O<|aB ?_)
    exact ⟨_,usSt (some ⟨blk,off,none⟩) l.length cap (i+1) (q++[x]) true X,by omega,Le.ofR [(500,24)] y10 y1 y2 y2 y0 y2 y2,i+1,true,by omega,rfl,by rw [hut]⟩
   ·rw [if_neg (by rw [cN h2,cN h3];decide)] at hut
    generalize usesX (l.take i)=q at *
    (refine aA<|rgN<|klt O O (cL y3)<|aB<|aA<|aE O ?_;refine aH ?_;refine aA<|aG<|aA<|rgN<|aR O O bZ hin0 hio dO<|aY O hX y5 hsz hcs dO<|aP O dO ?_;refine aM O O O O O O dO ?_;refine aB<|aA<|rgN<|kfa O O ?_;refine kl1 O O O<|keq O O (r:=false) (cN h2)<|kmv O<|aN O O (dP O O) ?_;refine aO O O O (dP O O) ?_;refine bC O O (r:=false) (cN h3) (dP O O) ?_;refine kpf O O<|aB<|aF O ?_;refine aH ?_;refine rgN<|kad O O hinc<|kmv O<|aB ?_)
    exact ⟨_,usSt (some ⟨blk,off,none⟩) l.length cap (i+1) q r X,by omega,Le.of y10 y13 y2 y2 y0,i+1,r,by omega,rfl,by rw [hut]⟩
 ·have e:i=l.length:=by omega
  subst e
  rw [dC]
  (refine aA<|rgN<|klt O O (cK y3)<|aB<|aA<|aF O ?_;refine aJ<|aA<|rgN<|kmv O<|kas O<|aB<|aI ?_)
  refine cB (σ':=⟨[(2,.sv (.one (.slc 500 0 (usesX l).length 6)))],[(500,some ⟨88,(inssV (usesX l)).map .val,r⟩)],X⟩) (Le.of y13 y13 y2 y2 y0) ?_
  refine cB Le.loose (cA ?_)
  exact ⟨[(1000001,500)],⟨[_],⟨O,trivial⟩,O⟩,y1,O,O⟩
end Go.Proofs.YtopiioklkkiedaaGreatDoor
end
section
set_option maxHeartbeats 12800000
set_option maxRecDepth 100000
namespace Go.Proofs.YtopiioklkkiedaaGreatDoor
open Go Go.Lg Go.Lg.Fml Go.Lg.Fld Go.Lg.Arith
set_option maxRecDepth 100000
variable (X:Nat→Option Obj)
theorem gCheck (l:List Ins) (ad:Option Addr) (cap:Nat) (hin:InsIn X ad l) (hl:l.length<1152921504606846976):PSpec Tryz.prog X 139 [Lx ad l.length cap] (Ln .i64 (chkX l)):=by
 exact gCheck' X l ad cap hin hl
theorem gEval (l:List Ins) (ad:Option Addr) (cap:Nat) (hin:InsIn X ad l) (hbig:l.length<1152921504606846976) (fad:Option Addr) (fcap:Nat) (fs:List (List Nm)) (hfs:FssIn X fad fs) (hfl:fs.length<4611686018427387904) (hrl:∀ r∈fs,r.length<4611686018427387904) (hf2:∀ r∈fs,∀ u∈r,In2 u.2) (at_:Int) (hat : -9223372036854775808≤at_∧at_<9223372036854775808):
  PSpec Tryz.prog X 70 [Lx ad l.length cap,LEnv fad fs.length fcap at_] (exR (evX l fs at_)):=by
 exact gEval' X l ad cap hin hbig fad fcap fs at_ ⟨hfs,hfl,hrl,hat⟩ hf2
end Go.Proofs.YtopiioklkkiedaaGreatDoor
end
section
set_option maxHeartbeats 12800000
set_option maxRecDepth 100000
namespace Go.Proofs.YtopiioklkkiedaaGreatDoor
open Go Go.Lg Go.Lg.Fml Go.Lg.Fld Go.Lg.Arith
set_option maxRecDepth 100000
variable (X:Nat→Option Obj)
def sizeB (rs:List Rl):Prop := ∀ r∈rs,r.ex.length<9223372036854775808∧∀ c∈r.ex,c.length<9223372036854775808
def grtR (r:Rl):Bool:=decide (12<r.ex.length)||r.ex.any fun c=>decide (80<c.length)
def grtP (rs:List Rl):Bool:=decide (30<rs.length)||rs.any grtR
theorem grtP_false {rs:List Rl} (h:grtP rs=false):rs.length≤30∧∀ r∈rs,r.ex.length≤12∧∀ c∈r.ex,c.length≤80:=by
 unfold grtP at h
 rw [Bool.or_eq_false_iff,decide_eq_false_iff_not] at h
 refine ⟨by omega,fun r hr => ?_⟩
 have h1:grtR r=false:=by have:=List.any_eq_false.1 h.2 r hr;simpa using this
 unfold grtR at h1
 rw [Bool.or_eq_false_iff,decide_eq_false_iff_not] at h1
 refine ⟨by omega,fun c hc => ?_⟩
 have:=List.any_eq_false.1 h1.2 c hc
 simpa using this
end Go.Proofs.YtopiioklkkiedaaGreatDoor
end
section
set_option maxHeartbeats 12800000
set_option maxRecDepth 100000
namespace Go.Proofs.YtopiioklkkiedaaGreatDoor
open Go Go.Lg Go.Lg.Fml Go.Lg.Fld Go.RowKit Go.ChangeShapes Go.WideShapes Go.Joins
set_option maxRecDepth 100000
section
variable {H:Type} {enc:TypeId×Value→H} {w:World}
theorem open_inss_l {fuel:Nat} {lv:List Value} {xx:DataW H×List MemPlace} (h:DataW.trod enc Tryz.prog w 0 (fun _=>true) true fuel 90 lv=some xx):
  ∃ (ad:Option Addr) (cap:Nat) (l:List Ins),lv=[.slice ad l.length cap]∧l.length<9223372036854775808∧InsIn (fun b=>w.heap[b]?) ad l:=by
 obtain ⟨ad,cap,rows,rfl,h1,h2,h3,h4⟩:=open_rows_l (e:=88) (sz:=6) y5 y5 yA h
 obtain ⟨l,rfl,h5⟩:=map_of (f:=insV) (q:=smallI) (vs:=rows) (fun u hu=>by
  obtain ⟨hlen,n,x,hx⟩:=h4 u hu
  obtain ⟨y0,y1,y2,y3,n',_,_,g0,g1,g2,g3⟩:=trod_struct4 (t:=88) Tryz.underlying88 hx
  obtain ⟨c0,c1,c2,c3,c4,c5,rfl⟩:∃ c0 c1 c2 c3 c4 c5,u=[c0,c1,c2,c3,c4,c5]:=by
   match u,hlen with
   | [c0,c1,c2,c3,c4,c5],_=>exact ⟨c0,c1,c2,c3,c4,c5,rfl⟩
  obtain ⟨k0,e0,_,wa0⟩:=DataW.trod_int (k:=.i64) y5 g0
  obtain ⟨k1,e1,_,wa1⟩:=DataW.trod_int (k:=.i64) y5 g1
  obtain ⟨k2,e2,_,wa2⟩:=DataW.trod_int (k:=.i64) y5 g2
  obtain ⟨z0,z1,z2,m',_,_,j0,j1,j2⟩:=Deep.trod_struct3 (t:=86) Tryz.underlying86 g3
  obtain ⟨b,e3,_⟩:=DataW.trod_bool y5 j0
  obtain ⟨x,e4,_,wa4⟩:=DataW.trod_int (k:=.u64) y5 j1
  obtain ⟨y,e5,_,wa5⟩:=DataW.trod_int (k:=.u64) y5 j2
  have q0:c0 = .int .i64 k0:=by simpa using (show ([c0,c1,c2,c3,c4,c5].drop 0).take 1=[.int .i64 k0] from e0)
  have q1:c1 = .int .i64 k1:=by simpa using (show ([c0,c1,c2,c3,c4,c5].drop 1).take 1=[.int .i64 k1] from e1)
  have q2:c2 = .int .i64 k2:=by simpa using (show ([c0,c1,c2,c3,c4,c5].drop 2).take 1=[.int .i64 k2] from e2)
  have q3:c3 = .bool b:=by simpa using (show ((([c0,c1,c2,c3,c4,c5].drop 3).take 3).drop 0).take 1=[.bool b] from e3)
  have q4:c4 = .int .u64 x:=by simpa using (show ((([c0,c1,c2,c3,c4,c5].drop 3).take 3).drop 1).take 1=[.int .u64 x] from e4)
  have q5:c5 = .int .u64 y:=by simpa using (show ((([c0,c1,c2,c3,c4,c5].drop 3).take 3).drop 2).take 1=[.int .u64 y] from e5)
  subst q0 q1 q2 q3 q4 q5
  have b0:=bounds_i64 wa0
  have b1:=bounds_i64 wa1
  have b2:=bounds_i64 wa2
  have b4:=bounds_u64 wa4
  have b5:=bounds_u64 wa5
  refine ⟨⟨k0,k1,k2,(b,x*18446744073709551616+y)⟩,?_,by show -9223372036854775808≤k0∧k0<9223372036854775808;omega,by show -9223372036854775808≤k1∧k1<9223372036854775808;omega,by show -9223372036854775808≤k2∧k2<9223372036854775808;omega,by show 0≤x*18446744073709551616+y;omega,by show x*18446744073709551616+y<_;omega⟩
  unfold insV
  show _=[Value.int .i64 k0,.int .i64 k1,.int .i64 k2,.bool b,.int .u64 ((x*18446744073709551616+y)/18446744073709551616),.int .u64 ((x*18446744073709551616+y)%18446744073709551616)]
  rw [show (x*18446744073709551616+y)/18446744073709551616=x by omega,show (x*18446744073709551616+y)%18446744073709551616=y by omega])
 exact ⟨ad,cap,l,by rw [cT],by rw [cT] at h1;unfold maxLen at h2;omega,⟨h3,h5⟩⟩
theorem open_codes_l {fuel:Nat} {lv:List Value} {xx:DataW H×List MemPlace} (h:DataW.trod enc Tryz.prog w 0 (fun _=>true) true fuel 25 lv=some xx):
  ∃ (ad:Option Addr) (cap:Nat) (cs:List (List Ins)),lv=[.slice ad cs.length cap]∧cs.length<9223372036854775808∧CodesIn (fun b=>w.heap[b]?) ad cs∧∀ c∈cs,c.length<9223372036854775808:=by
 obtain ⟨ad,cap,rows,rfl,h1,h2,h3,h4⟩:=open_rows_l (e:=90) (sz:=1) y5 y5 yA h
 obtain ⟨ts,rfl,h5⟩:=map_of (f:=fun t:List Ins×Option Addr×Nat=>[Value.slice t.2.1 t.1.length t.2.2]) (q:=fun t=>InsIn (fun b=>w.heap[b]?) t.2.1 t.1∧t.1.length<9223372036854775808) (vs:=rows) (fun u hu=>by
  obtain ⟨hlen,n,x,hx⟩:=h4 u hu
  obtain ⟨vad,vcap,ns,e1,k1,hF⟩:=open_inss_l hx
  exact ⟨(ns,vad,vcap),e1,hF,k1⟩)
 refine ⟨ad,cap,ts.map (·.1),by rw [cT,cT],by rw [cT] at h1 ⊢;unfold maxLen at h2;omega,⟨fun i r hr => ?_⟩,fun r hr => ?_⟩
 ·rw [dI] at hr
  cases ht:ts[i]? with
  | none=>rw [ht] at hr;cases hr
  | some t =>
   rw [ht] at hr
   simp only [Option.map_some,Option.some.injEq] at hr
   subst hr
   obtain ⟨blk,off,arr,el,fr,g1,g2,g3,g4⟩:=h3 i _ (by rw [dI,ht];rfl)
   have g5:arr[off+i]? = some (.slice t.2.1 t.1.length t.2.2):=by
    have:=congrArg (fun l:List Value=>l[0]?) g4
    simpa [List.getElem?_take,List.getElem?_drop] using this
   exact ⟨blk,off,arr,el,fr,t.2.1,t.2.2,g1,g2,g3,g5,(h5 t (cZ ht)).1⟩
 ·obtain ⟨t,ht,rfl⟩:=List.mem_map.1 hr
  exact (h5 t ht).2
end
end Go.Proofs.YtopiioklkkiedaaGreatDoor
end
section
set_option maxHeartbeats 12800000
set_option maxRecDepth 100000
namespace Go.Proofs.YtopiioklkkiedaaGreatDoor
open Go Go.Lg Go.Lg.Fml Go.Lg.Fld Go.RowKit Go.ChangeShapes Go.WideShapes Go.Joins
set_option maxRecDepth 100000
section
variable {H:Type} {enc:TypeId×Value→H} {w:World}
theorem open_fields_w {fuel:Nat} {l:List Value} {x:DataW H×List MemPlace} (h:DataW.trod enc Tryz.prog w 0 (fun _=>true) true fuel 22 l=some x) (hw:Light Tryz.prog 22 x.1):
  ∃ (ad:Option Addr) (cap:Nat) (fs:List Fl),l=[.slice ad fs.length cap]∧(fs.length≤4398046511104∧fs.length≤cap)∧FieldsIn (fun b=>w.heap[b]?) ad fs∧∀ f∈fs,f.nm.length≤9223372036854775807:=by
 obtain ⟨ad,cap,rows,rfl,hb,hroom,_,h3,h4⟩:=open_rows_w (e:=83) (sz:=3) y5 y5 yA h hw
 obtain ⟨fs,rfl,h5⟩:=map_of (f:=Fl.vals) (q:=fun f=>((-9223372036854775808≤f.kind∧f.kind<9223372036854775808)∧(-9223372036854775808≤f.count∧f.count<9223372036854775808))∧f.nm.length≤9223372036854775807) (vs:=rows) (fun u hu=>by
  obtain ⟨hlen,n,x,hx,_⟩:=h4 u hu
  obtain ⟨y0,y1,y2,n',_,_,g0,g1,g2⟩:=Deep.trod_struct3 (t:=83) Tryz.underlying83 hx
  obtain ⟨e0',e1',e2',rfl⟩:∃ c0 c1 c2,u=[c0,c1,c2]:=by
   match u,hlen with
   | [c0,c1,c2],_=>exact ⟨c0,c1,c2,rfl⟩
  obtain ⟨s,e0,_,hsz⟩:=DataW.trod_string y5 g0
  obtain ⟨k,e1,_,wa1⟩:=DataW.trod_int (k:=.i64) y5 g1
  obtain ⟨c,e2,_,wa2⟩:=DataW.trod_int (k:=.i64) y5 g2
  have q0:e0' = .string s:=by simpa using (show ([e0',e1',e2'].drop 0).take 1=[.string s] from e0)
  have q1:e1' = .int .i64 k:=by simpa using (show ([e0',e1',e2'].drop 1).take 1=[.int .i64 k] from e1)
  have q2:e2' = .int .i64 c:=by simpa using (show ([e0',e1',e2'].drop 2).take 1=[.int .i64 c] from e2)
  subst q0 q1 q2
  have b1:=bounds_i64 wa1
  have b2:=bounds_i64 wa2
  exact ⟨⟨s.data.toList,k,c⟩,rfl,(show (-9223372036854775808≤k∧k<9223372036854775808)∧(-9223372036854775808≤c∧c<9223372036854775808) by omega),(show s.data.toList.length≤_ from (by unfold maxLen at hsz;rw [Array.length_toList];exact hsz))⟩)
 exact ⟨ad,cap,fs,by rw [cT],⟨by rw [cT,show Tryz.prog.bytesOf 83=32 by kernel_rfl,show reachBytes=140737488351232 by decide] at hb;omega,by rw [cT] at hroom;exact hroom⟩,⟨h3,fun f hf=>(h5 f hf).1⟩,fun f hf=>(h5 f hf).2⟩
theorem cellsCp:Tryz.prog.cellsOf 24=3:=by kernel_rfl
theorem open_comp {r:Reach} {b0:Nat} {v:Value} {d:DataW H} {p:List MemPlace} (hv:Value.okWide Tryz.prog w r b0 24 v) (h:DataW.Trod enc Tryz.prog w 0 (fun _=>true) true 24 v d p) (hw:Light Tryz.prog 24 d):
  ∃ (c:Cp) (ad:Option Addr) (cap:Nat),v = .agg #[.int .i64 c.id,.string ⟨c.nm.toArray⟩,.slice ad c.fs.length cap]∧(-9223372036854775808≤c.id∧c.id<9223372036854775808)∧(c.fs.length≤4398046511104∧c.fs.length≤cap)∧FieldsIn (fun b=>w.heap[b]?) ad c.fs∧∀ f∈c.fs,f.nm.length≤9223372036854775807:=by
 obtain ⟨v0,v1,v2,y0,y1,y2,m,rfl,rfl,rfl,hy0,hy1,hy2⟩:=open_agg3 Tryz.underlying24 y5 cellsCp hv h
 have hw2:=(Light.struct3 Tryz.underlying24 hw).2.2
 obtain ⟨x,e0,rfl,wa0⟩:=DataW.trod_int (k:=.i64) y5 hy0
 obtain ⟨s,e1,rfl,hsz⟩:=DataW.trod_string y5 hy1
 obtain ⟨ad,cap,fs,e2,h1,h2,h3⟩:=open_fields_w hy2 hw2
 simp at e0 e1 e2
 subst e0 e1 e2
 have b0:=bounds_i64 wa0
 exact ⟨⟨x,s.data.toList,fs⟩,ad,cap,O,(show -9223372036854775808≤x∧x<9223372036854775808 by omega),h1,h2,h3⟩
theorem cellsRl:Tryz.prog.cellsOf 27=3:=by kernel_rfl
theorem open_rule {r:Reach} {b0:Nat} {v:Value} {d:DataW H} {p:List MemPlace} (hv:Value.okWide Tryz.prog w r b0 27 v) (h:DataW.Trod enc Tryz.prog w 0 (fun _=>true) true 27 v d p):
  ∃ (q:Rl) (ad:Option Addr) (cap:Nat),v = .agg #[.int .i64 q.nw,.int .i64 q.old,.slice ad q.ex.length cap]∧smallR q∧q.ex.length<9223372036854775808∧CodesIn (fun b=>w.heap[b]?) ad q.ex∧∀ c∈q.ex,c.length<9223372036854775808:=by
 obtain ⟨v0,v1,v2,y0,y1,y2,m,rfl,rfl,rfl,hy0,hy1,hy2⟩:=open_agg3 Tryz.underlying27 y5 cellsRl hv h
 obtain ⟨x,e0,rfl,wa0⟩:=DataW.trod_int (k:=.i64) y5 hy0
 obtain ⟨y,e1,rfl,wa1⟩:=DataW.trod_int (k:=.i64) y5 hy1
 obtain ⟨ad,cap,cs,e2,h1,h2,h3⟩:=open_codes_l hy2
 simp at e0 e1 e2
 subst e0 e1 e2
 have b0:=bounds_i64 wa0
 have b1:=bounds_i64 wa1
 exact ⟨⟨x,y,cs⟩,ad,cap,O,⟨(show -9223372036854775808≤x∧x<9223372036854775808 by omega),(show -9223372036854775808≤y∧y<9223372036854775808 by omega)⟩,h1,h2,h3⟩
end
end Go.Proofs.YtopiioklkkiedaaGreatDoor
end
section
set_option maxHeartbeats 12800000
set_option maxRecDepth 100000
namespace Go.Proofs.YtopiioklkkiedaaGreatDoor
open Go Go.Lg Go.Lg.Fml Go.Lg.Fld Go.Lg.Arith
def findE (fs:List Fl) (f:Fl) (x:Ins):Int:=
 if x.op=2∨x.op=3 then (match fs[x.a.toNat]? with
  | none=>3
  | some g=>if (x.op=2∧g.count≤x.b)∨(x.op=3∧g.count<f.count) then 3 else if (g.kind=10)=(f.kind=10) then 0 else 8)
 else 0
def atE {α:Type} (g:α→Int) (l:List α) (i:Nat):Int:=match l[i]? with|some x=>g x|none=>0
theorem atE_at {α:Type} {g:α→Int} {l:List α} {i:Nat} {x:α} (h:l[i]? = some x):atE g l i=g x:=by unfold atE;rw [h]
def seqE {α:Type} (g:α→Int) (l:List α):Int:=firstE (atE g l) 0 l.length
theorem seqE_zero {α:Type} {g:α→Int} {l:List α} (h:seqE g l=0):∀ x∈l,g x=0:=fun x hx=>by
 obtain ⟨i,hi⟩:=List.mem_iff_getElem?.1 hx
 have:=firstE_zero h i (Nat.zero_le _) (by have:=(wl hi);omega)
 rw [atE_at hi] at this;exact this
def refE (f:Fl):List Ins→Int
 | [x]=>if f.kind=10∧(x.op=4∨(x.op=1∧x.k≠(false,0))) then 8 else 0
 | _=>if f.kind=10 then 8 else 0
def fmE (fs:List Fl) (f:Fl) (l:List Ins):Int:=if chkX l=0 then (if seqE (findE fs f) l=0 then refE f l else seqE (findE fs f) l) else chkX l
def ruE (fs gs:List Fl) (r:Rl):Int:=if r.old=0 then 0 else if r.ex.length=gs.length then seqE (fun q:Fl×List Ins=>fmE fs q.1 q.2) (gs.zip r.ex) else 4
def findC (cs:List Cp) (id:Int):Option Cp:=cs.find? fun c=>c.id==id
def nwE (a:Sc) (q:Rl×Cp):Int:=if q.1.nw=q.2.id∧(q.1.old=0∨(findC a.cs q.1.old).isSome) then 0 else 6
def flC (a:Sc) (id:Int):List Fl:=match findC a.cs id with|some c=>c.fs|none=>[]
def ruC (a:Sc) (q:Rl×Cp):Int:=ruE (flC a q.1.old) q.2.fs q.1
def ckE (a b:Sc) (p:Pg):Int:=
 if chkE a=0 then (if chkE b=0 then (if chkP p=0 then (if p.va=a.ver∧p.vb=b.ver∧p.va<p.vb then (if p.rs.length=b.cs.length then (if seqE (nwE a) (p.rs.zip b.cs)=0 then seqE (ruC a) (p.rs.zip b.cs) else 6) else 6) else 7) else chkP p) else chkE b) else chkE a
end Go.Proofs.YtopiioklkkiedaaGreatDoor
end
section
set_option maxHeartbeats 12800000
set_option maxRecDepth 100000
namespace Go.Lg.Sg
open Go Go.Lg
def bl (f:Nat→Bool):List CV:=(List.range 32).map fun j=>.val (.bool (f j))
def okJ (id:Int):Bool:=decide (1≤id)&&decide (id≤24)
theorem okI_iff {id:Int}:okJ id=true↔1≤id∧id≤24:=by unfold okJ;simp
def hasB (a:Nat) (id:Int):Bool:=okJ id&&a.testBit id.toNat
end Go.Lg.Sg
namespace Go.Proofs.YtopiioklkkiedaaGreatDoor
open Go Go.Lg Go.Lg.Fld Go.Lg.Sg
set_option maxRecDepth 100000
variable (X:Nat→Option Obj)
end Go.Proofs.YtopiioklkkiedaaGreatDoor
end
section
set_option maxHeartbeats 12800000
set_option maxRecDepth 100000
namespace Go.Lg.Sg
open Go Go.Lg
def txStep (s:List UInt8×Bool) (x:Int):List UInt8×Bool:=(s.1++(if s.2=true then [43] else [])++Lib.itoa x,true)
def txF (l:List Int):List UInt8×Bool:=l.foldl txStep ([],false)
def ofN (ids:List Int):Nat:=ids.foldl (fun n id=>n ||| 2^id.toNat) 0
end Go.Lg.Sg
namespace Go.Proofs.YtopiioklkkiedaaGreatDoor
open Go Go.Lg Go.Lg.Fld Go.Lg.Sg
set_option maxRecDepth 100000
variable (X:Nat→Option Obj)
end Go.Proofs.YtopiioklkkiedaaGreatDoor
end
section
set_option maxHeartbeats 12800000
set_option maxRecDepth 100000
namespace Go.Lg.Sg
open Go Go.Lg
def digS (n:Int) (c:UInt8):Option Int:=if c.toNat<48∨57<c.toNat∨n=0∨99<n∨(n<0∧c.toNat=48) then none else some ((if n<0 then 0 else n)*10+((c.toNat:Int)-48))
def sepS (q:List Int×Int):Option (List Int×Int):=if q.2<1∨24<q.2∨(q.1.getLast?.any fun y=>decide (q.2≤y))=true then none else some (q.1++[q.2],-1)
def chS (q:List Int×Int) (c:UInt8):Option (List Int×Int):=if c=43 then sepS q else (digS q.2 c).map fun n=>(q.1,n)
def runS (q:List Int×Int) (s:List UInt8):Option (List Int×Int):=s.foldlM chS q
def parseA (s:List UInt8):Option Nat:=if s=[45] then some 0 else ((runS ([],-1) s).bind sepS).map fun q=>ofN q.1
def rising (l:List Int):Prop:=l.Pairwise (fun x y=>x<y)
def preT (ids:List Int):List UInt8:=(txF ids).1++if ids=[] then [] else [43]
def digT (n:Int):List UInt8:=if n<0 then [] else Lib.itoa n
structure Rd (p:List UInt8) (q:List Int×Int):Prop where
 text:p=preT q.1++digT q.2
 ids:∀ y∈q.1,1≤y∧y≤24
 rise:rising q.1
 num:q.2 = -1∨(1≤q.2∧q.2≤999)
end Go.Lg.Sg
end
section
set_option maxHeartbeats 12800000
set_option maxRecDepth 100000
namespace Go.Lg.Sg
open Go Go.Lg Go.Lg.Fld
def withN (a:Nat) (id:Int):Nat:=if okJ id=true then a ||| 2^id.toNat else a
theorem with_bit {a:Nat} {id:Int} (j:Nat):(withN a id).testBit j=(a.testBit j||(okJ id&&decide (id.toNat=j))):=by
 unfold withN
 by_cases h:okJ id=true
 ·rw [if_pos h,Nat.testBit_or,Nat.testBit_two_pow,h,Bool.true_and]
 ·rw [if_neg h,show okJ id=false by simpa using h,Bool.false_and,Bool.or_false]
theorem lt32_of_bits {a:Nat} (h:∀ j,32≤j→a.testBit j=false):a<4294967296:=Nat.lt_pow_two_of_testBit (n:=32) _ h
end Go.Lg.Sg
end
section
set_option maxHeartbeats 12800000
set_option maxRecDepth 100000
namespace Go.Proofs.YtopiioklkkiedaaGreatDoor
open Go Go.Lg Go.Lg.Fml Go.Lg.Fld Go.Lg.Arith
abbrev Sp:=Fl×List Ins×Nat
def cutN:List Fl→List Nm→List (List Nm)
 | [],_=>[]
 | f::t,ns=>ns.take f.n::cutN t (ns.drop f.n)
def fldS (f:Fl) (c:List Ins) (n:Nat):List Sp:=(List.range n).map fun k=>(f,c,k)
def stepsN:List Fl→List (List Ins)→List Sp
 | f::t,c::u=>fldS f c f.n++stepsN t u
 | _,_=>[]
def okV:Except Int Nm→Nm | .ok v=>v | .error _=>(false,0)
def erV:Except Int Nm→Int | .ok _=>0 | .error e=>e
def stepV (fs:List (List Nm)) (q:Sp):Nm:=okV (evX q.2.1 fs q.2.2)
def stepE (fs:List (List Nm)) (q:Sp):Int:=if erV (evX q.2.1 fs q.2.2)=0 then (if fitB q.1.kind (stepV fs q).1 (stepV fs q).2=true then 0 else 3) else erV (evX q.2.1 fs q.2.2)
def valE (a b:List Fl) (r:Rl) (ns:List Nm):Int:=
 if fitErr a ns=0 then (if layErr b=0 then (if r.old=0 then 7 else if ruE a b r=0 then seqE (stepE (cutN a ns)) (stepsN b r.ex) else ruE a b r) else layErr b) else fitErr a ns
def valN (a b:List Fl) (r:Rl) (ns:List Nm):List Nm:=(stepsN b r.ex).map (stepV (cutN a ns))
def rowE (a b:List Fl) (r:Rl) (s:List UInt8):Int:=if unpErr a s=0 then valE a b r ((unpZ a s).map qn) else unpErr a s
def rowN (a b:List Fl) (r:Rl) (s:List UInt8):List UInt8:=if rowE a b r s=0 then packB b (valN a b r ((unpZ a s).map qn)) else []
def sigN (rs:List Rl) (s:Nat):Nat:=rs.foldl (fun n r=>if Sg.hasB s r.old=true then Sg.withN n r.nw else n) 0
abbrev Sq:=Rl×Cp×Pt
def partsOf (r:Rl) (c:Cp) (ps:List Pt):List Sq:=(ps.filter fun p=>p.comp==r.old).map fun p=>(r,c,p)
def prS:List Rl→List Cp→List Pt→List Sq
 | r::t,c::u,ps=>partsOf r c ps++prS t u ps
 | _,_,_=>[]
def pqE (a:Sc) (q:Sq):Int:=valE (flC a q.2.2.comp) q.2.1.fs q.1 q.2.2.val
def psE (a b:Sc) (p:Pg) (ps:List Pt):Int:=if ckE a b p=0 then (if partsE a.cs ps=0 then seqE (pqE a) (prS p.rs b.cs ps) else partsE a.cs ps) else ckE a b p
theorem fldS_succ (f:Fl) (c:List Ins) (k:Nat):fldS f c (k+1)=fldS f c k++[(f,c,k)]:=by unfold fldS;rw [List.range_succ,dE];rfl
theorem fldS_zero (f:Fl) (c:List Ins):fldS f c 0=[]:=rfl
theorem fldS_len (f:Fl) (c:List Ins) (n:Nat):(fldS f c n).length=n:=by unfold fldS;rw [cT,List.length_range]
theorem fldS_split (f:Fl) (c:List Ins):∀ {n k:Nat},k<n→∃ post,fldS f c n=fldS f c k++(f,c,k)::post
 | n+1,k,h=>by
  by_cases e:k=n
  ·subst e;exact ⟨[],fldS_succ f c k⟩
  ·obtain ⟨post,hp⟩:=fldS_split f c (n:=n) (k:=k) y3
   exact ⟨post++[(f,c,n)],by rw [fldS_succ,hp];simp⟩
theorem steps_snoc:∀ {gs:List Fl} {ex:List (List Ins)} {i:Nat} {f:Fl} {c:List Ins},gs[i]? = some f→ex[i]? = some c→stepsN (gs.take (i+1)) (ex.take (i+1))=stepsN (gs.take i) (ex.take i)++fldS f c f.n
 | g::gs,d::ex,0,f,c,h1,h2=>by
  simp only [List.getElem?_cons_zero,Option.some.injEq] at h1 h2
  subst h1 h2
  simp [stepsN]
 | g::gs,d::ex,i+1,f,c,h1,h2=>by
  simp only [List.getElem?_cons_succ] at h1 h2
  simp only [List.take_succ_cons,stepsN]
  rw [steps_snoc h1 h2,dJ]
 | [],_,_,_,_,h,_=>by simp at h
 | _::_,[],_,_,_,_,h=>by simp at h
theorem steps_split:∀ {gs:List Fl} {ex:List (List Ins)} {i:Nat} {f:Fl} {c:List Ins},gs[i]? = some f→ex[i]? = some c→∃ post,stepsN gs ex=stepsN (gs.take i) (ex.take i)++(fldS f c f.n++post)
 | g::gs,d::ex,0,f,c,h1,h2=>by
  simp only [List.getElem?_cons_zero,Option.some.injEq] at h1 h2
  subst h1 h2
  exact ⟨stepsN gs ex,O⟩
 | g::gs,d::ex,i+1,f,c,h1,h2=>by
  simp only [List.getElem?_cons_succ] at h1 h2
  obtain ⟨post,hp⟩:=steps_split h1 h2
  refine ⟨post,?_⟩
  simp only [List.take_succ_cons,stepsN]
  rw [hp,dJ]
 | [],_,_,_,_,h,_=>by simp at h
 | _::_,[],_,_,_,_,h=>by simp at h
theorem steps_at {gs:List Fl} {ex:List (List Ins)} {i k:Nat} {f:Fl} {c:List Ins} (h1:gs[i]? = some f) (h2:ex[i]? = some c) (hk:k<f.n):∃ post,stepsN gs ex=(stepsN (gs.take i) (ex.take i)++fldS f c k)++(f,c,k)::post:=by
 obtain ⟨p1,e1⟩:=steps_split h1 h2
 obtain ⟨p2,e2⟩:=fldS_split f c hk
 exact ⟨p2++p1,by rw [e1,e2];simp⟩
theorem seqE_cons' {α:Type} {g:α→Int} {x:α} {t:List α}:seqE g (x::t)=if g x=0 then seqE g t else g x:=by
 have key:∀ (f:Nat→Int) (n i:Nat),firstE f (i+1) n=firstE (fun j=>f (j+1)) i n:=by
  intro f n
  induction n with
  | zero=>intro i;rfl
  | succ n ih =>
   intro i
   show (if f (i+1)=0 then firstE f (i+1+1) n else f (i+1))=(if f (i+1)=0 then firstE (fun j=>f (j+1)) (i+1) n else f (i+1))
   rw [ih (i+1)]
 show (if atE g (x::t) 0=0 then firstE (atE g (x::t)) (0+1) t.length else atE g (x::t) 0)=_
 rw [key]
 rfl
theorem seqE_app {α:Type} {g:α→Int}:∀ {l m:List α},seqE g (l++m)=if seqE g l=0 then seqE g m else seqE g l
 | [],m=>by rw [List.nil_append,show seqE g ([]:List α)=0 from rfl,if_pos rfl]
 | x::l,m=>by
  rw [List.cons_append,seqE_cons',seqE_cons',seqE_app]
  by_cases h:g x=0
  ·rw [if_pos h,if_pos h]
  ·rw [if_neg h,if_neg h,if_neg h]
theorem seqE_hit {α:Type} {g:α→Int} {l pre post:List α} {x:α} (h:l=pre++x::post) (h0:seqE g pre=0) (hx:g x≠0):seqE g l=g x:=by
 rw [h,seqE_app,if_pos h0,seqE_cons',if_neg hx]
theorem seqE_snoc {α:Type} {g:α→Int} {l:List α} {x:α} (h0:seqE g l=0) (hx:g x=0):seqE g (l++[x])=0:=by
 rw [seqE_app,if_pos h0,seqE_cons',if_pos hx];rfl
end Go.Proofs.YtopiioklkkiedaaGreatDoor
end
section
set_option maxHeartbeats 12800000
set_option maxRecDepth 100000
namespace Go.Proofs.YtopiioklkkiedaaGreatDoor
open Go Go.Lg Go.Lg.Fml Go.Lg.Fld Go.Lg.Arith
theorem elems_kinds:∀ (b:List Fl) (ex:List (List Ins)) (a:Nat),ex.length=b.length→(elemsAt a b).map Prod.fst=(stepsN b ex).map fun q=>q.1.kind
 | [],[],_,_=>rfl
 | f::t,c::u,a,h=>by
  simp only [dF] at h
  have ih:=elems_kinds t u (roundUp a f.w+f.w*f.n) y3
  simp only [elemsAt,stepsN,dE,ih]
  congr 1
  unfold fldS
  rw [List.map_map,List.map_map]
  rfl
 | [],_::_,_,h=>by simp at h
 | _::_,[],_,h=>by simp at h
theorem steps_len {b:List Fl} {ex:List (List Ins)} (h:ex.length=b.length):(stepsN b ex).length=(elemsAt 0 b).length:=by
 have:=congrArg List.length (elems_kinds b ex 0 h)
 rw [cT,cT] at this
 exact this.symm
theorem stepE_zero {fs:List (List Nm)} {q:Sp} (h:stepE fs q=0):erV (evX q.2.1 fs q.2.2)=0∧fitB q.1.kind (stepV fs q).1 (stepV fs q).2=true:=by
 unfold stepE at h
 by_cases h1:erV (evX q.2.1 fs q.2.2)=0
 ·rw [if_pos h1] at h
  by_cases h2:fitB q.1.kind (stepV fs q).1 (stepV fs q).2=true
  ·exact ⟨h1,h2⟩
  ·rw [if_neg h2] at h;cases h
 ·rw [if_neg h1] at h;exact absurd h h1
theorem val_fit {b:List Fl} {ex:List (List Ins)} {fs:List (List Nm)} (hb:layErr b=0) (hl:ex.length=b.length) (h:seqE (stepE fs) (stepsN b ex)=0):fitErr b ((stepsN b ex).map (stepV fs))=0:=by
 unfold fitErr
 rw [if_pos hb,if_pos (by rw [cT,steps_len hl]),if_pos]
 unfold fitAll
 rw [List.all_eq_true]
 intro p hp
 obtain ⟨i,hi⟩:=List.mem_iff_getElem?.1 hp
 obtain ⟨h1,h2⟩:=List.getElem?_zip_eq_some.1 hi
 rw [dI] at h2
 cases hq:(stepsN b ex)[i]? with
 | none=>rw [hq] at h2;cases h2
 | some q =>
  rw [hq] at h2
  simp only [Option.map_some,Option.some.injEq] at h2
  have hk:=congrArg (fun l=>l[i]?) (elems_kinds b ex 0 hl)
  simp only [dI,h1,hq,Option.map_some,Option.some.injEq] at hk
  have:=(stepE_zero (seqE_zero h q (cZ hq))).2
  rw [h2,← hk] at this
  exact this
theorem ruE_len {a b:List Fl} {r:Rl} (h:ruE a b r=0) (h0:r.old≠0):r.ex.length=b.length:=by
 unfold ruE at h
 rw [if_neg h0] at h
 by_cases e:r.ex.length=b.length
 ·exact e
 ·rw [if_neg e] at h;cases h
theorem valE_zero {a b:List Fl} {r:Rl} {ns:List Nm} (h:valE a b r ns=0):fitErr a ns=0∧layErr b=0∧r.old≠0∧ruE a b r=0∧seqE (stepE (cutN a ns)) (stepsN b r.ex)=0:=by
 unfold valE at h
 by_cases h1:fitErr a ns=0
 ·rw [if_pos h1] at h
  by_cases h2:layErr b=0
  ·rw [if_pos h2] at h
   by_cases h3:r.old=0
   ·rw [if_pos h3] at h;cases h
   ·rw [if_neg h3] at h
    by_cases h4:ruE a b r=0
    ·rw [if_pos h4] at h;exact ⟨h1,h2,h3,h4,h⟩
    ·rw [if_neg h4] at h;exact absurd h h4
  ·rw [if_neg h2] at h;exact absurd h h2
 ·rw [if_neg h1] at h;exact absurd h h1
theorem valN_fit {a b:List Fl} {r:Rl} {ns:List Nm} (h:valE a b r ns=0):fitErr b (valN a b r ns)=0:=by
 obtain ⟨_,h2,h3,h4,h5⟩:=valE_zero h
 exact val_fit h2 (ruE_len h4 h3) h5
section
variable {a b:Sc} {p:Pg} {ps:List Pt} (h:psE a b p ps=0)
include h
end
theorem sigN_bit (rs:List Rl) (s j:Nat):(sigN rs s).testBit j=rs.any fun r=>Sg.hasB s r.old&&(Sg.okJ r.nw&&decide (r.nw.toNat=j)):=by
 unfold sigN
 suffices H:∀ (l:List Rl) (n:Nat),(l.foldl (fun n r=>if Sg.hasB s r.old=true then Sg.withN n r.nw else n) n).testBit j=(n.testBit j||l.any fun r=>Sg.hasB s r.old&&(Sg.okJ r.nw&&decide (r.nw.toNat=j))) by
  rw [H,Nat.zero_testBit,Bool.false_or]
 intro l
 induction l with
 | nil=>intro n;simp
 | cons r t ih =>
  intro n
  rw [List.foldl_cons,ih,List.any_cons,← Bool.or_assoc]
  congr 1
  cases hs:Sg.hasB s r.old with
  | true=>rw [if_pos rfl,Sg.with_bit,Bool.true_and]
  | false=>rw [if_neg yA,Bool.false_and,Bool.or_false]
end Go.Proofs.YtopiioklkkiedaaGreatDoor
end
section
set_option maxHeartbeats 12800000
set_option maxRecDepth 100000
namespace Go.Proofs.YtopiioklkkiedaaGreatDoor
open Go Go.Lg Go.Lg.Fml Go.Lg.Fld Go.Lg.Arith
theorem cutN_len:∀ {fs:List Fl} {ns:List Nm},(cutN fs ns).length=fs.length
 | [],_=>rfl
 | f::t,ns=>by show (cutN t (ns.drop f.n)).length+1=t.length+1;rw [cutN_len]
theorem cut_at:∀ {fs:List Fl} {ns:List Nm} {i:Nat} {f:Fl},fs[i]? = some f→(cutN fs ns)[i]? = some ((ns.drop (sumC (fs.take i))).take f.n)
 | g::t,ns,0,f,h=>by
  simp only [List.getElem?_cons_zero,Option.some.injEq] at h
  subst h
  rfl
 | g::t,ns,i+1,f,h=>by
  simp only [List.getElem?_cons_succ] at h
  have:=cut_at (ns:=ns.drop g.n) h
  show (cutN t (ns.drop g.n))[i]? = _
  rw [this,List.drop_drop]
  have e:sumC ((g::t).take (i+1))=g.n+sumC (t.take i):=by simp [sumC]
  rw [e]
 | [],_,_,_,h=>by simp at h
theorem cut_mem {fs:List Fl} {ns:List Nm} {l:List Nm} (h:l∈cutN fs ns):∀ u∈l,u∈ns:=fun u hu=>by
 obtain ⟨i,hi⟩:=List.mem_iff_getElem?.1 h
 have hl:=(wl hi)
 rw [cutN_len] at hl
 rw [cut_at (cU hl)] at hi
 cases hi
 exact List.mem_of_mem_drop (List.mem_of_mem_take hu)
theorem sum_take {fs:List Fl} {i:Nat} {f:Fl} (h:fs[i]? = some f):sumC (fs.take i)+f.n≤sumC fs:=by
 have e:sumC fs=sumC (fs.take (i+1))+sumC (fs.drop (i+1)):=by
  unfold sumC
  rw [← List.sum_append_nat,← dE,List.take_append_drop]
 rw [e,take_snoc h,sum_snoc]
 omega
theorem fit_all {fs:List Fl} {ns:List Nm} (h:fitErr fs ns=0):layErr fs=0∧ns.length=sumC fs∧∀ (j:Nat) (e:Int×Nat) (n:Nm),(elemsAt 0 fs)[j]? = some e→ns[j]? = some n→fitB e.1 n.1 n.2=true:=by
 unfold fitErr at h
 by_cases h1:layErr fs=0
 ·rw [if_pos h1] at h
  by_cases h2:(elemsAt 0 fs).length=ns.length
  ·rw [if_pos h2] at h
   by_cases h3:fitAll (elemsAt 0 fs) ns=true
   ·refine ⟨h1,by rw [← h2,elems_sum],fun j e n he hn => ?_⟩
    unfold fitAll at h3
    exact List.all_eq_true.1 h3 (e,n) (cZ (by rw [List.getElem?_zip_eq_some];exact ⟨he,hn⟩))
   ·rw [if_neg h3] at h;cases h
  ·rw [if_neg h2] at h;cases h
 ·rw [if_neg h1] at h;exact absurd h h1
theorem mem_steps:∀ {gs:List Fl} {ex:List (List Ins)} {q:Sp},q∈stepsN gs ex→∃ i:Nat,gs[i]? = some q.1∧ex[i]? = some q.2.1∧q.2.2<q.1.n
 | f::gs,c::ex,q,h=>by
  simp only [stepsN,List.mem_append] at h
  rcases h with h|h
  ·unfold fldS at h
   obtain ⟨k,hk,rfl⟩:=List.mem_map.1 h
   exact ⟨0,O,O,List.mem_range.1 hk⟩
  ·obtain ⟨i,h1,h2,h3⟩:=mem_steps h
   exact ⟨i+1,h1,h2,h3⟩
 | [],_,_,h=>by simp [stepsN] at h
 | _::_,[],_,h=>by simp [stepsN] at h
section
variable {c:Cp} (hn:firstE (fldE c.fs) 0 c.fs.length=0) {ns:List Nm} (h:fitErr c.fs ns=0)
include hn h
end
section
variable {a b:Sc} (hc:b.cs=a.cs) (ha:chkE a=0) (hb:chkE b=0) (hv:a.ver<b.ver)
include hc ha hb hv
end
end Go.Proofs.YtopiioklkkiedaaGreatDoor
end
section
set_option maxHeartbeats 12800000
set_option maxRecDepth 100000
namespace Go.Lg.Sg
open Go Go.Lg Go.Lg.Fld
theorem nz_bit {x:Nat}:x≠0↔∃ j,x.testBit j=true:=by
 constructor
 ·intro h
  by_cases he:∃ j,x.testBit j=true
  ·exact he
  ·refine absurd (Nat.eq_of_testBit_eq fun i => ?_) h
   rw [Nat.zero_testBit]
   cases hb:x.testBit i with
   | false=>rfl
   | true=>exact absurd ⟨i,hb⟩ he
 ·rintro ⟨j,hj⟩ rfl
  rw [Nat.zero_testBit] at hj
  cases hj
theorem ne0_is {x:Nat} {b:Bool} (h:b=true↔∃ j,x.testBit j=true):((((x:Nat):Int) != 0))=b:=by
 rw [Bool.eq_iff_iff,bne_iff_ne,h,← nz_bit]
 omega
theorem andN_32 {a b:Nat} (ha:a<4294967296) (hb:b<4294967296):bits .and .u32 ((a:Nat):Int) ((b:Nat):Int)=((a &&& b:Nat):Int):=u32_and_nat _ _ ha hb
theorem orN_32 {a b:Nat} (ha:a<4294967296) (hb:b<4294967296):bits .or .u32 ((a:Nat):Int) ((b:Nat):Int)=((a ||| b:Nat):Int):=u32_or_nat _ _ ha hb
def bitN (id:Int):Nat:=if okJ id=true then 2^id.toNat else 0
theorem bitN_bit (id:Int) (j:Nat):(bitN id).testBit j=(okJ id&&decide (id.toNat=j)):=by
 unfold bitN
 by_cases h:okJ id=true
 ·rw [if_pos h,h,Nat.testBit_two_pow,Bool.true_and]
 ·rw [if_neg h,show okJ id=false by simpa using h,Nat.zero_testBit,Bool.false_and]
theorem bitN_lt (id:Int):bitN id<4294967296:=lt32_of_bits fun j hj=>by
 rw [bitN_bit]
 by_cases ho:okJ id=true
 ·have:=okI_iff.1 ho
  rw [cK (by omega),Bool.and_false]
 ·rw [show okJ id=false by simpa using ho,Bool.false_and]
theorem shl_bit {id:Int} (h:okJ id=true):IntKind.u32.wrap (1*2^(min id.toNat IntKind.u32.bits))=((bitN id:Nat):Int):=by
 have hi:=okI_iff.1 h
 have hm:min id.toNat IntKind.u32.bits=id.toNat:=by
  show min id.toNat 32=id.toNat
  omega
 have hb:=bitN_lt id
 have he:bitN id=2^id.toNat:=if_pos h
 rw [he] at hb ⊢
 rw [hm,Int.one_mul,show ((2:Int)^id.toNat)=((2^id.toNat:Nat):Int) by rw [Int.natCast_pow];rfl]
 exact wrap_u32 ⟨Int.natCast_nonneg _,by omega⟩
theorem has_bits (a:Nat) (id:Int):((((a &&& bitN id:Nat):Int)) != 0)=hasB a id:=by
 refine ne0_is ?_
 unfold hasB
 constructor
 ·intro h
  rw [Bool.and_eq_true] at h
  exact ⟨id.toNat,by rw [Nat.testBit_and,bitN_bit,h.1,h.2,cL rfl];rfl⟩
 ·rintro ⟨j,hj⟩
  rw [Nat.testBit_and,bitN_bit,Bool.and_eq_true,Bool.and_eq_true] at hj
  obtain ⟨h1,h2,h3⟩:=hj
  rw [h2,of_decide_eq_true h3,h1];rfl
theorem with_bits (a:Nat) (id:Int):a ||| bitN id=withN a id:=by
 unfold bitN withN
 by_cases h:okJ id=true
 ·rw [if_pos h,if_pos h]
 ·rw [if_neg h,if_neg h,Nat.or_zero]
def Unread (s:List UInt8) (ids:List Int) (l:List UInt8):Prop:=(runS ([],-1) s).bind sepS=(runS (ids,-1) l).bind sepS
def cutM (s:List UInt8):Bool:=decide (0≤Lib.indexByte s 43)
end Go.Lg.Sg
end
section
set_option maxHeartbeats 12800000
set_option maxRecDepth 100000
namespace Go.Lg.Sg
open Go Go.Lg Go.Lg.Fld
theorem okI_eq (id:Int):okJ id=(decide (1≤id)&&decide (id≤24)):=rfl
end Go.Lg.Sg
namespace Go.Proofs.YtopiioklkkiedaaGreatDoor
open Go Go.Lg Go.Lg.Fld Go.Lg.Sg
set_option maxRecDepth 100000
variable (X:Nat→Option Obj)
theorem zIsId (id:Int):PSpec Tryz.prog X 96 [Ln .i64 id] (Lb (okJ id)):=by
 refine cC Tryz.func96 rfl y5 rfl rfl ?_
 intro C
 by_cases h1:1≤id
 ·rw [okI_eq,cL h1,Bool.true_and]
  (refine aA<|rgN<|kas O<|aB<|aA<|rgN<|kmv O<|bD O O (cL h1) dO<|kmv O<|gmv O O O<|K.leq O O (r:=decide (id≤24)) O (dP O O) ?_;refine kpt O O<|kas O<|aB<|aI ?_)
  exact y6
 ·rw [okI_eq,cK h1,Bool.false_and]
  (refine aA<|rgN<|kas O<|aB<|aA<|rgN<|kmv O<|bD O O (cK h1) dO<|kmv O<|aC O O O<|aC O O O<|kpf O O<|kas O<|aB ?_;refine aI ?_)
  exact y6
theorem zBit (id:Int):PSpec Tryz.prog X 63 [Ln .i64 id] (Ln .u32 (bitN id:Nat)):=by
 have hI:=zIsId X id
 refine cC Tryz.func63 rfl y5 rfl rfl ?_
 intro C
 cases h:okJ id with
 | false =>
  have hz:bitN id=0:=if_neg (by rw [h];decide)
  rw [h] at hI
  rw [hz]
  (refine aA<|rgN<|kas O<|aB<|aA<|aA<|rgN<|kmv O<|kca O O (hI)<|aV O O dO<|aB<|aE O ?_;refine aA<|rgN<|kas O<|aB<|aI ?_)
  exact y6
 | true =>
  have hs:=shl_bit h
  have h0:=(okI_iff.1 h).1
  rw [h] at hI
  generalize bitN id=b at *
  (refine aA<|rgN<|kas O<|aB<|aA<|aA<|rgN<|kmv O<|kca O O (hI)<|aV O O dO<|aB<|aF O ?_;refine aH ?_;refine aA<|rgN<|kmv O<|K.shl O O y3 hs dO<|kas O<|aB<|aI ?_)
  exact y6
section
variable (a b:Nat) (ha:a<4294967296) (hb:b<4294967296) (id:Int)
include ha
theorem gHas:PSpec Tryz.prog X 28 [Ln .u32 (a:Nat),Ln .i64 id] (Lb (hasB a id)):=by
 have h1:=andN_32 ha (bitN_lt id)
 have h2:=has_bits a id
 have hB:=zBit X id
 refine cC Tryz.func28 rfl y5 rfl rfl ?_
 intro C
 generalize a &&& bitN id=c at *
 generalize bitN id=d at *
 (refine aA<|rgN<|kas O<|aB<|aA<|rgN<|kmv O<|kmv O<|kca O O (hB)<|K.bitop y21 O O h1 dO<|kne O O h2<|kas O<|aB<|aI ?_)
 exact y6
theorem gWith:PSpec Tryz.prog X 52 [Ln .u32 (a:Nat),Ln .i64 id] (Ln .u32 (withN a id:Nat)):=by
 have h1:=orN_32 ha (bitN_lt id)
 rw [with_bits] at h1
 have hB:=zBit X id
 refine cC Tryz.func52 rfl y5 rfl rfl ?_
 intro C
 generalize withN a id=c at *
 generalize bitN id=d at *
 (refine aA<|rgN<|kas O<|aB<|aA<|rgN<|kmv O<|kmv O<|kca O O (hB)<|K.bitop y21 O O h1 dO<|kas O<|aB<|aI ?_)
 exact y6
end
end Go.Proofs.YtopiioklkkiedaaGreatDoor
end
section
set_option maxHeartbeats 12800000
set_option maxRecDepth 100000
namespace Go.Lg.Col
open Go Go.Lg Go.RowKit
abbrev Ext (X Y:Nat→Option Obj):Prop := ∀ b o,X b=some o→Y b=some o
end Go.Lg.Col
namespace Go.Proofs.YtopiioklkkiedaaGreatDoor
open Go Go.Lg Go.Lg.Col
set_option maxRecDepth 100000
variable (X:Nat→Option Obj)
end Go.Proofs.YtopiioklkkiedaaGreatDoor
end
section
set_option maxHeartbeats 12800000
set_option maxRecDepth 100000
namespace Go.Proofs.YtopiioklkkiedaaGreatDoor
open Go Go.Lg Go.Lg.Fml Go.Lg.Fld Go.Lg.Arith
theorem sigN_lt (rs:List Rl) (s:Nat):sigN rs s<33554432:=by
 refine Nat.lt_pow_two_of_testBit (n:=25) _ fun i hi => ?_
 rw [sigN_bit,List.any_eq_false]
 intro r _ hb
 rw [Bool.and_eq_true,Bool.and_eq_true] at hb
 have:=Sg.okI_iff.1 hb.2.1
 have:=of_decide_eq_true hb.2.2
 omega
end Go.Proofs.YtopiioklkkiedaaGreatDoor
end
section
set_option maxHeartbeats 12800000
set_option maxRecDepth 100000
namespace Go.Proofs.YtopiioklkkiedaaGreatDoor
open Go Go.Lg Go.Lg.Fml Go.Lg.Fld Go.Lg.Arith
set_option maxRecDepth 100000
theorem InsIn.six {X:Nat→Option Obj} {ad:Option Addr} {l:List Ins} (h:InsIn X ad l) {i:Nat} {x:Ins} (hx:l[i]? = some x):
  ∃ (blk off:Nat) (arr:Array Value) (el:TypeId) (fr:Nat×Nat),ad=some ⟨blk,off,none⟩∧X blk=some (.cells arr el fr)∧off+i*6+6≤arr.size∧((arr.toList.drop (off+i*6)).take 6).map CV.val=(insV x).map CV.val∧arr[off+i*6]? = some (.int .i64 x.op) ∧
   arr[off+i*6+1]? = some (.int .i64 x.a)∧arr[off+i*6+2]? = some (.int .i64 x.b)∧((arr.toList.drop (off+i*6+3)).take 3).map CV.val=[.val (.bool x.k.1),.val (.int .u64 (x.k.2/18446744073709551616)),.val (.int .u64 (x.k.2%18446744073709551616))]:=by
 obtain ⟨blk,off,arr,el,fr,h1,h2,h3,h4⟩:=h.rows i (insV x) (by rw [dI,hx];rfl)
 have key:∀ j,j<6→arr[off+i*6+j]? = (insV x)[j]? := fun j hj=>by
  rw [← h4,List.getElem?_take,if_pos hj,List.getElem?_drop,Array.getElem?_toList]
 refine ⟨blk,off,arr,el,fr,h1,h2,h3,by rw [h4],key 0 yA,key 1 yA,key 2 yA,?_⟩
 have:(arr.toList.drop (off+i*6+3)).take 3=(((arr.toList.drop (off+i*6)).take 6).drop 3).take 3:=by
  rw [List.drop_take,List.take_take,List.drop_drop];rfl
 rw [this,h4];rfl
abbrev flB (k:Nat) (f:Fl):Nat×Option Box:=(k,some ⟨83,f.vals.map .val,false⟩)
theorem _root_.Go.Lg.Fld.FieldsIn.cells {X:Nat→Option Obj} {ad:Option Addr} {fs:List Fl} (h:FieldsIn X ad fs) {i:Nat} {f:Fl} (hf:fs[i]? = some f):
  ∃ (blk off:Nat) (arr:Array Value) (el:TypeId) (fr:Nat×Nat),ad=some ⟨blk,off,none⟩∧X blk=some (.cells arr el fr)∧off+i*3+3≤arr.size∧((arr.toList.drop (off+i*3)).take 3).map CV.val=f.vals.map CV.val ∧
   arr[off+i*3]? = some (.string ⟨f.nm.toArray⟩)∧arr[off+i*3+1]? = some (.int .i64 f.kind)∧arr[off+i*3+2]? = some (.int .i64 f.count):=by
 obtain ⟨blk,off,arr,el,fr,h1,h2,h3,h4⟩:=h.rows i f.vals (by rw [dI,hf];rfl)
 obtain ⟨g1,g2,g3⟩:=three_at h4
 exact ⟨blk,off,arr,el,fr,h1,h2,h3,by rw [h4],g1,g2,g3⟩
section
variable {fs:List Fl} {f:Fl} {x:Ins}
theorem findE_skip (h:¬(x.op=2∨x.op=3)):findE fs f x=0:=if_neg h
theorem findE_out (h:x.op=2∨x.op=3) (ha:fs[x.a.toNat]? = none):findE fs f x=3:=by unfold findE;rw [if_pos h,ha]
theorem findE_at (h:x.op=2∨x.op=3) {g:Fl} (ha:fs[x.a.toNat]? = some g):findE fs f x=if (x.op=2∧g.count≤x.b)∨(x.op=3∧g.count<f.count) then 3 else if (g.kind=10)=(f.kind=10) then 0 else 8:=by unfold findE;rw [if_pos h,ha]
end
theorem beq_dec (a b:Int):(a==b)=decide (a=b):=by by_cases h:a=b<;>simp [h]
variable (X:Nat→Option Obj)
set_option maxHeartbeats 6400000 in
theorem rFormula13 (c:Cp) (f:Fl) (l:List Ins) (cad ad:Option Addr) (ccap cap:Nat) (hF:FieldsIn X cad c.fs) (hin:InsIn X ad l) (hbig:l.length<4611686018427387904) (hfl:c.fs.length<4611686018427387904):
  PSpec Tryz.prog X 72 [Cx c cad ccap,Fx f,Lx ad l.length cap] (Ln .i64 (fmE c.fs f l)):=by
 have hC:=rCheck11 X l ad cap hin hbig
 refine cC Tryz.func72 rfl y5 rfl rfl ?_
 intro C
 unfold fmE
 by_cases h0:chkX l=0
 case neg =>
  rw [if_neg h0]
  generalize chkX l=e at *
  (refine aA<|rgN<|aL O O O dO<|aL O O O dO<|kas O<|aB<|aA<|aA<|rgN<|kmv O<|kca O O (hC)<|kas O<|aB<|aA ?_;refine rgN<|kmv O<|kne O O (cP h0)<|aB<|aE O ?_;refine aA<|rgN<|kmv O<|kas O<|aB<|aI ?_)
  exact y6
 rw [h0] at hC
 have hchk:=chkX_ok h0
 rw [if_pos h0]
 have hfin:∀ e,seqE (findE c.fs f) l=e→e≠0→(if seqE (findE c.fs f) l=0 then refE f l else seqE (findE c.fs f) l)=e:=fun e h1 h2=>by rw [h1,if_neg h2]
 (refine aA<|rgN<|aL O O O dO<|aL O O O dO<|kas O<|aB<|aA<|aA<|rgN<|kmv O<|kca O O (hC)<|kas O<|aB<|aA ?_;refine rgN<|kmv O<|kne O O (r:=false) O<|aB<|aF O ?_;refine aH ?_;refine aA<|rgN<|kfa O O ?_;refine kl1 O O O<|keq O O (r:=decide (f.kind=10)) (beq_dec f.kind 10)<|kas O<|aB<|aA<|aA<|rgN<|kas O<|aB<|aG ?_)
 refine cG (fun m σ=>∃ i:Nat,i≤l.length∧m=l.length-i∧(∀ j,0≤j→j<i→atE (findE c.fs f) l j=0)∧σ=⟨[(2,Lx ad l.length cap),(3,Lp 3),(4,Lp 4),(8,Lb (decide (f.kind=10))),(9,Ln .i64 (i:Nat))],[flB 4 f,cpB 3 c cad ccap],X⟩) l.length
  ⟨_,Le.of y10 yE y2 y2 y0,0,by omega,by omega,fun j _ hj=>absurd hj y3,rfl⟩ ?_
 rintro m σ ⟨i,hi,rfl,hpre,rfl⟩
 by_cases hlt:i<l.length
 case neg =>
  have e:i=l.length:=by omega
  subst e
  have hs:seqE (findE c.fs f) l=0:=firstE_none fun j h1 h2=>hpre j h1 y3
  rw [if_pos hs]
  by_cases hk:f.kind=10
  case neg =>
   have hr:refE f l=0:=by
    unfold refE
    split
    ·rw [if_neg (fun h=>hk h.1)]
    ·rw [if_neg hk]
   rw [hr]
   rw [cK hk]
   (refine aA<|aA<|rgN<|kmv O<|kmv O<|aQ O bZ O dO ?_;refine klt O O (cK y3)<|aB<|aF O ?_;refine aJ<|aA<|aA<|rgN<|kmv O<|kmv O<|aC O O O<|aC O O O<|aC O O O<|aC O O O<|aD O O<|aD O O<|aD O O<|aD O O ?_;refine aD O O<|aC O O O<|aC O O O<|aD O O<|aD O O<|aD O O<|aD O O<|aD O O<|aD O O<|aD O O<|aD O O<|aD O O<|aD O O<|aD O O ?_;refine aD O O<|aD O O<|aC O O O<|kpf O O<|aB<|aF O ?_;refine aH ?_;refine aA<|rgN<|kas O<|aB<|aI ?_)
   exact y6
  rw [cL hk]
  by_cases h1:l.length=1
  case neg =>
   have hr:refE f l=8:=by
    unfold refE
    split
    ·exact absurd rfl h1
    ·rw [if_pos hk]
   rw [hr]
   (refine aA<|aA<|rgN<|kmv O<|kmv O<|aQ O bZ O dO ?_;refine klt O O (cK y3)<|aB<|aF O ?_;refine aJ<|aA<|aA<|rgN<|kmv O<|kmv O<|gmv O O O<|aQ O bZ O (dP O O) ?_;refine aX O O (r:=true) (cP y3) (dP O O) ?_;refine gmv O O O<|aC O O O<|aC O O O<|aC O O O<|aC O O O<|aC O O O<|bF O O (dP O O) ?_;refine gmv O O O<|aC O O O<|aC O O O<|aC O O O<|aC O O O<|aC O O O<|aC O O O<|aD O O<|aD O O<|aD O O<|aD O O<|aD O O<|aD O O<|aC O O O ?_;refine bF O O (dP O O) ?_;refine kpt O O<|aB<|aE O ?_;refine aA<|rgN<|kas O<|aB<|aI ?_)
   exact y6
  obtain ⟨x,hx⟩:∃ x,l[0]? = some x:=wg y3
  have hl1:l=[x]:=by
   match l,h1,hx with
   | [y],_,hx=>simp only [List.getElem?_cons_zero,Option.some.injEq] at hx;rw [hx]
  obtain ⟨blk,off,arr,el,fr,rfl,hX,hsz,hcs,g0,g1,g2,g3⟩:=hin.six hx
  obtain ⟨_,_,_,hk2⟩:=hin.small x (cZ hx)
  have hr:refE f l=if x.op=4∨(x.op=1∧x.k≠(false,0)) then 8 else 0:=by
   rw [hl1]
   show (if f.kind=10∧(x.op=4∨(x.op=1∧x.k≠(false,0))) then (8:Int) else 0)=_
   by_cases hb:x.op=4∨(x.op=1∧x.k≠(false,0))
   ·rw [if_pos hb,if_pos ⟨hk,hb⟩]
   ·rw [if_neg hb,if_neg (fun h=>hb h.2)]
  rw [hr]
  have hsz3:off+0*6+3+3≤arr.size:=by omega
  have h00:off+Int.toNat 0*6=off+0*6:=by simp
  by_cases c4:x.op=4
  ·rw [if_pos (.inl c4)]
   (refine aA<|aA<|rgN<|kmv O<|kmv O<|aQ O bZ O dO ?_;refine klt O O (cK y3)<|aB<|aF O ?_;refine aJ<|aA<|aA<|rgN<|kmv O<|kmv O<|gmv O O O<|aQ O bZ O (dP O O) ?_;refine aX O O (r:=false) (cO y3) (dP O O) ?_;refine gmv O O O<|gmv O O O<|aR O O bZ y3 h00 (dP O O) ?_;refine bH O O (dP O O) ?_;refine aW O hX O g0 (dP O O) ?_;refine bC O O (r:=true) (cR c4) (dP O O) ?_;refine bO O O (dP O O) ?_;refine gmv O O O<|aC O O O<|aC O O O<|aC O O O<|aC O O O<|aC O O O<|aC O O O<|aD O O<|aD O O<|aD O O<|aD O O<|aD O O<|aD O O<|aC O O O ?_;refine bF O O (dP O O) ?_;refine kpt O O<|aB<|aE O ?_;refine aA<|rgN<|kas O<|aB<|aI ?_)
   exact y6
  by_cases c1:x.op=1
  case neg =>
   rw [if_neg (fun h=>h.elim c4 fun h=>c1 h.1)]
   (refine aA<|aA<|rgN<|kmv O<|kmv O<|aQ O bZ O dO ?_;refine klt O O (cK y3)<|aB<|aF O ?_;refine aJ<|aA<|aA<|rgN<|kmv O<|kmv O<|gmv O O O<|aQ O bZ O (dP O O) ?_;refine aX O O (r:=false) (cO y3) (dP O O) ?_;refine gmv O O O<|gmv O O O<|aR O O bZ y3 h00 (dP O O) ?_;refine bH O O (dP O O) ?_;refine aW O hX O g0 (dP O O) ?_;refine bC O O (r:=false) (cN c4) (dP O O) ?_;refine bO O O (dP O O) ?_;refine gmv O O O<|gmv O O O<|aR O O bZ y3 h00 (dP O O) ?_;refine bH O O (dP O O) ?_;refine aW O hX O g0 (dP O O) ?_;refine bC O O (r:=false) (cN c1) (dP O O) ?_;refine gmv O O O<|aC O O O<|aC O O O<|aC O O O<|aC O O O<|aC O O O<|aC O O O<|bO O O (dP O O) ?_;refine bO O O (dP O O) ?_;refine kpt O O<|aB<|aF O ?_;refine aH ?_;refine aA<|rgN<|kas O<|aB<|aI ?_)
   exact y6
  obtain ⟨op,a,b,kb,kN⟩:=x
  simp only at hk2 g0 g1 g2 g3 hcs c4 c1 ⊢
  have q:=eqI (b:=kb) (b':=false) (h:=kN/18446744073709551616) (h':=0) (l:=kN%18446744073709551616) (l':=0) _ (eqZ hk2)
  by_cases hz:((kb,kN):Nm)=(false,0)
  ·rw [if_neg (fun h=>h.elim c4 fun h=>h.2 hz)]
   rw [cL hz] at q
   ((refine aA<|aA<|rgN<|kmv O<|kmv O<|aQ O bZ O dO ?_;refine klt O O (cK y3)<|aB<|aF O ?_;refine aJ<|aA<|aA<|rgN<|kmv O<|kmv O<|gmv O O O<|aQ O bZ O (dP O O) ?_;refine aX O O (r:=false) (cO y3) (dP O O) ?_;refine gmv O O O<|gmv O O O<|aR O O bZ y3 h00 (dP O O) ?_;refine bH O O (dP O O) ?_;refine aW O hX O g0 (dP O O) ?_;refine bC O O (r:=false) (cN c4) (dP O O) ?_;refine bO O O (dP O O) ?_;refine gmv O O O<|gmv O O O<|aR O O bZ y3 h00 (dP O O) ?_;refine bH O O (dP O O) ?_;refine aW O hX O g0 (dP O O) ?_);(refine bC O O (r:=true) (cR c1) (dP O O) ?_;refine gmv O O O<|gmv O O O<|aR O O bZ y3 h00 (dP O O) ?_;refine bH O O (dP O O) ?_;refine aY O hX y5 hsz3 g3 (dP O O) ?_;refine aT O O y2 y28 (dP O O) ?_;refine bQ O O O O y5 q (.inr ⟨O,O⟩) (dP O O) ?_;refine bF O O (dP O O) ?_;refine bO O O (dP O O) ?_;refine kpt O O<|aB<|aF O ?_;refine aH ?_;refine aA<|rgN<|kas O<|aB<|aI ?_))
   exact y6
  ·rw [if_pos (.inr ⟨c1,hz⟩)]
   rw [cK hz] at q
   ((refine aA<|aA<|rgN<|kmv O<|kmv O<|aQ O bZ O dO ?_;refine klt O O (cK y3)<|aB<|aF O ?_;refine aJ<|aA<|aA<|rgN<|kmv O<|kmv O<|gmv O O O<|aQ O bZ O (dP O O) ?_;refine aX O O (r:=false) (cO y3) (dP O O) ?_;refine gmv O O O<|gmv O O O<|aR O O bZ y3 h00 (dP O O) ?_;refine bH O O (dP O O) ?_;refine aW O hX O g0 (dP O O) ?_;refine bC O O (r:=false) (cN c4) (dP O O) ?_;refine bO O O (dP O O) ?_;refine gmv O O O<|gmv O O O<|aR O O bZ y3 h00 (dP O O) ?_;refine bH O O (dP O O) ?_;refine aW O hX O g0 (dP O O) ?_);(refine bC O O (r:=true) (cR c1) (dP O O) ?_;refine gmv O O O<|gmv O O O<|aR O O bZ y3 h00 (dP O O) ?_;refine bH O O (dP O O) ?_;refine aY O hX y5 hsz3 g3 (dP O O) ?_;refine aT O O y2 y28 (dP O O) ?_;refine bQ O O O O y5 q (.inr ⟨O,O⟩) (dP O O) ?_;refine bF O O (dP O O) ?_;refine bO O O (dP O O) ?_;refine kpt O O<|aB<|aE O ?_;refine aA<|rgN<|kas O<|aB<|aI ?_))
   exact y6
 obtain ⟨x,hx⟩:=wg hlt
 obtain ⟨blk,off,arr,el,fr,rfl,hX,hsz,hcs,_⟩:=hin.at hx
 have hio:=wo off i 6
 obtain ⟨_,_,⟨ha0,_⟩,_⟩:=okI_facts (hchk x (cZ hx))
 have hadd:IntKind.i64.wrap ((i:Int)+1)=((i+1:Nat):Int):=by rw [cE y3];omega
 have fin:∀ e,findE c.fs f x=e→e≠0→(if seqE (findE c.fs f) l=0 then refE f l else seqE (findE c.fs f) l)=e:=fun e he h0=>hfin e (firstE_some hpre (Nat.zero_le _) y3 (by rw [atE_at hx];exact he) h0) h0
 have next:findE c.fs f x=0→∀ j,0≤j→j<i+1→atE (findE c.fs f) l j=0:=fun he j h0 hj=>by
  by_cases e:j=i
  ·rw [e,atE_at hx];exact he
  ·exact hpre j h0 y3
 by_cases c23:x.op=2∨x.op=3
 case neg =>
  (refine aA<|aA<|rgN<|kmv O<|kmv O<|aQ O bZ O dO ?_;refine klt O O (cL y3)<|aB<|aE O ?_;refine aH ?_;refine aA<|aG<|aA<|rgN<|kmv O<|kmv O<|aR O O bZ y3 hio dO<|aY O hX y5 hsz hcs dO<|aP O dO ?_;refine aM O O O O O O dO ?_;refine aB<|aA<|aA<|rgN<|kfa O O ?_;refine kl1 O O O<|kne O O (r:=true) (cP y3)<|kmv O<|aN O O (dP O O) ?_;refine aO O O O (dP O O) ?_;refine aX O O (r:=true) (cP y3) (dP O O) ?_;refine kpt O O<|aB<|aE O ?_;refine aJ<|rgN<|kmv O<|kad O O hadd<|kas O<|aB ?_)
  exact ⟨_,_,by omega,Le.of y10 yE y2 y2 y0,i+1,by omega,O,next (findE_skip c23),O⟩
 cases hg:c.fs[x.a.toNat]? with
 | none =>
  have hge:=List.getElem?_eq_none_iff.1 hg
  rw [fin 3 (findE_out c23 hg) (by decide)]
  rcases c23 with c2|c3
  ·(refine aA<|aA<|rgN<|kmv O<|kmv O<|aQ O bZ O dO ?_;refine klt O O (cL y3)<|aB<|aE O ?_;refine aH ?_;refine aA<|aG<|aA<|rgN<|kmv O<|kmv O<|aR O O bZ y3 hio dO<|aY O hX y5 hsz hcs dO<|aP O dO ?_;refine aM O O O O O O dO ?_;refine aB<|aA<|aA<|rgN<|kfa O O ?_;refine kl1 O O O<|kne O O (r:=false) (cO c2)<|kmv O<|aC O O O<|aC O O O<|aC O O O<|kpf O O<|aB<|aF O ?_;refine aH ?_;refine aA<|aA<|rgN<|kfa O O ?_;refine kl1 O O O<|kfa O O ?_;refine kl1 O O O<|aQ O bZ O dO ?_;refine bD O O (cL y3) dO<|aB<|aE O ?_;refine aA<|rgN<|kas O<|aB<|aI ?_)
   exact y6
  ·(refine aA<|aA<|rgN<|kmv O<|kmv O<|aQ O bZ O dO ?_;refine klt O O (cL y3)<|aB<|aE O ?_;refine aH ?_;refine aA<|aG<|aA<|rgN<|kmv O<|kmv O<|aR O O bZ y3 hio dO<|aY O hX y5 hsz hcs dO<|aP O dO ?_;refine aM O O O O O O dO ?_;refine aB<|aA<|aA<|rgN<|kfa O O ?_;refine kl1 O O O<|kne O O (r:=true) (cP y3)<|kmv O<|aN O O (dP O O) ?_;refine aO O O O (dP O O) ?_;refine aX O O (r:=false) (cO c3) (dP O O) ?_;refine kpt O O<|aB<|aF O ?_;refine aH ?_;refine aA<|aA<|rgN<|kfa O O ?_;refine kl1 O O O<|kfa O O ?_;refine kl1 O O O<|aQ O bZ O dO ?_;refine bD O O (cL y3) dO<|aB<|aE O ?_;refine aA<|rgN<|kas O<|aB<|aI ?_)
   exact y6
 | some g =>
 have hlg:=(wl hg)
 have hE:=findE_at (f:=f) c23 hg
 obtain ⟨fb,fo,farr,fel,ffr,rfl,hFX,hFz,hFc,_⟩:=hF.cells hg
 have hio3:fo+Int.toNat x.a*3=fo+x.a.toNat*3:=rfl
 rcases c23 with c2|c3
 ·by_cases hb:g.count≤x.b
  ·rw [if_pos (.inl ⟨c2,hb⟩)] at hE
   rw [fin 3 hE (by decide)]
   ((refine aA<|aA<|rgN<|kmv O<|kmv O<|aQ O bZ O dO ?_;refine klt O O (cL y3)<|aB<|aE O ?_;refine aH ?_;refine aA<|aG<|aA<|rgN<|kmv O<|kmv O<|aR O O bZ y3 hio dO<|aY O hX y5 hsz hcs dO<|aP O dO ?_;refine aM O O O O O O dO ?_;refine aB<|aA<|aA<|rgN<|kfa O O ?_;refine kl1 O O O<|kne O O (r:=false) (cO c2)<|kmv O<|aC O O O<|aC O O O<|aC O O O<|kpf O O<|aB<|aF O ?_;refine aH ?_;refine aA<|aA<|rgN<|kfa O O ?_;refine kl1 O O O<|kfa O O ?_;refine kl1 O O O<|aQ O bZ O dO ?_;refine bD O O (cK y3) dO<|aB<|aF O ?_);(refine aH ?_;refine aA<|rgN<|kfa O O ?_;refine kl1 O O O<|kfa O O ?_;refine kl1 O O O<|aR O O bZ y3 hio3 dO<|aY O hFX y5 hFz hFc dO<|aP O dO ?_;refine aM O O O O O O dO ?_;refine aB<|aA<|aA<|rgN<|kfa O O ?_;refine kl1 O O O<|keq O O (r:=true) (cR c2)<|kmv O<|aN O O (dP O O) ?_;refine aO O O O (dP O O) ?_;refine aN O O (dP O O) ?_;refine aO O O O (dP O O) ?_;refine bD O O (cL y3) (dP O O) ?_;refine kpt O O<|kmv O<|aC O O O<|aC O O O<|aC O O O<|aC O O O<|aD O O<|aD O O<|aD O O<|aD O O<|aD O O<|aC O O O<|kpt O O<|aB ?_);(refine aE O ?_;refine aA<|rgN<|kas O<|aB<|aI ?_))
   exact y6
  rw [if_neg (by omega)] at hE
  by_cases hk:f.kind=10
  ·rw [cL hk]
   by_cases hm:g.kind=10
   ·rw [if_pos (by rw [eq_iff_iff];exact ⟨fun _=>hk,fun _=>hm⟩)] at hE
    ((refine aA<|aA<|rgN<|kmv O<|kmv O<|aQ O bZ O dO ?_;refine klt O O (cL y3)<|aB<|aE O ?_;refine aH ?_;refine aA<|aG<|aA<|rgN<|kmv O<|kmv O<|aR O O bZ y3 hio dO<|aY O hX y5 hsz hcs dO<|aP O dO ?_;refine aM O O O O O O dO ?_;refine aB<|aA<|aA<|rgN<|kfa O O ?_;refine kl1 O O O<|kne O O (r:=false) (cO c2)<|kmv O<|aC O O O<|aC O O O<|aC O O O<|kpf O O<|aB<|aF O ?_;refine aH ?_;refine aA<|aA<|rgN<|kfa O O ?_;refine kl1 O O O<|kfa O O ?_;refine kl1 O O O<|aQ O bZ O dO ?_;refine bD O O (cK y3) dO<|aB<|aF O ?_);(refine aH ?_;refine aA<|rgN<|kfa O O ?_;refine kl1 O O O<|kfa O O ?_;refine kl1 O O O<|aR O O bZ y3 hio3 dO<|aY O hFX y5 hFz hFc dO<|aP O dO ?_;refine aM O O O O O O dO ?_;refine aB<|aA<|aA<|rgN<|kfa O O ?_;refine kl1 O O O<|keq O O (r:=true) (cR c2)<|kmv O<|aN O O (dP O O) ?_;refine aO O O O (dP O O) ?_;refine aN O O (dP O O) ?_;refine aO O O O (dP O O) ?_;refine bD O O (cK y3) (dP O O) ?_;refine kpt O O<|kmv O<|aN O O (dP O O) ?_);(refine aO O O O (dP O O) ?_;refine bC O O (r:=false) (cN y3) (dP O O) ?_;refine gmv O O O<|aC O O O<|aC O O O<|aC O O O<|aC O O O<|aC O O O<|bO O O (dP O O) ?_;refine kpf O O<|aB<|aF O ?_;refine aH ?_;refine aA<|rgN<|kmv O<|kmv O<|aN O O (dP O O) ?_;refine aO O O O (dP O O) ?_;refine aX O O (r:=false) (cO hm) (dP O O) ?_;refine kpt O O<|kmv O<|gmv O O O<|aV O O (dP O O) ?_;refine gmv O O O<|aC O O O<|aC O O O<|aC O O O<|bO O O (dP O O) ?_;refine kpf O O<|aB<|aF O ?_;refine aH ?_);(refine rgN<|kmv O<|kad O O hadd<|kas O<|aB ?_))
    exact ⟨_,_,by omega,Le.of y10 yE y2 y2 y0,i+1,by omega,O,next hE,O⟩
   ·rw [if_neg (fun h=>hm (h.mpr hk))] at hE
    rw [fin 8 hE (by decide)]
    ((refine aA<|aA<|rgN<|kmv O<|kmv O<|aQ O bZ O dO ?_;refine klt O O (cL y3)<|aB<|aE O ?_;refine aH ?_;refine aA<|aG<|aA<|rgN<|kmv O<|kmv O<|aR O O bZ y3 hio dO<|aY O hX y5 hsz hcs dO<|aP O dO ?_;refine aM O O O O O O dO ?_;refine aB<|aA<|aA<|rgN<|kfa O O ?_;refine kl1 O O O<|kne O O (r:=false) (cO c2)<|kmv O<|aC O O O<|aC O O O<|aC O O O<|kpf O O<|aB<|aF O ?_;refine aH ?_;refine aA<|aA<|rgN<|kfa O O ?_;refine kl1 O O O<|kfa O O ?_;refine kl1 O O O<|aQ O bZ O dO ?_;refine bD O O (cK y3) dO<|aB<|aF O ?_);(refine aH ?_;refine aA<|rgN<|kfa O O ?_;refine kl1 O O O<|kfa O O ?_;refine kl1 O O O<|aR O O bZ y3 hio3 dO<|aY O hFX y5 hFz hFc dO<|aP O dO ?_;refine aM O O O O O O dO ?_;refine aB<|aA<|aA<|rgN<|kfa O O ?_;refine kl1 O O O<|keq O O (r:=true) (cR c2)<|kmv O<|aN O O (dP O O) ?_;refine aO O O O (dP O O) ?_;refine aN O O (dP O O) ?_;refine aO O O O (dP O O) ?_;refine bD O O (cK y3) (dP O O) ?_;refine kpt O O<|kmv O<|aN O O (dP O O) ?_);(refine aO O O O (dP O O) ?_;refine bC O O (r:=false) (cN y3) (dP O O) ?_;refine gmv O O O<|aC O O O<|aC O O O<|aC O O O<|aC O O O<|aC O O O<|bO O O (dP O O) ?_;refine kpf O O<|aB<|aF O ?_;refine aH ?_;refine aA<|rgN<|kmv O<|kmv O<|aN O O (dP O O) ?_;refine aO O O O (dP O O) ?_;refine aX O O (r:=true) (cP hm) (dP O O) ?_;refine kpt O O<|kmv O<|aC O O O<|aC O O O<|aC O O O<|aD O O<|aD O O<|aD O O<|aC O O O<|kpt O O<|aB<|aE O ?_;refine aA<|rgN<|kas O<|aB<|aI ?_))
    exact y6
  ·rw [cK hk]
   by_cases hm:g.kind=10
   ·rw [if_neg (fun h=>hk (h.mp hm))] at hE
    rw [fin 8 hE (by decide)]
    ((refine aA<|aA<|rgN<|kmv O<|kmv O<|aQ O bZ O dO ?_;refine klt O O (cL y3)<|aB<|aE O ?_;refine aH ?_;refine aA<|aG<|aA<|rgN<|kmv O<|kmv O<|aR O O bZ y3 hio dO<|aY O hX y5 hsz hcs dO<|aP O dO ?_;refine aM O O O O O O dO ?_;refine aB<|aA<|aA<|rgN<|kfa O O ?_;refine kl1 O O O<|kne O O (r:=false) (cO c2)<|kmv O<|aC O O O<|aC O O O<|aC O O O<|kpf O O<|aB<|aF O ?_;refine aH ?_;refine aA<|aA<|rgN<|kfa O O ?_;refine kl1 O O O<|kfa O O ?_;refine kl1 O O O<|aQ O bZ O dO ?_;refine bD O O (cK y3) dO<|aB<|aF O ?_);(refine aH ?_;refine aA<|rgN<|kfa O O ?_;refine kl1 O O O<|kfa O O ?_;refine kl1 O O O<|aR O O bZ y3 hio3 dO<|aY O hFX y5 hFz hFc dO<|aP O dO ?_;refine aM O O O O O O dO ?_;refine aB<|aA<|aA<|rgN<|kfa O O ?_;refine kl1 O O O<|keq O O (r:=true) (cR c2)<|kmv O<|aN O O (dP O O) ?_;refine aO O O O (dP O O) ?_;refine aN O O (dP O O) ?_;refine aO O O O (dP O O) ?_;refine bD O O (cK y3) (dP O O) ?_;refine kpt O O<|kmv O<|aN O O (dP O O) ?_);(refine aO O O O (dP O O) ?_;refine bC O O (r:=false) (cN y3) (dP O O) ?_;refine gmv O O O<|aC O O O<|aC O O O<|aC O O O<|aC O O O<|aC O O O<|bO O O (dP O O) ?_;refine kpf O O<|aB<|aF O ?_;refine aH ?_;refine aA<|rgN<|kmv O<|kmv O<|aC O O O<|aC O O O<|aC O O O<|kpf O O<|kmv O<|gmv O O O<|aV O O (dP O O) ?_;refine gmv O O O<|aN O O (dP O O) ?_;refine aO O O O (dP O O) ?_;refine bC O O (r:=true) (cR hm) (dP O O) ?_;refine bF O O (dP O O) ?_;refine kpf O O<|aB<|aE O ?_;refine aA<|rgN<|kas O<|aB<|aI ?_))
    exact y6
   ·rw [if_pos (by rw [eq_iff_iff];exact ⟨fun h=>absurd h hm,fun h=>absurd h hk⟩)] at hE
    ((refine aA<|aA<|rgN<|kmv O<|kmv O<|aQ O bZ O dO ?_;refine klt O O (cL y3)<|aB<|aE O ?_;refine aH ?_;refine aA<|aG<|aA<|rgN<|kmv O<|kmv O<|aR O O bZ y3 hio dO<|aY O hX y5 hsz hcs dO<|aP O dO ?_;refine aM O O O O O O dO ?_;refine aB<|aA<|aA<|rgN<|kfa O O ?_;refine kl1 O O O<|kne O O (r:=false) (cO c2)<|kmv O<|aC O O O<|aC O O O<|aC O O O<|kpf O O<|aB<|aF O ?_;refine aH ?_;refine aA<|aA<|rgN<|kfa O O ?_;refine kl1 O O O<|kfa O O ?_;refine kl1 O O O<|aQ O bZ O dO ?_;refine bD O O (cK y3) dO<|aB<|aF O ?_);(refine aH ?_;refine aA<|rgN<|kfa O O ?_;refine kl1 O O O<|kfa O O ?_;refine kl1 O O O<|aR O O bZ y3 hio3 dO<|aY O hFX y5 hFz hFc dO<|aP O dO ?_;refine aM O O O O O O dO ?_;refine aB<|aA<|aA<|rgN<|kfa O O ?_;refine kl1 O O O<|keq O O (r:=true) (cR c2)<|kmv O<|aN O O (dP O O) ?_;refine aO O O O (dP O O) ?_;refine aN O O (dP O O) ?_;refine aO O O O (dP O O) ?_;refine bD O O (cK y3) (dP O O) ?_;refine kpt O O<|kmv O<|aN O O (dP O O) ?_);(refine aO O O O (dP O O) ?_;refine bC O O (r:=false) (cN y3) (dP O O) ?_;refine gmv O O O<|aC O O O<|aC O O O<|aC O O O<|aC O O O<|aC O O O<|bO O O (dP O O) ?_;refine kpf O O<|aB<|aF O ?_;refine aH ?_;refine aA<|rgN<|kmv O<|kmv O<|aC O O O<|aC O O O<|aC O O O<|kpf O O<|kmv O<|gmv O O O<|aV O O (dP O O) ?_;refine gmv O O O<|aN O O (dP O O) ?_;refine aO O O O (dP O O) ?_;refine bC O O (r:=false) (cN hm) (dP O O) ?_;refine bF O O (dP O O) ?_;refine kpf O O<|aB<|aF O ?_;refine aH ?_);(refine rgN<|kmv O<|kad O O hadd<|kas O<|aB ?_))
    exact ⟨_,_,by omega,Le.of y10 yE y2 y2 y0,i+1,by omega,O,next hE,O⟩
 ·by_cases hb:g.count<f.count
  ·rw [if_pos (.inr ⟨c3,hb⟩)] at hE
   rw [fin 3 hE (by decide)]
   ((refine aA<|aA<|rgN<|kmv O<|kmv O<|aQ O bZ O dO ?_;refine klt O O (cL y3)<|aB<|aE O ?_;refine aH ?_;refine aA<|aG<|aA<|rgN<|kmv O<|kmv O<|aR O O bZ y3 hio dO<|aY O hX y5 hsz hcs dO<|aP O dO ?_;refine aM O O O O O O dO ?_;refine aB<|aA<|aA<|rgN<|kfa O O ?_;refine kl1 O O O<|kne O O (r:=true) (cP y3)<|kmv O<|aN O O (dP O O) ?_;refine aO O O O (dP O O) ?_;refine aX O O (r:=false) (cO c3) (dP O O) ?_;refine kpt O O<|aB<|aF O ?_;refine aH ?_;refine aA<|aA<|rgN<|kfa O O ?_);(refine kl1 O O O<|kfa O O ?_;refine kl1 O O O<|aQ O bZ O dO ?_;refine bD O O (cK y3) dO<|aB<|aF O ?_;refine aH ?_;refine aA<|rgN<|kfa O O ?_;refine kl1 O O O<|kfa O O ?_;refine kl1 O O O<|aR O O bZ y3 hio3 dO<|aY O hFX y5 hFz hFc dO<|aP O dO ?_;refine aM O O O O O O dO ?_;refine aB<|aA<|aA<|rgN<|kfa O O ?_;refine kl1 O O O<|keq O O (r:=false) (cN y3)<|kmv O<|aC O O O<|aC O O O<|aC O O O<|aC O O O<|aC O O O<|kpf O O<|kmv O<|aN O O (dP O O) ?_;refine aO O O O (dP O O) ?_;refine bC O O (r:=true) (cR c3) (dP O O) ?_);(refine gmv O O O<|aN O O (dP O O) ?_;refine aO O O O (dP O O) ?_;refine aN O O (dP O O) ?_;refine aO O O O (dP O O) ?_;refine bK O O (cL y3) (dP O O) ?_;refine bF O O (dP O O) ?_;refine kpf O O<|aB<|aE O ?_;refine aA<|rgN<|kas O<|aB<|aI ?_))
   exact y6
  rw [if_neg (by omega)] at hE
  by_cases hk:f.kind=10
  ·rw [cL hk]
   by_cases hm:g.kind=10
   ·rw [if_pos (by rw [eq_iff_iff];exact ⟨fun _=>hk,fun _=>hm⟩)] at hE
    ((refine aA<|aA<|rgN<|kmv O<|kmv O<|aQ O bZ O dO ?_;refine klt O O (cL y3)<|aB<|aE O ?_;refine aH ?_;refine aA<|aG<|aA<|rgN<|kmv O<|kmv O<|aR O O bZ y3 hio dO<|aY O hX y5 hsz hcs dO<|aP O dO ?_;refine aM O O O O O O dO ?_;refine aB<|aA<|aA<|rgN<|kfa O O ?_;refine kl1 O O O<|kne O O (r:=true) (cP y3)<|kmv O<|aN O O (dP O O) ?_;refine aO O O O (dP O O) ?_;refine aX O O (r:=false) (cO c3) (dP O O) ?_;refine kpt O O<|aB<|aF O ?_;refine aH ?_;refine aA<|aA<|rgN<|kfa O O ?_);(refine kl1 O O O<|kfa O O ?_;refine kl1 O O O<|aQ O bZ O dO ?_;refine bD O O (cK y3) dO<|aB<|aF O ?_;refine aH ?_;refine aA<|rgN<|kfa O O ?_;refine kl1 O O O<|kfa O O ?_;refine kl1 O O O<|aR O O bZ y3 hio3 dO<|aY O hFX y5 hFz hFc dO<|aP O dO ?_;refine aM O O O O O O dO ?_;refine aB<|aA<|aA<|rgN<|kfa O O ?_;refine kl1 O O O<|keq O O (r:=false) (cN y3)<|kmv O<|aC O O O<|aC O O O<|aC O O O<|aC O O O<|aC O O O<|kpf O O<|kmv O<|aN O O (dP O O) ?_;refine aO O O O (dP O O) ?_;refine bC O O (r:=true) (cR c3) (dP O O) ?_);(refine gmv O O O<|aN O O (dP O O) ?_;refine aO O O O (dP O O) ?_;refine aN O O (dP O O) ?_;refine aO O O O (dP O O) ?_;refine bK O O (cK y3) (dP O O) ?_;refine bF O O (dP O O) ?_;refine kpf O O<|aB<|aF O ?_;refine aH ?_;refine aA<|rgN<|kmv O<|kmv O<|aN O O (dP O O) ?_;refine aO O O O (dP O O) ?_;refine aX O O (r:=false) (cO hm) (dP O O) ?_;refine kpt O O<|kmv O<|gmv O O O<|aV O O (dP O O) ?_);(refine gmv O O O<|aC O O O<|aC O O O<|aC O O O<|bO O O (dP O O) ?_;refine kpf O O<|aB<|aF O ?_;refine aH ?_;refine rgN<|kmv O<|kad O O hadd<|kas O<|aB ?_))
    exact ⟨_,_,by omega,Le.of y10 yE y2 y2 y0,i+1,by omega,O,next hE,O⟩
   ·rw [if_neg (fun h=>hm (h.mpr hk))] at hE
    rw [fin 8 hE (by decide)]
    ((refine aA<|aA<|rgN<|kmv O<|kmv O<|aQ O bZ O dO ?_;refine klt O O (cL y3)<|aB<|aE O ?_;refine aH ?_;refine aA<|aG<|aA<|rgN<|kmv O<|kmv O<|aR O O bZ y3 hio dO<|aY O hX y5 hsz hcs dO<|aP O dO ?_;refine aM O O O O O O dO ?_;refine aB<|aA<|aA<|rgN<|kfa O O ?_;refine kl1 O O O<|kne O O (r:=true) (cP y3)<|kmv O<|aN O O (dP O O) ?_;refine aO O O O (dP O O) ?_;refine aX O O (r:=false) (cO c3) (dP O O) ?_;refine kpt O O<|aB<|aF O ?_;refine aH ?_;refine aA<|aA<|rgN<|kfa O O ?_);(refine kl1 O O O<|kfa O O ?_;refine kl1 O O O<|aQ O bZ O dO ?_;refine bD O O (cK y3) dO<|aB<|aF O ?_;refine aH ?_;refine aA<|rgN<|kfa O O ?_;refine kl1 O O O<|kfa O O ?_;refine kl1 O O O<|aR O O bZ y3 hio3 dO<|aY O hFX y5 hFz hFc dO<|aP O dO ?_;refine aM O O O O O O dO ?_;refine aB<|aA<|aA<|rgN<|kfa O O ?_;refine kl1 O O O<|keq O O (r:=false) (cN y3)<|kmv O<|aC O O O<|aC O O O<|aC O O O<|aC O O O<|aC O O O<|kpf O O<|kmv O<|aN O O (dP O O) ?_;refine aO O O O (dP O O) ?_;refine bC O O (r:=true) (cR c3) (dP O O) ?_);(refine gmv O O O<|aN O O (dP O O) ?_;refine aO O O O (dP O O) ?_;refine aN O O (dP O O) ?_;refine aO O O O (dP O O) ?_;refine bK O O (cK y3) (dP O O) ?_;refine bF O O (dP O O) ?_;refine kpf O O<|aB<|aF O ?_;refine aH ?_;refine aA<|rgN<|kmv O<|kmv O<|aN O O (dP O O) ?_;refine aO O O O (dP O O) ?_;refine aX O O (r:=true) (cP hm) (dP O O) ?_;refine kpt O O<|kmv O<|aC O O O<|aC O O O<|aC O O O<|aD O O<|aD O O<|aD O O<|aC O O O<|kpt O O<|aB<|aE O ?_);(refine aA<|rgN<|kas O<|aB<|aI ?_))
    exact y6
  ·rw [cK hk]
   by_cases hm:g.kind=10
   ·rw [if_neg (fun h=>hk (h.mp hm))] at hE
    rw [fin 8 hE (by decide)]
    ((refine aA<|aA<|rgN<|kmv O<|kmv O<|aQ O bZ O dO ?_;refine klt O O (cL y3)<|aB<|aE O ?_;refine aH ?_;refine aA<|aG<|aA<|rgN<|kmv O<|kmv O<|aR O O bZ y3 hio dO<|aY O hX y5 hsz hcs dO<|aP O dO ?_;refine aM O O O O O O dO ?_;refine aB<|aA<|aA<|rgN<|kfa O O ?_;refine kl1 O O O<|kne O O (r:=true) (cP y3)<|kmv O<|aN O O (dP O O) ?_;refine aO O O O (dP O O) ?_;refine aX O O (r:=false) (cO c3) (dP O O) ?_;refine kpt O O<|aB<|aF O ?_;refine aH ?_;refine aA<|aA<|rgN<|kfa O O ?_);(refine kl1 O O O<|kfa O O ?_;refine kl1 O O O<|aQ O bZ O dO ?_;refine bD O O (cK y3) dO<|aB<|aF O ?_;refine aH ?_;refine aA<|rgN<|kfa O O ?_;refine kl1 O O O<|kfa O O ?_;refine kl1 O O O<|aR O O bZ y3 hio3 dO<|aY O hFX y5 hFz hFc dO<|aP O dO ?_;refine aM O O O O O O dO ?_;refine aB<|aA<|aA<|rgN<|kfa O O ?_;refine kl1 O O O<|keq O O (r:=false) (cN y3)<|kmv O<|aC O O O<|aC O O O<|aC O O O<|aC O O O<|aC O O O<|kpf O O<|kmv O<|aN O O (dP O O) ?_;refine aO O O O (dP O O) ?_;refine bC O O (r:=true) (cR c3) (dP O O) ?_);(refine gmv O O O<|aN O O (dP O O) ?_;refine aO O O O (dP O O) ?_;refine aN O O (dP O O) ?_;refine aO O O O (dP O O) ?_;refine bK O O (cK y3) (dP O O) ?_;refine bF O O (dP O O) ?_;refine kpf O O<|aB<|aF O ?_;refine aH ?_;refine aA<|rgN<|kmv O<|kmv O<|aC O O O<|aC O O O<|aC O O O<|kpf O O<|kmv O<|gmv O O O<|aV O O (dP O O) ?_;refine gmv O O O<|aN O O (dP O O) ?_;refine aO O O O (dP O O) ?_;refine bC O O (r:=true) (cR hm) (dP O O) ?_);(refine bF O O (dP O O) ?_;refine kpf O O<|aB<|aE O ?_;refine aA<|rgN<|kas O<|aB<|aI ?_))
    exact y6
   ·rw [if_pos (by rw [eq_iff_iff];exact ⟨fun h=>absurd h hm,fun h=>absurd h hk⟩)] at hE
    ((refine aA<|aA<|rgN<|kmv O<|kmv O<|aQ O bZ O dO ?_;refine klt O O (cL y3)<|aB<|aE O ?_;refine aH ?_;refine aA<|aG<|aA<|rgN<|kmv O<|kmv O<|aR O O bZ y3 hio dO<|aY O hX y5 hsz hcs dO<|aP O dO ?_;refine aM O O O O O O dO ?_;refine aB<|aA<|aA<|rgN<|kfa O O ?_;refine kl1 O O O<|kne O O (r:=true) (cP y3)<|kmv O<|aN O O (dP O O) ?_;refine aO O O O (dP O O) ?_;refine aX O O (r:=false) (cO c3) (dP O O) ?_;refine kpt O O<|aB<|aF O ?_;refine aH ?_;refine aA<|aA<|rgN<|kfa O O ?_);(refine kl1 O O O<|kfa O O ?_;refine kl1 O O O<|aQ O bZ O dO ?_;refine bD O O (cK y3) dO<|aB<|aF O ?_;refine aH ?_;refine aA<|rgN<|kfa O O ?_;refine kl1 O O O<|kfa O O ?_;refine kl1 O O O<|aR O O bZ y3 hio3 dO<|aY O hFX y5 hFz hFc dO<|aP O dO ?_;refine aM O O O O O O dO ?_;refine aB<|aA<|aA<|rgN<|kfa O O ?_;refine kl1 O O O<|keq O O (r:=false) (cN y3)<|kmv O<|aC O O O<|aC O O O<|aC O O O<|aC O O O<|aC O O O<|kpf O O<|kmv O<|aN O O (dP O O) ?_;refine aO O O O (dP O O) ?_;refine bC O O (r:=true) (cR c3) (dP O O) ?_);(refine gmv O O O<|aN O O (dP O O) ?_;refine aO O O O (dP O O) ?_;refine aN O O (dP O O) ?_;refine aO O O O (dP O O) ?_;refine bK O O (cK y3) (dP O O) ?_;refine bF O O (dP O O) ?_;refine kpf O O<|aB<|aF O ?_;refine aH ?_;refine aA<|rgN<|kmv O<|kmv O<|aC O O O<|aC O O O<|aC O O O<|kpf O O<|kmv O<|gmv O O O<|aV O O (dP O O) ?_;refine gmv O O O<|aN O O (dP O O) ?_;refine aO O O O (dP O O) ?_;refine bC O O (r:=false) (cN hm) (dP O O) ?_);(refine bF O O (dP O O) ?_;refine kpf O O<|aB<|aF O ?_;refine aH ?_;refine rgN<|kmv O<|kad O O hadd<|kas O<|aB ?_))
    exact ⟨_,_,by omega,Le.of y10 yE y2 y2 y0,i+1,by omega,O,next hE,O⟩
theorem ruE_at {fs gs:List Fl} {r:Rl} (h0:r.old≠0) (h:r.ex.length=gs.length):ruE fs gs r=seqE (fun q:Fl×List Ins=>fmE fs q.1 q.2) (gs.zip r.ex):=by unfold ruE;rw [if_neg h0,if_pos h]
theorem zip_two {α β:Type} {l:List α} {m:List β} {i:Nat} {x:α} {y:β} (hx:l[i]? = some x) (hy:m[i]? = some y):(l.zip m)[i]? = some (x,y):=by
 rw [List.getElem?_zip_eq_some];exact ⟨hx,hy⟩
set_option maxHeartbeats 6400000 in
theorem rRule13 (a b:Cp) (r:Rl) (aad bad ead:Option Addr) (acap bcap ecap:Nat) (hA:FieldsIn X aad a.fs) (hB:FieldsIn X bad b.fs) (hE:CodesIn X ead r.ex) (hal:a.fs.length<4611686018427387904) (hbl:b.fs.length<4611686018427387904) (hcl:∀ c∈r.ex,c.length<4611686018427387904):
  PSpec Tryz.prog X 38 [Cx a aad acap,Cx b bad bcap,.sv (.agg [.val (.int .i64 r.nw),.val (.int .i64 r.old),.val (.slice ead r.ex.length ecap)])] (Ln .i64 (ruE a.fs b.fs r)):=by
 refine cC Tryz.func38 rfl y5 rfl rfl ?_
 intro C
 by_cases h0:r.old=0
 ·rw [show ruE a.fs b.fs r=0 from if_pos h0]
  (refine aA<|rgN<|aL O O O dO<|aL O O O dO<|aL O O O dO<|kas O<|aB<|aA<|aA<|rgN<|kfa O O ?_;refine kl1 O O O<|keq O O (r:=true) (cR h0)<|aB<|aE O ?_;refine aA<|rgN<|kas O<|aB<|aI ?_)
  exact y6
 by_cases hl:r.ex.length=b.fs.length
 case neg =>
  rw [show ruE a.fs b.fs r=4 by unfold ruE;rw [if_neg h0,if_neg hl]]
  (refine aA<|rgN<|aL O O O dO<|aL O O O dO<|aL O O O dO<|kas O<|aB<|aA<|aA<|rgN<|kfa O O ?_;refine kl1 O O O<|keq O O (r:=false) (cN h0)<|aB<|aF O ?_;refine aH ?_;refine aA<|aA<|rgN<|kfa O O ?_;refine kl1 O O O<|aQ O bZ O dO ?_;refine kfa O O ?_;refine kl1 O O O<|aQ O bZ O dO ?_;refine kne O O (r:=true) (cP y3)<|aB<|aE O ?_;refine aA<|rgN<|kas O<|aB<|aI ?_)
  exact y6
 rw [ruE_at h0 hl]
 have hzl:(b.fs.zip r.ex).length=b.fs.length:=by rw [List.length_zip];omega
 (refine aA<|rgN<|aL O O O dO<|aL O O O dO<|aL O O O dO<|kas O<|aB<|aA<|aA<|rgN<|kfa O O ?_;refine kl1 O O O<|keq O O (r:=false) (cN h0)<|aB<|aF O ?_;refine aH ?_;refine aA<|aA<|rgN<|kfa O O ?_;refine kl1 O O O<|aQ O bZ O dO ?_;refine kfa O O ?_;refine kl1 O O O<|aQ O bZ O dO ?_;refine kne O O (r:=false) (cO y3)<|aB<|aF O ?_;refine aH ?_;refine aA<|aA<|rgN<|kas O<|aB<|aG ?_)
 refine cG (fun m σ=>∃ i:Nat,i≤b.fs.length∧m=b.fs.length-i∧(∀ j,0≤j→j<i→atE (fun q:Fl×List Ins=>fmE a.fs q.1 q.2) (b.fs.zip r.ex) j=0)∧σ=⟨[(3,Lp 3),(4,Lp 4),(5,Lp 5),(7,Ln .i64 (i:Nat))],[v3B 39 5 r.nw r.old ead r.ex.length ecap,cpB 4 b bad bcap,cpB 3 a aad acap],X⟩) b.fs.length
  ⟨_,Le.of y8 y9 y2 y2 y0,0,by omega,by omega,fun j _ hj=>absurd hj y3,rfl⟩ ?_
 rintro m σ ⟨i,hi,rfl,hpre,rfl⟩
 by_cases hlt:i<b.fs.length
 case neg =>
  rw [show seqE (fun q:Fl×List Ins=>fmE a.fs q.1 q.2) (b.fs.zip r.ex)=0 from firstE_none fun j h1 h2=>hpre j h1 (by omega)]
  (refine aA<|aA<|rgN<|kmv O<|kfa O O ?_;refine kl1 O O O<|aQ O bZ O dO ?_;refine klt O O (cK y3)<|aB<|aF O ?_;refine aJ<|aA<|rgN<|kas O<|aB<|aI ?_)
  exact y6
 obtain ⟨f,hf⟩:=wg hlt
 obtain ⟨c,hc⟩:∃ c,r.ex[i]? = some c:=wg y3
 obtain ⟨fb,fo,farr,fel,ffr,rfl,hFX,hFz,hFc,_⟩:=hB.cells hf
 obtain ⟨eb,eo,earr,eel,efr,vad,vcap,rfl,hEX,hec,hI⟩:=hE.get hc
 have hio3:=wo fo i 3
 have hio1:=wo eo i 1
 have hadd:IntKind.i64.wrap ((i:Int)+1)=((i+1:Nat):Int):=by rw [cE y3];omega
 have hq:=rFormula13 X a f c aad vad acap vcap hA hI (hcl c (cZ hc)) hal
 have hat:atE (fun q:Fl×List Ins=>fmE a.fs q.1 q.2) (b.fs.zip r.ex) i=fmE a.fs f c:=atE_at (zip_two hf hc)
 by_cases he:fmE a.fs f c=0
 ·rw [he] at hq
  (refine aA<|aA<|rgN<|kmv O<|kfa O O ?_;refine kl1 O O O<|aQ O bZ O dO ?_;refine klt O O (cL y3)<|aB<|aE O ?_;refine aH ?_;refine aA<|aG<|aA<|rgD mixed<|aK O O O dO ?_;refine kfa O O ?_;refine kl1 O O O<|kmv O<|aR O O bZ y3 hio3 dO<|aY O hFX y5 hFz hFc dO<|kfa O O ?_;refine kl1 O O O<|kmv O<|aR O O bZ y3 hio1 dO<|aW O hEX O hec dO<|kca O O (hq)<|kas O<|aB<|rgA ?_;refine aA<|rgN<|kmv O<|kne O O (r:=false) O<|aB<|aF O ?_;refine aH ?_;refine rgN<|kmv O<|kad O O hadd<|kas O<|aB ?_)
  exact ⟨_,_,by omega,Le.of y8 y9 y2 y2 y0,i+1,by omega,O,(fun j h0 hj=>by
   by_cases e:j=i
   ·rw [e,hat];exact he
   ·exact hpre j h0 y3),rfl⟩
 ·rw [show seqE (fun q:Fl×List Ins=>fmE a.fs q.1 q.2) (b.fs.zip r.ex)=fmE a.fs f c from firstE_some hpre (Nat.zero_le _) y3 hat he]
  generalize fmE a.fs f c=e at *
  (refine aA<|aA<|rgN<|kmv O<|kfa O O ?_;refine kl1 O O O<|aQ O bZ O dO ?_;refine klt O O (cL y3)<|aB<|aE O ?_;refine aH ?_;refine aA<|aG<|aA<|rgD mixed<|aK O O O dO ?_;refine kfa O O ?_;refine kl1 O O O<|kmv O<|aR O O bZ y3 hio3 dO<|aY O hFX y5 hFz hFc dO<|kfa O O ?_;refine kl1 O O O<|kmv O<|aR O O bZ y3 hio1 dO<|aW O hEX O hec dO<|kca O O (hq)<|kas O<|aB<|rgA ?_;refine aA<|rgN<|kmv O<|kne O O (r:=true) (cP he)<|aB<|aE O ?_;refine aA<|rgN<|kmv O<|kas O<|aB<|aI ?_)
  exact y6
end Go.Proofs.YtopiioklkkiedaaGreatDoor
end
section
set_option maxHeartbeats 12800000
set_option maxRecDepth 100000
namespace Go.Proofs.YtopiioklkkiedaaGreatDoor
open Go Go.Lg Go.Lg.Fml Go.Lg.Fld Go.Lg.Arith
set_option maxRecDepth 100000
def grtF (c:Cp):Bool:=decide (12<c.fs.length)
def grtN (az bz:List Cp) (rs:List Rl):Bool:=decide (30<az.length)||(decide (30<bz.length)||decide (30<rs.length))
def grt13 (az bz:List Cp) (rs:List Rl):Bool:=grtN az bz rs||(az.any grtF||(bz.any grtF||rs.any grtR))
theorem grt13_false {az bz:List Cp} {rs:List Rl} (h:grt13 az bz rs=false):(az.length≤30∧∀ c∈az,c.fs.length≤12)∧(bz.length≤30∧∀ c∈bz,c.fs.length≤12)∧rs.length≤30∧∀ r∈rs,r.ex.length≤12∧∀ c∈r.ex,c.length≤80:=by
 unfold grt13 grtN at h
 simp only [Bool.or_eq_false_iff,decide_eq_false_iff_not] at h
 obtain ⟨⟨h1,h2,h3⟩,h4,h5,h6⟩:=h
 have key:∀ l:List Cp,l.any grtF=false→∀ c∈l,c.fs.length≤12:=fun l hl c hc=>by
  have:=List.any_eq_false.1 hl c hc
  unfold grtF at this
  simpa using this
 have hp:=grtP_false (rs:=rs) (by unfold grtP;rw [Bool.or_eq_false_iff,decide_eq_false_iff_not];exact ⟨h3,h6⟩)
 exact ⟨⟨by omega,key _ h4⟩,⟨by omega,key _ h5⟩,by omega,hp.2⟩
theorem any_yes {α:Type} {p:α→Bool} {l:List α} {x:α} {i:Nat} (hx:l[i]? = some x) (h:p x=true):l.any p=true:=List.any_eq_true.2 ⟨x,cZ hx,h⟩
theorem any_next {α:Type} {p:α→Bool} {l:List α} {x:α} {i:Nat} (hx:l[i]? = some x) (h0:(l.take i).any p=false) (h:p x=false):(l.take (i+1)).any p=false:=by
 rw [take_snoc hx,List.any_append,h0];simp [h]
variable (X:Nat→Option Obj)
end Go.Proofs.YtopiioklkkiedaaGreatDoor
end
section
set_option maxHeartbeats 12800000
set_option maxRecDepth 100000
namespace Go.Proofs.YtopiioklkkiedaaGreatDoor
open Go Go.Lg Go.Lg.Fml Go.Lg.Fld Go.Lg.Arith
set_option maxRecDepth 100000
def rwZ:List Rl→List Value→List Value
 | r::rs,v::vs=>.int .i64 r.nw :: .int .i64 r.old::v::rwZ rs vs
 | _,_=>[]
theorem rwZ_len:∀ {rs:List Rl} {ws:List Value},ws.length=rs.length→(rwZ rs ws).length=rs.length*3
 | [],[],_=>rfl
 | c::cs,v::vs,h=>by
  simp only [rwZ,dF] at h ⊢
  rw [rwZ_len (rs:=cs) (ws:=vs) (by omega)];omega
 | [],_::_,h=>by simp at h
 | _::_,[],h=>by simp at h
theorem rwZ_at:∀ {i:Nat} {rs:List Rl} {ws sp:List Value} {r:Rl} {w:Value},rs[i]? = some r→ws[i]? = some w→((rwZ rs ws++sp).drop (i*3)).take 3=[.int .i64 r.nw,.int .i64 r.old,w]
 | 0,c::cs,v::vs,sp,r,w,h1,h2=>by
  simp only [List.getElem?_cons_zero,Option.some.injEq] at h1 h2
  subst h1 h2
  rfl
 | i+1,c::cs,v::vs,sp,r,w,h1,h2=>by
  simp only [List.getElem?_cons_succ] at h1 h2
  have:=rwZ_at (sp:=sp) h1 h2
  rw [show (i+1)*3=i*3+3 by omega]
  exact this
 | _,[],_,_,_,_,h,_=>by simp at h
 | _,_::_,[],_,_,_,_,h=>by simp at h
theorem snoc_get {α:Type} {l:List α} {a x:α} {i:Nat} (h:(l++[a])[i]? = some x):(i<l.length∧l[i]? = some x)∨(i=l.length∧x=a):=by
 by_cases e:i<l.length
 ·rw [dN e] at h;exact .inl ⟨e,h⟩
 ·have h1:=(wl h)
  rw [cS] at h1
  simp only [List.length_singleton] at h1
  have e2:i=l.length:=by omega
  subst e2
  rw [List.getElem?_append_right (dK _),Nat.sub_self] at h
  simp only [List.getElem?_cons_zero,Option.some.injEq] at h
  exact .inr ⟨O,h.symm⟩
structure FormsH (H:Nat→Option Obj) (vs:List Value) (cs:List (List Ins)):Prop where
 len:vs.length=cs.length
 at_:∀ (i:Nat) (v:Value) (c:List Ins),vs[i]? = some v→cs[i]? = some c→∃ (vad:Option Addr) (vcap:Nat),v = .slice vad c.length vcap∧InsIn H vad c
theorem FormsH.nil {H:Nat→Option Obj}:FormsH H [] []:=⟨rfl,fun i v c h=>by simp at h⟩
theorem FormsH.mono {H H':Nat→Option Obj} (hH:∀ b o,H b=some o→H' b=some o) {vs:List Value} {cs:List (List Ins)} (G:FormsH H vs cs):FormsH H' vs cs:=⟨G.len,fun i v c hv hc=>by
 obtain ⟨vad,vcap,h1,h2⟩:=G.at_ i v c hv hc
 exact ⟨vad,vcap,h1,h2.mono hH⟩⟩
theorem FormsH.push {H:Nat→Option Obj} {vs:List Value} {cs:List (List Ins)} (G:FormsH H vs cs) {v:Value} {c:List Ins} (hv:∃ (vad:Option Addr) (vcap:Nat),v = .slice vad c.length vcap∧InsIn H vad c):FormsH H (vs++[v]) (cs++[c]):=⟨by rw [cS,cS,G.len];rfl,fun i w d hw hd=>by
 have hl:=G.len
 rcases snoc_get hw with ⟨h1,h2⟩|⟨h1,rfl⟩
 ·rcases snoc_get hd with ⟨h3,h4⟩|⟨h3,_⟩
  ·exact G.at_ i w d h2 h4
  ·omega
 ·rcases snoc_get hd with ⟨h3,_⟩|⟨_,rfl⟩
  ·omega
  ·exact hv⟩
structure RulesH (H:Nat→Option Obj) (ws:List Value) (rs:List Rl):Prop where
 len:ws.length=rs.length
 at_:∀ (i:Nat) (w:Value) (r:Rl),ws[i]? = some w→rs[i]? = some r→∃ (ead:Option Addr) (ecap:Nat),w = .slice ead r.ex.length ecap∧CodesIn H ead r.ex
theorem RulesH.nil {H:Nat→Option Obj}:RulesH H [] []:=⟨rfl,fun i v c h=>by simp at h⟩
theorem RulesH.mono {H H':Nat→Option Obj} (hH:∀ b o,H b=some o→H' b=some o) {vs:List Value} {cs:List Rl} (G:RulesH H vs cs):RulesH H' vs cs:=⟨G.len,fun i v c hv hc=>by
 obtain ⟨vad,vcap,h1,h2⟩:=G.at_ i v c hv hc
 exact ⟨vad,vcap,h1,h2.mono hH⟩⟩
theorem RulesH.push {H:Nat→Option Obj} {vs:List Value} {cs:List Rl} (G:RulesH H vs cs) {v:Value} {c:Rl} (hv:∃ (vad:Option Addr) (vcap:Nat),v = .slice vad c.ex.length vcap∧CodesIn H vad c.ex):RulesH H (vs++[v]) (cs++[c]):=⟨by rw [cS,cS,G.len];rfl,fun i w d hw hd=>by
 have hl:=G.len
 rcases snoc_get hw with ⟨h1,h2⟩|⟨h1,rfl⟩
 ·rcases snoc_get hd with ⟨h3,h4⟩|⟨h3,_⟩
  ·exact G.at_ i w d h2 h4
  ·omega
 ·rcases snoc_get hd with ⟨h3,_⟩|⟨_,rfl⟩
  ·omega
  ·exact hv⟩
theorem forms_block {Y:Nat→Option Obj} {blk:Nat} {arr:Array Value} {el:TypeId} {fr:Nat×Nat} {vs sp:List Value} {cs:List (List Ins)} (hY:Y blk=some (.cells arr el fr)) (h:arr.toList=vs++sp) (G:FormsH Y vs cs):CodesIn Y (some ⟨blk,0,none⟩) cs:=⟨fun i c hc=>by
 have hi:=(wl hc)
 have hl:=G.len
 obtain ⟨v,hv⟩:∃ v,vs[i]? = some v:=wg y3
 obtain ⟨vad,vcap,h1,h2⟩:=G.at_ i v c hv hc
 have hsz:arr.size=vs.length+sp.length:=by rw [← Array.length_toList,h,cS]
 refine ⟨blk,0,arr,el,fr,vad,vcap,O,hY,by omega,?_,h2⟩
 rw [← Array.getElem?_toList,h,Nat.zero_add,dN (by omega),hv,h1]⟩
theorem rules_block {Y:Nat→Option Obj} {blk:Nat} {arr:Array Value} {el:TypeId} {fr:Nat×Nat} {ws sp:List Value} {rs:List Rl} (hY:Y blk=some (.cells arr el fr)) (h:arr.toList=rwZ rs ws++sp) (G:RulesH Y ws rs) (hs:∀ r∈rs,smallR r):RulesIn Y (some ⟨blk,0,none⟩) rs:=⟨fun i r hr=>by
 have hi:=(wl hr)
 have hl:=G.len
 obtain ⟨v,hv⟩:∃ v,ws[i]? = some v:=wg y3
 obtain ⟨ead,ecap,h1,h2⟩:=G.at_ i v r hv hr
 have hsz:arr.size=rs.length*3+sp.length:=by rw [← Array.length_toList,h,cS,rwZ_len hl]
 refine ⟨blk,0,arr,el,fr,ead,ecap,O,hY,by omega,?_,h2⟩
 rw [h,Nat.zero_add,rwZ_at hr hv,h1],hs⟩
section
variable {n:Nat} {C:Ctx} {X:Nat→Option Obj} {s:List (Nat×LV)} {bx:List (Nat×Option Box)} {k:Nat}
end
theorem ins_leads {H:Nat→Option Obj} {b:Nat} {v:Value} {el:TypeId} {c:List Ins} (h:LeadsTo H b v el 6 (inssV c)) (hs:∀ x∈c,smallI x):∃ (vad:Option Addr) (vcap:Nat),v = .slice vad c.length vcap∧InsIn H vad c:=by
 obtain ⟨len,cap,arr,fr,h1,h2,_,_,h5,h6⟩:=h
 have hl:=inssV_len c
 rw [cT] at hl
 have e:len=c.length:=by omega
 subst e
 exact ⟨_,cap,h1,ins_in h5 hs h6⟩
theorem CodesIn.nilIn {H:Nat→Option Obj}:∃ (ead:Option Addr) (ecap:Nat),Value.slice none 0 0 = .slice ead ([]:List (List Ins)).length ecap∧CodesIn H ead []:=⟨none,0,rfl,CodesIn.nil⟩
variable (X:Nat→Option Obj)
end Go.Proofs.YtopiioklkkiedaaGreatDoor
end
section
set_option maxHeartbeats 12800000
set_option maxRecDepth 100000
namespace Go.Proofs.YtopiioklkkiedaaGreatDoor
open Go Go.Lg Go.Lg.Fld
set_option maxRecDepth 100000
abbrev Ext (X Y:Nat→Option Obj):Prop := ∀ b o,X b=some o→Y b=some o
variable (X:Nat→Option Obj)
end Go.Proofs.YtopiioklkkiedaaGreatDoor
end
section
set_option maxHeartbeats 12800000
set_option maxRecDepth 100000
namespace Go.Proofs.YtopiioklkkiedaaGreatDoor
open Go Go.Lg Go.Lg.Fld
set_option maxRecDepth 100000
theorem unpErr_facts {fs:List Fl} {s:List UInt8} (h:unpErr fs s=0):layErr fs=0∧s.length=rowSize fs∧readOk (elemsAt 0 fs) s=true∧packB fs ((unpZ fs s).map qn)=s:=by
 unfold unpErr at h
 split at h
 ·rename_i h0
  split at h
  ·rename_i h1
   unfold unpOk at h1
   simp only [Bool.and_eq_true,decide_eq_true_eq,beq_iff_eq] at h1
   exact ⟨h0,h1.1,h1.2.1,h1.2.2⟩
  ·cases h
 ·contradiction
theorem unp_R {fs:List Fl} {s:List UInt8} (h:unpErr fs s=0):∀ z∈unpZ fs s,R127 z:=by
 obtain ⟨hl,hn,_,_⟩:=unpErr_facts h
 obtain ⟨_,hall,_⟩:=layErr_facts hl
 intro z hz
 obtain ⟨e,he,rfl⟩:=List.mem_map.1 hz
 exact (read_R (within_row hall) hn he).2
theorem unpZ_len {fs:List Fl} {s:List UInt8} (h:unpErr fs s=0):(unpZ fs s).length≤64:=by
 obtain ⟨hl,_,_,_⟩:=unpErr_facts h
 obtain ⟨h8,hall,_⟩:=layErr_facts hl
 have:=elems_len fs 0 hall
 simp only [unpZ,cT];omega
variable (X:Nat→Option Obj)
theorem refUnp_ok (ad:Option Addr) (cap:Nat) (fs:List Fl) (s:List UInt8) (hin:FieldsIn X ad fs) (hbig:fs.length<4611686018427387904) (h:unpErr fs s=0):
  MSpec Tryz.prog X 16 [Lx ad fs.length cap,Ls s] [] (.tup [.one (.slc 1000001 0 (unpZ fs s).length 3),Sn .i64 0]) [(1000001,some ⟨86,(nsV (unpZ fs s)).map .val,true⟩)]:=by
 have:=refUnpack_spec X ad cap fs s hin hbig
 unfold unpR unpBx at this
 rw [if_pos h,if_pos h] at this
 exact this
theorem refUnp_no (ad:Option Addr) (cap:Nat) (fs:List Fl) (s:List UInt8) (hin:FieldsIn X ad fs) (hbig:fs.length<4611686018427387904) (h:unpErr fs s≠0):
  MSpec Tryz.prog X 16 [Lx ad fs.length cap,Ls s] [] (.tup [Vnil,Sn .i64 (unpErr fs s)]) []:=by
 have:=refUnpack_spec X ad cap fs s hin hbig
 unfold unpR unpBx at this
 rw [if_neg h,if_neg h] at this
 exact this
end Go.Proofs.YtopiioklkkiedaaGreatDoor
end
section
set_option maxHeartbeats 12800000
set_option maxRecDepth 100000
namespace Go.Proofs.YtopiioklkkiedaaGreatDoor
open Go Go.Lg Go.Lg.Fml Go.Lg.Fld Go.Lg.Arith
set_option maxRecDepth 100000
def RowV (Y:Nat→Option Obj) (vs:List Value) (fs:List (List Nm)):Prop:=vs.length=fs.length∧∀ (i:Nat) (r:List Nm),fs[i]? = some r→∃ (ad:Option Addr) (cap:Nat),vs[i]? = some (.slice ad r.length cap)∧NumsIn Y ad r
variable (X:Nat→Option Obj)
end Go.Proofs.YtopiioklkkiedaaGreatDoor
end
section
set_option maxHeartbeats 12800000
set_option maxRecDepth 100000
namespace Go.Proofs.YtopiioklkkiedaaGreatDoor
open Go Go.Lg Go.Lg.Fml Go.Lg.Fld Go.Lg.Arith
set_option maxRecDepth 100000
def cdR (t:TypeId) (cs:List (List Ins)):Rsc:=⟨fun ρ H=>(∃ (arr:Array Value) (fr:Nat×Nat),H ρ.1=some (.cells arr t fr)∧arr.size=ρ.2)∧CodesIn H (some ⟨ρ.1,0,none⟩) cs⟩
section
variable {n:Nat} {C:Ctx} {X:Nat→Option Obj} {s:List (Nat×LV)} {bx:List (Nat×Option Box)} {k:Nat}
end
variable (X:Nat→Option Obj)
end Go.Proofs.YtopiioklkkiedaaGreatDoor
end
section
set_option maxHeartbeats 12800000
set_option maxRecDepth 100000
namespace Go.Proofs.YtopiioklkkiedaaGreatDoor
open Go Go.Lg Go.Lg.Fml Go.Lg.Fld Go.Lg.Arith
set_option maxRecDepth 100000
theorem firstE_shift {f:Nat→Int}:∀ n i,firstE f (i+1) n=firstE (fun j=>f (j+1)) i n
 | 0,_=>rfl
 | n+1,i=>by
  show (if f (i+1)=0 then firstE f (i+1+1) n else f (i+1))=(if f (i+1)=0 then firstE (fun j=>f (j+1)) (i+1) n else f (i+1))
  rw [firstE_shift n (i+1)]
theorem seqE_cons {α:Type} {g:α→Int} {x:α} {t:List α}:seqE g (x::t)=if g x=0 then seqE g t else g x:=by
 show (if atE g (x::t) 0=0 then firstE (atE g (x::t)) (0+1) t.length else atE g (x::t) 0)=_
 rw [firstE_shift]
 rfl
theorem seqE_uses {fs:List Fl} {f:Fl}:∀ l:List Ins,seqE (findE fs f) (usesX l)=seqE (findE fs f) l
 | []=>rfl
 | x::t=>by
  have ih:=seqE_uses (fs:=fs) (f:=f) t
  have h1:usesX (x::t)=if (x.op==2||x.op==3)=true then x::usesX t else usesX t:=List.filter_cons
  rw [h1,seqE_cons]
  by_cases h:x.op=2∨x.op=3
  ·rw [if_pos y2E,seqE_cons,ih]
  ·rw [if_neg y2E,findE_skip h,if_pos rfl,ih]
theorem uses_mem {l:List Ins} {x:Ins} (h:x∈usesX l):x∈l∧(x.op=2∨x.op=3):=by
 unfold usesX at h
 rw [List.mem_filter] at h
 exact ⟨h.1,by simpa using h.2⟩
def hdB:List Ins→Bool
 | [x]=>x.op==2||x.op==3||(x.op==1&&decide (x.k=(false,0)))
 | _=>false
theorem refE_hd {f:Fl} {l:List Ins} (h:chkX l=0):refE f l=if f.kind=10∧hdB l=false then 8 else 0:=by
 match l,h with
 | [],h=>exact absurd rfl (chkX_ne h)
 | [x],h =>
  have hd:=(chkX_zero h).2
  have ho:=(okI_facts (chkX_ok h x (List.mem_singleton.2 rfl))).1
  have ht:takes x.op=0:=by
   by_cases e:takes x.op=0
   ·exact e
   ·exfalso
    unfold dep at hd
    rw [if_neg (by omega)] at hd
    cases hd
  have h4:x.op≤4:=by
   unfold takes at ht
   by_cases e:x.op≤4
   ·exact e
   ·exfalso
    by_cases a1:x.op=16
    ·rw [if_pos a1] at ht;cases ht
    ·rw [if_neg a1] at ht
     by_cases a2:x.op=10∨x.op=15
     ·rw [if_pos a2] at ht;cases ht
     ·rw [if_neg a2,if_pos y3] at ht;cases ht
  show (if f.kind=10∧(x.op=4∨(x.op=1∧x.k≠(false,0))) then (8:Int) else 0)=if f.kind=10∧(x.op==2||x.op==3||(x.op==1&&decide (x.k=(false,0))))=false then 8 else 0
  have hi:(x.op=4∨(x.op=1∧x.k≠(false,0)))↔(x.op==2||x.op==3||(x.op==1&&decide (x.k=(false,0))))=false:=by
   by_cases hk:x.k=(false,0)
   ·simp [hk];omega
   ·simp [hk];omega
  by_cases hf:f.kind=10
  ·by_cases hb:x.op=4∨(x.op=1∧x.k≠(false,0))
   ·rw [if_pos ⟨hf,hb⟩,if_pos ⟨hf,hi.1 hb⟩]
   ·rw [if_neg (fun h=>hb h.2),if_neg (fun h=>hb (hi.2 h.2))]
  ·rw [if_neg (fun h=>hf h.1),if_neg (fun h=>hf h.1)]
 | x::y::t,h =>
  show (if f.kind=10 then (8:Int) else 0)=if f.kind=10∧hdB (x::y::t)=false then 8 else 0
  by_cases hf:f.kind=10
  ·rw [if_pos hf,if_pos ⟨hf,rfl⟩]
  ·rw [if_neg hf,if_neg (fun h=>hf h.1)]
abbrev Ax (x:Ins):LV:=.sv (.agg ((insV x).map CV.val))
def heB (g f:Fl) (x:Ins):Bool:=if x.op=2 then decide (x.b<g.count) else decide (f.count≤g.count)
variable (X:Nat→Option Obj)
theorem yIsRef (f:Fl):PSpec Tryz.prog X 141 [Fx f] (Lb (decide (f.kind=10))):=by
 refine cC Tryz.func141 rfl y5 rfl rfl ?_
 intro C
 (refine aA<|rgN<|aL O O O dO<|kas O<|aB<|aA<|rgN<|kfa O O ?_;refine kl1 O O O<|keq O O (r:=decide (f.kind=10)) (beq_dec f.kind 10)<|kas O<|aB<|aI ?_)
 exact y6
theorem yHas (g f:Fl) (x:Ins):PSpec Tryz.prog X 176 [Fx g,Fx f,Ax x] (Lb (heB g f x)):=by
 refine cC Tryz.func176 rfl y5 rfl rfl ?_
 intro C
 unfold heB
 by_cases c2:x.op=2
 ·rw [if_pos c2]
  (refine aA<|rgN<|aL O O O dO<|aL O O O dO<|aL O O O dO<|kas O<|aB<|aA<|aA<|rgN<|kfa O O ?_;refine kl1 O O O<|keq O O (r:=true) (cR c2)<|aB<|aE O ?_;refine aA<|rgN<|kfa O O ?_;refine kl1 O O O<|kfa O O ?_;refine kl1 O O O<|klt O O O<|kas O<|aB<|aI ?_)
  exact y6
 ·rw [if_neg c2]
  (refine aA<|rgN<|aL O O O dO<|aL O O O dO<|aL O O O dO<|kas O<|aB<|aA<|aA<|rgN<|kfa O O ?_;refine kl1 O O O<|keq O O (r:=false) (cN c2)<|aB<|aF O ?_;refine aH ?_;refine aA<|rgN<|kfa O O ?_;refine kl1 O O O<|kfa O O ?_;refine kl1 O O O<|bD O O O dO<|kas O<|aB<|aI ?_)
  exact y6
theorem yUse (c:Cp) (f:Fl) (x:Ins) (cad:Option Addr) (ccap:Nat) (hF:FieldsIn X cad c.fs) (hfl:c.fs.length<4611686018427387904) (h23:x.op=2∨x.op=3) (ha0:0≤x.a):
  PSpec Tryz.prog X 135 [Cx c cad ccap,Fx f,Ax x] (Ln .i64 (findE c.fs f x)):=by
 refine cC Tryz.func135 rfl y5 rfl rfl ?_
 intro C
 cases hg:c.fs[x.a.toNat]? with
 | none =>
  have hge:=List.getElem?_eq_none_iff.1 hg
  rw [findE_out h23 hg]
  (refine aA<|rgN<|aL O O O dO<|aL O O O dO<|aL O O O dO<|kas O<|aB<|aA<|aA<|rgN<|kfa O O ?_;refine kl1 O O O<|kfa O O ?_;refine kl1 O O O<|aQ O bZ O dO ?_;refine bD O O (cL y3) dO<|aB<|aE O ?_;refine aA<|rgN<|kas O<|aB<|aI ?_)
  exact y6
 | some g =>
 have hlg:=(wl hg)
 have hE:=findE_at (f:=f) h23 hg
 obtain ⟨fb,fo,farr,fel,ffr,rfl,hFX,hFz,hFc,_⟩:=hF.cells hg
 have hio3:fo+Int.toNat x.a*3=fo+x.a.toNat*3:=rfl
 have hH:=yHas X g f x
 cases hb:heB g f x with
 | false =>
  rw [hb] at hH
  have h3:(x.op=2∧g.count≤x.b)∨(x.op=3∧g.count<f.count):=by
   unfold heB at hb
   by_cases c2:x.op=2
   ·rw [if_pos c2] at hb
    have:=of_decide_eq_false hb
    exact .inl ⟨c2,by omega⟩
   ·rw [if_neg c2] at hb
    have:=of_decide_eq_false hb
    exact .inr ⟨by omega,by omega⟩
  rw [if_pos h3] at hE
  rw [hE]
  (refine aA<|rgN<|aL O O O dO<|aL O O O dO<|aL O O O dO<|kas O<|aB<|aA<|aA<|rgN<|kfa O O ?_;refine kl1 O O O<|kfa O O ?_;refine kl1 O O O<|aQ O bZ O dO ?_;refine bD O O (cK y3) dO<|aB<|aF O ?_;refine aH ?_;refine aA<|rgN<|kfa O O ?_;refine kl1 O O O<|kfa O O ?_;refine kl1 O O O<|aR O O bZ y3 hio3 dO<|aY O hFX y5 hFz hFc dO<|aP O dO ?_;refine aM O O O O O O dO ?_;refine aB<|aA<|aG<|aA<|rgN<|aK O O O dO ?_;refine aK O O O dO ?_;refine aK O O O dO ?_;refine kca O O hH<|aV O O dO<|kas O<|aB<|aE O ?_;refine aA<|rgN<|kas O<|aB<|aI ?_)
  exact y6
 | true =>
 rw [hb] at hH
 have h3:¬((x.op=2∧g.count≤x.b)∨(x.op=3∧g.count<f.count)):=by
  unfold heB at hb
  by_cases c2:x.op=2
  ·rw [if_pos c2] at hb
   have:=of_decide_eq_true hb
   omega
  ·rw [if_neg c2] at hb
   have:=of_decide_eq_true hb
   omega
 rw [if_neg h3] at hE
 have hg1:=yIsRef X g
 have hg2:=yIsRef X f
 by_cases hk:(g.kind=10)=(f.kind=10)
 ·rw [if_pos hk] at hE
  rw [hE]
  have hn:(decide (g.kind=10) != decide (f.kind=10))=false:=by simp [hk]
  (refine aA<|rgN<|aL O O O dO<|aL O O O dO<|aL O O O dO<|kas O<|aB<|aA<|aA<|rgN<|kfa O O ?_;refine kl1 O O O<|kfa O O ?_;refine kl1 O O O<|aQ O bZ O dO ?_;refine bD O O (cK y3) dO<|aB<|aF O ?_;refine aH ?_;refine aA<|rgN<|kfa O O ?_;refine kl1 O O O<|kfa O O ?_;refine kl1 O O O<|aR O O bZ y3 hio3 dO<|aY O hFX y5 hFz hFc dO<|aP O dO ?_;refine aM O O O O O O dO ?_;refine aB<|aA<|aG<|aA<|rgN<|aK O O O dO ?_;refine aK O O O dO ?_;refine aK O O O dO ?_;refine kca O O hH<|aV O O dO<|kas O<|aB<|aF O ?_;refine aA<|rgD mixed<|aK O O O dO ?_;refine kca O O hg1<|aK O O O dO ?_;refine kca O O hg2<|K.neqB O O hn dO<|kas O<|aB<|rgA ?_;refine aF O ?_;refine aH ?_;refine aA<|rgN<|kas O<|aB<|aI ?_)
  exact y6
 ·rw [if_neg hk] at hE
  rw [hE]
  have hn:(decide (g.kind=10) != decide (f.kind=10))=true:=by
   rw [bne_iff_ne]
   intro h
   exact hk y2E
  (refine aA<|rgN<|aL O O O dO<|aL O O O dO<|aL O O O dO<|kas O<|aB<|aA<|aA<|rgN<|kfa O O ?_;refine kl1 O O O<|kfa O O ?_;refine kl1 O O O<|aQ O bZ O dO ?_;refine bD O O (cK y3) dO<|aB<|aF O ?_;refine aH ?_;refine aA<|rgN<|kfa O O ?_;refine kl1 O O O<|kfa O O ?_;refine kl1 O O O<|aR O O bZ y3 hio3 dO<|aY O hFX y5 hFz hFc dO<|aP O dO ?_;refine aM O O O O O O dO ?_;refine aB<|aA<|aG<|aA<|rgN<|aK O O O dO ?_;refine aK O O O dO ?_;refine aK O O O dO ?_;refine kca O O hH<|aV O O dO<|kas O<|aB<|aF O ?_;refine aA<|rgD mixed<|aK O O O dO ?_;refine kca O O hg1<|aK O O O dO ?_;refine kca O O hg2<|K.neqB O O hn dO<|kas O<|aB<|rgA ?_;refine aE O ?_;refine aA<|rgN<|kas O<|aB<|aI ?_)
  exact y6
theorem yIsHandle (l:List Ins) (ad:Option Addr) (cap:Nat) (hin:InsIn X ad l) (hl:l.length<4611686018427387904):
  PSpec Tryz.prog X 142 [Lx ad l.length cap] (Lb (hdB l)):=by
 refine cC Tryz.func142 rfl y5 rfl rfl ?_
 intro C
 by_cases h1:l.length=1
 case neg =>
  have hr:hdB l=false:=by
   unfold hdB
   split
   ·exact absurd rfl h1
   ·rfl
  rw [hr]
  (refine aA<|rgN<|kas O<|aB<|aA<|aA<|rgN<|kmv O<|aQ O bZ O dO ?_;refine kne O O (r:=true) (cP y3)<|aB<|aE O ?_;refine aA<|rgN<|kas O<|aB<|aI ?_)
  exact y6
 obtain ⟨x,hx⟩:∃ x,l[0]? = some x:=wg y3
 have hl1:l=[x]:=by
  match l,h1,hx with
  | [y],_,hx=>simp only [List.getElem?_cons_zero,Option.some.injEq] at hx;rw [hx]
 obtain ⟨blk,off,arr,el,fr,rfl,hX,hsz,hcs,g0,g1,g2,g3⟩:=hin.six hx
 obtain ⟨_,_,_,hk2⟩:=hin.small x (cZ hx)
 have h00:off+Int.toNat 0*6=off+0*6:=by simp
 have hr:hdB l=(x.op==2||x.op==3||(x.op==1&&decide (x.k=(false,0)))):=by rw [hl1];rfl
 rw [hr]
 clear hr hl1
 by_cases c2:x.op=2
 ·have e:(x.op==2||x.op==3||(x.op==1&&decide (x.k=(false,0))))=true:=by rw [c2];rfl
  rw [e]
  (refine aA<|rgN<|kas O<|aB<|aA<|aA<|rgN<|kmv O<|aQ O bZ O dO ?_;refine kne O O (r:=false) (cO y3)<|aB<|aF O ?_;refine aH ?_;refine aA<|aA<|rgN<|kmv O<|aR O O bZ y3 h00 dO<|aY O hX y5 hsz hcs dO<|aP O dO ?_;refine aM O O O O O O dO ?_;refine aB<|aA<|rgN<|kfa O O ?_;refine kl1 O O O<|aB<|aG<|aA<|aA<|rgN<|keq O O (r:=true) (cR c2)<|kas O<|aB<|aE O ?_;refine aH ?_;refine aE O ?_;refine aA<|rgN<|kas O<|aB<|aI ?_)
  exact y6
 by_cases c3:x.op=3
 ·have e:(x.op==2||x.op==3||(x.op==1&&decide (x.k=(false,0))))=true:=by rw [c3];rfl
  rw [e]
  (refine aA<|rgN<|kas O<|aB<|aA<|aA<|rgN<|kmv O<|aQ O bZ O dO ?_;refine kne O O (r:=false) (cO y3)<|aB<|aF O ?_;refine aH ?_;refine aA<|aA<|rgN<|kmv O<|aR O O bZ y3 h00 dO<|aY O hX y5 hsz hcs dO<|aP O dO ?_;refine aM O O O O O O dO ?_;refine aB<|aA<|rgN<|kfa O O ?_;refine kl1 O O O<|aB<|aG<|aA<|aA<|rgN<|keq O O (r:=false) (cN c2)<|kas O<|aB<|aF O ?_;refine rgN<|keq O O (r:=true) (cR c3)<|kas O<|aB<|aE O ?_;refine aA<|rgN<|kas O<|aB<|aI ?_)
  exact y6
 have e:(x.op==2||x.op==3||(x.op==1&&decide (x.k=(false,0))))=(x.op==1&&decide (x.k=(false,0))):=by
  rw [cN c2,cN c3];rfl
 rw [e]
 by_cases c1:x.op=1
 ·rw [cR c1,Bool.true_and]
  obtain ⟨op,a,b,kb,kN⟩:=x
  simp only at hk2 g0 g1 g2 g3 hcs c2 c3 c1 ⊢
  have q:=eqI (b:=kb) (b':=false) (h:=kN/18446744073709551616) (h':=0) (l:=kN%18446744073709551616) (l':=0) _ (eqZ hk2)
  (refine aA<|rgN<|kas O<|aB<|aA<|aA<|rgN<|kmv O<|aQ O bZ O dO ?_;refine kne O O (r:=false) (cO y3)<|aB<|aF O ?_;refine aH ?_;refine aA<|aA<|rgN<|kmv O<|aR O O bZ y3 h00 dO<|aY O hX y5 hsz hcs dO<|aP O dO ?_;refine aM O O O O O O dO ?_;refine aB<|aA<|rgN<|kfa O O ?_;refine kl1 O O O<|aB<|aG<|aA<|aA<|rgN<|keq O O (r:=false) (cN c2)<|kas O<|aB<|aF O ?_;refine rgN<|keq O O (r:=false) (cN c3)<|kas O<|aB<|aF O ?_;refine aA<|rgN<|keq O O (r:=true) (cR c1)<|kas O<|aB<|aE O ?_;refine aA<|rgN<|kfa O O ?_;refine bJ O O O y28 dO ?_;refine aT O O y2 y28 dO ?_;refine bQ O O O O y5 q (.inl ⟨O,O⟩) dO<|kas O<|aB<|aI ?_)
  exact y6
 ·rw [cN c1,Bool.false_and]
  (refine aA<|rgN<|kas O<|aB<|aA<|aA<|rgN<|kmv O<|aQ O bZ O dO ?_;refine kne O O (r:=false) (cO y3)<|aB<|aF O ?_;refine aH ?_;refine aA<|aA<|rgN<|kmv O<|aR O O bZ y3 h00 dO<|aY O hX y5 hsz hcs dO<|aP O dO ?_;refine aM O O O O O O dO ?_;refine aB<|aA<|rgN<|kfa O O ?_;refine kl1 O O O<|aB<|aG<|aA<|aA<|rgN<|keq O O (r:=false) (cN c2)<|kas O<|aB<|aF O ?_;refine rgN<|keq O O (r:=false) (cN c3)<|kas O<|aB<|aF O ?_;refine aA<|rgN<|keq O O (r:=false) (cN c1)<|kas O<|aB<|aF O ?_;refine aH ?_;refine aA<|rgN<|kas O<|aB<|aI ?_)
  exact y6
set_option maxHeartbeats 6400000 in
theorem yFormula (c:Cp) (f:Fl) (l:List Ins) (cad ad:Option Addr) (ccap cap:Nat) (hF:FieldsIn X cad c.fs) (hin:InsIn X ad l) (hbig:l.length<1152921504606846976) (hfl:c.fs.length<4611686018427387904):
  PSpec Tryz.prog X 102 [Cx c cad ccap,Fx f,Lx ad l.length cap] (Ln .i64 (fmE c.fs f l)):=by
 have hC:=gCheck X l ad cap hin hbig
 refine cC Tryz.func102 rfl y5 rfl rfl ?_
 intro C
 unfold fmE
 by_cases h0:chkX l=0
 case neg =>
  rw [if_neg h0]
  generalize chkX l=e at *
  (refine aA<|rgN<|aL O O O dO<|aL O O O dO<|kas O<|aB<|aA<|aA<|rgN<|kmv O<|kca O O hC<|kas O<|aB<|aA ?_;refine rgN<|kmv O<|kne O O (cP h0)<|aB<|aE O ?_;refine aA<|rgN<|kmv O<|kas O<|aB<|aI ?_)
  exact y6
 rw [h0] at hC
 have hchk:=chkX_ok h0
 have h64:=(chkX_zero h0).1
 have hU:=gUses' X l ad cap hin y3
 have hul:=uses_le l
 rw [if_pos h0,refE_hd h0,← seqE_uses (fs:=c.fs) (f:=f) l]
 (refine aA<|rgN<|aL O O O dO<|aL O O O dO<|kas O<|aB<|aA<|aA<|rgN<|kmv O<|kca O O hC<|kas O<|aB<|aA ?_;refine rgN<|kmv O<|kne O O (r:=false) O<|aB<|aF O ?_;refine aH ?_;refine aA<|aA<|rgN<|kmv O<|bE [(1000001,601)] (.sv (.one (.slc 601 0 (usesX l).length 6))) [(601,some ⟨88,(inssV (usesX l)).map .val,true⟩)] (hU) O O yC O O O O O y18 dO<|K.lenSlc O bZ O dO ?_;refine kmv O<|aB<|aG ?_)
 refine LWP.le (σ':=⟨[(17,.sv (.one (.slc 601 0 (usesX l).length 6))),(2,Lx ad l.length cap),(3,Lp 3),(4,Lp 4),(18,Ln .i64 ((usesX l).length:Nat)),(19,Ln .i64 0)],[(601,some ⟨88,(inssV (usesX l)).map .val,true⟩),flB 4 f,cpB 3 c cad ccap],X⟩) (Le.of y11 y9 y2 y2 y0) ?_
 refine LWP.freeze O O O fun ub uc ua uf hn _ _ _ hsp => ?_
 have hum:∀ x∈usesX l,smallI x:=fun x hx=>hin.small x (uses_mem hx).1
 have hUI:=ins_in (cJ X ub (.cells ua 88 uf)) hum hsp
 have hXY:=cF (o:=.cells ua 88 uf) hn
 replace hF:=hF.mono hXY
 have hH:=yIsHandle _ l ad cap (hin.mono hXY) y3
 have huse:∀ x∈usesX l,(x.op=2∨x.op=3)∧0≤x.a:=fun x hx=>⟨(uses_mem hx).2,(okI_facts (hchk x (uses_mem hx).1)).2.2.1.1⟩
 clear hin hC hU hsp hn hchk hum
 generalize withBlock X ub (.cells ua 88 uf)=Y at *
 generalize (some ⟨ub,0,none⟩:Option Addr)=uad at *
 generalize usesX l=u at *
 have hR:=yIsRef Y f
 refine cG (fun m σ=>∃ i:Nat,i≤u.length∧m=u.length-i∧(∀ j,0≤j→j<i→atE (findE c.fs f) u j=0)∧σ=⟨[(2,Lx ad l.length cap),(3,Lp 3),(4,Lp 4),(17,Lx uad u.length uc),(18,Ln .i64 (u.length:Nat)),(19,Ln .i64 (i:Nat))],[flB 4 f,cpB 3 c cad ccap],Y⟩) u.length
  ⟨_,Le.of y11 yE y2 y2 y0,0,by omega,by omega,fun j _ hj=>absurd hj y3,rfl⟩ ?_
 rintro m σ ⟨i,hi,rfl,hpre,rfl⟩
 by_cases hlt:i<u.length
 case neg =>
  have e:i=u.length:=by omega
  subst e
  have hs:seqE (findE c.fs f) u=0:=firstE_none fun j h1 h2=>hpre j h1 y3
  rw [if_pos hs]
  by_cases hk:f.kind=10
  ·rw [cL hk] at hR
   cases hd:hdB l with
   | true =>
    rw [hd] at hH
    rw [if_neg (fun h=>by cases h.2)]
    (refine aA<|rgN<|klt O O (cK y3)<|aB<|aA<|aF O ?_;refine aJ<|aA<|aA<|rgN<|aK O O O dO ?_;refine kca O O hR<|kmv O<|gmv O O O<|gca O O hH O O<|aV O O (dP O O) ?_;refine kpt O O<|aB<|aF O ?_;refine aH ?_;refine aA<|rgN<|kas O<|aB<|aI ?_)
    exact y6
   | false =>
    rw [hd] at hH
    rw [if_pos ⟨hk,rfl⟩]
    (refine aA<|rgN<|klt O O (cK y3)<|aB<|aA<|aF O ?_;refine aJ<|aA<|aA<|rgN<|aK O O O dO ?_;refine kca O O hR<|kmv O<|gmv O O O<|gca O O hH O O<|aV O O (dP O O) ?_;refine kpt O O<|aB<|aE O ?_;refine aA<|rgN<|kas O<|aB<|aI ?_)
    exact y6
  ·rw [cK hk] at hR
   rw [if_neg (fun h=>hk h.1)]
   (refine aA<|rgN<|klt O O (cK y3)<|aB<|aA<|aF O ?_;refine aJ<|aA<|aA<|rgN<|aK O O O dO ?_;refine kca O O hR<|kmv O<|aC O O O<|aC O O O<|aC O O O<|kpf O O<|aB<|aF O ?_;refine aH ?_;refine aA<|rgN<|kas O<|aB<|aI ?_)
   exact y6
 obtain ⟨x,hx⟩:=wg hlt
 obtain ⟨blk,off,arr,el,fr,rfl,hX,hsz,hcs,_⟩:=hUI.at hx
 have hio:=wo off i 6
 obtain ⟨h23,ha0⟩:=huse x (cZ hx)
 have hadd:IntKind.i64.wrap ((i:Int)+1)=((i+1:Nat):Int):=by rw [cE y3];omega
 have hq:=yUse Y c f x cad ccap hF hfl h23 ha0
 by_cases he:findE c.fs f x=0
 ·rw [he] at hq
  have next:∀ j,0≤j→j<i+1→atE (findE c.fs f) u j=0:=fun j h0 hj=>by
   by_cases e:j=i
   ·rw [e,atE_at hx];exact he
   ·exact hpre j h0 y3
  (refine aA<|rgN<|klt O O (cL y3)<|aB<|aA<|aE O ?_;refine aH ?_;refine aA<|aG<|aA<|rgN<|aR O O bZ y3 hio dO<|aY O hX y5 hsz hcs dO<|aP O dO ?_;refine aM O O O O O O dO ?_;refine aB<|aA<|rgN<|aK O O O dO ?_;refine aK O O O dO ?_;refine aK O O O dO ?_;refine kca O O hq<|kas O<|aB<|aA<|rgN<|kmv O<|kne O O (r:=false) O<|aB<|aF O ?_;refine aH ?_;refine rgN<|kad O O hadd<|kmv O<|aB ?_)
  exact ⟨_,_,by omega,Le.of y11 yE y2 y2 y0,i+1,by omega,O,next,O⟩
 ·have hs:seqE (findE c.fs f) u=findE c.fs f x:=firstE_some hpre (Nat.zero_le _) y3 (by rw [atE_at hx]) he
  rw [hs,if_neg he]
  generalize findE c.fs f x=e at *
  (refine aA<|rgN<|klt O O (cL y3)<|aB<|aA<|aE O ?_;refine aH ?_;refine aA<|aG<|aA<|rgN<|aR O O bZ y3 hio dO<|aY O hX y5 hsz hcs dO<|aP O dO ?_;refine aM O O O O O O dO ?_;refine aB<|aA<|rgN<|aK O O O dO ?_;refine aK O O O dO ?_;refine aK O O O dO ?_;refine kca O O hq<|kas O<|aB<|aA<|rgN<|kmv O<|kne O O (cP he)<|aB<|aE O ?_;refine aA<|rgN<|kmv O<|kas O<|aB<|aI ?_)
  exact y6
end Go.Proofs.YtopiioklkkiedaaGreatDoor
end
section
set_option maxHeartbeats 12800000
set_option maxRecDepth 100000
namespace Go.Proofs.YtopiioklkkiedaaGreatDoor
open Go Go.Lg Go.Lg.Fml Go.Lg.Fld Go.Lg.Arith
set_option maxRecDepth 100000
variable (X:Nat→Option Obj)
set_option maxHeartbeats 6400000 in
theorem yRule (a b:Cp) (r:Rl) (aad bad ead:Option Addr) (acap bcap ecap:Nat) (hA:FieldsIn X aad a.fs) (hB:FieldsIn X bad b.fs) (hE:CodesIn X ead r.ex) (hal:a.fs.length<4611686018427387904) (hbl:b.fs.length<4611686018427387904) (hcl:∀ c∈r.ex,c.length<1152921504606846976):
  PSpec Tryz.prog X 67 [Cx a aad acap,Cx b bad bcap,.sv (.agg [.val (.int .i64 r.nw),.val (.int .i64 r.old),.val (.slice ead r.ex.length ecap)])] (Ln .i64 (ruE a.fs b.fs r)):=by
 refine cC Tryz.func67 rfl y5 rfl rfl ?_
 intro C
 by_cases h0:r.old=0
 ·rw [show ruE a.fs b.fs r=0 from if_pos h0]
  (refine aA<|rgN<|aL O O O dO<|aL O O O dO<|aL O O O dO<|kas O<|aB<|aA<|aG<|aA<|rgN<|kfa O O ?_;refine kl1 O O O<|keq O O (r:=true) (cR h0)<|kas O<|aB<|aE O ?_;refine aA<|rgN<|kas O<|aB<|aI ?_)
  exact y6
 by_cases hl:r.ex.length=b.fs.length
 case neg =>
  rw [show ruE a.fs b.fs r=4 by unfold ruE;rw [if_neg h0,if_neg hl]]
  (refine aA<|rgN<|aL O O O dO<|aL O O O dO<|aL O O O dO<|kas O<|aB<|aA<|aG<|aA<|rgN<|kfa O O ?_;refine kl1 O O O<|keq O O (r:=false) (cN h0)<|kas O<|aB<|aF O ?_;refine aA<|rgN<|kfa O O ?_;refine kl1 O O O<|aQ O bZ O dO ?_;refine kfa O O ?_;refine kl1 O O O<|aQ O bZ O dO ?_;refine kne O O (r:=true) (cP y3)<|kas O<|aB<|aE O ?_;refine aA<|rgN<|kas O<|aB<|aI ?_)
  exact y6
 rw [ruE_at h0 hl]
 have hzl:(b.fs.zip r.ex).length=b.fs.length:=by rw [List.length_zip];omega
 (refine aA<|rgN<|aL O O O dO<|aL O O O dO<|aL O O O dO<|kas O<|aB<|aA<|aG<|aA<|rgN<|kfa O O ?_;refine kl1 O O O<|keq O O (r:=false) (cN h0)<|kas O<|aB<|aF O ?_;refine aA<|rgN<|kfa O O ?_;refine kl1 O O O<|aQ O bZ O dO ?_;refine kfa O O ?_;refine kl1 O O O<|aQ O bZ O dO ?_;refine kne O O (r:=false) (cO y3)<|kas O<|aB<|aF O ?_;refine aH ?_;refine aA<|aA<|rgN<|kfa O O ?_;refine kl1 O O O<|aQ O bZ O dO ?_;refine kmv O<|aB<|aG ?_)
 refine cG (fun m σ=>∃ i:Nat,i≤r.ex.length∧m=r.ex.length-i∧(∀ j,0≤j→j<i→atE (fun q:Fl×List Ins=>fmE a.fs q.1 q.2) (b.fs.zip r.ex) j=0)∧σ=⟨[(3,Lp 3),(4,Lp 4),(23,Lx ead r.ex.length ecap),(24,Ln .i64 (r.ex.length:Nat)),(25,Ln .i64 (i:Nat))],[cpB 4 b bad bcap,cpB 3 a aad acap],X⟩) r.ex.length
  ⟨_,Le.of y10 yE y2 y2 y0,0,by omega,by omega,fun j _ hj=>absurd hj y3,rfl⟩ ?_
 rintro m σ ⟨i,hi,rfl,hpre,rfl⟩
 by_cases hlt:i<r.ex.length
 case neg =>
  rw [show seqE (fun q:Fl×List Ins=>fmE a.fs q.1 q.2) (b.fs.zip r.ex)=0 from firstE_none fun j h1 h2=>hpre j h1 (by omega)]
  (refine aA<|rgN<|klt O O (cK y3)<|aB<|aA<|aF O ?_;refine aJ<|aA<|rgN<|kas O<|aB<|aI ?_)
  exact y6
 obtain ⟨f,hf⟩:∃ f,b.fs[i]? = some f:=wg y3
 obtain ⟨c,hc⟩:=wg hlt
 obtain ⟨fb,fo,farr,fel,ffr,rfl,hFX,hFz,hFc,_⟩:=hB.cells hf
 obtain ⟨eb,eo,earr,eel,efr,vad,vcap,rfl,hEX,hec,hI⟩:=hE.get hc
 have hio3:=wo fo i 3
 have hio1:=wo eo i 1
 have hadd:IntKind.i64.wrap ((i:Int)+1)=((i+1:Nat):Int):=by rw [cE y3];omega
 have hq:=yFormula X a f c aad vad acap vcap hA hI (hcl c (cZ hc)) hal
 have hat:atE (fun q:Fl×List Ins=>fmE a.fs q.1 q.2) (b.fs.zip r.ex) i=fmE a.fs f c:=atE_at (zip_two hf hc)
 by_cases he:fmE a.fs f c=0
 ·rw [he] at hq
  (refine aA<|rgN<|klt O O (cL y3)<|aB<|aA<|aE O ?_;refine aH ?_;refine aA<|aG<|aA<|rgN<|kmv O<|aR O O bZ y3 hio1 dO<|aW O hEX O hec dO<|kas O<|kas O<|aB<|aA<|rgD mixed<|aK O O O dO ?_;refine kfa O O ?_;refine kl1 O O O<|kmv O<|aR O O bZ y3 hio3 dO<|aY O hFX y5 hFz hFc dO<|kmv O<|kca O O hq<|kas O<|aB<|rgA ?_;refine aA<|rgN<|kmv O<|kne O O (r:=false) O<|aB<|aF O ?_;refine aH ?_;refine rgN<|kad O O hadd<|kmv O<|aB ?_)
  exact ⟨_,_,by omega,Le.of y10 yE y2 y2 y0,i+1,by omega,O,(fun j h0 hj=>by
   by_cases e:j=i
   ·rw [e,hat];exact he
   ·exact hpre j h0 y3),rfl⟩
 ·rw [show seqE (fun q:Fl×List Ins=>fmE a.fs q.1 q.2) (b.fs.zip r.ex)=fmE a.fs f c from firstE_some hpre (Nat.zero_le _) y3 hat he]
  generalize fmE a.fs f c=e at *
  (refine aA<|rgN<|klt O O (cL y3)<|aB<|aA<|aE O ?_;refine aH ?_;refine aA<|aG<|aA<|rgN<|kmv O<|aR O O bZ y3 hio1 dO<|aW O hEX O hec dO<|kas O<|kas O<|aB<|aA<|rgD mixed<|aK O O O dO ?_;refine kfa O O ?_;refine kl1 O O O<|kmv O<|aR O O bZ y3 hio3 dO<|aY O hFX y5 hFz hFc dO<|kmv O<|kca O O hq<|kas O<|aB<|rgA ?_;refine aA<|rgN<|kmv O<|kne O O (r:=true) (cP he)<|aB<|aE O ?_;refine aA<|rgN<|kmv O<|kas O<|aB<|aI ?_)
  exact y6
end Go.Proofs.YtopiioklkkiedaaGreatDoor
end
section
set_option maxHeartbeats 12800000
set_option maxRecDepth 100000
namespace Go.Proofs.YtopiioklkkiedaaGreatDoor
open Go Go.Lg Go.Lg.Fml Go.Lg.Fld Go.Lg.Arith
set_option maxRecDepth 100000
structure NmsIn (X:Nat→Option Obj) (ad:Option Addr) (l:List Int):Prop where
 at_:∀ (i:Nat) (v:Int),l[i]? = some v→∃ (blk off:Nat) (arr:Array Value) (el:TypeId) (fr:Nat×Nat),ad=some ⟨blk,off,none⟩∧X blk=some (.cells arr el fr)∧arr[off+i*1]? = some (.int .i64 v)
variable (X:Nat→Option Obj)
end Go.Proofs.YtopiioklkkiedaaGreatDoor
end
section
set_option maxHeartbeats 12800000
set_option maxRecDepth 100000
namespace Go.Proofs.YtopiioklkkiedaaGreatDoor
open Go Go.Lg Go.Lg.Fml Go.Lg.Fld Go.Lg.Arith
set_option maxRecDepth 100000
def e4:List UInt8×Bool→Nat×List UInt8×Bool
 | (l,b)=>if b=false∧4≤l.length then (le (l.take 4),l.drop 4,false) else (0,l,true)
structure KE (l:List UInt8) (b:Bool) (c:List Ins) (l':List UInt8) (b':Bool):Prop where
 less:l'.length≤l.length
 bad:b=true→b'=true
 ok:c.length<256∧∀ x∈c,smallI x
 get:(b=false∧b'=false∧getE l=some (c,l'))∨((b=true∨getE l=none)∧(b'=true∨c=[]))
structure KEs (l:List UInt8) (b:Bool) (i:Nat) (cs:List (List Ins)) (l':List UInt8) (b':Bool):Prop where
 len:cs.length=i
 less:l'.length≤l.length
 bad:b=true→b'=true
 ok:∀ c∈cs,c.length<256∧∀ x∈c,smallI x
 get:(b=false∧b'=false∧getEs i l=some (cs,l'))∨((b=true∨∀ k,getEs (i+k) l=none)∧(b'=true∨[]∈cs))
def okK (r:Rl):Prop:=(0≤r.nw∧r.nw<256)∧(0≤r.old∧r.old<256)∧r.ex.length<256∧∀ c∈r.ex,c.length<256∧∀ x∈c,smallI x
structure KR (l:List UInt8) (b:Bool) (r:Rl) (l':List UInt8) (b':Bool):Prop where
 less:l'.length≤l.length
 bad:b=true→b'=true
 ok:okK r
 get:(b=false∧b'=false∧getRl l=some (r,l'))∨((b=true∨getRl l=none)∧(b'=true∨[]∈r.ex))
structure KRs (l:List UInt8) (b:Bool) (i:Nat) (rs:List Rl) (l':List UInt8) (b':Bool):Prop where
 len:rs.length=i
 less:l'.length≤l.length
 bad:b=true→b'=true
 ok:∀ r∈rs,okK r
 get:(b=false∧b'=false∧getRls i l=some (rs,l'))∨((b=true∨∀ k,getRls (i+k) l=none)∧(b'=true∨∃ r∈rs,[]∈r.ex))
variable (X:Nat→Option Obj)
end Go.Proofs.YtopiioklkkiedaaGreatDoor
end
section
set_option maxHeartbeats 12800000
set_option maxRecDepth 100000
namespace Go.Proofs.YtopiioklkkiedaaGreatDoor
open Go Go.Lg Go.Lg.Fml Go.Lg.Fld Go.Lg.Arith
set_option maxRecDepth 100000
def pgOk (p:Pg):Prop:=p.rs.length≤30∧∀ r∈p.rs,r.ex.length≤12∧∀ c∈r.ex,c.length≤80
variable (X:Nat→Option Obj)
section
variable (p:Pg) (ad:Option Addr) (cap:Nat) (hin:RulesIn X ad p.rs) (hs:pgOk p)
include hin hs
end
end Go.Proofs.YtopiioklkkiedaaGreatDoor
end
section
set_option maxHeartbeats 12800000
set_option maxRecDepth 100000
namespace Go.Proofs.YtopiioklkkiedaaGreatDoor
open Go Go.Lg Go.Lg.Fml Go.Lg.Fld Go.Lg.Arith
set_option maxRecDepth 100000
def scOk (cs:List Cp):Prop:=cs.length≤30∧∀ c∈cs,c.fs.length≤12
def scBig (cs:List Cp):Prop:=cs.length≤4398046511104∧∀ c∈cs,c.fs.length≤4398046511104
variable (X:Nat→Option Obj)
theorem cRule (a b:Cp) (r:Rl) (aad bad ead:Option Addr) (acap bcap ecap:Nat) (hA:FieldsIn X aad a.fs) (hB:FieldsIn X bad b.fs) (hE:CodesIn X ead r.ex) (hal:a.fs.length<4611686018427387904) (hbl:b.fs.length<4611686018427387904) (hcl:∀ c∈r.ex,c.length<1152921504606846976):
  PSpec Tryz.prog X 67 [Cx a aad acap,Cx b bad bcap,.sv (.agg [.val (.int .i64 r.nw),.val (.int .i64 r.old),.val (.slice ead r.ex.length ecap)])] (Ln .i64 (ruE a.fs b.fs r)):=yRule X a b r aad bad ead acap bcap ecap hA hB hE hal hbl hcl
end Go.Proofs.YtopiioklkkiedaaGreatDoor
end
section
set_option maxHeartbeats 12800000
set_option maxRecDepth 100000
namespace Go.Proofs.YtopiioklkkiedaaGreatDoor
open Go Go.Lg Go.Lg.Fml Go.Lg.Fld Go.Lg.Arith
set_option maxRecDepth 100000
def valA (a b:List Fl) (r:Rl) (ns:List Nm):List Nm:=if valE a b r ns=0 then valN a b r ns else []
def vShape (e:Int) (_:List Nm):Bool:=e==0
def vRow (_:List Nm):Bool:=true
theorem vShape_nil {a b:List Fl} {r:Rl} {ns:List Nm} (h:vShape (valE a b r ns) (valA a b r ns)=false):valA a b r ns=[]:=if_neg (by unfold vShape at h;simpa using h)
abbrev nmsB (k:Nat) (l:List Nm) (row:Bool):Nat×Option Box:=(k,some ⟨86,(nmsV l).map .val,row⟩)
structure PartsC (X:Nat→Option Obj) (ad:Option Addr) (ps:List Pt):Prop where
 at_:∀ (i:Nat) (p:Pt),ps[i]? = some p→∃ (blk off:Nat) (arr:Array Value) (el:TypeId) (fr:Nat×Nat) (vad:Option Addr) (vcap:Nat),ad=some ⟨blk,off,none⟩∧X blk=some (.cells arr el fr)∧off+i*2+2≤arr.size ∧
  (arr.toList.drop (off+i*2)).take 2=[.int .i64 p.comp,.slice vad p.val.length vcap]∧NumsIn X vad p.val∧p.val.length≤vcap
 small:∀ p∈ps,-9223372036854775808≤p.comp∧p.comp<9223372036854775808
end Go.Proofs.YtopiioklkkiedaaGreatDoor
end
section
set_option maxHeartbeats 12800000
set_option maxRecDepth 100000
namespace Go.Proofs.YtopiioklkkiedaaGreatDoor
open Go Go.Lg Go.Lg.Fml Go.Lg.Fld Go.Lg.Arith
set_option maxRecDepth 100000
theorem evX_two {l:List Ins} {fs:List (List Nm)} {at_:Int} {v:Nm} (hl:∀ x∈l,In2 x.k.2) (hf:∀ r∈fs,∀ u∈r,In2 u.2) (hat:at_<9223372036854775808) (h:evX l fs at_ = .ok v):In2 v.2:=by
 by_cases hz:chkX l=0
 ·obtain ⟨t,ht,e⟩:=parse (chkX_zero hz).2
  rw [evX_tree hz ht e] at h
  cases hev:t.ev (oneX fs at_) with
  | error e'=>rw [hev] at h;cases h
  | ok u =>
   rw [hev] at h
   simp only at h
   split at h
   ·cases h;exact tree_in2 hf hat (fun x hx=>hl x (by rw [← e];exact hx)) hev
   ·cases h
 ·rw [show evX l fs at_ = .error (chkX l) from if_neg hz] at h;cases h
def subA (vad:Option Addr) (s:Nat):Option Addr:=vad.map fun a=>⟨a.block,a.off+s*3,a.spot⟩
def subV (vad:Option Addr) (vcap:Nat):Nat→List Fl→List Value
 | _,[]=>[]
 | s,f::t=>.slice (subA vad s) f.n (vcap-s)::subV vad vcap (s+f.n) t
theorem subV_snoc (vad:Option Addr) (vcap:Nat) (f:Fl):∀ (l:List Fl) (s:Nat),subV vad vcap s (l++[f])=subV vad vcap s l++[.slice (subA vad (s+sumC l)) f.n (vcap-(s+sumC l))]
 | [],s=>by simp [subV,sumC]
 | g::t,s=>by
  have e:s+sumC (g::t)=s+g.n+sumC t:=by simp [sumC];omega
  simp only [List.cons_append,subV,subV_snoc vad vcap f t,e]
theorem subV_len (vad:Option Addr) (vcap:Nat):∀ (l:List Fl) (s:Nat),(subV vad vcap s l).length=l.length
 | [],_=>rfl
 | g::t,s=>by simp only [subV,dF,subV_len vad vcap t]
theorem subV_at (vad:Option Addr) (vcap:Nat):∀ {l:List Fl} {s i:Nat} {f:Fl},l[i]? = some f→(subV vad vcap s l)[i]? = some (.slice (subA vad (s+sumC (l.take i))) f.n (vcap-(s+sumC (l.take i))))
 | g::t,s,0,f,h=>by
  simp only [List.getElem?_cons_zero,Option.some.injEq] at h
  subst h
  simp [subV,sumC]
 | g::t,s,i+1,f,h=>by
  simp only [List.getElem?_cons_succ] at h
  have:=subV_at vad vcap (s:=s+g.n) h
  have e:s+sumC ((g::t).take (i+1))=s+g.n+sumC (t.take i):=by simp [sumC];omega
  rw [e]
  exact this
 | [],_,_,_,h=>by simp at h
theorem nums_sub {X:Nat→Option Obj} {vad:Option Addr} {ns:List Nm} (h:NumsIn X vad ns) (s n:Nat):NumsIn X (subA vad s) ((ns.drop s).take n):=⟨fun i r hr=>by
 rw [List.map_take,List.map_drop,List.getElem?_take] at hr
 split at hr
 ·rw [List.getElem?_drop] at hr
  obtain ⟨blk,off,arr,el,fr,rfl,h2,h3,h4⟩:=h.rows (s+i) r hr
  refine ⟨blk,off+s*3,arr,el,fr,O,h2,by omega,?_⟩
  rw [show off+s*3+i*3=off+(s+i)*3 by omega]
  exact h4
 ·simp at hr,fun u hu=>h.in2 u (List.mem_of_mem_drop (List.mem_of_mem_take hu))⟩
theorem fss_block {Y:Nat→Option Obj} {blk:Nat} {arr:Array Value} {el:TypeId} {fr:Nat×Nat} {vad:Option Addr} {vcap:Nat} {fs:List Fl} {ns:List Nm} (hY:Y blk=some (.cells arr el fr)) (h:∃ sp,arr.toList=subV vad vcap 0 fs++sp) (hn:NumsIn Y vad ns) (hl:ns.length=sumC fs):FssIn Y (some ⟨blk,0,none⟩) (cutN fs ns):=⟨fun i r hr=>by
 obtain ⟨sp,h⟩:=h
 have hi:=(wl hr)
 rw [cutN_len] at hi
 obtain ⟨f,hf⟩:=wg hi
 rw [cut_at hf] at hr
 cases hr
 have hs:=sum_take hf
 have hlen:((ns.drop (sumC (fs.take i))).take f.n).length=f.n:=by rw [cW,cX];omega
 have hv:=subV_at vad vcap (s:=0) hf
 rw [Nat.zero_add] at hv
 have hsz:arr.size=fs.length+sp.length:=by rw [← Array.length_toList,h,cS,subV_len]
 refine ⟨blk,0,arr,el,fr,subA vad (sumC (fs.take i)),vcap-sumC (fs.take i),O,hY,by omega,?_,nums_sub hn _ _⟩
 rw [← Array.getElem?_toList,h,Nat.zero_add,dN (by rw [subV_len];exact hi),hv,hlen]⟩
theorem sum_pos {fs:List Fl} (h:fs.all Fl.ok=true) {i:Nat} {f:Fl} (hf:fs[i]? = some f):1≤f.n∧f.n≤8∧(f.n:Int)=f.count:=(ok_w (List.all_eq_true.1 h f (cZ hf))).2
def vR14 (e:Int) (L:List Nm):LV:=if e=0 then .tup [.one (.slc 1000001 0 L.length 3),Sn .i64 0] else .tup [Vnil,Sn .i64 e]
def vBx14 (e:Int) (L:List Nm):List (Nat×Option Box):=if e=0 then [nmsB 1000001 L (Nat.blt 0 L.length)] else []
structure PartsH (H:Nat→Option Obj) (ws:List Value) (ps:List Pt):Prop where
 len:ws.length=ps.length
 at_:∀ (i:Nat) (w:Value) (p:Pt),ws[i]? = some w→ps[i]? = some p→∃ (vad:Option Addr) (vcap:Nat),w = .slice vad p.val.length vcap∧NumsIn H vad p.val
section
variable {n:Nat} {C:Ctx} {X:Nat→Option Obj} {s:List (Nat×LV)} {bx:List (Nat×Option Box)} {k:Nat}
end
theorem valN_two {a b:List Fl} {r:Rl} {ns:List Nm} (hI:∀ c∈r.ex,∀ x∈c,In2 x.k.2) (hN:∀ u∈ns,In2 u.2) (hk:∀ f∈b,f.count<9223372036854775808):∀ u∈valN a b r ns,In2 u.2:=fun u hu=>by
 obtain ⟨q,hq,rfl⟩:=List.mem_map.1 hu
 obtain ⟨i,h1,h2,h3⟩:=mem_steps hq
 have hc:=hk q.1 (cZ h1)
 unfold Fl.n at h3
 unfold stepV
 cases he:evX q.2.1 (cutN a ns) q.2.2 with
 | error e=>show 0≤(0:Int)∧(0:Int)<_;decide
 | ok v=>exact evX_two (hI q.2.1 (cZ h2)) (fun l hl u hu=>hN u (cut_mem hl u hu)) y3 he
end Go.Proofs.YtopiioklkkiedaaGreatDoor
end
section
set_option maxHeartbeats 12800000
set_option maxRecDepth 100000
namespace Go.Proofs.YtopiioklkkiedaaGreatDoor
open Go Go.Lg Go.Lg.Fml Go.Lg.Fld Go.Lg.Arith
set_option maxRecDepth 100000
def ckV (a b:List Fl) (r:Rl) (ns:List Nm):Int:=if fitErr a ns=0 then (if layErr b=0 then (if r.old=0 then 7 else ruE a b r) else layErr b) else fitErr a ns
theorem valE_no {a b:List Fl} {r:Rl} {ns:List Nm} (h:ckV a b r ns≠0):valE a b r ns=ckV a b r ns:=by
 unfold valE
 unfold ckV at h ⊢
 by_cases z1:fitErr a ns=0
 ·rw [if_pos z1] at h ⊢
  rw [if_pos z1]
  by_cases z2:layErr b=0
  ·rw [if_pos z2] at h ⊢
   rw [if_pos z2]
   by_cases z3:r.old=0
   ·rw [if_pos z3,if_pos z3]
   ·rw [if_neg z3] at h ⊢
    rw [if_neg z3,if_neg h]
  ·rw [if_neg z2,if_neg z2]
 ·rw [if_neg z1,if_neg z1]
theorem valE_go {a b:List Fl} {r:Rl} {ns:List Nm} (h:ckV a b r ns=0):fitErr a ns=0∧layErr b=0∧r.old≠0∧ruE a b r=0∧valE a b r ns=seqE (stepE (cutN a ns)) (stepsN b r.ex):=by
 unfold valE
 unfold ckV at h
 by_cases z1:fitErr a ns=0
 ·rw [if_pos z1] at h ⊢
  by_cases z2:layErr b=0
  ·rw [if_pos z2] at h ⊢
   by_cases z3:r.old=0
   ·rw [if_pos z3] at h;cases h
   ·rw [if_neg z3] at h ⊢
    exact ⟨z1,z2,z3,h,if_pos h⟩
  ·rw [if_neg z2] at h;exact absurd h z2
 ·rw [if_neg z1] at h;exact absurd h z1
def elX (k:Int) (c:List Ins) (G:List (List Nm)) (at_:Int):Except Int Nm:=match evX c G at_ with | .error e=>.error e | .ok v=>if fitB k v.1 v.2=true then .ok v else .error 3
theorem elX_err {f:Fl} {c:List Ins} {G:List (List Nm)} {k:Nat} {e:Int} (h:elX f.kind c G k = .error e):e≠0∧stepE G (f,c,k)=e:=by
 unfold elX at h
 unfold stepE
 show _∧(if erV (evX c G (k:Nat))=0 then (if fitB f.kind (okV (evX c G (k:Nat))).1 (okV (evX c G (k:Nat))).2=true then 0 else 3) else erV (evX c G (k:Nat)))=e
 cases hev:evX c G (k:Nat) with
 | error e' =>
  rw [hev] at h
  cases h
  have hne:=evX_err hev
  exact ⟨hne,if_neg hne⟩
 | ok v =>
  rw [hev] at h
  simp only at h
  cases hq:fitB f.kind v.1 v.2 with
  | true=>rw [if_pos hq] at h;cases h
  | false =>
   rw [if_neg (by rw [hq];decide)] at h
   cases h
   refine ⟨by decide,?_⟩
   rw [show erV (Except.ok v:Except Int Nm)=0 from rfl,if_pos rfl,show okV (Except.ok v:Except Int Nm)=v from rfl,hq]
   rfl
theorem elX_ok {f:Fl} {c:List Ins} {G:List (List Nm)} {k:Nat} {v:Nm} (h:elX f.kind c G k = .ok v):stepE G (f,c,k)=0∧stepV G (f,c,k)=v:=by
 unfold elX at h
 unfold stepE stepV
 show (if erV (evX c G (k:Nat))=0 then (if fitB f.kind (okV (evX c G (k:Nat))).1 (okV (evX c G (k:Nat))).2=true then 0 else 3) else erV (evX c G (k:Nat)))=0∧okV (evX c G (k:Nat))=v
 cases hev:evX c G (k:Nat) with
 | error e'=>rw [hev] at h;cases h
 | ok w =>
  rw [hev] at h
  simp only at h
  cases hq:fitB f.kind w.1 w.2 with
  | false=>rw [if_neg (by rw [hq];decide)] at h;cases h
  | true =>
   rw [if_pos hq] at h
   cases h
   rw [show erV (Except.ok v:Except Int Nm)=0 from rfl,if_pos rfl,show okV (Except.ok v:Except Int Nm)=v from rfl,hq]
   exact y30
end Go.Proofs.YtopiioklkkiedaaGreatDoor
end
section
set_option maxHeartbeats 12800000
set_option maxRecDepth 100000
namespace Go.Proofs.YtopiioklkkiedaaGreatDoor
open Go Go.Lg Go.Lg.Fml Go.Lg.Fld Go.Lg.Arith
set_option maxRecDepth 100000
variable (X:Nat→Option Obj)
theorem eCheck (a b:Cp) (r:Rl) (ns:List Nm) (aad bad ead vad:Option Addr) (acap bcap ecap vcap:Nat) (hA:FieldsIn X aad a.fs) (hB:FieldsIn X bad b.fs) (hE:CodesIn X ead r.ex) (hN:NumsIn X vad ns) (hal:a.fs.length<4611686018427387904) (hbl:b.fs.length<4611686018427387904) (hcl:∀ c∈r.ex,c.length<1152921504606846976):
  PSpec Tryz.prog X 32 [Cx a aad acap,Cx b bad bcap,LPg r.nw r.old ead r.ex.length ecap,Lx vad ns.length vcap] (Ln .i64 (ckV a.fs b.fs r ns)):=by
 have hF:=lFit_any X aad vad acap vcap a.fs ns hA hal hN
 have hL:=Check_spec X bad bcap b.fs hB hbl
 have hR:=cRule X a b r aad bad ead acap bcap ecap hA hB hE hal hbl hcl
 refine cC Tryz.func32 rfl y5 rfl rfl ?_
 intro C
 unfold ckV
 by_cases z1:fitErr a.fs ns=0
 case neg =>
  rw [if_neg z1]
  generalize fitErr a.fs ns=e at *
  (refine aA<|rgN<|aL O O O dO<|aL O O O dO<|aL O O O dO<|kas O<|aB<|aA<|aA<|rgN<|kfa O O ?_;refine kl1 O O O<|kmv O<|kca O O hF<|kas O<|aB<|aA<|rgN<|kmv O<|kne O O (r:=true) (cP z1)<|aB<|aE O ?_;refine aA<|rgN<|kmv O<|kas O<|aB<|aI ?_)
  exact y6
 rw [if_pos z1]
 rw [z1] at hF
 by_cases z2:layErr b.fs=0
 case neg =>
  rw [if_neg z2]
  generalize layErr b.fs=e at *
  (refine aA<|rgN<|aL O O O dO<|aL O O O dO<|aL O O O dO<|kas O<|aB<|aA<|aA<|rgN<|kfa O O ?_;refine kl1 O O O<|kmv O<|kca O O hF<|kas O<|aB<|aA<|rgN<|kmv O<|kne O O (r:=false) O<|aB<|aF O ?_;refine aH ?_;refine aA<|aA<|rgN<|kfa O O ?_;refine kl1 O O O<|kca O O hL<|kas O<|aB<|aA<|rgN<|kmv O<|kne O O (r:=true) (cP z2)<|aB<|aE O ?_;refine aA<|rgN<|kmv O<|kas O<|aB<|aI ?_)
  exact y6
 rw [if_pos z2]
 rw [z2] at hL
 by_cases z3:r.old=0
 ·rw [if_pos z3]
  (refine aA<|rgN<|aL O O O dO<|aL O O O dO<|aL O O O dO<|kas O<|aB<|aA<|aA<|rgN<|kfa O O ?_;refine kl1 O O O<|kmv O<|kca O O hF<|kas O<|aB<|aA<|rgN<|kmv O<|kne O O (r:=false) O<|aB<|aF O ?_;refine aH ?_;refine aA<|aA<|rgN<|kfa O O ?_;refine kl1 O O O<|kca O O hL<|kas O<|aB<|aA<|rgN<|kmv O<|kne O O (r:=false) O<|aB<|aF O ?_;refine aH ?_;refine aA<|aA<|rgN<|kfa O O ?_;refine kl1 O O O<|keq O O (r:=true) (cR z3)<|aB<|aE O ?_;refine aA<|rgN<|kas O<|aB<|aI ?_)
  exact y6
 rw [if_neg z3]
 generalize ruE a.fs b.fs r=e at *
 (refine aA<|rgN<|aL O O O dO<|aL O O O dO<|aL O O O dO<|kas O<|aB<|aA<|aA<|rgN<|kfa O O ?_;refine kl1 O O O<|kmv O<|kca O O hF<|kas O<|aB<|aA<|rgN<|kmv O<|kne O O (r:=false) O<|aB<|aF O ?_;refine aH ?_;refine aA<|aA<|rgN<|kfa O O ?_;refine kl1 O O O<|kca O O hL<|kas O<|aB<|aA<|rgN<|kmv O<|kne O O (r:=false) O<|aB<|aF O ?_;refine aH ?_;refine aA<|aA<|rgN<|kfa O O ?_;refine kl1 O O O<|keq O O (r:=false) (cN z3)<|aB<|aF O ?_;refine aH ?_;refine aA<|rgN<|aK O O O dO ?_;refine aK O O O dO ?_;refine aK O O O dO ?_;refine kca O O hR<|kas O<|aB<|aI ?_)
 exact y6
theorem eElem (f:Fl) (c:List Ins) (G:List (List Nm)) (cad fad:Option Addr) (ccap fc:Nat) (at_:Int) (hI:InsIn X cad c) (hc:c.length<1152921504606846976) (hG:FssIn X fad G) (hGl:G.length<4611686018427387904) (hrl:∀ r∈G,r.length<4611686018427387904) (hf2:∀ r∈G,∀ u∈r,In2 u.2) (hat : -9223372036854775808≤at_∧at_<9223372036854775808):
  PSpec Tryz.prog X 35 [Fx f,Lx cad c.length ccap,LEnv fad G.length fc at_] (exR (elX f.kind c G at_)):=by
 have hE:=gEval X c cad ccap hI hc fad fc G hG hGl hrl hf2 at_ hat
 refine cC Tryz.func35 rfl y5 rfl (exR_closed _) ?_
 intro C
 cases hev:evX c G at_ with
 | error e =>
  have hne:=evX_err hev
  rw [show elX f.kind c G at_ = .error e by unfold elX;rw [hev]]
  rw [hev] at hE
  (refine aA<|rgN<|aL O O O dO<|aL O O O dO<|aP O dO ?_;refine kas O<|aB<|aA<|rgN<|kmv O<|aK O O O dO ?_;refine kca O O hE<|kmv O<|kex O O<|kex O O<|aP O dO ?_;refine aM O O O O O O dO ?_;refine kas O<|aB<|aA<|aG<|aA<|rgN<|kmv O<|kne O O (r:=true) (cP hne)<|kas O<|aB<|aE O ?_;refine aA<|rgN<|aT O O y2 y28 dO ?_;refine kmv O<|aM O O O O O O dO ?_;refine kas O<|aB<|aI ?_)
  exact y4
 | ok v =>
 have hv2:In2 v.2:=evX_two (fun x hx=>(hI.small x hx).2.2.2) hf2 hat.2 hev
 rw [hev] at hE
 cases hq:fitB f.kind v.1 v.2 with
 | false =>
  have hFt:=Fits_spec X f.kind v.1 v.2 hv2 false hq
  rw [show elX f.kind c G at_ = .error 3 by unfold elX;rw [hev];exact if_neg (by rw [hq];decide)]
  (refine aA<|rgN<|aL O O O dO<|aL O O O dO<|aP O dO ?_;refine kas O<|aB<|aA<|rgN<|kmv O<|aK O O O dO ?_;refine kca O O hE<|kmv O<|kex O O<|kex O O<|aP O dO ?_;refine aM O O O O O O dO ?_;refine kas O<|aB<|aA<|aG<|aA<|rgN<|kmv O<|kne O O (r:=false) O<|kas O<|aB<|aF O ?_;refine aA<|rgN<|kfa O O ?_;refine kl1 O O O<|aK O O O dO ?_;refine kca O O hFt<|aV O O dO<|kas O<|aB<|aE O ?_;refine aA<|rgN<|aT O O y2 y28 dO ?_;refine aM O O O O O O dO ?_;refine kas O<|aB<|aI ?_)
  exact y4
 | true =>
  have hFt:=Fits_spec X f.kind v.1 v.2 hv2 true hq
  rw [show elX f.kind c G at_ = .ok v by unfold elX;rw [hev];exact if_pos hq]
  (refine aA<|rgN<|aL O O O dO<|aL O O O dO<|aP O dO ?_;refine kas O<|aB<|aA<|rgN<|kmv O<|aK O O O dO ?_;refine kca O O hE<|kmv O<|kex O O<|kex O O<|aP O dO ?_;refine aM O O O O O O dO ?_;refine kas O<|aB<|aA<|aG<|aA<|rgN<|kmv O<|kne O O (r:=false) O<|kas O<|aB<|aF O ?_;refine aA<|rgN<|kfa O O ?_;refine kl1 O O O<|aK O O O dO ?_;refine kca O O hFt<|aV O O dO<|kas O<|aB<|aF O ?_;refine aH ?_;refine aA<|rgN<|aK O O O dO ?_;refine aM O O O O O O dO ?_;refine kas O<|aB<|aI ?_)
  exact y4
theorem sigN_one {rs:List Rl} {i:Nat} {r:Rl} (hr:rs[i]? = some r) (s:Nat):sigN (rs.take (i+1)) s=if Sg.hasB s r.old=true then Sg.withN (sigN (rs.take i) s) r.nw else sigN (rs.take i) s:=by
 unfold sigN
 rw [take_snoc hr,List.foldl_append]
 rfl
theorem eSig' (va vb:Int) (rs:List Rl) (ad:Option Addr) (cap s:Nat) (hp:RulesIn X ad rs) (hl:rs.length<4611686018427387904) (hs:s<4294967296):
  PSpec Tryz.prog X 20 [LPg va vb ad rs.length cap,Ln .u32 (s:Nat)] (Ln .u32 (sigN rs s:Nat)):=by
 refine cC Tryz.func20 rfl y5 rfl rfl ?_
 intro C
 (refine aA<|rgN<|aL O O O dO<|kas O<|aB<|aA<|rgN<|kas O<|aB<|aA<|aA<|rgN<|kfa O O ?_;refine kl1 O O O<|aQ O bZ O dO ?_;refine kmv O<|aB<|aG ?_)
 refine cG (fun m σ=>∃ i:Nat,i≤rs.length∧m=rs.length-i∧σ=⟨[(1,Ln .u32 (s:Nat)),(5,Ln .u32 (sigN (rs.take i) s:Nat)),(9,Lx ad rs.length cap),(10,Ln .i64 (rs.length:Nat)),(11,Ln .i64 (i:Nat))],[],X⟩) rs.length
  ⟨⟨[(1,Ln .u32 (s:Nat)),(5,Ln .u32 (0:Nat)),(9,Lx ad rs.length cap),(10,Ln .i64 (rs.length:Nat)),(11,Ln .i64 (0:Nat))],[],X⟩,Le.of y10 yC y2 y2 y0,0,by omega,by omega,rfl⟩ ?_
 rintro m σ ⟨i,hi,rfl,rfl⟩
 by_cases hlt:i<rs.length
 case neg =>
  have e:i=rs.length:=by omega
  subst e
  rw [dC]
  (refine aA<|rgN<|klt O O (cK y3)<|aB<|aA<|aF O ?_;refine aJ<|aA<|rgN<|kmv O<|kas O<|aB<|aI ?_)
  exact y6
 obtain ⟨r,hr⟩:=wg hlt
 obtain ⟨blk,off,arr,el,fr,ead,ecap,rfl,hX,hsz,hcs,_,_,_,_⟩:=hp.get hr
 have hio:=wo off i 3
 have hadd:=wi i y3
 have hn:=sigN_one hr s
 have hlt0:=sigN_lt (rs.take i) s
 generalize sigN (rs.take i) s=o at *
 have hst2:∀ q:Nat,sigN (rs.take (i+1)) s=q→(⟨[(1,Ln .u32 (s:Nat)),(5,Ln .u32 (q:Nat)),(9,Lx (some ⟨blk,off,none⟩) rs.length cap),(10,Ln .i64 (rs.length:Nat)),(11,Ln .i64 (i+1:Nat))],[],X⟩:St)=⟨[(1,Ln .u32 (s:Nat)),(5,Ln .u32 (sigN (rs.take (i+1)) s:Nat)),(9,Lx (some ⟨blk,off,none⟩) rs.length cap),(10,Ln .i64 (rs.length:Nat)),(11,Ln .i64 (i+1:Nat))],[],X⟩:=fun q h=>by rw [h]
 have hH:=gHas X s hs r.old
 cases h1:Sg.hasB s r.old with
 | false =>
  rw [h1] at hH hn
  rw [if_neg (by decide)] at hn
  (refine aA<|rgN<|klt O O (cL y3)<|aB<|aA<|aE O ?_;refine aH ?_;refine aA<|aG<|aA<|rgN<|aR O O bZ y3 hio dO<|aY O hX y5 hsz hcs dO<|aP O dO ?_;refine aM O O O O O O dO ?_;refine aB<|aA<|rgN<|kmv O<|kfa O O ?_;refine kl1 O O O<|kca O O hH<|aB<|aF O ?_;refine aH ?_;refine rgN<|kad O O hadd<|kmv O<|aB ?_)
  exact ⟨_,_,by omega,Le.of y10 yC y2 y2 y0,i+1,by omega,O,hst2 _ hn⟩
 | true =>
  rw [h1] at hH hn
  rw [if_pos rfl] at hn
  have hW:=gWith X o y3 r.nw
  generalize Sg.withN o r.nw=q at *
  (refine aA<|rgN<|klt O O (cL y3)<|aB<|aA<|aE O ?_;refine aH ?_;refine aA<|aG<|aA<|rgN<|aR O O bZ y3 hio dO<|aY O hX y5 hsz hcs dO<|aP O dO ?_;refine aM O O O O O O dO ?_;refine aB<|aA<|rgN<|kmv O<|kfa O O ?_;refine kl1 O O O<|kca O O hH<|aB<|aE O ?_;refine rgN<|kmv O<|kfa O O ?_;refine kl1 O O O<|kca O O hW<|kas O<|aB<|rgN<|kad O O hadd<|kmv O<|aB ?_)
  exact ⟨_,_,by omega,Le.of y10 yC y2 y2 y0,i+1,by omega,O,hst2 _ hn⟩
end Go.Proofs.YtopiioklkkiedaaGreatDoor
end
section
set_option maxHeartbeats 12800000
set_option maxRecDepth 100000
namespace Go.Proofs.YtopiioklkkiedaaGreatDoor
open Go Go.Lg Go.Lg.Fml Go.Lg.Fld Go.Lg.Arith
set_option maxRecDepth 100000
def evR (e:Int) (L:List Nm):LV:=if e=0 then .tup [.one (.slc 1000001 0 L.length 3),Sn .i64 0] else .tup [Vnil,Sn .i64 e]
def evBx (e:Int) (L:List Nm):List (Nat×Option Box):=if e=0 then [nmsB 1000001 L true] else []
theorem startN_nat {fs:List Fl} (h:layErr fs=0) {i:Nat} (hi:i<fs.length):startN fs (i:Nat)=sumC (fs.take i):=by
 unfold startN
 rw [if_pos ⟨h,by omega,by omega⟩,dD]
variable (X:Nat→Option Obj)
set_option maxHeartbeats 6400000 in
theorem eSplit (a:List Fl) (ns:List Nm) (aad vad:Option Addr) (acap vcap:Nat) (hA:FieldsIn X aad a) (hac:a.length≤acap) (hN:NumsIn X vad ns) (hvc:ns.length≤vcap) (la:a.length≤12) (ln:ns.length<4611686018427387904) (z1:fitErr a ns=0):
  MSpec Tryz.prog X 33 [Lx aad a.length acap,Lx vad ns.length vcap] [] (.sv (.one (.slc 1000001 0 a.length 1))) [(1000001,some ⟨28,(subV vad vcap 0 a).map .val,false⟩)]:=by
 obtain ⟨z5,hns,_⟩:=fit_all z1
 obtain ⟨_,hoka,_⟩:=layErr_facts z5
 refine cD Tryz.func33 rfl y5 rfl rfl y7 rfl rfl ?_
 intro C
 have hmk:slcBuild Tryz.prog 94 a.length=some (List.replicate a.length (.slice none 0 0),1,28):=slcBuild_one y5 y5 y3
 (refine aA<|rgN<|kas O<|aB<|aA<|rgN<|kmv O<|aQ O bZ O dO ?_;refine K.makeSlc (m:=a.length) (bytes:=24) O O hmk y5 y3 O O dO<|kas O<|aB<|aA<|aA<|rgN<|kmv O<|aQ O bZ O dO ?_;refine kmv O<|aB<|aG ?_)
 refine cG (fun m σ=>∃ i:Nat,i≤a.length∧m=a.length-i∧σ=⟨[(0,Lx aad a.length acap),(1,Lx vad ns.length vcap),(5,.sv (.one (.slc 11 0 a.length 1))),(12,Lx aad a.length acap),(13,Ln .i64 (a.length:Nat)),(14,Ln .i64 (i:Nat))],[(11,some ⟨28,(subV vad vcap 0 (a.take i)++List.replicate (a.length-i) (Value.slice none 0 0)).map .val,false⟩)],X⟩) a.length
  ⟨_,Le.of y11 y13 y2 y2 y0,0,by omega,by omega,rfl⟩ ?_
 rintro m σ ⟨i,hi,rfl,rfl⟩
 by_cases hlt:i<a.length
 case neg =>
  have e:i=a.length:=by omega
  subst e
  rw [dC,Nat.sub_self,show subV vad vcap 0 a++List.replicate 0 (Value.slice none 0 0)=subV vad vcap 0 a from dG _]
  (refine aA<|rgN<|klt O O (cK y3)<|aB<|aA<|aF O ?_;refine aJ<|aA<|rgN<|kmv O<|kas O<|aB<|aI ?_)
  exact ⟨[(1000001,11)],⟨[_],⟨O,trivial⟩,O⟩,y1,O,O⟩
 obtain ⟨f,hf⟩:=wg hlt
 have hSt:=Start_spec X aad acap a hac (i:Nat) y3 hA y3
 rw [startN_nat z5 hlt] at hSt
 obtain ⟨fb,fo,farr,fel,ffr,rfl,hFX,hFz,hFc,_,_,g2⟩:=hA.cells hf
 have hio:=wo fo i 3
 obtain ⟨hn1,hn8,hnc⟩:=sum_pos hoka hf
 have hst:=sum_take hf
 obtain ⟨u,hu⟩:∃ u,ns[0]? = some u:=wg y3
 obtain ⟨vb,vo,varr,vel,vfr,rfl,_⟩:=hN.rows 0 (nmV u) (by rw [dI,hu];rfl)
 have hadd1:IntKind.i64.wrap (((sumC (a.take i):Nat):Int)+f.count)=((sumC (a.take i)+f.n:Nat):Int):=by rw [cE y3];omega
 have hadd:=wi i y3
 have hil:(subV (some ⟨vb,vo,none⟩) vcap 0 (a.take i)).length=i:=by rw [subV_len,cW];omega
 have hix:0+Int.toNat (i:Int)*1=i:=by rw [dD];omega
 have hroom:i+1≤((subV (some ⟨vb,vo,none⟩) vcap 0 (a.take i)++List.replicate (a.length-i) (Value.slice none 0 0)).map CV.val).length:=by rw [cT,cS,hil,dA];omega
 have hspl:splice ((subV (some ⟨vb,vo,none⟩) vcap 0 (a.take i)++List.replicate (a.length-i) (Value.slice none 0 0)).map CV.val) i [.val (.slice (some ⟨vb,vo+sumC (a.take i)*3,none⟩) f.n (vcap-sumC (a.take i)))]=(subV (some ⟨vb,vo,none⟩) vcap 0 (a.take (i+1))++List.replicate (a.length-(i+1)) (Value.slice none 0 0)).map CV.val:=by
  unfold splice
  rw [show a.length-i=(a.length-(i+1))+1 by omega,List.replicate_succ,take_snoc hf,subV_snoc,Nat.zero_add]
  simp only [dE,dJ]
  have hml:((subV (some ⟨vb,vo,none⟩) vcap 0 (a.take i)).map CV.val).length=i:=by rw [cT,hil]
  generalize (subV (some ⟨vb,vo,none⟩) vcap 0 (a.take i)).map CV.val=R at *
  rw [← hml,List.take_left,List.drop_length_add_append]
  simp [subA]
 (refine aA<|rgN<|klt O O (cL y3)<|aB<|aA<|aE O ?_;refine aH ?_;refine aA<|aG<|aA<|rgN<|kmv O<|aR O O bZ y3 hio dO<|aY O hFX y5 hFz hFc dO<|aP O dO ?_;refine kas O<|aM O O O O O O dO ?_;refine aB<|aA<|rgN<|kmv O<|kmv O<|kca O O hSt<|kas O<|aB<|rgN<|kmv O<|kmv O<|kmv O<|kmv O<|kmv O ?_;refine kfa O O ?_;refine kl1 O O O<|kad O O hadd1<|K.cut2X (sz:=3) O O O bZ y3 y3 (.inl y3) hvc O (Nat.add_sub_cancel_left ..) O dO ?_;refine K.indexSlc O O y3 hix dO ?_;refine K.store O O O O y5 hroom hspl dO<|aB<|rgN<|kad O O hadd<|kmv O<|aB ?_)
 exact ⟨_,_,by omega,Le.of y11 y13 y2 y2 y0,i+1,by omega,O,O⟩
end Go.Proofs.YtopiioklkkiedaaGreatDoor
end
section
set_option maxHeartbeats 12800000
set_option maxRecDepth 100000
namespace Go.Proofs.YtopiioklkkiedaaGreatDoor
open Go Go.Lg Go.Lg.Fml Go.Lg.Fld Go.Lg.Arith
set_option maxRecDepth 100000
variable (X:Nat→Option Obj)
set_option maxHeartbeats 25600000 in
theorem eVal' (a b:Cp) (r:Rl) (ns:List Nm) (aad bad ead vad:Option Addr) (acap bcap ecap vcap:Nat) (hA:FieldsIn X aad a.fs) (hac:a.fs.length≤acap) (hB:FieldsIn X bad b.fs) (hE:CodesIn X ead r.ex) (hN:NumsIn X vad ns) (hvc:ns.length≤vcap) (la:a.fs.length≤12) (lb:b.fs.length≤12) (lr:r.ex.length≤12∧∀ c∈r.ex,c.length≤80) (ln:ns.length<4611686018427387904):
  MSpec Tryz.prog X 12 [Cx a aad acap,Cx b bad bcap,LPg r.nw r.old ead r.ex.length ecap,Lx vad ns.length vcap] [] (evR (valE a.fs b.fs r ns) (valN a.fs b.fs r ns)) (evBx (valE a.fs b.fs r ns) (valN a.fs b.fs r ns)):=by
 have hC:=eCheck X a b r ns aad bad ead vad acap bcap ecap vcap hA hB hE hN y3 y3 (fun c hc=>by have:=lr.2 c hc;omega)
 refine cD Tryz.func12 rfl y5 rfl (by unfold evR evBx;split<;>rfl) (by unfold evBx;split<;>exact y0) rfl rfl ?_
 intro C
 by_cases z:ckV a.fs b.fs r ns=0
 case neg =>
  rw [valE_no z]
  unfold evR evBx
  rw [if_neg z,if_neg z]
  generalize ckV a.fs b.fs r ns=e at *
  (refine aA<|rgN<|aL O O O dO<|aL O O O dO<|aL O O O dO<|kas O<|kas O<|aB<|aA<|aA<|rgN<|aK O O O dO ?_;refine aK O O O dO ?_;refine aK O O O dO ?_;refine kmv O<|kca O O hC<|kas O<|aB<|aA<|rgN<|kmv O<|kne O O (r:=true) (cP z)<|aB<|aE O ?_;refine aA<|rgN<|kmv O<|kas O<|kas O<|aB<|aI ?_)
  exact y1C
 obtain ⟨z1,z2,z3,z4,z5⟩:=valE_go z
 rw [z] at hC
 rw [z5]
 unfold valN
 have hS:=eSplit X a.fs ns aad vad acap vcap hA hac hN hvc la ln z1
 have hEl:=Elems_spec X bad bcap b.fs hB y3
 have hel:=ruE_len z4 z3
 obtain ⟨z6,hns,_⟩:=fit_all z1
 obtain ⟨_,hoka,_⟩:=layErr_facts z6
 obtain ⟨_,hokb,_⟩:=layErr_facts z2
 have hE96:elemsN b.fs≤96:=by
  unfold elemsN
  rw [if_pos z2,elems_sum]
  have:=sum_le b.fs hokb
  omega
 have hmk:slcBuild Tryz.prog 28 (elemsN b.fs)=some ((List.replicate (elemsN b.fs) [Value.bool false,.int .u64 0,.int .u64 0]).flatten,3,86):=slcBuild_many (z := #[.bool false,.int .u64 0,.int .u64 0]) y5 y5 rfl y3
 (refine aA<|rgN<|aL O O O dO<|aL O O O dO<|aL O O O dO<|kas O<|kas O<|aB<|aA<|aA<|rgN<|aK O O O dO ?_;refine aK O O O dO ?_;refine aK O O O dO ?_;refine kmv O<|kca O O hC<|kas O<|aB<|aA<|rgN<|kmv O<|kne O O (r:=false) O<|aB<|aF O ?_;refine aH ?_;refine aA<|rgN<|kfa O O ?_;refine kl1 O O O<|kmv O<|bE [(1000001,501)] (.sv (.one (.slc 501 0 a.fs.length 1))) [(501,some ⟨28,(subV vad vcap 0 a.fs).map .val,false⟩)] (hS) O O yC O O O O O y18 dO<|kas O<|aB<|aA ?_)
 clear hC hS
 refine LWP.le (σ':=⟨[(11,.sv (.one (.slc 501 0 a.fs.length 1))),(5,Lp 5),(6,Lp 6)],[(501,some ⟨28,(subV vad vcap 0 a.fs).map .val,false⟩),cpB 5 b bad bcap,v3B 27 6 r.nw r.old ead r.ex.length ecap],X⟩) (Le.of y9 y9 y2 y2 y0) ?_
 refine LWP.freeze O O O fun fb0 fc fa0 ff0 hn0 _ hfc _ hsp => ?_
 have hXY:=cF (o:=.cells fa0 28 ff0) hn0
 have hFs:=fss_block (cJ X fb0 (.cells fa0 28 ff0)) hsp ⟨hN.rows.mono hXY,hN.in2⟩ hns
 have hf2:∀ l∈cutN a.fs ns,∀ u∈l,In2 u.2:=fun l hl u hu=>hN.in2 u (cut_mem hl u hu)
 have hrl:∀ l∈cutN a.fs ns,l.length<4611686018427387904:=fun l hl=>by
  obtain ⟨i,hi⟩:=List.mem_iff_getElem?.1 hl
  have hil:=(wl hi)
  rw [cutN_len] at hil
  rw [cut_at (cU hil)] at hi
  cases hi
  rw [cW,cX];omega
 replace hB:=hB.mono hXY
 replace hE:=hE.mono hXY
 replace hEl:=Elems_spec _ bad bcap b.fs hB y3
 have hfl:a.fs.length=(cutN a.fs ns).length:=cutN_len.symm
 have hcl12:(cutN a.fs ns).length≤12:=by rw [cutN_len];exact la
 clear hA hN hsp hn0 hXY
 generalize withBlock X fb0 (.cells fa0 28 ff0)=Y at *
 generalize (some ⟨fb0,0,none⟩:Option Addr)=fad at *
 rw [hfl]
 generalize cutN a.fs ns=G at *
 (refine rgN<|kfa O O ?_;refine kl1 O O O<|kca O O hEl<|K.makeSlc0 (m:=elemsN b.fs) (bytes:=24) O O hmk y5 y3 O dO ?_;refine kas O<|aB<|aA<|aA<|rgN<|kfa O O ?_;refine kl1 O O O<|aQ O bZ O dO ?_;refine kmv O<|aB<|aG ?_)
 clear hEl hmk
 refine cH (fun m σ=>∃ (i:Nat) (L:List Nm),i≤b.fs.length∧m=b.fs.length-i∧L=(stepsN (b.fs.take i) (r.ex.take i)).map (stepV G)∧seqE (stepE G) (stepsN (b.fs.take i) (r.ex.take i))=0∧σ=⟨[(6,Lp 6),(11,Lx fad G.length fc),(12,.sv (.one (.slc 500 0 L.length 3))),(35,Lx bad b.fs.length bcap),(36,Ln .i64 (b.fs.length:Nat)),(37,Ln .i64 (i:Nat))],[nmsB 500 (L) true,v3B 27 6 r.nw r.old ead r.ex.length ecap],Y⟩) b.fs.length
  (cB (σ':=⟨[(6,Lp 6),(11,Lx fad G.length fc),(12,.sv (.one (.slc 500 0 0 3))),(35,Lx bad b.fs.length bcap),(36,Ln .i64 (b.fs.length:Nat)),(37,Ln .i64 (0:Nat))],[nmsB 500 ([]) true,v3B 27 6 r.nw r.old ead r.ex.length ecap],Y⟩) (Le.ofR [(500,33)] y11 y1 y2 y2 y0 y2 y2) (cA ⟨0,[],by omega,by omega,rfl,rfl,rfl⟩)) ?_
 rintro m σ ⟨i,L,hi,rfl,hL,hpre,rfl⟩
 by_cases hlt:i<b.fs.length
 case neg =>
  have e:i=b.fs.length:=by omega
  subst e
  rw [dC,← hel,dC] at hL hpre
  rw [hpre]
  unfold evR evBx
  rw [if_pos rfl,if_pos rfl,← hL]
  (refine aA<|rgN<|klt O O (cK y3)<|aB<|aA<|aF O ?_;refine aJ<|aA<|rgN<|kmv O<|kas O<|kas O<|aB<|aI ?_)
  exact ⟨[(1000001,500)],⟨[_,_],⟨O,O,trivial⟩,O⟩,y1,O,O⟩
 obtain ⟨f,hf⟩:=wg hlt
 obtain ⟨c,hc⟩:∃ c,r.ex[i]? = some c:=wg y3
 obtain ⟨fb,fo,farr,fel,ffr,rfl,hFX,hFz,hFc,_,_,_⟩:=hB.cells hf
 obtain ⟨eb,eo,earr,eel,efr,cad,ccap,rfl,hEX,hec,hI⟩:=hE.get hc
 have hio:=wo fo i 3
 have hio1:=wo eo i 1
 obtain ⟨hn1,hn8,hnc⟩:=sum_pos hokb hf
 have hadd:=wi i y3
 have hc80:=lr.2 c (cZ hc)
 have hsl:(stepsN (b.fs.take i) (r.ex.take i)).length≤96:=by
  have h1:=steps_len (b:=b.fs.take i) (ex:=r.ex.take i) (by rw [cW,cW];omega)
  rw [h1,elems_sum]
  have h2:=sum_le (b.fs.take i) (Fld.take_ok hokb i)
  rw [cW] at h2
  omega
 (refine aA<|rgN<|klt O O (cL y3)<|aB<|aA<|aE O ?_;refine aH ?_;refine aA<|aG<|aA<|rgN<|kmv O<|aR O O bZ y3 hio dO<|aY O hFX y5 hFz hFc dO<|aP O dO ?_;refine kas O<|aM O O O O O O dO ?_;refine aB<|aA<|rgN<|kfa O O ?_;refine kl1 O O O<|kmv O<|aB<|aG ?_)
 refine cH (fun m σ=>∃ (k:Nat) (L:List Nm),k≤f.n∧m=f.n-k∧L=(stepsN (b.fs.take i) (r.ex.take i)++fldS f c k).map (stepV G)∧seqE (stepE G) (stepsN (b.fs.take i) (r.ex.take i)++fldS f c k)=0∧σ=⟨[(6,Lp 6),(11,Lx fad G.length fc),(12,.sv (.one (.slc 500 0 L.length 3))),(35,Lx (some ⟨fb,fo,none⟩) b.fs.length bcap),(36,Ln .i64 (b.fs.length:Nat)),(37,Ln .i64 (i:Nat)),(13,Ln .i64 (i:Nat)),(14,Lp 14),(43,Ln .i64 f.count),(44,Ln .i64 (k:Nat))],[nmsB 500 (L) true,v3B 27 6 r.nw r.old (some ⟨eb,eo,none⟩) r.ex.length ecap,flB 14 f],Y⟩) f.n
  (cB (σ':=⟨[(6,Lp 6),(11,Lx fad G.length fc),(12,.sv (.one (.slc 500 0 L.length 3))),(35,Lx (some ⟨fb,fo,none⟩) b.fs.length bcap),(36,Ln .i64 (b.fs.length:Nat)),(37,Ln .i64 (i:Nat)),(13,Ln .i64 (i:Nat)),(14,Lp 14),(43,Ln .i64 f.count),(44,Ln .i64 (0:Nat))],[nmsB 500 (L) true,v3B 27 6 r.nw r.old (some ⟨eb,eo,none⟩) r.ex.length ecap,flB 14 f],Y⟩) (Le.ofR [(500,500)] y24 y1 y2 y2 y0 y2 y2) (cA ⟨0,L,by omega,by omega,by rw [fldS_zero,dG];exact hL,by rw [fldS_zero,dG];exact hpre,rfl⟩)) ?_
 clear hpre hL
 clear L
 rintro m σ ⟨k,L,hk,rfl,hL,hpre,rfl⟩
 have hLl:L.length≤104:=by rw [hL,cT,cS,fldS_len];omega
 by_cases hkl:k<f.n
 case neg =>
  have e:k=f.n:=by omega
  subst e
  (refine aA<|rgN<|klt O O (cK y3)<|aB<|aA<|aF O ?_;refine aJ<|rgN<|kad O O hadd<|kmv O<|aB ?_)
  exact cB (σ':=⟨[(6,Lp 6),(11,Lx fad G.length fc),(12,.sv (.one (.slc 500 0 L.length 3))),(35,Lx (some ⟨fb,fo,none⟩) b.fs.length bcap),(36,Ln .i64 (b.fs.length:Nat)),(37,Ln .i64 (i+1:Nat))],[nmsB 500 (L) true,v3B 27 6 r.nw r.old (some ⟨eb,eo,none⟩) r.ex.length ecap],Y⟩) (Le.ofR [(500,500)] y11 y1 y2 y2 y0 y2 y2) (cA ⟨b.fs.length-(i+1),by omega,i+1,L,by omega,rfl,by rw [steps_snoc hf hc];exact hL,by rw [steps_snoc hf hc];exact hpre,rfl⟩)
 obtain ⟨post,hpost⟩:=steps_at hf hc hkl
 have hEm:=eElem Y f c G cad fad ccap fc (k:Nat) hI y3 hFs y3 hrl hf2 y3
 have haddk:=wi k y3
 cases hev:elX f.kind c G (k:Nat) with
 | error e =>
  obtain ⟨hne,hse⟩:=elX_err hev
  rw [seqE_hit hpost hpre (by rw [hse];exact hne),hse]
  unfold evR evBx
  rw [if_neg hne,if_neg hne]
  rw [hev] at hEm
  (refine aA<|rgN<|klt O O (cL y3)<|aB<|aA<|aE O ?_;refine aH ?_;refine aA<|aG<|aA<|rgN<|kmv O<|kas O<|aB<|aA<|rgD mixed<|aK O O O dO ?_;refine kfa O O ?_;refine kl1 O O O<|kmv O<|aR O O bZ y3 hio1 dO<|aW O hEX O hec dO<|kmv O<|kmv O<|aT O O y2 y36 dO ?_;refine kca O O hEm<|kmv O<|kex O O<|kex O O<|aP O dO ?_;refine aM O O O O O O dO ?_;refine kas O<|aB<|rgA ?_;refine aA<|aA<|rgN<|kmv O<|kne O O (r:=true) (cP hne)<|aB<|aE O ?_;refine aA<|rgN<|kmv O<|kas O<|kas O<|aB<|aI ?_)
  exact y1C
 | ok v =>
 obtain ⟨hse,hsv⟩:=elX_ok hev
 rw [hev] at hEm
 have hcl:=nmsV_len L
 have hnc2:=nmsV_snoc L v
 have hL2:L++[v]=(stepsN (b.fs.take i) (r.ex.take i)++fldS f c (k+1)).map (stepV G):=by
  rw [fldS_succ,← dJ,dE,← hL,List.map_cons,List.map_nil,hsv]
 have hpre2:seqE (stepE G) (stepsN (b.fs.take i) (r.ex.take i)++fldS f c (k+1))=0:=by
  rw [fldS_succ,← dJ];exact seqE_snoc hpre hse
 have hnl:L.length+1=(L++[v]).length:=by rw [cS];rfl
 (refine aA<|rgN<|klt O O (cL y3)<|aB<|aA<|aE O ?_;refine aH ?_;refine aA<|aG<|aA<|rgN<|kmv O<|kas O<|aB<|aA<|rgD mixed<|aK O O O dO ?_;refine kfa O O ?_;refine kl1 O O O<|kmv O<|aR O O bZ y3 hio1 dO<|aW O hEX O hec dO<|kmv O<|kmv O<|aT O O y2 y36 dO ?_;refine kca O O hEm<|kmv O<|kex O O<|kex O O<|aP O dO ?_;refine aM O O O O O O dO ?_;refine kas O<|aB<|rgA ?_;refine aA<|aA<|rgN<|kmv O<|kne O O (r:=false) O<|aB<|aF O ?_;refine aH ?_;refine rgN<|kmv O<|aK O O O dO ?_;refine aZ (zs:=[.bool false,.int .u64 0,.int .u64 0]) (sz:=3) (e:=86) (cs':=cI v.1 v.2) y5 O O O O O O dO<|bP (by_:=24) (e2:=86) (l2:=cI v.1 v.2) (nl:=(L++[v]).length) (nc:=(nmsV (L++[v])).map .val) O O hcl O O (dK _) O O y5 y5 y3 y3 O hnl hnc2 dO<|kas O<|aB<|rgN<|kad O O haddk<|kmv O<|aB ?_)
 exact cB (σ':=⟨[(6,Lp 6),(11,Lx fad G.length fc),(12,.sv (.one (.slc 500 0 (L++[v]).length 3))),(35,Lx (some ⟨fb,fo,none⟩) b.fs.length bcap),(36,Ln .i64 (b.fs.length:Nat)),(37,Ln .i64 (i:Nat)),(13,Ln .i64 (i:Nat)),(14,Lp 14),(43,Ln .i64 f.count),(44,Ln .i64 (k+1:Nat))],[nmsB 500 (L++[v]) true,v3B 27 6 r.nw r.old (some ⟨eb,eo,none⟩) r.ex.length ecap,flB 14 f],Y⟩) (Le.ofR [(500,66)] y24 y1 y2 y2 y0 y2 y2) (cA ⟨f.n-(k+1),by omega,k+1,L++[v],by omega,O,hL2,hpre2,O⟩)
end Go.Proofs.YtopiioklkkiedaaGreatDoor
end
section
set_option maxHeartbeats 12800000
set_option maxRecDepth 100000
namespace Go.Proofs.YtopiioklkkiedaaGreatDoor
open Go Go.Lg Go.Lg.Fml Go.Lg.Fld Go.Lg.Arith
set_option maxRecDepth 100000
variable (X:Nat→Option Obj)
theorem eVal_nil' (a b:Cp) (r:Rl) (ns:List Nm) (aad bad ead vad:Option Addr) (acap bcap ecap vcap:Nat) (hA:FieldsIn X aad a.fs) (hac:a.fs.length≤acap) (hB:FieldsIn X bad b.fs) (hE:CodesIn X ead r.ex) (hN:NumsIn X vad ns) (hvc:ns.length≤vcap) (la:a.fs.length≤12) (lb:b.fs.length≤12) (lr:r.ex.length≤12∧∀ c∈r.ex,c.length≤80) (ln:ns.length<4611686018427387904) (h:valE a.fs b.fs r ns≠0):
  MSpec Tryz.prog X 12 [Cx a aad acap,Cx b bad bcap,LPg r.nw r.old ead r.ex.length ecap,Lx vad ns.length vcap] [] (.tup [.one (.val (.slice none 0 0)),Sn .i64 (valE a.fs b.fs r ns)]) []:=by
 have:=eVal' X a b r ns aad bad ead vad acap bcap ecap vcap hA hac hB hE hN hvc la lb lr ln
 unfold evR evBx at this
 rw [if_neg h,if_neg h] at this
 exact this
theorem eVal_box' (a b:Cp) (r:Rl) (ns:List Nm) (aad bad ead vad:Option Addr) (acap bcap ecap vcap:Nat) (hA:FieldsIn X aad a.fs) (hac:a.fs.length≤acap) (hB:FieldsIn X bad b.fs) (hE:CodesIn X ead r.ex) (hN:NumsIn X vad ns) (hvc:ns.length≤vcap) (la:a.fs.length≤12) (lb:b.fs.length≤12) (lr:r.ex.length≤12∧∀ c∈r.ex,c.length≤80) (ln:ns.length<4611686018427387904) (h:valE a.fs b.fs r ns=0):
  MSpec Tryz.prog X 12 [Cx a aad acap,Cx b bad bcap,LPg r.nw r.old ead r.ex.length ecap,Lx vad ns.length vcap] [] (.tup [.one (.slc 1000001 0 (valN a.fs b.fs r ns).length 3),Sn .i64 0]) [nmsB 1000001 (valN a.fs b.fs r ns) true]:=by
 have:=eVal' X a b r ns aad bad ead vad acap bcap ecap vcap hA hac hB hE hN hvc la lb lr ln
 unfold evR evBx at this
 rw [if_pos h,if_pos h] at this
 exact this
set_option maxHeartbeats 6400000 in
theorem eRow' (a b:Cp) (r:Rl) (s:List UInt8) (aad bad ead:Option Addr) (acap bcap ecap:Nat) (hA:FieldsIn X aad a.fs) (hac:a.fs.length≤acap) (hB:FieldsIn X bad b.fs) (hE:CodesIn X ead r.ex) (la:a.fs.length≤12) (lb:b.fs.length≤12) (lr:r.ex.length≤12∧∀ c∈r.ex,c.length≤80):
  PSpec Tryz.prog X 15 [Cx a aad acap,Cx b bad bcap,LPg r.nw r.old ead r.ex.length ecap,Ls s] (.tup [Ss (rowN a.fs b.fs r s),Sn .i64 (rowE a.fs b.fs r s)]):=by
 refine cC Tryz.func15 rfl y5 rfl rfl ?_
 intro C
 by_cases hu:unpErr a.fs s=0
 case neg =>
  have e1:rowE a.fs b.fs r s=unpErr a.fs s:=if_neg hu
  rw [show rowN a.fs b.fs r s=[] from if_neg (by rw [e1];exact hu),e1]
  have hU:=lUnpack_err X aad acap a.fs s hA y3 hu
  generalize unpErr a.fs s=e at *
  (refine aA<|rgN<|aL O O O dO<|aL O O O dO<|aL O O O dO<|kas O<|kas O<|aB<|aA<|rgN<|kfa O O ?_;refine kl1 O O O<|kmv O<|kca O O hU<|kmv O<|kex O O<|kex O O<|kas O<|kas O<|aB<|aA<|aA<|rgN<|kmv O<|kne O O (r:=true) (cP hu) ?_;refine aB<|aE O ?_;refine aA<|rgN<|kmv O<|kas O<|kas O<|aB<|aI ?_)
  exact y1E
 have e1:rowE a.fs b.fs r s=valE a.fs b.fs r ((unpZ a.fs s).map qn):=if_pos hu
 have e2:rowN a.fs b.fs r s=if rowE a.fs b.fs r s=0 then packB b.fs (valN a.fs b.fs r ((unpZ a.fs s).map qn)) else []:=rfl
 rw [e1] at e2 ⊢
 have hU:=lUnpack_ok X aad acap a.fs s hA y3 hu
 have hRz:=unp_R hu
 have hl64:=unpZ_len hu
 (refine aA<|rgN<|aL O O O dO<|aL O O O dO<|aL O O O dO<|kas O<|kas O<|aB<|aA<|rgN<|kfa O O ?_;refine kl1 O O O<|kmv O<|bE [(1000001,501)] (.tup [.one (.slc 501 0 (unpZ a.fs s).length 3),Sn .i64 0]) [(501,some ⟨86,(nsV (unpZ a.fs s)).map .val,false⟩)] (hU) O O yC O O O O O y18 dO<|kmv O<|kex O O<|kex O O<|kas O<|kas O<|aB<|aA<|aA<|rgN<|kmv O<|kne O O (r:=false) O ?_;refine aB<|aF O ?_;refine aH ?_;refine aA ?_)
 refine LWP.le (σ':=⟨[(10,.sv (.one (.slc 501 0 (unpZ a.fs s).length 3))),(4,Lp 4),(5,Lp 5),(6,Lp 6)],[(501,some ⟨86,(nsV (unpZ a.fs s)).map .val,false⟩),v3B 27 6 r.nw r.old ead r.ex.length ecap,cpB 5 b bad bcap,cpB 4 a aad acap],X⟩) (Le.of y8 y8 y2 y2 y0) ?_
 refine LWP.freeze O O O fun blk zc arr fr hn _ hzc _ hsp => ?_
 have hN:=nums_in (cJ X blk (.cells arr 86 fr)) hRz hsp
 have hZ:=cF (o:=.cells arr 86 fr) hn
 replace hA:=hA.mono hZ
 replace hB:=hB.mono hZ
 replace hE:=hE.mono hZ
 clear hsp hn hZ hU
 generalize withBlock X blk (.cells arr 86 fr)=Z at *
 generalize (some ⟨blk,0,none⟩:Option Addr)=zad at *
 have htwo:∀ u∈(valN a.fs b.fs r ((unpZ a.fs s).map qn)),In2 u.2:=valN_two (fun q hq y hy=>by
  obtain ⟨w,hw⟩:=List.mem_iff_getElem?.1 hq
  obtain ⟨_,_,_,_,_,_,_,_,_,_,hI⟩:=hE.get hw
  exact (hI.small y hy).2.2.2) hN.in2 (fun f hf=>(hB.small f hf).2.2)
 by_cases h0:valE a.fs b.fs r ((unpZ a.fs s).map qn)=0
 case neg =>
  have hV:=eVal_nil' Z a b r ((unpZ a.fs s).map qn) aad bad ead zad acap bcap ecap zc hA hac hB hE hN (by rw [cT];exact hzc) la lb lr y29 h0
  rw [cT] at hV
  rw [if_neg h0] at e2
  rw [e2]
  generalize valE a.fs b.fs r ((unpZ a.fs s).map qn)=e at *
  (refine rgN<|aK O O O dO ?_;refine aK O O O dO ?_;refine aK O O O dO ?_;refine kmv O<|aU [] [] (hV) O O yC O O O O O y2B dO<|kmv O<|kex O O<|kex O O<|kas O<|kas O<|aB<|aA<|aA<|rgN<|kmv O<|kne O O (r:=true) (cP h0)<|aB ?_;refine aE O ?_;refine aA<|rgN<|kmv O<|kas O<|kas O<|aB<|aI ?_)
  exact y1E
 have hV:=eVal_box' Z a b r ((unpZ a.fs s).map qn) aad bad ead zad acap bcap ecap zc hA hac hB hE hN (by rw [cT];exact hzc) la lb lr y29 h0
 have hfit:=valN_fit h0
 obtain ⟨hfl,hfn,_⟩:=fit_all hfit
 have hLn:(valN a.fs b.fs r ((unpZ a.fs s).map qn)).length<4611686018427387904:=by
  have:=sum_le b.fs (layErr_facts hfl).2.1
  omega
 rw [cT] at hV
 rw [if_pos h0] at e2
 rw [e2,h0]
 clear e1 e2
 generalize valN a.fs b.fs r ((unpZ a.fs s).map qn)=L at *
 (refine rgN<|aK O O O dO ?_;refine aK O O O dO ?_;refine aK O O O dO ?_;refine kmv O<|bE [(1000001,701)] (.tup [.one (.slc 701 0 L.length 3),Sn .i64 0]) [nmsB 701 L true] (hV) O O yC O O O O O y18 dO<|kmv O<|kex O O<|kex O O<|kas O<|kas O<|aB<|aA<|aA<|rgN<|kmv O<|kne O O (r:=false) O<|aB ?_;refine aF O ?_;refine aH ?_;refine aA ?_)
 refine LWP.le (σ':=⟨[(12,.sv (.one (.slc 701 0 L.length 3))),(5,Lp 5)],[nmsB 701 L true,cpB 5 b bad bcap],Z⟩) (Le.of yE yE y2 y2 y0) ?_
 refine LWP.freeze O O O fun b2 c2 arr2 fr2 hn2 _ _ _ hsp2 => ?_
 have hP:=lPack_spec (withBlock Z b2 (.cells arr2 86 fr2)) bad (some ⟨b2,0,none⟩) bcap c2 b.fs L (hB.mono (cF hn2)) y3 (nms_in (cJ _ _ _) htwo hsp2) hLn
 rw [hfit,show packR b.fs L=packB b.fs L from if_pos hfit] at hP
 generalize packB b.fs L=B at *
 (refine rgN<|kfa O O ?_;refine kl1 O O O<|kmv O<|kca O O hP<|kex O O<|kex O O<|kas O<|kas O<|aB<|aI ?_)
 exact y1E
end Go.Proofs.YtopiioklkkiedaaGreatDoor
end
