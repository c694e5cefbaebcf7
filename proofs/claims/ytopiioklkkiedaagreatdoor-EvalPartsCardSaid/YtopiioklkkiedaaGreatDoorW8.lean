/- A piece of a proof over this program: contracts of its functions, and a logic to prove them by. -/
import Derived.Test.YtopiioklkkiedaaGreatDoorW8a
section
set_option maxHeartbeats 12800000
set_option maxRecDepth 100000
namespace Go.Proofs.YtopiioklkkiedaaGreatDoor
open Go Go.Lg Go.Lg.Fml Go.Lg.Fld Go.Lg.Arith
set_option maxRecDepth 100000
variable (X:Nat→Option Obj)
theorem rHas14 (s:Nat) (id:Int) (hs:s<4294967296):PSpec Tryz.prog X 53 [Ln .u32 (s:Nat),Ln .i64 id] (Lb (Sg.hasB s id)):=by
 refine cF Tryz.func53 rfl V5 rfl rfl ?_
 intro C
 by_cases h1:id<1
 ·rw [show Sg.hasB s id=false by unfold Sg.hasB Sg.okJ;rw [cO V3];rfl]
  (refine U8 ?_;refine klt rfl rfl (cP h1) ?_;refine U11 ?_)
  exact V6
 by_cases h2:24<id
 ·rw [show Sg.hasB s id=false by unfold Sg.hasB Sg.okJ;rw [cO (show ¬id≤24 by omega),Bool.and_false];rfl]
  (refine U8 ?_;refine klt O O (cO h1) ?_;refine U2 ?_;refine aS O O (cP h2) (dT O O) ?_;refine U8 ?_)
  exact V6
 obtain ⟨n,rfl⟩:∃ n:Nat,id=(n:Int):=⟨id.toNat,by omega⟩
 rw [show Sg.hasB s (n:Int)=s.testBit n by unfold Sg.hasB;rw [Sg.okI_iff.2 (by omega),Bool.true_and];rfl]
 (refine U8 ?_;refine klt O O (cO h1) ?_;refine U2 ?_;refine aS O O (cO h2) (dT O O) ?_;refine U10 ?_)
 refine cL (fun m σ=>∃ i:Nat,i≤n∧m=n-i∧σ=⟨[(0,Ln .u32 (s/2^i:Nat)),(1,Ln .i64 (n:Nat)),(5,Ln .i64 (i:Nat))],[],X⟩) n
  ⟨⟨[(0,Ln .u32 (s/2^0:Nat)),(1,Ln .i64 (n:Nat)),(5,Ln .i64 (0:Nat))],[],X⟩,by
   rw [show s/2^0=s from Nat.div_one s]
   exact Le.of V9 VC V2 V2 V2,0,by omega,O,O⟩ ?_
 rintro m σ ⟨i,hi,rfl,rfl⟩
 by_cases hlt:i<n
 ·have hquo:IntKind.u32.wrap ((((s/2^i:Nat):Int)).tdiv ((2:Nat):Int))=((s/2^(i+1):Nat):Int):=by
   rw [← Sg.half_next]
   refine wrap_u32 ⟨Int.natCast_nonneg _,?_⟩
   have:s/2^i/2≤s:=Nat.le_trans (Nat.div_le_self _ _) (Nat.div_le_self _ _)
   show ((s/2^i/2:Nat):Int)<_
   omega
  have hadd:=wi i V3
  (refine U13 ?_;refine K.quo O O VA hquo dS ?_;refine U7 ?_)
  exact ⟨_,⟨[(0,Ln .u32 (s/2^(i+1):Nat)),(1,Ln .i64 (n:Nat)),(5,Ln .i64 (i+1:Nat))],[],X⟩,by omega,Le.of V9 VC V2 V2 V2,i+1,by omega,O,O⟩
 ·have e:i=n:=by omega
  subst e
  have hb:=Sg.half_bit s i
  have hmod:(((s/2^i:Nat):Int)).tmod ((2:Nat):Int)=((s/2^i%2:Nat):Int):=rfl
  have heq:(((s/2^i%2:Nat):Int)==1)=s.testBit i:=by
   rw [← hb]
   by_cases h:s/2^i%2=1
   ·rw [h];rfl
   ·rw [cS h,cS V3]
  (refine U12 ?_;refine K.rem O O VA hmod dS<|keq O O heq ?_;refine U3 ?_)
  exact V6
theorem sigN_snoc {rs:List Rl} {i:Nat} {r:Rl} (hr:rs[i]? = some r) (s:Nat):sigN (rs.take (i+1)) s=if Sg.hasB s r.old=true then Sg.withN (sigN (rs.take i) s) r.nw else sigN (rs.take i) s:=by
 unfold sigN
 rw [take_snoc hr,List.foldl_append]
 rfl
def stB (s o:Nat) (r:Rl):Bool:=Sg.hasB s r.old&&(Sg.okJ r.nw && !Sg.hasB o r.nw)
theorem stB_sig (s o:Nat) (r:Rl):(if Sg.hasB s r.old=true then Sg.withN o r.nw else o)=if stB s o r=true then o+2^r.nw.toNat else o:=by
 unfold stB
 cases h1:Sg.hasB s r.old with
 | false=>rw [if_neg VA,if_neg V21]
 | true =>
  rw [if_pos rfl]
  unfold Sg.withN
  cases h2:Sg.okJ r.nw with
  | false=>rw [if_neg VA,if_neg V21]
  | true =>
   rw [if_pos rfl]
   cases h3:Sg.hasB o r.nw with
   | false =>
    rw [if_pos (by simp)]
    unfold Sg.hasB at h3
    rw [h2,Bool.true_and] at h3
    exact Sg.or_pow h3
   | true =>
    rw [if_neg (by simp)]
    unfold Sg.hasB at h3
    rw [h2,Bool.true_and] at h3
    apply Nat.eq_of_testBit_eq
    intro j
    rw [Nat.testBit_or,Nat.testBit_two_pow]
    by_cases e:r.nw.toNat=j
    ·rw [cP e,Bool.or_true,← e,h3]
    ·rw [cO e,Bool.or_false]
set_option maxHeartbeats 6400000 in
theorem rSig14 (va vb:Int) (rs:List Rl) (ad:Option Addr) (cap s:Nat) (hp:RulesIn X ad rs) (hl:rs.length<4611686018427387904) (hs:s<4294967296):
  PSpec Tryz.prog X 21 [LPg va vb ad rs.length cap,Ln .u32 (s:Nat)] (Ln .u32 (sigN rs s:Nat)):=by
 refine cF Tryz.func21 rfl V5 rfl rfl ?_
 intro C
 (refine aA<|rgN<|K.box O O O dS<|kas O<|RunK.nil<|aA<|rgN<|kas O<|RunK.nil<|aA<|aA<|rgN<|kas O<|RunK.nil ?_;refine LWP.block ?_)
 refine cL (fun m σ=>∃ i:Nat,i≤rs.length∧m=rs.length-i∧σ=⟨[(1,Ln .u32 (s:Nat)),(2,Lp 2),(5,Ln .u32 (sigN (rs.take i) s:Nat)),(6,Ln .i64 (i:Nat))],[v3B 42 2 va vb ad rs.length cap],X⟩) rs.length
  ⟨⟨[(1,Ln .u32 (s:Nat)),(2,Lp 2),(5,Ln .u32 (0:Nat)),(6,Ln .i64 (0:Nat))],[v3B 42 2 va vb ad rs.length cap],X⟩,Le.of V8 V13 V2 V2 V0,0,by omega,by omega,rfl⟩ ?_
 rintro m σ ⟨i,hi,rfl,rfl⟩
 by_cases hlt:i<rs.length
 case neg =>
  have e:i=rs.length:=by omega
  subst e
  rw [dG]
  (refine aA<|aA<|rgN<|kmv O<|kfa O O ?_;refine kl1 O O O<|K.lenX O cC O dS ?_;refine klt O O (cO V3)<|RunK.nil<|LWP.condF O ?_;refine LWP.exit<|aA<|rgN<|kmv O<|kas O<|RunK.nil<|LWP.ret ?_)
  exact V6
 obtain ⟨r,hr⟩:=wg hlt
 obtain ⟨blk,off,arr,el,fr,ead,ecap,rfl,hX,hsz,hcs,g1,g2,_,_⟩:=hp.get hr
 have hio:=wo off i 3
 have hadd:=wi i V3
 have hn:=(sigN_snoc hr s).trans (stB_sig s (sigN (rs.take i) s) r)
 have hlt1:=sigN_lt (rs.take (i+1)) s
 have hlt0:=sigN_lt (rs.take i) s
 generalize sigN (rs.take i) s=o at *
 have hst2:∀ q:Nat,sigN (rs.take (i+1)) s=q→(⟨[(1,Ln .u32 (s:Nat)),(2,Lp 2),(5,Ln .u32 (q:Nat)),(6,Ln .i64 (i+1:Nat))],[v3B 42 2 va vb (some ⟨blk,off,none⟩) rs.length cap],X⟩:St)=⟨[(1,Ln .u32 (s:Nat)),(2,Lp 2),(5,Ln .u32 (sigN (rs.take (i+1)) s:Nat)),(6,Ln .i64 (i+1:Nat))],[v3B 42 2 va vb (some ⟨blk,off,none⟩) rs.length cap],X⟩:=fun q h=>by rw [h]
 have hH:=rHas14 X s r.old hs
 have hH2:=rHas14 X o r.nw V3
 cases h1:Sg.hasB s r.old with
 | false =>
  rw [h1] at hH
  have hst:stB s o r=false:=by unfold stB;rw [h1];rfl
  rw [hst,if_neg (by decide)] at hn
  (refine aA<|aA<|rgN<|kmv O<|kfa O O ?_;refine kl1 O O O<|K.lenX O cC O dS ?_;refine klt O O (cP V3)<|RunK.nil<|LWP.condT O ?_;refine LWP.skip ?_;refine aA<|LWP.block<|aA<|rgN<|kfa O O ?_;refine kl1 O O O<|kmv O<|K.indexX O O cC V3 hio dS<|K.fieldAddrX O O dS ?_;refine K.loadX O hX O g1 dS<|kas O<|RunK.nil<|aA<|rgN<|kmv O<|kfa O O ?_;refine kl1 O O O<|kmv O<|K.indexX O O cC V3 hio dS<|K.fieldAddrX O O dS ?_;refine K.loadX O hX O g2 dS<|kca O O hH<|kmv O<|RunK.passed O O O<|RunK.passed O O O<|kpf O O<|kmv O<|RunK.passed O O O<|RunK.passed O O O<|kpf O O<|kmv O<|RunK.passed O O O<|RunK.passed O O O<|RunK.passed O O O ?_;refine RunK.passed O O O<|kpf O O<|RunK.nil<|LWP.condF O ?_;refine LWP.skip ?_;refine rgN<|kmv O<|kad O O hadd<|kas O<|RunK.nil ?_)
  exact ⟨_,_,by omega,Le.of V8 V13 V2 V2 V0,i+1,by omega,O,hst2 _ hn⟩
 | true =>
 rw [h1] at hH
 by_cases c1:1≤r.nw
 case neg =>
  have hst:stB s o r=false:=by unfold stB Sg.okJ;rw [cO c1];simp
  rw [hst,if_neg (by decide)] at hn
  (refine aA<|aA<|rgN<|kmv O<|kfa O O ?_;refine kl1 O O O<|K.lenX O cC O dS ?_;refine klt O O (cP V3)<|RunK.nil<|LWP.condT O ?_;refine LWP.skip ?_;refine aA<|LWP.block<|aA<|rgN<|kfa O O ?_;refine kl1 O O O<|kmv O<|K.indexX O O cC V3 hio dS<|K.fieldAddrX O O dS ?_;refine K.loadX O hX O g1 dS<|kas O<|RunK.nil<|aA<|rgN<|kmv O<|kfa O O ?_;refine kl1 O O O<|kmv O<|K.indexX O O cC V3 hio dS<|K.fieldAddrX O O dS ?_;refine K.loadX O hX O g2 dS<|kca O O hH<|kmv O<|gmv O O O<|bD O O (cO c1) (dT O O) ?_;refine kpt O O<|kmv O<|RunK.passed O O O<|RunK.passed O O O<|kpf O O<|kmv O<|RunK.passed O O O<|RunK.passed O O O<|RunK.passed O O O<|RunK.passed O O O<|kpf O O<|RunK.nil<|LWP.condF O ?_;refine LWP.skip ?_;refine rgN<|kmv O<|kad O O hadd<|kas O<|RunK.nil ?_)
  exact ⟨_,_,by omega,Le.of V8 V13 V2 V2 V0,i+1,by omega,O,hst2 _ hn⟩
 by_cases c2:r.nw≤24
 case neg =>
  have hst:stB s o r=false:=by unfold stB Sg.okJ;rw [cO c2];simp
  rw [hst,if_neg (by decide)] at hn
  (refine aA<|aA<|rgN<|kmv O<|kfa O O ?_;refine kl1 O O O<|K.lenX O cC O dS ?_;refine klt O O (cP V3)<|RunK.nil<|LWP.condT O ?_;refine LWP.skip ?_;refine aA<|LWP.block<|aA<|rgN<|kfa O O ?_;refine kl1 O O O<|kmv O<|K.indexX O O cC V3 hio dS<|K.fieldAddrX O O dS ?_;refine K.loadX O hX O g1 dS<|kas O<|RunK.nil<|aA<|rgN<|kmv O<|kfa O O ?_;refine kl1 O O O<|kmv O<|K.indexX O O cC V3 hio dS<|K.fieldAddrX O O dS ?_;refine K.loadX O hX O g2 dS<|kca O O hH<|kmv O<|gmv O O O<|bD O O (cP c1) (dT O O) ?_;refine kpt O O<|kmv O<|gmv O O O<|K.leq O O (cO c2) (dT O O) ?_;refine kpt O O<|kmv O<|RunK.passed O O O<|RunK.passed O O O<|RunK.passed O O O<|RunK.passed O O O<|kpf O O<|RunK.nil<|LWP.condF O ?_;refine LWP.skip ?_;refine rgN<|kmv O<|kad O O hadd<|kas O<|RunK.nil ?_)
  exact ⟨_,_,by omega,Le.of V8 V13 V2 V2 V0,i+1,by omega,O,hst2 _ hn⟩
 cases h3:Sg.hasB o r.nw with
 | true =>
  rw [h3] at hH2
  have hst:stB s o r=false:=by unfold stB;rw [h3];simp
  rw [hst,if_neg (by decide)] at hn
  (refine aA<|aA<|rgN<|kmv O<|kfa O O ?_;refine kl1 O O O<|K.lenX O cC O dS ?_;refine klt O O (cP V3)<|RunK.nil<|LWP.condT O ?_;refine LWP.skip ?_;refine aA<|LWP.block<|aA<|rgN<|kfa O O ?_;refine kl1 O O O<|kmv O<|K.indexX O O cC V3 hio dS<|K.fieldAddrX O O dS ?_;refine K.loadX O hX O g1 dS<|kas O<|RunK.nil<|aA<|rgN<|kmv O<|kfa O O ?_;refine kl1 O O O<|kmv O<|K.indexX O O cC V3 hio dS<|K.fieldAddrX O O dS ?_;refine K.loadX O hX O g2 dS<|kca O O hH<|kmv O<|gmv O O O<|bD O O (cP c1) (dT O O) ?_;refine kpt O O<|kmv O<|gmv O O O<|K.leq O O (cP c2) (dT O O) ?_;refine kpt O O<|kmv O<|gmv O O O<|gmv O O O<|gca O O hH2 O O<|K.not O O (dT O O) ?_;refine kpt O O<|RunK.nil<|LWP.condF O ?_;refine LWP.skip ?_;refine rgN<|kmv O<|kad O O hadd<|kas O<|RunK.nil ?_)
  exact ⟨_,_,by omega,Le.of V8 V13 V2 V2 V0,i+1,by omega,O,hst2 _ hn⟩
 | false =>
 rw [h3] at hH2
 have hst:stB s o r=true:=by unfold stB;rw [h1,h3,Sg.okI_iff.2 ⟨c1,c2⟩];rfl
 rw [hst,if_pos rfl] at hn
 obtain ⟨w,hw⟩:∃ w:Nat,r.nw=(w:Int):=⟨r.nw.toNat,by omega⟩
 have hwn:r.nw.toNat=w:=by omega
 rw [hwn] at hn
 (refine aA<|aA<|rgN<|kmv O<|kfa O O ?_;refine kl1 O O O<|K.lenX O cC O dS ?_;refine klt O O (cP V3)<|RunK.nil<|LWP.condT O ?_;refine LWP.skip ?_;refine aA<|LWP.block<|aA<|rgN<|kfa O O ?_;refine kl1 O O O<|kmv O<|K.indexX O O cC V3 hio dS<|K.fieldAddrX O O dS ?_;refine K.loadX O hX O g1 dS<|kas O<|RunK.nil<|aA<|rgN<|kmv O<|kfa O O ?_;refine kl1 O O O<|kmv O<|K.indexX O O cC V3 hio dS<|K.fieldAddrX O O dS ?_;refine K.loadX O hX O g2 dS<|kca O O hH<|kmv O<|gmv O O O<|bD O O (cP c1) (dT O O) ?_;refine kpt O O<|kmv O<|gmv O O O<|K.leq O O (cP c2) (dT O O) ?_;refine kpt O O<|kmv O<|gmv O O O<|gmv O O O<|gca O O hH2 O O<|K.not O O (dT O O) ?_;refine kpt O O<|RunK.nil<|LWP.condT O ?_;refine aA<|rgN<|kas O<|RunK.nil<|aA<|aA<|rgN<|kas O<|RunK.nil<|LWP.block ?_)
 refine cL (fun m σ=>∃ k:Nat,k≤w∧m=w-k∧σ=⟨[(1,Ln .u32 (s:Nat)),(2,Lp 2),(5,Ln .u32 (o:Nat)),(6,Ln .i64 (i:Nat)),(7,Ln .i64 (w:Nat)),(8,Ln .u32 (2^k:Nat)),(9,Ln .i64 (k:Nat))],[v3B 42 2 va vb (some ⟨blk,off,none⟩) rs.length cap],X⟩) w
  ⟨⟨[(1,Ln .u32 (s:Nat)),(2,Lp 2),(5,Ln .u32 (o:Nat)),(6,Ln .i64 (i:Nat)),(7,Ln .i64 (w:Nat)),(8,Ln .u32 (1:Nat)),(9,Ln .i64 (0:Nat))],[v3B 42 2 va vb (some ⟨blk,off,none⟩) rs.length cap],X⟩,by rw [← hw];exact Le.of V14 V13 V2 V2 V0,0,by omega,by omega,rfl⟩ ?_
 rintro m σ ⟨k,hk,rfl,rfl⟩
 by_cases hkl:k<w
 ·have hmul:IntKind.u32.wrap (((2^k:Nat):Int)*2)=((2^(k+1):Nat):Int):=by
   have e:((2^k:Nat):Int)*2=((2^(k+1):Nat):Int):=by rw [Nat.pow_succ,Int.natCast_mul];rfl
   rw [e]
   refine wrap_u32 ⟨Int.natCast_nonneg _,?_⟩
   have:2^(k+1)≤2^24:=Nat.pow_le_pow_right VA V3
   have h24:(2:Nat)^24=16777216:=by decide
   omega
  have haddk:=wi k V3
  (refine aA<|aA<|rgN<|kmv O<|kmv O<|klt O O (cP V3)<|RunK.nil<|LWP.condT O ?_;refine LWP.skip ?_;refine aA<|LWP.block<|rgN<|kmv O<|bL O O hmul dS<|kas O<|RunK.nil<|rgN<|kmv O<|kad O O haddk<|kas O<|RunK.nil ?_)
  exact ⟨_,⟨[(1,Ln .u32 (s:Nat)),(2,Lp 2),(5,Ln .u32 (o:Nat)),(6,Ln .i64 (i:Nat)),(7,Ln .i64 (w:Nat)),(8,Ln .u32 (2^(k+1):Nat)),(9,Ln .i64 (k+1:Nat))],[v3B 42 2 va vb (some ⟨blk,off,none⟩) rs.length cap],X⟩,by omega,Le.of V14 V13 V2 V2 V0,k+1,by omega,O,O⟩
 ·have e:k=w:=by omega
  subst e
  have hsum:IntKind.u32.wrap (((o:Nat):Int)+((2^k:Nat):Int))=((o+2^k:Nat):Int):=by
   rw [Int.natCast_add]
   refine wrap_u32 ⟨by omega,by omega⟩
  (refine aA<|aA<|rgN<|kmv O<|kmv O<|klt O O (cO V3)<|RunK.nil<|LWP.condF O ?_;refine LWP.exit<|rgN<|kmv O<|kmv O<|kad O O hsum<|kas O<|RunK.nil<|rgN<|kmv O<|kad O O hadd<|kas O<|RunK.nil ?_)
  exact ⟨_,⟨[(1,Ln .u32 (s:Nat)),(2,Lp 2),(5,Ln .u32 (o+2^k:Nat)),(6,Ln .i64 (i+1:Nat))],[v3B 42 2 va vb (some ⟨blk,off,none⟩) rs.length cap],X⟩,by omega,Le.of V8 V13 V2 V2 V0,i+1,by omega,O,hst2 _ hn⟩
theorem values14 (l m:List Nm) (ad ad2:Option Addr) (cap cap2:Nat) (ha:NumsIn X ad l) (hb:NumsIn X ad2 m) (hbig:l.length<4611686018427387904) (r:Bool) (hr:decide (l=m)=r):
  PSpec Tryz.prog X 14 [Lx ad l.length cap,Lx ad2 m.length cap2] (Lb r):=by
 subst hr
 refine cF Tryz.func14 rfl V5 rfl rfl ?_
 intro C
 by_cases hl:l.length=m.length
 ·(refine U11 ?_;refine kne rfl rfl (r:=false) (by rw [hl];simp) ?_;refine U9 ?_)
  refine cL (fun q σ=>∃ i:Nat,i≤l.length∧q=l.length-i∧l.take i=m.take i∧σ=⟨[(0,Lx ad l.length cap),(1,Lx ad2 m.length cap2),(5,Ln .i64 (i:Nat))],[],X⟩) l.length
   ⟨_,Le.of V9 VC V2 V2 V2,0,by omega,rfl,rfl,rfl⟩ ?_
  rintro q σ ⟨i,hi,rfl,hpre,rfl⟩
  by_cases hlt:i<l.length
  ·obtain ⟨⟨b1,N1⟩,hf⟩:∃ v,l[i]? = some v:=⟨_,cY hlt⟩
   obtain ⟨⟨b2,N2⟩,hf'⟩:∃ v,m[i]? = some v:=wg V3
   obtain ⟨hN1,blk,off,arr,el,fr,rfl,hX,hsz,hcells⟩:=ha.at hf
   obtain ⟨hN2,blk',off',arr',el',fr',rfl,hX',hsz',hcells'⟩:=hb.at hf'
   have hio:=wo off i 3
   have hio':=wo off' i 3
   have hadd:=wi i V3
   have q:=eqI (b:=b1) (b':=b2) (h:=N1/18446744073709551616) (h':=N2/18446744073709551616) (l:=N1%18446744073709551616) (l':=N2%18446744073709551616) _ (eqN hN1 hN2)
   by_cases hq:((b1,N1):Nm)=(b2,N2)
   ·rw [cP hq] at q
    (refine U13 ?_;refine rgD mixed ?_;refine U8 ?_;refine bR O O O O V5 q (.inr ⟨O,O⟩) dS ?_;refine U9 ?_)
    exact ⟨_,_,by omega,Le.of V9 VC V2 V2 V2,i+1,by omega,rfl,by rw [take_snoc hf,take_snoc hf',hpre,hq],rfl⟩
   ·rw [cO (show ¬l=m from fun e=>hq (by rw [e,hf'] at hf;exact (Option.some.inj hf).symm))]
    rw [cO hq] at q
    (refine U13 ?_;refine rgD mixed ?_;refine U8 ?_;refine bR O O O O V5 q (.inr ⟨O,O⟩) dS ?_;refine U8 ?_)
    exact V6
  ·have e:i=l.length:=by omega
   subst e
   rw [dG,List.take_of_length_le (by omega)] at hpre
   rw [cP hpre]
   refine U15 ?_
   exact V6
 ·rw [cO (show ¬l=m from fun e=>hl (by rw [e]))]
  (refine U11 ?_;refine kne rfl rfl (r:=true) (by rw [bne_iff_ne];omega) ?_;refine U7 ?_)
  exact V6
end Go.Proofs.YtopiioklkkiedaaGreatDoor
end
section
set_option maxHeartbeats 12800000
set_option maxRecDepth 100000
namespace Go.Proofs.YtopiioklkkiedaaGreatDoor
open Go Go.Lg Go.Lg.Fml Go.Lg.Fld Go.Lg.Arith
set_option maxRecDepth 100000
theorem findI_c {cs:List Cp} {id:Int}:(findC cs id=none∧findI (fun c=>c.id==id) cs = -1)∨∃ (k:Nat) (c:Cp),findC cs id=some c∧cs[k]? = some c∧findI (fun c=>c.id==id) cs=(k:Nat):=by
 cases h:findC cs id with
 | none=>exact .inl ⟨rfl,findI_none (findC_no h)⟩
 | some c =>
  obtain ⟨k,hk,hid,hpre⟩:=findC_at h
  exact .inr ⟨k,c,rfl,hk,findI_some hpre hk (by rw [beq_iff_eq];exact hid)⟩
variable (X:Nat→Option Obj)
set_option maxHeartbeats 12800000 in
theorem rCheck13 (a b:Sc) (p:Pg) (ad1 ad2 ad:Option Addr) (cap1 cap2 cap:Nat) (ha:CompsIn X ad1 a.cs) (hb:CompsIn X ad2 b.cs) (hp:RulesIn X ad p.rs) (sa:a.cs.length≤30∧∀ c∈a.cs,c.fs.length≤12) (sb:b.cs.length≤30∧∀ c∈b.cs,c.fs.length≤12) (sp:pgOk p):
  PSpec Tryz.prog X 49 [Sx a.ver ad1 a.cs.length cap1,Sx b.ver ad2 b.cs.length cap2,LPg p.va p.vb ad p.rs.length cap] (Ln .i64 (ckE a b p)):=by
 obtain ⟨sa1,sa2⟩:=sa
 obtain ⟨sb1,sb2⟩:=sb
 have sp1:=sp.1
 have hA:=sCheck_spec X a ad1 cap1 ha V3 (fun c hc=>by have:=sa2 c hc;omega)
 have hB:=sCheck_spec X b ad2 cap2 hb V3 (fun c hc=>by have:=sb2 c hc;omega)
 have hP:=rCheck12 X p ad cap hp sp.big sp.size
 refine cF Tryz.func49 rfl V5 rfl rfl ?_
 intro C
 by_cases e1:chkE a=0
 case neg =>
  rw [show ckE a b p=chkE a by unfold ckE;rw [if_neg e1]]
  generalize chkE a=e at *
  (refine U17 ?_;refine kne rfl rfl (r:=true) (cU e1) ?_;refine U8 ?_)
  exact V6
 rw [e1] at hA
 by_cases e2:chkE b=0
 case neg =>
  rw [show ckE a b p=chkE b by unfold ckE;rw [if_pos e1,if_neg e2]]
  generalize chkE b=e at *
  (refine U31 ?_;refine kne rfl rfl (r:=true) (cU e2) ?_;refine U8 ?_)
  exact V6
 rw [e2] at hB
 by_cases e3:chkP p=0
 case neg =>
  rw [show ckE a b p=chkP p by unfold ckE;rw [if_pos e1,if_pos e2,if_neg e3]]
  generalize chkP p=e at *
  (refine U45 ?_;refine kne rfl rfl (r:=true) (cU e3) ?_;refine U8 ?_)
  exact V6
 rw [e3] at hP
 rw [ckE_go (show eaE a b p=0 by unfold eaE;rw [if_pos e1,if_pos e2];exact e3)]
 by_cases c1:p.va=a.ver
 case neg =>
  rw [if_neg (fun h=>c1 h.1)]
  (refine U56 ?_;refine kne rfl rfl (r:=true) (cU c1) ?_;refine U21 ?_)
  exact V6
 by_cases c2:p.vb=b.ver
 case neg =>
  rw [if_neg (fun h=>c2 h.2.1)]
  (refine U56 ?_;refine kne O O (r:=false) (cT c1) ?_;refine U5 ?_;refine aX O O (r:=true) (cU c2) (dT O O) ?_;refine U15 ?_)
  exact V6
 by_cases c3:p.va<p.vb
 case neg =>
  rw [if_neg (fun h=>c3 h.2.2)]
  ((refine U56 ?_;refine kne O O (r:=false) (cT c1) ?_;refine U2 ?_);(refine U3 ?_;refine aX O O (r:=false) (cT c2) (dT O O) ?_;refine U6 ?_;refine bD O O (cP V3) (dT O O) ?_;refine U8 ?_))
  exact V6
 rw [if_pos ⟨c1,c2,c3⟩]
 by_cases hl:p.rs.length=b.cs.length
 case neg =>
  rw [if_neg hl]
  ((refine U56 ?_;refine kne O O (r:=false) (cT c1) ?_;refine U2 ?_);(refine U3 ?_;refine aX O O (r:=false) (cT c2) (dT O O) ?_;refine U15 ?_);(refine U13 ?_))
  exact V6
 rw [if_pos hl]
 ((refine U56 ?_;refine kne O O (r:=false) (cT c1) ?_;refine U2 ?_);(refine U3 ?_;refine aX O O (r:=false) (cT c2) (dT O O) ?_;refine U15 ?_);(refine U5 ?_;refine kne O O (r:=false) (cT V3) ?_;refine U9 ?_))
 clear hA hB hP
 have hzl:(p.rs.zip b.cs).length=p.rs.length:=by rw [List.length_zip];omega
 refine cL (fun m σ=>∃ i:Nat,i≤p.rs.length∧m=p.rs.length-i∧(∀ j,0≤j→j<i→atE (nwE a) (p.rs.zip b.cs) j=0)∧σ=⟨[(3,Lp 3),(4,Lp 4),(5,Lp 5),(10,Ln .i64 (i:Nat))],[v3B 42 5 p.va p.vb ad p.rs.length cap,sxB 4 b.ver ad2 b.cs.length cap2,sxB 3 a.ver ad1 a.cs.length cap1],X⟩) p.rs.length
  ⟨⟨[(3,Lp 3),(4,Lp 4),(5,Lp 5),(10,Ln .i64 (0:Nat))],[v3B 42 5 p.va p.vb ad p.rs.length cap,sxB 4 b.ver ad2 b.cs.length cap2,sxB 3 a.ver ad1 a.cs.length cap1],X⟩,Le.of V8 V9 V2 V2 V0,0,by omega,by omega,fun j _ hj=>absurd hj V3,rfl⟩ ?_
 rintro m σ ⟨i,hi,rfl,hpre,rfl⟩
 by_cases hlt:i<p.rs.length
 ·obtain ⟨r,hr⟩:=wg hlt
  obtain ⟨c,hc⟩:∃ c,b.cs[i]? = some c:=wg V3
  obtain ⟨rb,ro,rarr,rel,rfr,ead,ecap,rfl,hRX,hRz,hRc,r1,r2,r3,hRE⟩:=hp.get hr
  obtain ⟨cb,co,carr,cel,cfr,cad,ccap,rfl,hCX,hCz,hCc,q1,q2,q3,hCF⟩:=hb.get hc
  have hior:=wo ro i 3
  have hioc:=wo co i 3
  have hadd:=wi i V3
  have hat:atE (nwE a) (p.rs.zip b.cs) i=nwE a (r,c):=atE_at (zip_two hr hc)
  have bad:nwE a (r,c)=6→(if seqE (nwE a) (p.rs.zip b.cs)=0 then seqE (ruC a) (p.rs.zip b.cs) else 6)=(6:Int):=fun h=>by
   rw [if_neg]
   intro h2
   have:=seqE_zero h2 (r,c) (dE (zip_two hr hc))
   rw [h] at this;cases this
  have next:nwE a (r,c)=0→∀ j,0≤j→j<i+1→atE (nwE a) (p.rs.zip b.cs) j=0:=fun h j h0 hj=>by
   by_cases e:j=i
   ·rw [e,hat];exact h
   ·exact hpre j h0 V3
  by_cases hn:r.nw=c.id
  case neg =>
   rw [bad (by unfold nwE;exact if_neg (fun h=>hn h.1))]
   (refine aA<|aA<|rgN<|kmv O<|kfa O O ?_;refine kl1 O O O<|K.lenX O cC O dS ?_;refine klt O O (cP V3)<|RunK.nil<|LWP.condT O ?_;refine LWP.skip ?_;refine aA<|LWP.block<|aA<|rgD mixed<|kfa O O ?_;refine kl1 O O O<|kmv O<|K.indexX O O cC V3 hior dS<|K.fieldAddrX O O dS ?_;refine K.loadX O hRX O r1 dS<|kfa O O ?_;refine kl1 O O O<|kmv O<|K.indexX O O cC V3 hioc dS<|K.fieldAddrX O O dS ?_;refine K.loadX O hCX O q1 dS<|kne O O (r:=true) (cU hn)<|kmv O<|RunK.passed O O O<|RunK.passed O O O<|RunK.passed O O O<|RunK.passed O O O<|RunK.passed O O O<|RunK.passed O O O<|RunK.passed O O O<|RunK.passed O O O<|RunK.passedU O O<|RunK.passedU O O<|RunK.passedU O O ?_;refine RunK.passedU O O<|RunK.passedU O O<|RunK.passedU O O<|RunK.passedU O O<|RunK.passedU O O<|RunK.passedU O O<|RunK.passed O O O<|kpt O O<|RunK.nil<|rgA ?_;refine LWP.condT O ?_;refine aA<|rgN<|kas O<|RunK.nil<|LWP.ret ?_)
   exact V6
  by_cases h0:r.old=0
  ·have hz:=next (by unfold nwE;exact if_pos ⟨hn,.inl h0⟩)
   (refine aA<|aA<|rgN<|kmv O<|kfa O O ?_;refine kl1 O O O<|K.lenX O cC O dS ?_;refine klt O O (cP V3)<|RunK.nil<|LWP.condT O ?_;refine LWP.skip ?_;refine aA<|LWP.block<|aA<|rgD mixed<|kfa O O ?_;refine kl1 O O O<|kmv O<|K.indexX O O cC V3 hior dS<|K.fieldAddrX O O dS ?_;refine K.loadX O hRX O r1 dS<|kfa O O ?_;refine kl1 O O O<|kmv O<|K.indexX O O cC V3 hioc dS<|K.fieldAddrX O O dS ?_;refine K.loadX O hCX O q1 dS<|kne O O (r:=false) (cT hn)<|kmv O<|K.fieldAddr O O (dT O O) ?_;refine K.loadOne O O O (dT O O) ?_;refine gmv O O O<|K.indexX O O cC V3 hior (dT O O) ?_;refine K.fieldAddrX O O (dT O O) ?_;refine K.loadX O hRX O r2 (dT O O) ?_;refine aX O O (r:=false) (cT h0) (dT O O) ?_;refine gmv O O O<|RunK.passed O O O<|RunK.passed O O O<|RunK.passed O O O<|RunK.passed O O O<|RunK.passed O O O<|RunK.passed O O O<|RunK.passed O O O<|RunK.passed O O O<|RunK.passed O O O<|K.pickF O O (dT O O) ?_;refine kpf O O<|RunK.nil<|rgA ?_;refine LWP.condF O ?_;refine LWP.skip ?_;refine rgN<|kmv O<|kad O O hadd<|kas O<|RunK.nil ?_)
   exact ⟨_,_,by omega,Le.of V8 V9 V2 V2 V0,i+1,by omega,O,hz,O⟩
  have hFi:=sFind_spec X a.ver ad1 cap1 a.cs r.old ha V3
  rcases findI_c (cs:=a.cs) (id:=r.old) with ⟨k1,k2⟩|⟨k,o,k1,k2,k3⟩
  ·rw [bad (by unfold nwE;exact if_neg (fun h=>h.2.elim h0 fun h=>by rw [k1] at h;cases h))]
   rw [k2] at hFi
   ((refine aA<|aA<|rgN<|kmv O<|kfa O O ?_;refine kl1 O O O<|K.lenX O cC O dS ?_;refine klt O O (cP V3)<|RunK.nil<|LWP.condT O ?_;refine LWP.skip ?_;refine aA<|LWP.block<|aA<|rgD mixed<|kfa O O ?_;refine kl1 O O O<|kmv O<|K.indexX O O cC V3 hior dS<|K.fieldAddrX O O dS ?_;refine K.loadX O hRX O r1 dS<|kfa O O ?_;refine kl1 O O O<|kmv O<|K.indexX O O cC V3 hioc dS<|K.fieldAddrX O O dS ?_;refine K.loadX O hCX O q1 dS<|kne O O (r:=false) (cT hn)<|kmv O<|K.fieldAddr O O (dT O O) ?_;refine K.loadOne O O O (dT O O) ?_;refine gmv O O O<|K.indexX O O cC V3 hior (dT O O) ?_;refine K.fieldAddrX O O (dT O O) ?_);(refine K.loadX O hRX O r2 (dT O O) ?_;refine aX O O (r:=true) (cU h0) (dT O O) ?_;refine gmv O O O<|K.loadAll O O O (dT O O) ?_;refine K.fieldAddr O O (dT O O) ?_;refine K.loadOne O O O (dT O O) ?_;refine gmv O O O<|K.indexX O O cC V3 hior (dT O O) ?_;refine K.fieldAddrX O O (dT O O) ?_;refine K.loadX O hRX O r2 (dT O O) ?_;refine gca O O hFi O O<|bK O O (r:=true) O (dT O O) ?_;refine K.pickT O O (dT O O) ?_;refine kpf O O<|RunK.nil<|rgA ?_;refine LWP.condT O ?_);(refine aA<|rgN<|kas O<|RunK.nil<|LWP.ret ?_))
   exact V6
  ·have hz:=next (by unfold nwE;exact if_pos ⟨hn,.inr (by rw [k1];rfl)⟩)
   rw [k3] at hFi
   ((refine aA<|aA<|rgN<|kmv O<|kfa O O ?_;refine kl1 O O O<|K.lenX O cC O dS ?_;refine klt O O (cP V3)<|RunK.nil<|LWP.condT O ?_;refine LWP.skip ?_;refine aA<|LWP.block<|aA<|rgD mixed<|kfa O O ?_;refine kl1 O O O<|kmv O<|K.indexX O O cC V3 hior dS<|K.fieldAddrX O O dS ?_;refine K.loadX O hRX O r1 dS<|kfa O O ?_;refine kl1 O O O<|kmv O<|K.indexX O O cC V3 hioc dS<|K.fieldAddrX O O dS ?_;refine K.loadX O hCX O q1 dS<|kne O O (r:=false) (cT hn)<|kmv O<|K.fieldAddr O O (dT O O) ?_;refine K.loadOne O O O (dT O O) ?_;refine gmv O O O<|K.indexX O O cC V3 hior (dT O O) ?_;refine K.fieldAddrX O O (dT O O) ?_);(refine K.loadX O hRX O r2 (dT O O) ?_;refine aX O O (r:=true) (cU h0) (dT O O) ?_;refine gmv O O O<|K.loadAll O O O (dT O O) ?_;refine K.fieldAddr O O (dT O O) ?_;refine K.loadOne O O O (dT O O) ?_;refine gmv O O O<|K.indexX O O cC V3 hior (dT O O) ?_;refine K.fieldAddrX O O (dT O O) ?_;refine K.loadX O hRX O r2 (dT O O) ?_;refine gca O O hFi O O<|bK O O (cO V3) (dT O O) ?_;refine K.pickT O O (dT O O) ?_;refine kpf O O<|RunK.nil<|rgA ?_;refine LWP.condF O ?_);(refine LWP.skip ?_;refine rgN<|kmv O<|kad O O hadd<|kas O<|RunK.nil ?_))
   exact ⟨_,_,by omega,Le.of V8 V9 V2 V2 V0,i+1,by omega,O,hz,O⟩
 have hs:seqE (nwE a) (p.rs.zip b.cs)=0:=firstE_none fun j h1 h2=>hpre j h1 V3
 have hnw:=seqE_zero hs
 rw [if_pos hs]
 refine U17 ?_
 clear hpre hs
 refine cL (fun m σ=>∃ i:Nat,i≤p.rs.length∧m=p.rs.length-i∧(∀ j,0≤j→j<i→atE (ruC a) (p.rs.zip b.cs) j=0)∧σ=⟨[(3,Lp 3),(4,Lp 4),(5,Lp 5),(11,Ln .i64 (i:Nat))],[v3B 42 5 p.va p.vb ad p.rs.length cap,sxB 4 b.ver ad2 b.cs.length cap2,sxB 3 a.ver ad1 a.cs.length cap1],X⟩) p.rs.length
  ⟨⟨[(3,Lp 3),(4,Lp 4),(5,Lp 5),(11,Ln .i64 (0:Nat))],[v3B 42 5 p.va p.vb ad p.rs.length cap,sxB 4 b.ver ad2 b.cs.length cap2,sxB 3 a.ver ad1 a.cs.length cap1],X⟩,Le.of V8 V9 V2 V2 V0,0,by omega,by omega,fun j _ hj=>absurd hj V3,rfl⟩ ?_
 rintro m σ ⟨i,hi,rfl,hpre,rfl⟩
 by_cases hlt:i<p.rs.length
 case neg =>
  rw [show seqE (ruC a) (p.rs.zip b.cs)=0 from firstE_none fun j h1 h2=>hpre j h1 (by omega)]
  refine U16 ?_
  exact V6
 obtain ⟨r,hr⟩:=wg hlt
 obtain ⟨c,hc⟩:∃ c,b.cs[i]? = some c:=wg V3
 obtain ⟨rb,ro,rarr,rel,rfr,ead,ecap,rfl,hRX,hRz,hRc,r1,r2,r3,hRE⟩:=hp.get hr
 obtain ⟨cb,co,carr,cel,cfr,cad,ccap,rfl,hCX,hCz,hCc,q1,q2,q3,hCF⟩:=hb.get hc
 have hior:=wo ro i 3
 have hioc:=wo co i 3
 have hadd:=wi i V3
 have hat:atE (ruC a) (p.rs.zip b.cs) i=ruC a (r,c):=atE_at (zip_two hr hc)
 have next:ruC a (r,c)=0→∀ j,0≤j→j<i+1→atE (ruC a) (p.rs.zip b.cs) j=0:=fun h j h0 hj=>by
  by_cases e:j=i
  ·rw [e,hat];exact h
  ·exact hpre j h0 V3
 have hcl:=sb2 c (dE hc)
 by_cases h0:r.old=0
 ·have hz:=next (by show ruE (flC a r.old) c.fs r=0;unfold ruE;rw [if_pos h0])
  (refine U22 ?_;refine keq rfl rfl (r:=true) (cV h0) ?_;refine U8 ?_)
  exact ⟨_,_,by omega,Le.of V8 V9 V2 V2 V0,i+1,by omega,O,hz,O⟩
 have hsome:(findC a.cs r.old).isSome=true:=by
  have:=hnw (r,c) (dE (zip_two hr hc))
  unfold nwE at this
  split at this
  ·rename_i h;exact h.2.resolve_left h0
  ·cases this
 have hFi:=sFind_spec X a.ver ad1 cap1 a.cs r.old ha V3
 rcases findI_c (cs:=a.cs) (id:=r.old) with ⟨k1,k2⟩|⟨k,o,k1,k2,k3⟩
 ·rw [k1] at hsome;cases hsome
 rw [k3] at hFi
 have hkl:=(wl k2)
 obtain ⟨ob,oo,oarr,oel,ofr,oad,ocap,rfl,hOX,hOz,hOc,_,_,_,hOF⟩:=ha.get k2
 have hioo:=wo oo k 3
 have hol:=sa2 o (dE k2)
 have hq:=rRule13 X o c r oad cad ead ocap ccap ecap hOF hCF hRE V3 V3 (fun q hq=>by have:=(sp.2 r (dE hr)).2 q hq;omega)
 have hru:ruC a (r,c)=ruE o.fs c.fs r:=by show ruE (flC a r.old) c.fs r=_;unfold flC;rw [k1]
 by_cases he:ruE o.fs c.fs r=0
 ·rw [he] at hq
  have hz:=next (hru.trans he)
  (refine U22 ?_;refine keq rfl rfl (r:=false) (cS h0) ?_;refine U4 ?_;refine rgD mixed ?_;refine U12 ?_;refine rgD mixed ?_;refine U31 ?_)
  exact ⟨_,_,by omega,Le.of V8 V9 V2 V2 V0,i+1,by omega,O,hz,O⟩
 ·rw [show seqE (ruC a) (p.rs.zip b.cs)=ruE o.fs c.fs r from firstE_some hpre (Nat.zero_le _) V3 (hat.trans hru) he]
  generalize ruE o.fs c.fs r=e at *
  (refine U22 ?_;refine keq rfl rfl (r:=false) (cS h0) ?_;refine U4 ?_;refine rgD mixed ?_;refine U12 ?_;refine rgD mixed ?_;refine U22 ?_;refine kne rfl rfl (r:=true) (cU he) ?_;refine U8 ?_)
  exact V6
end Go.Proofs.YtopiioklkkiedaaGreatDoor
end
section
set_option maxHeartbeats 12800000
set_option maxRecDepth 100000
namespace Go.Proofs.YtopiioklkkiedaaGreatDoor
open Go Go.Lg Go.Lg.Fml Go.Lg.Fld Go.Lg.Arith
set_option maxRecDepth 100000
variable (X:Nat→Option Obj)
set_option maxHeartbeats 25600000 in
theorem rParts14 (a b:Sc) (p:Pg) (ps:List Pt) (ad1 ad2 ad pad:Option Addr) (cap1 cap2 cap pcap:Nat) (ha:CompsIn X ad1 a.cs) (hb:CompsIn X ad2 b.cs) (hp:RulesIn X ad p.rs) (hP:PartsC X pad ps) (sa:a.cs.length≤30∧∀ c∈a.cs,c.fs.length≤12) (sb:b.cs.length≤30∧∀ c∈b.cs,c.fs.length≤12) (sp:pgOk p) (sl:ps.length≤12∧∀ x∈ps,x.val.length≤1000):
  MSpec Tryz.prog X 19 [Sx a.ver ad1 a.cs.length cap1,Sx b.ver ad2 b.cs.length cap2,LPg p.va p.vb ad p.rs.length cap,Lx pad ps.length pcap] [] (pR14 (psE a b p ps) (psV a b p ps)) (pBx14 (psE a b p ps) (psV a b p ps)):=by
 have hC:=rCheck13 X a b p ad1 ad2 ad cap1 cap2 cap ha hb hp sa sb sp
 obtain ⟨sa1,sa2⟩:=sa
 obtain ⟨sb1,sb2⟩:=sb
 obtain ⟨sl1,sl2⟩:=sl
 have sp1:=sp.1
 have hS:=sParts_spec X a.ver ad1 pad cap1 pcap a.cs ps ha V3 (fun c hc=>by have:=sa2 c hc;omega) hP.parts V3 (fun x hx=>by have:=sl2 x hx;omega)
 refine cG Tryz.func19 rfl V5 rfl (by unfold pR14 pBx14;split<;>rfl) (by unfold pBx14;split<;>exact V0) rfl rfl ?_
 intro C
 refine LWP.ends ?_
 by_cases z1:ckE a b p=0
 case neg =>
  rw [show psE a b p ps=ckE a b p by unfold psE;rw [if_neg z1]]
  unfold pR14 pBx14
  rw [if_neg z1,if_neg z1]
  generalize ckE a b p=e at *
  (refine U20 ?_;refine kne rfl rfl (r:=true) (cU z1) ?_;refine U9 ?_)
  exact cD ⟨[],⟨[_,_],⟨O,O,trivial⟩,O⟩,trivial,O,O⟩
 rw [z1] at hC
 by_cases z2:partsE a.cs ps=0
 case neg =>
  rw [show psE a b p ps=partsE a.cs ps by unfold psE;rw [if_pos z1,if_neg z2]]
  unfold pR14 pBx14
  rw [if_neg z2,if_neg z2]
  generalize partsE a.cs ps=e at *
  (refine U35 ?_;refine kne rfl rfl (r:=true) (cU z2) ?_;refine U9 ?_)
  exact cD ⟨[],⟨[_,_],⟨O,O,trivial⟩,O⟩,trivial,O,O⟩
 rw [z2] at hS
 obtain ⟨_,_,_,hl,_⟩:=ckE_facts z1
 have hfacts:=(prt_facts z2).2
 rw [show psE a b p ps=seqE (pqE a) (prS p.rs b.cs ps) by unfold psE;rw [if_pos z1,if_pos z2]]
 unfold psV
 have hsmP:∀ x∈(prS p.rs b.cs ps).map (prV a),smallP x:=fun x hx=>by
  obtain ⟨q,hq,rfl⟩:=List.mem_map.1 hx
  exact (hp.small q.1 (List.of_mem_zip (mem_prS.1 hq).1).1).1
 (refine U41 ?_;refine aZ (zs:=[]) (sz:=2) (e:=59) V5 O O O O O O dS ?_;refine U8 ?_)
 clear hC hS
 refine cM (fun m σ=>∃ (i:Nat) (L:List Pt) (ws:List Value) (H:Nat→Option Obj),i≤p.rs.length∧m=p.rs.length-i∧OwnedM C X H∧PartsH H ws L∧L=(prS (p.rs.take i) (b.cs.take i) ps).map (prV a)∧seqE (pqE a) (prS (p.rs.take i) (b.cs.take i) ps)=0∧σ=⟨[(3,Lx pad ps.length pcap),(4,Lp 4),(5,Lp 5),(6,Lp 6),(12,.sv (.one (.slc 500 0 (L).length 2))),(13,Ln .i64 (i:Nat))],[(500,some ⟨59,(ptZ (L) (ws)).map .val,(Nat.blt 0 (L).length)⟩),sxB 4 a.ver ad1 a.cs.length cap1,sxB 5 b.ver ad2 b.cs.length cap2,v3B 42 6 p.va p.vb ad p.rs.length cap],joinM X H⟩) p.rs.length
  (cE (σ':=⟨[(3,Lx pad ps.length pcap),(4,Lp 4),(5,Lp 5),(6,Lp 6),(12,.sv (.one (.slc 500 0 ([]).length 2))),(13,Ln .i64 (0:Nat))],[(500,some ⟨59,(ptZ ([]) ([])).map .val,false⟩),sxB 4 a.ver ad1 a.cs.length cap1,sxB 5 b.ver ad2 b.cs.length cap2,v3B 42 6 p.va p.vb ad p.rs.length cap],X⟩) (Le.ofR [(500,31)] V11 V1 V2 V2 V0 V2 V2) (cD ⟨0,[],[],fun _=>none,by omega,by omega,OwnedM.nil C X,PartsH.nil,rfl,rfl,by rw [joinM_nil];rfl⟩)) ?_
 rintro m σ ⟨i,L,ws,H,hi,rfl,hO,G,hL,hpre,rfl⟩
 by_cases hlt:i<p.rs.length
 case neg =>
  have e:i=p.rs.length:=by omega
  subst e
  rw [dG,hl,dG] at hL hpre
  rw [hpre]
  unfold pR14 pBx14
  rw [if_pos rfl,if_pos rfl,← hL]
  rw [← hL] at hsmP
  refine U18 ?_
  refine cE (σ':=⟨[(8,.sv (.one (.slc 500 0 L.length 2))),(9,Ln .i64 0)],[(500,some ⟨59,(ptZ L ws).map .val,Nat.blt 0 L.length⟩)],joinM X H⟩) (Le.ofR [(500,500)] VE V1 V2 V2 V0 V2 V2) ?_
  refine cE Le.loose ?_
  refine Leads.spare fun sp=>prt_shut hO G hsmP (cD ?_)
  exact ⟨[(1000001,500)],⟨[_,_],⟨O,O,trivial⟩,O⟩,V1,O,O⟩
 obtain ⟨r,hr⟩:=wg hlt
 obtain ⟨c,hc⟩:∃ c,b.cs[i]? = some c:=wg V3
 obtain ⟨rb,ro,rarr,rel,rfr,ead,ecap,rfl,hRX,hRz,hRc,r1,r2,r3,hRE⟩:=hp.get hr
 obtain ⟨cb,co,carr,cel,cfr,cad,ccap,rfl,hCX,hCz,hCc,q1,q2,q3,hCF⟩:=hb.get hc
 have hior:=wo ro i 3
 have hioc:=wo co i 3
 have hadd:=wi i V3
 refine U18 ?_
 refine cM (fun m σ=>∃ (k:Nat) (L:List Pt) (ws:List Value) (H:Nat→Option Obj),k≤ps.length∧m=ps.length-k∧OwnedM C X H∧PartsH H ws L∧L=(prS (p.rs.take i) (b.cs.take i) ps++partsOf r c (ps.take k)).map (prV a)∧seqE (pqE a) (prS (p.rs.take i) (b.cs.take i) ps++partsOf r c (ps.take k))=0∧σ=⟨[(3,Lx pad ps.length pcap),(4,Lp 4),(5,Lp 5),(6,Lp 6),(12,.sv (.one (.slc 500 0 (L).length 2))),(13,Ln .i64 (i:Nat)),(14,Ln .i64 (k:Nat))],[(500,some ⟨59,(ptZ (L) (ws)).map .val,(Nat.blt 0 (L).length)⟩),sxB 4 a.ver ad1 a.cs.length cap1,sxB 5 b.ver (some ⟨cb,co,none⟩) b.cs.length cap2,v3B 42 6 p.va p.vb (some ⟨rb,ro,none⟩) p.rs.length cap],joinM X H⟩) ps.length
  (cE (σ':=⟨[(3,Lx pad ps.length pcap),(4,Lp 4),(5,Lp 5),(6,Lp 6),(12,.sv (.one (.slc 500 0 (L).length 2))),(13,Ln .i64 (i:Nat)),(14,Ln .i64 (0:Nat))],[(500,some ⟨59,(ptZ (L) (ws)).map .val,(Nat.blt 0 (L).length)⟩),sxB 4 a.ver ad1 a.cs.length cap1,sxB 5 b.ver (some ⟨cb,co,none⟩) b.cs.length cap2,v3B 42 6 p.va p.vb (some ⟨rb,ro,none⟩) p.rs.length cap],joinM X H⟩) (Le.ofR [(500,500)] V14 V1 V2 V2 V0 V2 V2) (cD ⟨0,L,ws,H,by omega,by omega,hO,G,by rw [show partsOf r c (ps.take 0)=[] from rfl,dK];exact hL,by rw [show partsOf r c (ps.take 0)=[] from rfl,dK];exact hpre,rfl⟩)) ?_
 clear hO G hL hpre
 clear L ws H
 rintro m σ ⟨k,L,ws,H,hk,rfl,hO,G,hL,hpre,rfl⟩
 by_cases hkl:k<ps.length
 case neg =>
  have e:k=ps.length:=by omega
  subst e
  rw [dG,← prS_snoc hr hc] at hL hpre
  refine U15 ?_
  exact cE (σ':=⟨[(3,Lx pad ps.length pcap),(4,Lp 4),(5,Lp 5),(6,Lp 6),(12,.sv (.one (.slc 500 0 (L).length 2))),(13,Ln .i64 (i+1:Nat))],[(500,some ⟨59,(ptZ (L) (ws)).map .val,(Nat.blt 0 (L).length)⟩),sxB 4 a.ver ad1 a.cs.length cap1,sxB 5 b.ver (some ⟨cb,co,none⟩) b.cs.length cap2,v3B 42 6 p.va p.vb (some ⟨rb,ro,none⟩) p.rs.length cap],joinM X H⟩) (Le.ofR [(500,500)] V11 V1 V2 V2 V0 V2 V2) (cD ⟨p.rs.length-(i+1),by omega,i+1,L,ws,H,by omega,O,hO,G,hL,hpre,O⟩)
 obtain ⟨x,hx⟩:=wg hkl
 have hxm:=dE hx
 obtain ⟨pb,po,parr,pel,pfr,xad,xcap,rfl,hPX,hPz,hPc,p1,p2,hN,hNc⟩:=hP.get hx
 have hiok:=wo po k 2
 have haddk:=wi k V3
 have hRJ:=joinM_has hO hRX
 have hCJ:=joinM_has hO hCX
 have hPJ:=joinM_has hO hPX
 have hps:=partsOf_succ (r:=r) (c:=c) hx
 by_cases hm:x.comp=r.old
 case neg =>
  rw [if_neg hm,dK] at hps
  (refine aA<|aA<|rgN<|kmv O<|kmv O<|K.lenX O cC O dS ?_;refine klt O O (cP V3)<|RunK.nil<|LWP.condT O ?_;refine LWP.skip ?_;refine aA<|LWP.block<|aA<|aA<|rgD mixed<|kmv O<|kmv O<|K.indexX O O cC V3 hiok dS<|K.fieldAddrX O O dS ?_;refine K.loadX O hPJ O p1 dS<|kfa O O ?_;refine kl1 O O O<|kmv O<|K.indexX O O cC V3 hior dS<|K.fieldAddrX O O dS ?_;refine K.loadX O hRJ O r2 dS<|kne O O (r:=true) (cU hm)<|RunK.nil<|rgA ?_;refine LWP.condT O ?_;refine LWP.exit<|rgN<|kmv O<|kad O O haddk<|kas O<|RunK.nil ?_)
  exact cE (σ':=⟨[(3,Lx (some ⟨pb,po,none⟩) ps.length pcap),(4,Lp 4),(5,Lp 5),(6,Lp 6),(12,.sv (.one (.slc 500 0 (L).length 2))),(13,Ln .i64 (i:Nat)),(14,Ln .i64 (k+1:Nat))],[(500,some ⟨59,(ptZ (L) (ws)).map .val,(Nat.blt 0 (L).length)⟩),sxB 4 a.ver ad1 a.cs.length cap1,sxB 5 b.ver (some ⟨cb,co,none⟩) b.cs.length cap2,v3B 42 6 p.va p.vb (some ⟨rb,ro,none⟩) p.rs.length cap],joinM X H⟩) (Le.ofR [(500,500)] V14 V1 V2 V2 V0 V2 V2) (cD ⟨ps.length-(k+1),by omega,k+1,L,ws,H,by omega,rfl,hO,G,by rw [hps];exact hL,by rw [hps];exact hpre,rfl⟩)
 rw [if_pos hm] at hps
 obtain ⟨post,hpost⟩:=prS_at hr hc hx hm
 obtain ⟨d,hd,hfit⟩:=hfacts x hxm
 have hFi:=sFind_spec (joinM X H) a.ver ad1 cap1 a.cs x.comp (ha.mono fun _ _ h=>joinM_has hO h) V3
 rcases findI_c (cs:=a.cs) (id:=x.comp) with ⟨k1,k2⟩|⟨j,o,k1,k2,k3⟩
 ·rw [show a.cs.find? (fun c=>c.id==x.comp)=none from k1] at hd;cases hd
 rw [k3] at hFi
 have hjl:=(wl k2)
 obtain ⟨ob,oo,oarr,oel,ofr,oad,ocap,rfl,hOX,hOz,hOc,_,_,_,hOF⟩:=ha.get k2
 have hOJ:=joinM_has hO hOX
 have hioo:=wo oo j 3
 have hol:=sa2 o (dE k2)
 have hcl12:=sb2 c (dE hc)
 have hrl:=sp.2 r (dE hr)
 have hV:=rVal14 (joinM X H) o c r x.val oad cad ead xad ocap ccap ecap xcap (hOF.mono fun _ _ h=>joinM_has hO h) (hCF.mono fun _ _ h=>joinM_has hO h) (hRE.mono fun _ _ h=>joinM_has hO h) ⟨hN.rows.mono fun _ _ h=>joinM_has hO h,hN.in2⟩ hNc V3 V3 hrl (sl2 x hxm)
 have hfl:flC a x.comp=o.fs:=by unfold flC;rw [k1]
 have hqE:pqE a (r,c,x)=valE o.fs c.fs r x.val:=by show valE (flC a x.comp) c.fs r x.val=_;rw [hfl]
 have hqV:prV a (r,c,x)=⟨r.nw,valN o.fs c.fs r x.val⟩:=by show (⟨r.nw,valN (flC a x.comp) c.fs r x.val⟩:Pt)=_;rw [hfl]
 have hv2:∀ u∈valN o.fs c.fs r x.val,In2 u.2:=valN_two (fun q hq y hy=>by
  obtain ⟨w,hw⟩:=List.mem_iff_getElem?.1 hq
  obtain ⟨_,_,_,_,_,_,_,_,_,_,hI⟩:=hRE.get hw
  exact (hI.small y hy).2.2.2) hN.in2 (fun f hf=>(hCF.small f hf).2.2)
 unfold vR14 vBx14 at hV
 by_cases he:valE o.fs c.fs r x.val=0
 case neg =>
  rw [seqE_hit hpost hpre (by rw [hqE];exact he),hqE]
  unfold pR14 pBx14
  rw [if_neg he,if_neg he]
  rw [if_neg he,if_neg he] at hV
  generalize valE o.fs c.fs r x.val=e at *
  (refine aA<|aA<|rgN<|kmv O<|kmv O<|K.lenX O cC O dS ?_;refine klt O O (cP V3)<|RunK.nil<|LWP.condT O ?_;refine LWP.skip ?_;refine aA<|LWP.block<|aA<|aA<|rgD mixed<|kmv O<|kmv O<|K.indexX O O cC V3 hiok dS<|K.fieldAddrX O O dS ?_;refine K.loadX O hPJ O p1 dS<|kfa O O ?_;refine kl1 O O O<|kmv O<|K.indexX O O cC V3 hior dS<|K.fieldAddrX O O dS ?_;refine K.loadX O hRJ O r2 dS<|kne O O (r:=false) (cT hm)<|RunK.nil<|rgA ?_;refine LWP.condF O ?_;refine LWP.skip ?_;refine aA<|rgD mixed<|K.loadAll O O O dS ?_;refine kmv O<|kmv O<|K.indexX O O cC V3 hiok dS<|K.fieldAddrX O O dS ?_;refine K.loadX O hPJ O p1 dS<|kca O O hFi<|kas O<|RunK.nil<|rgA ?_;refine aA<|rgD mixed<|kfa O O ?_;refine kl1 O O O<|kmv O<|K.indexX O O cC V3 hioo dS<|K.loadXagg O hOJ V5 hOz hOc dS<|kfa O O ?_;refine kl1 O O O<|kmv O<|K.indexX O O cC V3 hioc dS<|K.loadXagg O hCJ V5 hCz hCc dS<|kfa O O ?_;refine kl1 O O O<|kmv O<|K.indexX O O cC V3 hior dS<|K.loadXagg O hRJ V5 hRz hRc dS<|kmv O<|kmv O<|K.indexX O O cC V3 hiok dS<|K.fieldAddrX O O dS ?_;refine K.loadX O hPJ O p2 dS<|aU [] [] (hV) O O VC O O O O O V2B dS<|kmv O<|kex O O<|kex O O<|kas O<|kas O<|RunK.nil<|rgA ?_;refine aA<|aA<|rgN<|kmv O<|kne O O (r:=true) (cU he)<|RunK.nil<|LWP.condT O ?_;refine aA<|rgN<|kmv O<|kas O<|kas O<|RunK.nil<|LWP.ret ?_)
  exact cD ⟨[],⟨[_,_],⟨O,O,trivial⟩,O⟩,trivial,O,O⟩
 rw [if_pos he,if_pos he] at hV
 have hpre2:seqE (pqE a) (prS (p.rs.take i) (b.cs.take i) ps++partsOf r c (ps.take (k+1)))=0:=by
  rw [hps,← dN];exact seqE_snoc hpre (hqE.trans he)
 have hL2:L++[⟨r.nw,valN o.fs c.fs r x.val⟩]=(prS (p.rs.take i) (b.cs.take i) ps++partsOf r c (ps.take (k+1))).map (prV a):=by
  rw [hps,← dN,dI,← hL,List.map_cons,List.map_nil,hqV]
 generalize valN o.fs c.fs r x.val=N at *
 have hlen:=G.len
 have hLl:L.length≤1000:=by
  rw [hL,cX,cW]
  have h1:(prS (p.rs.take i) (b.cs.take i) ps).length≤30:=by
   have h2:=(prS_sub (cs:=b.cs.take i) (rs:=p.rs.take i) (prt_facts z2).1).length_le
   rw [cX,dA] at h2
   omega
  have h3:(partsOf r c (ps.take k)).length≤12:=by
   unfold partsOf
   rw [cX]
   refine Nat.le_trans (List.length_filter_le _ _) ?_
   rw [dA];omega
  omega
 have hcl:((ptZ L ws).map CV.val).length=L.length*2:=by rw [cX,ptZ_len hlen]
 have hnl:L.length+1=(L++[(⟨r.nw,N⟩:Pt)]).length:=by rw [cW];rfl
 have hrow:Nat.blt 0 (L++[(⟨r.nw,N⟩:Pt)]).length=true:=by rw [cW];simp
 ((refine aA<|aA<|rgN<|kmv O<|kmv O<|K.lenX O cC O dS ?_;refine klt O O (cP V3)<|RunK.nil<|LWP.condT O ?_;refine LWP.skip ?_;refine aA<|LWP.block<|aA<|aA<|rgD mixed<|kmv O<|kmv O<|K.indexX O O cC V3 hiok dS<|K.fieldAddrX O O dS ?_;refine K.loadX O hPJ O p1 dS<|kfa O O ?_;refine kl1 O O O<|kmv O<|K.indexX O O cC V3 hior dS<|K.fieldAddrX O O dS ?_;refine K.loadX O hRJ O r2 dS<|kne O O (r:=false) (cT hm)<|RunK.nil<|rgA ?_;refine LWP.condF O ?_;refine LWP.skip ?_;refine aA<|rgD mixed<|K.loadAll O O O dS ?_;refine kmv O<|kmv O<|K.indexX O O cC V3 hiok dS<|K.fieldAddrX O O dS ?_;refine K.loadX O hPJ O p1 dS<|kca O O hFi<|kas O<|RunK.nil<|rgA ?_);(refine aA<|rgD mixed<|kfa O O ?_;refine kl1 O O O<|kmv O<|K.indexX O O cC V3 hioo dS<|K.loadXagg O hOJ V5 hOz hOc dS<|kfa O O ?_;refine kl1 O O O<|kmv O<|K.indexX O O cC V3 hioc dS<|K.loadXagg O hCJ V5 hCz hCc dS<|kfa O O ?_;refine kl1 O O O<|kmv O<|K.indexX O O cC V3 hior dS<|K.loadXagg O hRJ V5 hRz hRc dS<|kmv O<|kmv O<|K.indexX O O cC V3 hiok dS<|K.fieldAddrX O O dS ?_;refine K.loadX O hPJ O p2 dS<|bE [(1000001,601)] (.tup [.one (.slc 601 0 N.length 3),Sn .i64 0]) [nmsB 601 N (Nat.blt 0 N.length)] (hV) O O VC O O O O O V18 dS<|kmv O<|kex O O<|kex O O<|kas O<|kas O<|RunK.nil<|rgA ?_;refine aA<|aA<|rgN<|kmv O<|kne O O (r:=false) O<|RunK.nil<|LWP.condF O ?_;refine LWP.skip ?_;refine rgN<|kmv O<|kfa O O ?_;refine kl1 O O O<|kmv O<|K.indexX O O cC V3 hior dS<|K.fieldAddrX O O dS ?_;refine K.loadX O hRJ O r1 dS<|kmv O<|aT O O V2 (by exact nl2 O O O) dS ?_;refine aZ (zs:=[.int .i64 0,.slice none 0 0]) (sz:=2) (e:=59) (cs':=[.val (.int .i64 r.nw),.slc 601 0 N.length 3]) V5 O O O O O O dS<|bQ (by_:=32) (e2:=59) (l2:=[.val (.int .i64 r.nw),.slc 601 0 N.length 3]) (nl:=(L++[(⟨r.nw,N⟩:Pt)]).length) (nc:=(ptZ L ws++[Value.int .i64 r.nw]).map .val ++ .slc 601 0 N.length 3::([]:List Value).map .val) O O hcl O O (dO _) O O V5 V5 V3 V3 O hnl V21 dS<|kas O<|RunK.nil<|rgN<|kmv O<|kad O O haddk<|kas O<|RunK.nil ?_))
 refine cE (σ':=⟨[(3,Lx (some ⟨pb,po,none⟩) ps.length pcap),(4,Lp 4),(5,Lp 5),(6,Lp 6),(12,.sv (.one (.slc 500 0 (L++[(⟨r.nw,N⟩:Pt)]).length 2))),(13,Ln .i64 (i:Nat)),(14,Ln .i64 (k+1:Nat))],[(500,some ⟨59,(ptZ L ws++[Value.int .i64 r.nw]).map .val ++ .slc 601 0 N.length 3::([]:List Value).map .val,true⟩),nmsB 601 N (Nat.blt 0 N.length),sxB 4 a.ver (some ⟨ob,oo,none⟩) a.cs.length cap1,sxB 5 b.ver (some ⟨cb,co,none⟩) b.cs.length cap2,v3B 42 6 p.va p.vb (some ⟨rb,ro,none⟩) p.rs.length cap],joinM X H⟩) (Le.ofR [(500,101),(601,601)] V14 V1 V2 V2 V0 V2 V2) ?_
 refine Leads.closeCell hO (by have:=nmsV_len N;rw [cX] at this;exact this) rfl bU rfl V1F rfl rfl fun bk ob v g1 _ hO3 hv=>cD ⟨ps.length-(k+1),by omega,k+1,L++[⟨r.nw,N⟩],ws++[v],withBlock H bk ob,by omega,rfl,hO3,(G.mono (cJ g1)).push (nms_leads hv hv2),hL2,hpre2,?_⟩
 rw [ptZ_add hlen,hrow]
 simp
end Go.Proofs.YtopiioklkkiedaaGreatDoor
end
section
set_option maxHeartbeats 12800000
set_option maxRecDepth 100000
namespace Go.Proofs.YtopiioklkkiedaaGreatDoor
open Go Go.Lg Go.Lg.Fml Go.Lg.Fld Go.Lg.Arith
set_option maxRecDepth 100000
def fl14a:List Fl:=[⟨[120],2,1⟩]
def fl14b:List Fl:=[⟨[120],3,1⟩]
def c14a:Cp:=⟨1,[97],fl14a⟩
def c14b:Cp:=⟨1,[97],fl14b⟩
def code14:List Ins:=[⟨2,0,0,(false,0)⟩,⟨1,0,0,(false,2)⟩,⟨7,0,0,(false,0)⟩]
def r14:Rl:=⟨1,1,[code14]⟩
theorem va14:valE fl14a fl14b r14 [(false,100)]=0:=by decide +kernel
theorem vn14:valA fl14a fl14b r14 [(false,100)]=[(false,200)]:=by decide +kernel
theorem vb14:valE fl14a fl14a r14 [(false,100)]=3:=by decide +kernel
theorem vr14:rowE fl14a fl14b r14 [100]=0:=by decide +kernel
theorem vt14:rowN fl14a fl14b r14 [100]=[200,0]:=by decide +kernel
theorem vs14:sigN [⟨3,1,[]⟩,⟨4,0,[]⟩] 2=8:=by decide +kernel
theorem sm14a:∀ f∈fl14a,(-9223372036854775808≤f.kind∧f.kind<9223372036854775808)∧(-9223372036854775808≤f.count∧f.count<9223372036854775808):=by
 intro f hf
 simp only [fl14a,List.mem_cons,List.not_mem_nil,or_false] at hf
 subst hf;exact ⟨by decide,by decide⟩
theorem sm14b:∀ f∈fl14b,(-9223372036854775808≤f.kind∧f.kind<9223372036854775808)∧(-9223372036854775808≤f.count∧f.count<9223372036854775808):=by
 intro f hf
 simp only [fl14b,List.mem_cons,List.not_mem_nil,or_false] at hf
 subst hf;exact ⟨by decide,by decide⟩
theorem sm14c:∀ x∈code14,smallI x:=by
 intro x hx
 simp only [code14,List.mem_cons,List.not_mem_nil,or_false] at hx
 rcases hx with rfl|rfl|rfl<;>exact ⟨by decide,by decide,by decide,by show 0≤(_:Int)∧(_:Int)<_;decide⟩
theorem sz14:r14.ex.length≤12∧∀ c∈r14.ex,c.length≤80:=⟨by decide,fun c hc=>by
 simp only [r14,List.mem_cons,List.not_mem_nil,or_false] at hc
 subst hc;decide⟩
variable (X:Nat→Option Obj)
theorem val_lent {X:Nat→Option Obj} {a b:Cp} {r:Rl} {ns:List Nm} {aad bad ead:Option Addr} {acap bcap ecap:Nat} {row:Bool} (hN:∀ u∈ns,In2 u.2):∀ (Y:Nat→Option Obj) (us:List Value),(∀ b o,X b=some o→Y b=some o)→LentLs (stOf [nmsB 1000000 ns row]) Y [Cx a aad acap,Cx b bad bcap,LPg r.nw r.old ead r.ex.length ecap,.sv (.one (.slc 1000000 0 ns.length 3))] us →
  ∃ (vad:Option Addr) (vcap:Nat),us.map toLV=[Cx a aad acap,Cx b bad bcap,LPg r.nw r.old ead r.ex.length ecap,Lx vad ns.length vcap]∧NumsIn Y vad ns∧ns.length≤vcap:=by
 intro Y us hY hL
 obtain ⟨u1,us1,rfl,⟨av,rfl,a1,av1,rfl,g1,a2,av2,rfl,g2,a3,av3,rfl,g3,rfl⟩,u2,us2,rfl,⟨bv,rfl,b1,bv1,rfl,f1,b2,bv2,rfl,f2,b3,bv3,rfl,f3,rfl⟩,u3,us3,rfl,⟨cv,rfl,c1,cv1,rfl,d1,c2,cv2,rfl,d2,c3,cv3,rfl,d3,rfl⟩,u4,us4,rfl,h4,rfl⟩:=hL
 have g1:a1 = .int .i64 a.id:=g1
 have g2:a2 = .string ⟨a.nm.toArray⟩:=g2
 have g3:a3 = .slice aad a.fs.length acap:=g3
 have f1:b1 = .int .i64 b.id:=f1
 have f2:b2 = .string ⟨b.nm.toArray⟩:=f2
 have f3:b3 = .slice bad b.fs.length bcap:=f3
 have d1:c1 = .int .i64 r.nw:=d1
 have d2:c2 = .int .i64 r.old:=d2
 have d3:c3 = .slice ead r.ex.length ecap:=d3
 subst g1 g2 g3 f1 f2 f3 d1 d2 d3
 obtain ⟨bb,blk,cap2,m,hk',rfl,hc,hfit,hB'⟩:=h4
 have hk':some (some (⟨86,(nmsV ns).map .val,row⟩:Box))=some (some bb):=hk'
 simp only [Option.some.injEq] at hk'
 subst hk'
 obtain ⟨arr,fr,us',sp,hYb,hsz,harr,hv⟩:=hB'
 have:=hv (nmsV ns) rfl
 subst this
 exact ⟨some ⟨blk,0,none⟩,cap2,O,nms_in hYb hN ⟨sp,harr⟩,hc⟩
theorem eVal_nil_lent (a b:Cp) (r:Rl) (ns:List Nm) (aad bad ead:Option Addr) (acap bcap ecap:Nat) (row:Bool) (hA:FieldsIn X aad a.fs) (hac:a.fs.length≤acap) (hB:FieldsIn X bad b.fs) (hE:CodesIn X ead r.ex) (hN:∀ u∈ns,In2 u.2) (la:a.fs.length≤12) (lb:b.fs.length≤12) (lr:r.ex.length≤12∧∀ c∈r.ex,c.length≤80) (ln:ns.length<4611686018427387904) (h:vShape (valE a.fs b.fs r ns) (valA a.fs b.fs r ns)=false):
  MSpec Tryz.prog X 12 [Cx a aad acap,Cx b bad bcap,LPg r.nw r.old ead r.ex.length ecap,.sv (.one (.slc 1000000 0 ns.length 3))] [nmsB 1000000 ns row] (.tup [.one (.val (.slice none 0 0)),Sn .i64 (valE a.fs b.fs r ns)]) ([nmsB 1000000 ns row]++[]):=
 MSpec.lend V5 rfl V7 rfl rfl rfl fun Y us hY hL=>by
  obtain ⟨vad,vcap,e,h1,h2⟩:=val_lent hN Y us hY hL
  rw [e]
  exact eVal_nil Y a b r ns aad bad ead vad acap bcap ecap vcap (hA.mono hY) hac (hB.mono hY) (hE.mono hY) h1 h2 la lb lr ln h
theorem eVal_box_lent (a b:Cp) (r:Rl) (ns:List Nm) (aad bad ead:Option Addr) (acap bcap ecap:Nat) (row:Bool) (hA:FieldsIn X aad a.fs) (hac:a.fs.length≤acap) (hB:FieldsIn X bad b.fs) (hE:CodesIn X ead r.ex) (hN:∀ u∈ns,In2 u.2) (la:a.fs.length≤12) (lb:b.fs.length≤12) (lr:r.ex.length≤12∧∀ c∈r.ex,c.length≤80) (ln:ns.length<4611686018427387904) (h:vShape (valE a.fs b.fs r ns) (valA a.fs b.fs r ns)=true):
  MSpec Tryz.prog X 12 [Cx a aad acap,Cx b bad bcap,LPg r.nw r.old ead r.ex.length ecap,.sv (.one (.slc 1000000 0 ns.length 3))] [nmsB 1000000 ns row] (.tup [.one (.slc 1000001 0 (valA a.fs b.fs r ns).length 3),Sn .i64 (valE a.fs b.fs r ns)]) ([nmsB 1000000 ns row]++[nmsB 1000001 (valA a.fs b.fs r ns) (vRow (valA a.fs b.fs r ns))]):=
 MSpec.lend V5 rfl V7 V7 rfl rfl fun Y us hY hL=>by
  obtain ⟨vad,vcap,e,h1,h2⟩:=val_lent hN Y us hY hL
  rw [e]
  exact eVal_box Y a b r ns aad bad ead vad acap bcap ecap vcap (hA.mono hY) hac (hB.mono hY) (hE.mono hY) h1 h2 la lb lr ln h
end Go.Proofs.YtopiioklkkiedaaGreatDoor
end
section
set_option maxHeartbeats 12800000
set_option maxRecDepth 100000
namespace Go.Proofs.YtopiioklkkiedaaGreatDoor
open Go Go.Lg Go.Lg.Fml Go.Lg.Fld Go.Lg.Arith
set_option maxRecDepth 100000
abbrev izs14:List Value:=[.int .i64 0,.int .i64 0,.int .i64 0,.bool false,.int .u64 0,.int .u64 0]
abbrev rzs14:List Value:=[.int .i64 0,.int .i64 0,.slice none 0 0]
variable (X:Nat→Option Obj)
theorem eSig_lent {S:Nat→Option (Option Box)} {k s n:Nat} {rs:List Rl} {ws:List Value} {e:TypeId} {row:Bool} {va vb:Int} (G:RulesH X ws rs) (hsm:∀ r∈rs,smallR r) (hl:rs.length<4611686018427387904) (hs:s<4294967296) (hk:S k=some (some ⟨e,(rwZ rs ws).map .val,row⟩)) (hn:sigN rs s=n):
  ∀ (Y:Nat→Option Obj) (us:List Value),(∀ b o,X b=some o→Y b=some o)→LentLs S Y [.sv (.agg [.val (.int .i64 va),.val (.int .i64 vb),.slc k 0 rs.length 3]),Ln .u32 (s:Nat)] us→PSpec Tryz.prog Y 20 (us.map toLV) (Ln .u32 (n:Nat)):=by
 subst hn
 intro Y us hY hL
 obtain ⟨u1,us1,rfl,⟨av,rfl,a1,av1,rfl,g1,a2,av2,rfl,g2,a3,av3,rfl,g3,rfl⟩,u2,us2,rfl,h2,rfl⟩:=hL
 have g1:a1 = .int .i64 va:=g1
 have g2:a2 = .int .i64 vb:=g2
 have h2:u2 = .int .u32 (s:Nat):=h2
 subst g1 g2 h2
 obtain ⟨bb,blk,cap2,m,hk',rfl,hc,hfit,hB⟩:=g3
 rw [hk] at hk'
 simp only [Option.some.injEq] at hk'
 subst hk'
 obtain ⟨arr,fr,us',sp,hYb,hsz,harr,hv⟩:=hB
 have:=hv (rwZ rs ws) rfl
 subst this
 exact eSig Y va vb rs (some ⟨blk,0,none⟩) cap2 s (rules_block hYb harr (G.mono hY) hsm) hl hs
set_option maxHeartbeats 25600000 in
theorem awake14_spec:PSpec Tryz.prog X 9 [] (Lb true):=by
 refine cF Tryz.func9 rfl V5 rfl rfl ?_
 intro C
 (refine U7 ?_;refine aZ (zs:=[Value.string ⟨#[]⟩,.int .i64 0,.int .i64 0]) (sz:=3) (e:=83) (cs':=(flV fl14a).map .val) V5 O O O O O O dS ?_;refine U5 ?_)
 refine LWP.le (σ':=⟨[(1,Lp 1)],[(1,some ⟨24,[.val (.int .i64 1),.val (.string ⟨#[97]⟩)] ++ .slc 11 0 1 3::[],false⟩),(11,some ⟨83,(flV fl14a).map .val,false⟩)],X⟩) (Le.of V13 VE V2 V2 V0) ?_
 refine LWP.freezeCell O O O O O O fun k1 cp1 arr1 fr1 hn1 _ hc1 _ hv1 => ?_
 have hFa:FieldsIn (withBlock X k1 (.cells arr1 83 fr1)) (some ⟨k1,0,none⟩) fl14a:=by
  obtain ⟨sp,hv⟩:=hv1
  exact fields_block (cN _ _ _) hv sm14a
 clear hv1 hn1
 generalize withBlock X k1 (.cells arr1 83 fr1)=Y at *
 generalize (some ⟨k1,0,none⟩:Option Addr)=ad1 at *
 (refine U2 ?_;refine aZ (zs:=[Value.string ⟨#[]⟩,.int .i64 0,.int .i64 0]) (sz:=3) (e:=83) (cs':=(flV fl14b).map .val) V5 O O O O O O dS ?_;refine U5 ?_)
 refine LWP.le (σ':=⟨[(1,Lp 1),(2,Lp 2)],[(2,some ⟨24,[.val (.int .i64 1),.val (.string ⟨#[97]⟩)] ++ .slc 14 0 1 3::[],false⟩),(14,some ⟨83,(flV fl14b).map .val,false⟩),cpB 1 c14a ad1 cp1],Y⟩) (Le.of VE V9 V2 V2 V0) ?_
 refine LWP.freezeCell O O O O O O fun k2 cp2 arr2 fr2 hn2 _ _ _ hv2 => ?_
 have hFb:FieldsIn (withBlock Y k2 (.cells arr2 83 fr2)) (some ⟨k2,0,none⟩) fl14b:=by
  obtain ⟨sp,hv⟩:=hv2
  exact fields_block (cN _ _ _) hv sm14b
 replace hFa:=hFa.mono (cJ (o:=.cells arr2 83 fr2) hn2)
 clear hv2 hn2
 generalize withBlock Y k2 (.cells arr2 83 fr2)=Y2 at *
 generalize (some ⟨k2,0,none⟩:Option Addr)=ad2 at *
 have o2:=Of_spec Y2 2 VA
 (refine U5 ?_;refine aZ (zs:=(List.replicate 3 izs14).flatten) (sz:=6) (e:=88) (cs':=(inssV code14).map .val) V5 O O O O O O dS<|aZ (zs:=[.slice none 0 0]) (sz:=1) (e:=90) (cs':=[.slc 20 0 3 6]) V5 O O O O O O dS ?_;refine U5 ?_)
 refine LWP.le (σ':=⟨[(1,Lp 1),(2,Lp 2),(3,Lp 3)],[(21,some ⟨90,[] ++ .slc 20 0 3 6::[],false⟩),(20,some ⟨88,(inssV code14).map .val,false⟩),(3,some ⟨27,[.val (.int .i64 1),.val (.int .i64 1),.slc 21 0 1 1],false⟩),cpB 1 c14a ad1 cp1,cpB 2 c14b ad2 cp2],Y2⟩) (Le.of V9 V10 V2 V2 V0) ?_
 refine LWP.freezeCell O O O O O O fun k3 cp3 arr3 fr3 hn3 _ _ _ hv3 => ?_
 have hI:InsIn (withBlock Y2 k3 (.cells arr3 88 fr3)) (some ⟨k3,0,none⟩) code14:=ins_in (cN _ _ _) sm14c hv3
 have h3:=cJ (o:=.cells arr3 88 fr3) hn3
 replace hFa:=hFa.mono h3
 replace hFb:=hFb.mono h3
 clear hv3 hn3 o2 h3
 generalize withBlock Y2 k3 (.cells arr3 88 fr3)=Y3 at *
 generalize (some ⟨k3,0,none⟩:Option Addr)=ad3 at *
 refine LWP.le (σ':=⟨[(1,Lp 1),(2,Lp 2),(3,Lp 3)],[(3,some ⟨27,[.val (.int .i64 1),.val (.int .i64 1)] ++ .slc 21 0 1 1::[],false⟩),(21,some ⟨90,[Value.slice ad3 3 cp3].map .val,false⟩),cpB 1 c14a ad1 cp1,cpB 2 c14b ad2 cp2],Y3⟩) (Le.of V9 V8 V2 V2 V0) ?_
 refine LWP.freezeCell O O O O O O fun k4 ec arr4 fr4 hn4 _ _ _ hv4 => ?_
 have hE:CodesIn (withBlock Y3 k4 (.cells arr4 90 fr4)) (some ⟨k4,0,none⟩) r14.ex:=by
  obtain ⟨sp,e⟩:=hv4
  exact forms_block (cN _ _ _) e (FormsH.nil.push ⟨_,_,O,hI.mono (cJ hn4)⟩)
 have h4:=cJ (o:=.cells arr4 90 fr4) hn4
 replace hFa:=hFa.mono h4
 replace hFb:=hFb.mono h4
 clear hv4 hn4 h4 hI
 generalize withBlock Y3 k4 (.cells arr4 90 fr4)=Z at *
 generalize (some ⟨k4,0,none⟩:Option Addr)=ead at *
 have hin2:∀ u∈[((false,100):Nm)],In2 u.2:=fun u hu=>by rw [List.mem_singleton.1 hu];show 0≤(100:Int)∧(100:Int)<_;decide
 have o100:=Of_spec Z 100 VA
 have hs1:vShape (valE c14a.fs c14b.fs r14 [(false,100)]) (valA c14a.fs c14b.fs r14 [(false,100)])=true:=by
  cases h:vShape (valE c14a.fs c14b.fs r14 [(false,100)]) (valA c14a.fs c14b.fs r14 [(false,100)]) with
  | true=>rfl
  | false=>have:=vShape_nil h;rw [show valA c14a.fs c14b.fs r14 [(false,100)]=[(false,200)] from vn14] at this;cases this
 have hV:=eVal_box_lent Z c14a c14b r14 [(false,100)] ad1 ad2 ead cp1 cp2 ec false hFa hc1 hFb hE hin2 VA VA sz14 VA hs1
 rw [show valA c14a.fs c14b.fs r14 [(false,100)]=[(false,200)] from vn14,show valE c14a.fs c14b.fs r14 [(false,100)]=0 from va14] at hV
 (refine rgD mixed ?_;refine U3 ?_;refine kca O O o100<|aZ (zs:=[Value.bool false,.int .u64 0,.int .u64 0]) (sz:=3) (e:=86) (cs':=(nmsV [(false,100)]).map .val) V5 O O O O O O dS<|bE [(1000000,28),(1000001,601)] (.tup [.one (.slc 601 0 1 3),Sn .i64 0]) [nmsB 28 [(false,100)] false,nmsB 601 [(false,200)] (vRow [(false,200)])] (hV) O O V17 (by exact (bT (bT O (bT O (bT O O))) O)) O O O O V27 dS ?_;refine U8 ?_)
 refine LWP.le (σ':=⟨[(4,.sv (.one (.slc 601 0 1 3))),(5,Ln .i64 0),(1,Lp 1),(2,Lp 2),(3,Lp 3)],[nmsB 601 [(false,200)] (vRow [(false,200)]),cpB 1 c14a ad1 cp1,cpB 2 c14b ad2 cp2,v3B 27 3 1 1 ead 1 ec],Z⟩) (Le.of V10 V8 V2 V2 V0) ?_
 refine LWP.freeze O O O fun k5 vc arr5 fr5 hn5 _ hvc _ hv5 => ?_
 have hN:NumsIn (withBlock Z k5 (.cells arr5 86 fr5)) (some ⟨k5,0,none⟩) [(false,200)]:=nms_in (cN _ _ _) (fun u hu=>by rw [List.mem_singleton.1 hu];show 0≤(200:Int)∧(200:Int)<_;decide) hv5
 have h5:=cJ (o:=.cells arr5 86 fr5) hn5
 replace hFa:=hFa.mono h5
 replace hFb:=hFb.mono h5
 replace hE:=hE.mono h5
 clear hv5 hn5 h5 hV o100
 generalize withBlock Z k5 (.cells arr5 86 fr5)=W at *
 generalize (some ⟨k5,0,none⟩:Option Addr)=vad at *
 have o100:=Of_spec W 100 VA
 repeat refine aA ?_
 refine LWP.meetL (fun σ=>σ=⟨[(4,Lx vad 1 vc),(5,Ln .i64 0),(7,Ln .i64 3),(1,Lp 1),(2,Lp 2),(3,Lp 3)],[cpB 1 c14a ad1 cp1,cpB 2 c14b ad2 cp2,v3B 27 3 1 1 ead 1 ec],W⟩) ?_ ?_
 ·have hve:valE c14a.fs c14a.fs r14 [(false,100)]=3:=vb14
  have hva:valA c14a.fs c14a.fs r14 [(false,100)]=[]:=if_neg (by rw [hve];decide)
  cases hs2:vShape (valE c14a.fs c14a.fs r14 [(false,100)]) (valA c14a.fs c14a.fs r14 [(false,100)]) with
  | false =>
   have hV:=eVal_nil_lent W c14a c14a r14 [(false,100)] ad1 ad1 ead cp1 cp1 ec false hFa hc1 hFa hE hin2 VA VA sz14 VA hs2
   rw [hve] at hV
   (refine rgD mixed ?_;refine U3 ?_;refine kca O O o100<|aZ (zs:=[Value.bool false,.int .u64 0,.int .u64 0]) (sz:=3) (e:=86) (cs':=(nmsV [(false,100)]).map .val) V5 O O O O O O dS<|aU [(1000000,37)] [nmsB 37 [(false,100)] false] (hV) O O V17 (by exact (bT (bT O (bT O (bT O O))) O)) O O O O V19 dS ?_;refine U7 ?_)
   exact Leads.here (σ':=⟨[(4,Lx vad 1 vc),(5,Ln .i64 0),(7,Ln .i64 3),(1,Lp 1),(2,Lp 2),(3,Lp 3)],[cpB 1 c14a ad1 cp1,cpB 2 c14b ad2 cp2,v3B 27 3 1 1 ead 1 ec],W⟩) (Le.of V11 V9 V2 V2 V0) O
  | true =>
   have hV:=eVal_box_lent W c14a c14a r14 [(false,100)] ad1 ad1 ead cp1 cp1 ec false hFa hc1 hFa hE hin2 VA VA sz14 VA hs2
   rw [hva,hve] at hV
   (refine rgD mixed ?_;refine U3 ?_;refine kca O O o100<|aZ (zs:=[Value.bool false,.int .u64 0,.int .u64 0]) (sz:=3) (e:=86) (cs':=(nmsV [(false,100)]).map .val) V5 O O O O O O dS<|bE [(1000000,37),(1000001,601)] (.tup [.one (.slc 601 0 0 3),Sn .i64 3]) [nmsB 37 [(false,100)] false,nmsB 601 [] (vRow [])] (hV) O O V17 (by exact (bT (bT O (bT O (bT O O))) O)) O O O O V27 dS ?_;refine U7 ?_)
   exact Leads.here (σ':=⟨[(4,Lx vad 1 vc),(5,Ln .i64 0),(7,Ln .i64 3),(1,Lp 1),(2,Lp 2),(3,Lp 3)],[cpB 1 c14a ad1 cp1,cpB 2 c14b ad2 cp2,v3B 27 3 1 1 ead 1 ec],W⟩) (Le.of V11 V9 V2 V2 V0) O
 rintro σ rfl
 have hR:=eRow W c14a c14b r14 [100] ad1 ad2 ead cp1 cp2 ec hFa hc1 hFb hE VA VA sz14 VA
 rw [show rowN c14a.fs c14b.fs r14 [100]=[200,0] from vt14,show rowE c14a.fs c14b.fs r14 [100]=0 from vr14] at hR
 refine U13 ?_
 have o200:=Of_spec W 200 VA
 obtain ⟨_,blk,off,arr,el,fr,rfl,hX,hsz,hcs⟩:=hN.at (i:=0) (b:=false) (N:=200) rfl
 have hio:off+Int.toNat 0*3=off+0*3:=by simp
 have q:=eqI (b:=false) (b':=false) (h:=200/18446744073709551616) (h':=200/18446744073709551616) (l:=200%18446744073709551616) (l':=200%18446744073709551616) true VA
 have hS:=fun (S:Nat→Option (Option Box)) h=>eSig_lent W (S:=S) (k:=77) (s:=2) (n:=8) (rs:=[⟨3,1,[]⟩,⟨4,0,[]⟩]) (ws:=[.slice none 0 0,.slice none 0 0]) (e:=27) (row:=false) (va:=0) (vb:=0) ((RulesH.nil.push CodesIn.nilIn).push CodesIn.nilIn) (fun r hr=>by
  simp only [List.mem_cons,List.not_mem_nil,or_false] at hr
  rcases hr with rfl|rfl<;>exact ⟨by decide,by decide⟩) VA VA h vs14
 (refine rgD mixed ?_;refine U9 ?_;refine K.indexX O O cC VA hio (dT O O) ?_;refine U1 ?_;refine gca O O o200 O O<|bR O O O O V5 q (.inl ⟨O,O⟩) (dT O O) ?_;refine U11 ?_;refine K.strEq O O (strs_eq (r:=true) O) (dT O O) ?_;refine U4 ?_;refine aZ (zs:=(List.replicate 2 rzs14).flatten) (sz:=3) (e:=27) (cs':=(rwZ [⟨3,1,[]⟩,⟨4,0,[]⟩] [.slice none 0 0,.slice none 0 0]).map .val) V5 O O O O O O (dT O O) ?_;refine U1 ?_;refine K.callL [77] O O O (hS _ O) (dT O O) ?_;refine U6 ?_)
 exact V6
end Go.Proofs.YtopiioklkkiedaaGreatDoor
end
section
set_option maxHeartbeats 12800000
set_option maxRecDepth 100000
namespace Go.Lg
open Go
theorem Leads.fixRes {n:Nat} {C:Ctx} {X:Nat→Option Obj} {Mid:St→Prop} {s:List (Nat×LV)} {bx:List (Nat×Option Box)} {d k off len sz:Nat} {e:TypeId} {cs:List CV} {R:Rsc}
  (hs:s.all (fun p=>p.2.inUse bx)=true) (hb:bx.all (fun p=>match p.2 with|some b=>b.cells.all (CV.inUse bx)|none=>true)=true) (hk:look k bx=none)
  (h:∀ (ρ:Nat×Nat) (H:Nat→Option Obj) (cap:Nat),R.holds ρ H→OwnedM C X H→len≤cap→off+cap*sz≤ρ.2→Leads n C Mid ⟨(d,.sv (.one (.val (.slice (some ⟨ρ.1,off,none⟩) len cap))))::s,bx,joinM X H⟩):
  Leads n C Mid ⟨(d,.sv (.one (.slc k off len sz)))::s,(k,some ⟨e,cs,.res R⟩)::bx,X⟩:=⟨fun ι a w hr=>by
 obtain ⟨ρ,H,cap,h1,h2,h3,h4,h5⟩:=hr.fixRes hs hb hk
 exact (h ρ H cap h1 h2 h3 h4).out ι a w h5⟩
end Go.Lg
namespace Go.Proofs.YtopiioklkkiedaaGreatDoor
open Go Go.Lg Go.Lg.Fml Go.Lg.Fld Go.Lg.Arith
set_option maxRecDepth 100000
theorem prts_mono {X Y:Nat→Option Obj} (hXY:∀ b o,X b=some o→Y b=some o) {ad:Option Addr} {ps:List Pt} (h:PartsIn X ad ps):PartsIn Y ad ps:=⟨fun i p hp=>by
 obtain ⟨blk,off,arr,el,fr,vad,vcap,h1,h2,h3,h4,h5⟩:=h.at_ i p hp
 exact ⟨blk,off,arr,el,fr,vad,vcap,h1,hXY _ _ h2,h3,h4,⟨h5.rows.mono hXY,h5.in2⟩⟩,h.small⟩
theorem prts_nil {X:Nat→Option Obj} {ad:Option Addr}:PartsIn X ad []:=⟨fun i p hp=>by simp at hp,fun p hp=>by cases hp⟩
theorem psV_len {a b:Sc} {p:Pg} {ps:List Pt} (h:psE a b p ps=0):∀ x∈psV a b p ps,x.val.length≤64:=fun x hx=>by
 obtain ⟨c,hc,hf⟩:=(prt_facts (whole_fit h)).2 x hx
 obtain ⟨hl,hn,_⟩:=fit_all hf
 obtain ⟨h8,ho,_⟩:=layErr_facts hl
 have:=sum_le c.fs ho
 omega
theorem psA_len {a b:Sc} {p:Pg} {ps:List Pt}:∀ x∈psA a b p ps,x.val.length≤64:=fun x hx=>by
 unfold psA at hx
 split at hx
 ·rename_i h;exact psV_len h x hx
 ·cases hx
theorem prS_le {ps:List Pt} (h:ps.Pairwise (fun x y=>x.comp≠y.comp)) (rs:List Rl) (cs:List Cp):(prS rs cs ps).length≤rs.length:=by
 have:=(prS_sub (rs:=rs) (cs:=cs) h).length_le
 rwa [cX] at this
theorem psA_small {a b:Sc} {p:Pg} {ps:List Pt} (hp:p.rs.length≤30):(psA a b p ps).length≤30:=by
 unfold psA
 split
 ·rename_i h
  unfold psV
  rw [cX]
  exact Nat.le_trans (prS_le (prt_facts (psE_facts h).2.1).1 _ _) hp
 ·exact Nat.zero_le _
end Go.Proofs.YtopiioklkkiedaaGreatDoor
end
section
set_option maxHeartbeats 12800000
set_option maxRecDepth 100000
namespace Go.Proofs.YtopiioklkkiedaaGreatDoor
open Go Go.Lg Go.Lg.Fml Go.Lg.Fld Go.Lg.Arith
set_option maxRecDepth 100000
variable (X:Nat→Option Obj)
set_option maxHeartbeats 25600000 in
theorem evalParts_law (a b:Sc) (p:Pg) (ps:List Pt) (N:Nat) (ad1 ad2 ad pad:Option Addr) (cap1 cap2 cap pcap:Nat) (ha:CompsIn X ad1 a.cs) (hb:CompsIn X ad2 b.cs) (hp:RulesIn X ad p.rs) (hP:PartsC X pad ps) (hpc:ps.length≤pcap) (na:NamesIn a.cs) (nb:NamesIn b.cs) (sa:scBig a.cs) (sb:scBig b.cs)
  (hrl:p.rs.length<4611686018427387904) (hsz:sizeB p.rs) (hpl:ps.length<4611686018427387904) (hvl:∀ x∈ps,x.val.length<4611686018427387904) (hN:N<4294967296):
  PSpec Tryz.prog X 5 [Sx a.ver ad1 a.cs.length cap1,Sx b.ver ad2 b.cs.length cap2,LPg p.va p.vb ad p.rs.length cap,Lx pad ps.length pcap,Ln .u32 (N:Nat)] (Lb true):=by
 have hW:=awake14_spec X
 have hG:=fun z hz=>great14_spec X a.ver b.ver p.va p.vb ad1 ad2 ad cap1 cap2 cap a.cs b.cs p.rs ha hb hp hsz (by have:=sa.1;omega) (by have:=sb.1;omega) hrl (fun c hc=>by have:=sa.2 c hc;omega) (fun c hc=>by have:=sb.2 c hc;omega) z hz
 refine cF Tryz.func5 rfl V5 rfl rfl ?_
 intro C
 cases hg:grt13 a.cs b.cs p.rs with
 | true =>
  replace hG:=hG true hg
  refine U34 ?_
  exact V6
 | false =>
 replace hG:=hG false hg
 by_cases h12:12<ps.length
 ·refine U34 ?_
  exact V6
 obtain ⟨sa2,sb2,sp⟩:=grt13_false hg
 refine U36 ?_
 refine cL (fun m σ=>∃ i:Nat,i≤ps.length∧m=ps.length-i∧(∀ x∈ps.take i,x.val.length≤100)∧σ=⟨[(3,Lx pad ps.length pcap),(4,Ln .u32 (N:Nat)),(5,Lp 5),(6,Lp 6),(7,Lp 7),(11,Ln .i64 (i:Nat))],[v3B 36 7 p.va p.vb ad p.rs.length cap,sxB 6 b.ver ad2 b.cs.length cap2,sxB 5 a.ver ad1 a.cs.length cap1],X⟩) ps.length
  ⟨_,Le.of V11 V9 V2 V2 V0,0,by omega,by omega,(fun x hx=>by cases hx),rfl⟩ ?_
 rintro m σ ⟨i,hi,rfl,hpre,rfl⟩
 by_cases hlt:i<ps.length
 case pos =>
  obtain ⟨x,hx⟩:=wg hlt
  have hxl:=hvl x (dE hx)
  obtain ⟨blk,off,arr,el,fr,vad,vcap,rfl,hX,hsiz,hcs,g1,g2,hNx,_⟩:=hP.get hx
  have hio:=wo off i 2
  have hadd:IntKind.i64.wrap ((i:Int)+1)=((i+1:Nat):Int):=by rw [cH V3];omega
  by_cases h100:100<x.val.length
  ·refine U28 ?_
   exact V6
  ·refine U29 ?_
   refine ⟨_,_,by omega,Le.of V11 V9 V2 V2 V0,i+1,by omega,O,?_,O⟩
   intro y hy
   rw [take_snoc hx,List.mem_append,List.mem_singleton] at hy
   rcases hy with hy|rfl
   ·exact hpre y hy
   ·omega
 have hie:i=ps.length:=by omega
 subst hie
 rw [dG] at hpre
 have sl:ps.length≤12∧∀ x∈ps,x.val.length≤1000:=⟨by omega,fun x hx=>by have:=hpre x hx;omega⟩
 refine U11 ?_
 repeat refine aA ?_
 refine LWP.meetL (fun σ=>∃ (Y:Nat→Option Obj) (ud:Option Addr) (uc:Nat),(∀ b o,X b=some o→Y b=some o)∧RulesIn Y ud p.rs∧σ=⟨[(3,Lx pad ps.length pcap),(4,Ln .u32 (N:Nat)),(5,Lp 5),(6,Lp 6),(7,Lp 7),(12,Lp 12)],[v3B 42 12 p.va p.vb ud p.rs.length uc,v3B 36 7 p.va p.vb ad p.rs.length cap,sxB 6 b.ver ad2 b.cs.length cap2,sxB 5 a.ver ad1 a.cs.length cap1],Y⟩) ?_ ?_
 ·by_cases h0:p.rs=[]
  ·have hF:=form14_nil X p.va p.vb ad cap
   obtain ⟨va,vb,rs⟩:=p
   simp only at h0
   subst h0
   (refine U2 ?_;refine aU [] [] (hF) O O VC O O O O O V2B dS ?_;refine U3 ?_)
   exact Leads.here (σ':=⟨[(3,Lx pad ps.length pcap),(4,Ln .u32 (N:Nat)),(5,Lp 5),(6,Lp 6),(7,Lp 7),(12,Lp 12)],[v3B 42 12 va vb none 0 0,v3B 36 7 va vb ad 0 cap,sxB 6 b.ver ad2 b.cs.length cap2,sxB 5 a.ver ad1 a.cs.length cap1],X⟩) (Le.of V11 V8 V2 V2 V0) ⟨X,none,0,fun _ _ h=>h,RulesIn.nil,O⟩
  ·have hF:=form14_some X p.va p.vb p.rs ad cap hp (List.length_pos_iff.2 h0) sp
   (refine U2 ?_;refine bE [(1000001,601)] (.sv (.agg [.val (.int .i64 p.va),.val (.int .i64 p.vb),.slc 601 0 p.rs.length 3])) [rlB 39 601 p.rs] (hF) O O VC O O O O O V19 dS ?_;refine U3 ?_)
   refine cE (σ':=⟨[(3,Lx pad ps.length pcap),(4,Ln .u32 (N:Nat)),(5,Lp 5),(6,Lp 6),(7,Lp 7),(12,Lp 12)],[(12,some ⟨42,[.val (.int .i64 p.va),.val (.int .i64 p.vb)] ++ .slc 601 0 p.rs.length 3::[],false⟩),rlB 39 601 p.rs,v3B 36 7 p.va p.vb ad p.rs.length cap,sxB 6 b.ver ad2 b.cs.length cap2,sxB 5 a.ver ad1 a.cs.length cap1],X⟩) (Le.of V11 V10 V2 V2 V0) ?_
   refine Leads.fixCell O O O O O O fun ρ H uc hR hO _ _ => ?_
   exact cE (Le.of V11 V8 V2 V2 V0) (cD ⟨joinM X H,some ⟨ρ.1,0,none⟩,uc,fun _ _ h=>joinM_has hO h,hR.2.mono fun b o h=>joinM_in h,O⟩)
 rintro σ ⟨Y,ud,uc,hY,hU,rfl⟩
 replace ha:=ha.mono hY
 replace hb:=hb.mono hY
 replace hp:=hp.mono hY
 replace hP:=hP.mono hY
 clear hG hW
 repeat refine aA ?_
 refine LWP.meetL (fun σ=>∃ (Z:Nat→Option Obj) (lad:Option Addr) (lc:Nat),(∀ b o,Y b=some o→Z b=some o)∧PartsIn Z lad (psA a b p ps)∧σ=⟨[(13,Lx lad (psA a b p ps).length lc),(3,Lx pad ps.length pcap),(4,Ln .u32 (N:Nat)),(5,Lp 5),(6,Lp 6),(7,Lp 7),(12,Lp 12),(14,Ln .i64 (psE a b p ps))],[v3B 42 12 p.va p.vb ud p.rs.length uc,v3B 36 7 p.va p.vb ad p.rs.length cap,sxB 6 b.ver ad2 b.cs.length cap2,sxB 5 a.ver ad1 a.cs.length cap1],Z⟩) ?_ ?_
 ·cases hsh:pShape (psE a b p ps) (psA a b p ps) with
  | false =>
   have hV:=eParts_nil Y a b p ps ad1 ad2 ad pad cap1 cap2 cap pcap ha hb hp hP hpc na nb sa2 sb2 sp ⟨sl.1,hvl⟩ hsh
   have hz:=pShape_nil hsh
   rw [hz]
   generalize psE a b p ps=e at *
   (refine U5 ?_;refine aU [] [] (hV) O O VC O O O O O V2B dS ?_;refine U6 ?_)
   exact Leads.here (σ':=⟨[(13,Lx none 0 0),(3,Lx pad ps.length pcap),(4,Ln .u32 (N:Nat)),(5,Lp 5),(6,Lp 6),(7,Lp 7),(12,Lp 12),(14,Ln .i64 (e))],[v3B 42 12 p.va p.vb ud p.rs.length uc,v3B 36 7 p.va p.vb ad p.rs.length cap,sxB 6 b.ver ad2 b.cs.length cap2,sxB 5 a.ver ad1 a.cs.length cap1],Y⟩) (Le.of V15 V8 V2 V2 V0) ⟨Y,none,0,fun _ _ h=>h,prts_nil,O⟩
  | true =>
   have hV:=eParts_box Y a b p ps ad1 ad2 ad pad cap1 cap2 cap pcap ha hb hp hP hpc na nb sa2 sb2 sp ⟨sl.1,hvl⟩ hsh
   generalize (psA a b p ps)=L at *
   generalize psE a b p ps=e at *
   (refine U5 ?_;refine bE [(1000001,501)] (.tup [.one (.slc 501 0 L.length 2),Sn .i64 e]) [prtB 501 L] (hV) O O VC O O O O O V19 dS ?_;refine U6 ?_)
   refine cE (σ':=⟨[(13,.sv (.one (.slc 501 0 L.length 2))),(3,Lx pad ps.length pcap),(4,Ln .u32 (N:Nat)),(5,Lp 5),(6,Lp 6),(7,Lp 7),(12,Lp 12),(14,Ln .i64 (e))],[prtB 501 L,v3B 42 12 p.va p.vb ud p.rs.length uc,v3B 36 7 p.va p.vb ad p.rs.length cap,sxB 6 b.ver ad2 b.cs.length cap2,sxB 5 a.ver ad1 a.cs.length cap1],Y⟩) (Le.of V15 V10 V2 V2 V0) ?_
   refine Leads.fixRes O O O fun ρ H lc hR hO _ _ => ?_
   exact cD ⟨joinM Y H,some ⟨ρ.1,0,none⟩,lc,fun _ _ h=>joinM_has hO h,prts_mono (fun b o h=>joinM_in h) hR.2,O⟩
 rintro σ ⟨Z,lad,lc,hZ,hL,rfl⟩
 have hR:=rParts14 Z a b p ps ad1 ad2 ud pad cap1 cap2 uc pcap (ha.mono hZ) (hb.mono hZ) (hU.mono hZ) (hP.mono hZ) sa2 sb2 sp sl
 have hve:psE a b p ps=0→psV a b p ps=(psA a b p ps):=fun h=>(if_pos h).symm
 have hvz:psE a b p ps≠0→(psA a b p ps)=[]:=fun h=>if_neg h
 have l64:=psA_len (a:=a) (b:=b) (p:=p) (ps:=ps)
 have l30:=psA_small (a:=a) (b:=b) (ps:=ps) sp.1
 unfold pR14 pBx14 at hR
 repeat refine aA ?_
 refine LWP.meetL (fun σ=>∃ (Z2:Nat→Option Obj) (wad:Option Addr) (wc:Nat),(∀ b o,Z b=some o→Z2 b=some o)∧PartsIn Z2 wad (psA a b p ps)∧σ=⟨[(15,Lx wad (psA a b p ps).length wc),(13,Lx lad (psA a b p ps).length lc),(4,Ln .u32 (N:Nat)),(7,Lp 7),(12,Lp 12),(14,Ln .i64 (psE a b p ps)),(16,Ln .i64 (psE a b p ps))],[v3B 42 12 p.va p.vb ud p.rs.length uc,v3B 36 7 p.va p.vb ad p.rs.length cap],Z2⟩) ?_ ?_
 ·by_cases h0:psE a b p ps=0
  case neg =>
   rw [if_neg h0,if_neg h0] at hR
   rw [hvz h0]
   generalize psE a b p ps=e at *
   (refine U5 ?_;refine aU [] [] (hR) O O VC O O O O O V2B dS ?_;refine U6 ?_)
   exact Leads.here (σ':=⟨[(15,Lx none 0 0),(13,Lx lad 0 lc),(4,Ln .u32 (N:Nat)),(7,Lp 7),(12,Lp 12),(14,Ln .i64 (e)),(16,Ln .i64 (e))],[v3B 42 12 p.va p.vb ud p.rs.length uc,v3B 36 7 p.va p.vb ad p.rs.length cap],Z⟩) (Le.of V14 VE V2 V2 V0) ⟨Z,none,0,fun _ _ h=>h,prts_nil,O⟩
  rw [if_pos h0,if_pos h0,hve h0] at hR
  rw [h0]
  generalize (psA a b p ps)=L at *
  (refine U5 ?_;refine bE [(1000001,701)] (.tup [.one (.slc 701 0 L.length 2),Sn .i64 0]) [prtB 701 L] (hR) O O VC O O O O O V19 dS ?_;refine U6 ?_)
  refine cE (σ':=⟨[(15,.sv (.one (.slc 701 0 L.length 2))),(13,Lx lad L.length lc),(4,Ln .u32 (N:Nat)),(7,Lp 7),(12,Lp 12),(14,Ln .i64 (0)),(16,Ln .i64 (0))],[prtB 701 L,v3B 42 12 p.va p.vb ud p.rs.length uc,v3B 36 7 p.va p.vb ad p.rs.length cap],Z⟩) (Le.of V14 V9 V2 V2 V0) ?_
  refine Leads.fixRes O O O fun ρ H wc hR hO _ _ => ?_
  exact cD ⟨joinM Z H,some ⟨ρ.1,0,none⟩,wc,fun _ _ h=>joinM_has hO h,prts_mono (fun b o h=>joinM_in h) hR.2,O⟩
 rintro σ ⟨Z2,wad,wc,hZ2,hW2,rfl⟩
 replace hL:=prts_mono hZ2 hL
 have hS1:=eSig Z2 p.va p.vb p.rs ad cap N ((hp.mono hZ).mono hZ2) hrl hN
 have hS2:=rSig14 Z2 p.va p.vb p.rs ud uc N ((hU.mono hZ).mono hZ2) hrl hN
 generalize sigN p.rs N=sg at *
 generalize (psA a b p ps)=L at *
 generalize psE a b p ps=e at *
 (refine U2 ?_;refine rgD mixed ?_;refine U2 ?_;refine kne O O (cT O) ?_;refine U5 ?_;refine aX O O (cT O) (dT O O) ?_;refine U8 ?_;refine aX O O (cT O) (dT O O) ?_;refine U11 ?_)
 refine cL (fun m σ=>∃ i:Nat,i≤L.length∧m=L.length-i∧σ=⟨[(13,Lx lad L.length lc),(15,Lx wad L.length wc),(17,Ln .i64 (i:Nat))],[],Z2⟩) L.length
  ⟨_,Le.of V9 VC V2 V2 V0,0,by omega,by omega,rfl⟩ ?_
 rintro m σ ⟨i,hi2,rfl,rfl⟩
 by_cases hl2:i<L.length
 case neg =>
  refine U15 ?_
  exact V6
 obtain ⟨x,hx⟩:=wg hl2
 have hxl:=l64 x (dE hx)
 obtain ⟨bk1,of1,ar1,el1,fr1,vd1,vc1,rfl,hX1,hz1,_,g11,g12,hN1⟩:=hL.get hx
 obtain ⟨bk2,of2,ar2,el2,fr2,vd2,vc2,rfl,hX2,hz2,_,g21,g22,hN2⟩:=hW2.get hx
 have hio1:=wo of1 i 2
 have hio2:=wo of2 i 2
 have hadd:IntKind.i64.wrap ((i:Int)+1)=((i+1:Nat):Int):=by rw [cH V3];omega
 have hS:=values14 Z2 x.val x.val vd1 vd2 vc1 vc2 hN1 hN2 V3 true (cP rfl)
 (refine U13 ?_;refine rgD mixed ?_;refine U4 ?_;refine K.loadX O hX1 O g11 dS ?_;refine U4 ?_;refine K.loadX O hX2 O g21 dS<|kne O O (cT O) ?_;refine U5 ?_;refine K.loadX O hX1 O g12 (dT O O) ?_;refine U4 ?_;refine K.loadX O hX2 O g22 (dT O O) ?_;refine U12 ?_)
 exact ⟨_,_,by omega,Le.of V9 VC V2 V2 V0,i+1,by omega,O,O⟩
end Go.Proofs.YtopiioklkkiedaaGreatDoor
end
