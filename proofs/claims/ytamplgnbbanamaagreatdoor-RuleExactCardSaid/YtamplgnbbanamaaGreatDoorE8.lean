/- A piece of a proof over this program: contracts of its functions, and a logic to prove them by. -/
import Derived.Test.YtamplgnbbanamaaGreatDoorE2
import Derived.Test.YtamplgnbbanamaaGreatDoorE3
import Derived.Test.YtamplgnbbanamaaGreatDoorE4
import Derived.Test.YtamplgnbbanamaaGreatDoorE6
import Derived.Test.YtamplgnbbanamaaGreatDoorE7
import Derived.Lib.Join
import Derived.Test.YtamplgnbbanamaaGreatDoorRows
import Derived.Test.YtamplgnbbanamaaGreatDoorTie
import Derived.Test.YtamplgnbbanamaaGreatDoorCards
import Derived.ProofKit
import Derived.LaidMore
import Derived.OpenShut
import Derived.Stop.Joined
import Derived.Stop.LaidErr
import Derived.Lib.SmallJoins
import Derived.SevenTiedAt
section
namespace Go.Proofs.YtamplgnbbanamaaGreatDoor
open Go Go.Lg Go.Lg.Fml Go.Lg.Fld Go.Lg.Arith
set_option maxRecDepth 100000
def kpR (s:List UInt8):LV:=match decP s with
  | none=>.tup [.agg [.val (.int .i64 0),.val (.int .i64 0),.val (.slice none 0 0)],Sn .i64 4]
  | some p=>.tup [.agg [.val (.int .i64 p.va),.val (.int .i64 p.vb),.slc 1000001 0 p.rs.length 3],Sn .i64 0]
def kpBx (s:List UInt8):List (Nat×Option Box):=match decP s with
  | none=>[]
  | some p=>[rlB 46 1000001 p.rs]
theorem kp_none {s:List UInt8} (h:decP s=none):kpR s = .tup [.agg [.val (.int .i64 0),.val (.int .i64 0),.val (.slice none 0 0)],Sn .i64 4]∧kpBx s=[]:=by unfold kpR kpBx;rw [h];exact ⟨rfl,rfl⟩
theorem kp_some {s:List UInt8} {p:Pg} (h:decP s=some p):kpR s = .tup [.agg [.val (.int .i64 p.va),.val (.int .i64 p.vb),.slc 1000001 0 p.rs.length 3],Sn .i64 0]∧kpBx s=[rlB 46 1000001 p.rs]:=by unfold kpR kpBx;rw [h];exact ⟨rfl,rfl⟩
theorem kpBx_use (l:List UInt8):((kpBx l).all fun p=>match p.2 with|some b=>b.cells.all (CV.inUse (kpBx l))|none=>true)=true:=by
  cases h:decP l with
  | none=>rw [(kp_none h).2];rfl
  | some s=>rw [(kp_some h).2];rfl
theorem kpR_use (l:List UInt8):LV.inUse (kpBx l) (kpR l)=true:=by
  cases h:decP l with
  | none=>rw [(kp_none h).1,(kp_none h).2];rfl
  | some s=>rw [(kp_some h).1,(kp_some h).2];rfl
theorem okK_in {rs:List Rl} (h:∀ r∈rs,okK r):∀ r∈rs,smallR r:=fun r hr=>okK_small (h r hr)
variable (X:Nat→Option Obj)
theorem kcheck_lent {S:Nat→Option (Option Box)} {va vb:Int} {k:Nat} {rs:List Rl} {e:TypeId} {cc:List CV} {t:TypeId} {ce:Int} (hbig:rs.length<4611686018427387904) (hsz:sizeR rs) (hce:chkP ⟨va,vb,rs⟩=ce) (hk:S k=some (some ⟨e,cc,.res (rlR t rs)⟩)):
    ∀ (Y:Nat→Option Obj) (us:List Value),(∀ b o,X b=some o→Y b=some o)→LentLs S Y [.sv (.agg [.val (.int .i64 va),.val (.int .i64 vb),.slc k 0 rs.length 3])] us→PSpec Tryz.prog Y 12 (us.map toLV) (Ln .i64 ce):=by
  intro Y us _ hL
  obtain ⟨u1,us1,rfl,⟨av,rfl,a1,av1,rfl,g1,a2,av2,rfl,g2,a3,av3,rfl,⟨b,blk,cap2,m,hk',rfl,hc,hfit,hB⟩,rfl⟩,rfl⟩:=hL
  have g1:a1 = .int .i64 va:=g1
  have g2:a2 = .int .i64 vb:=g2
  subst g1 g2
  rw [hk] at hk'
  simp only [Option.some.injEq] at hk'
  subst hk'
  obtain ⟨H,hR,hHY⟩:=hB
  have:=kCheck Y ⟨va,vb,rs⟩ (some ⟨blk,0,none⟩) cap2 (hR.2.mono hHY) hbig hsz
  rw [hce] at this
  exact this
abbrev pdB (k:Nat) (va vb:Int) (j n:Nat):Nat×Option Box:=(k,some ⟨24,[.val (.int .i64 va),.val (.int .i64 vb),.slc j 0 n 3],false⟩)
abbrev dpSt (l:List UInt8) (b:Bool) (first:Nat) (va vb:Int) (m i:Nat) (cells:List Value) (Y:Nat→Option Obj):St:=
  ⟨[(2,Lp 2),(4,Lp 700),(5,Ln .i64 (first:Nat)),(6,Lp 6),(25,Ln .i64 (m:Nat)),(26,Ln .i64 (i:Nat))],[(21,some ⟨46,cells.map .val,false⟩),rdB' 700 l b,pdB 6 va vb 21 m,v3B 24 2 0 0 none 0 0],Y⟩
set_option maxHeartbeats 12800000 in
theorem kDecodeM (s:List UInt8) (hs:s.length≤1099511627776):MSpec Tryz.prog X 14 [Ls s] [] (kpR s) (kpBx s):=by
  have h1:=kTake X s false (by omega)
  have g1:=(eS_less (s,false)).1
  have k1:=(eS (s,false)).1.toNat_lt
  rcases hy1:eS (s,false) with ⟨first,l1,b1⟩
  rw [hy1] at h1 g1 k1
  simp only at h1 g1 k1
  have h2:=Num4_e X l1 b1 (by omega)
  have g2:=(e4_less (l1,b1)).1
  have k2:=e4_lt (l1,b1)
  rcases hy2:e4 (l1,b1) with ⟨va,l2,b2⟩
  rw [hy2] at h2 g2 k2
  simp only at h2 g2 k2
  have h3:=Num4_e X l2 b2 (by omega)
  have g3:=(e4_less (l2,b2)).1
  have k3:=e4_lt (l2,b2)
  rcases hy3:e4 (l2,b2) with ⟨vb,l3,b3⟩
  rw [hy3] at h3 g3 k3
  simp only at h3 g3 k3
  have h4:=kTake X l3 b3 (by omega)
  have g4:=(eS_less (l3,b3)).1
  have k4:=(eS (l3,b3)).1.toNat_lt
  rcases hy4:eS (l3,b3) with ⟨c4,l4,b4⟩
  rw [hy4] at h4 g4 k4
  simp only at h4 g4 k4
  have hS:=fun (rs:List Rl) (l':List UInt8) (b':Bool) (h:KRs l4 b4 c4.toNat rs l' b')=>decP_k hy1 hy2 hy3 hy4 h
  generalize c4.toNat=m at *
  generalize first.toNat=fi at *
  have hmk:slcBuild Tryz.prog 22 m=some (zerR m,3,46):=slcBuild_many (z := #[.int .i64 0,.int .i64 0,.slice none 0 0]) (by kernel_rfl) (by kernel_rfl) rfl (by omega)
  have hw2:IntKind.i64.wrap ((va:Nat):Int)=((va:Nat):Int):=cH (by omega)
  have hw3:IntKind.i64.wrap ((vb:Nat):Int)=((vb:Nat):Int):=cH (by omega)
  have hR:=Read_spec X s
  refine cG Tryz.func14 rfl (by kernel_rfl) rfl (kpR_use s) (kpBx_use s) rfl rfl ?_
  intro C
  (refine aA<|rgN<|aP O dR ?_;refine kas O<|aB<|aA<|rgN<|kmv O<|bE [(1000001,700)] (Lp 700) (rd 700 s false) (hR) O O (by exact trivial) O O O O O (by exact (.box O O .nil)) dR<|kas O<|aB<|aA<|rgN<|kmv O<|aU [(1000000,700)] (rd 700 l1 b1) (h1) O O (by exact (cQ ⟨_,O,O⟩ trivial)) (by exact (bT (bT O (bT O O)) O)) O O O O (by exact (.box O O .nil)) dR<|kas O<|aB ?_;refine aA<|rgN<|kmv O<|aU [(1000000,700)] (rd 700 l2 b2) (h2) O O (by exact (cQ ⟨_,O,O⟩ trivial)) (by exact (bT (bT O (bT O O)) O)) O O O O (by exact (.box O O .nil)) dR<|kcv O hw2 ?_;refine kmv O<|aU [(1000000,700)] (rd 700 l3 b3) (h3) O O (by exact (cQ ⟨_,O,O⟩ trivial)) (by exact (bT (bT O (bT O O)) O)) O O O O (by exact (.box O O .nil)) dR<|kcv O hw3 ?_;refine aT O O (by exact O) (by exact nl3 O O O O) dR ?_;refine aP O dR ?_;refine aM O O O O O O dR ?_;refine aB<|aA<|rgN<|kmv O<|aU [(1000000,700)] (rd 700 l4 b4) (h4) O O (by exact (cQ ⟨_,O,O⟩ trivial)) (by exact (bT (bT O (bT O O)) O)) O O O O (by exact (.box O O .nil)) dR<|K.makeSlc (m:=m) (bytes:=40) O O hmk (by kernel_rfl) (by omega) O O dR<|kfa O O ?_;refine bG O O O O O (nl3 O O O O) dR<|aB<|aA<|aA<|rgN<|kfa O O ?_;refine kl1 O O O<|K.lenSlc O cC O dR ?_;refine kmv O<|aB<|aG ?_)
  refine cM (fun k σ=>∃ (i:Nat) (rs:List Rl) (l':List UInt8) (b':Bool) (ws:List Value) (H:Nat→Option Obj),i≤m∧k=m-i∧rqRs (l4,b4) i=(rs,l',b')∧OwnedM C X H∧RulesH H ws rs∧σ=dpSt l' b' fi (va:Nat) (vb:Nat) m i (rwZ rs ws++zerR (m-i)) (joinM X H)) m
    (cE (σ':=dpSt l4 b4 fi (va:Nat) (vb:Nat) m 0 (rwZ [] []++zerR (m-0)) X) ?_ (cD ⟨0,[],l4,b4,[],fun _=>none,by omega,by omega,rfl,OwnedM.nil _ _,RulesH.nil,by rw [joinM_nil]⟩)) ?_
  · exact Le.of (by exact ⟨rfl,rfl,rfl,rfl,rfl,rfl,trivial⟩) (by exact ⟨rfl,rfl,rfl,rfl,trivial⟩) (by exact rfl) (by exact rfl) (by repeat' (first|refine bT ?_ ?_|rfl|exact bV|exact bU|exact bW rfl))
  rintro k σ ⟨i,rs,l',b',ws,H,hi,rfl,hT,hO,GR,rfl⟩
  have hK:=rqRs_k l4 b4 i
  rw [hT] at hK
  simp only at hK
  have hcn:rs.length=i:=hK.len
  have hl':=hK.less
  by_cases hlt:i<m
  · have hF:=kTakeRule (joinM X H) l' b' (by omega)
    have hT2:rqRs (l4,b4) (i+1)=(rs++[(rqR (l',b')).1],(rqR (l',b')).2):=by simp only [rqRs,hT]
    rcases hy:rqR (l',b') with ⟨r,l5,b5⟩
    rw [hy] at hF hT2
    simp only at hF hT2
    have hix:0+Int.toNat (i:Int)*3=i*3:=by rw [dG];omega
    have hpl:(rwZ rs ws).length=i*3:=by rw [rwZ_len GR.len,hcn]
    have hroom:i*3+3≤((rwZ rs ws++zerR (m-i)).map CV.val).length:=by rw [cW,cV,hpl,zerR_len];omega
    have hspl:splice ((rwZ rs ws++zerR (m-i)).map CV.val) (i*3) [.val (.int .i64 r.nw),.val (.int .i64 r.old),.slc 30 0 r.ex.length 1]=(rwZ rs ws++[Value.int .i64 r.nw,Value.int .i64 r.old]).map CV.val ++ .slc 30 0 r.ex.length 1::(zerR (m-(i+1))).map .val:=by
      unfold splice
      rw [show m-i=(m-(i+1))+1 by omega,zerR_succ]
      simp only [dH,dM]
      have hml:((rwZ rs ws).map CV.val).length=i*3:=by rw [cW,hpl]
      generalize (rwZ rs ws).map CV.val=R at *
      rw [← hml,List.take_left,List.drop_length_add_append]
      simp
    have hadd:IntKind.i64.wrap (((i:Nat):Int)+1)=((i+1:Nat):Int):=by rw [cH (by omega)];omega
    (refine aA<|rgN<|klt O O (cP (by omega))<|aB<|aA<|aE O ?_;refine aH ?_;refine aA<|aG<|aA<|rgN<|kmv O<|kas O<|aB<|rgD mixed<|kfa O O ?_;refine kl1 O O O<|kmv O<|kmv O<|bE [(1000000,700),(1000001,30)] (.sv (SRs r 30)) (rd 700 l5 b5++[cdB 30 r.ex]) (hF) O O (by exact (cQ ⟨_,O,O⟩ trivial)) (by exact (bT (bT O (bT O O)) O)) O O O O (by exact (.box O O (.box O O .nil))) dR<|K.indexSlc O O (by omega) hix dR ?_;refine K.store O O O O (by kernel_rfl) hroom hspl dR<|aB<|rgA ?_;refine rgN<|kad O O hadd<|kmv O<|aB ?_)
    refine cE (σ':=⟨[(2,Lp 2),(4,Lp 700),(5,Ln .i64 (fi:Nat)),(6,Lp 6),(25,Ln .i64 (m:Nat)),(26,Ln .i64 (i+1:Nat))],[(21,some ⟨46,(rwZ rs ws++[Value.int .i64 r.nw,Value.int .i64 r.old]).map CV.val ++ .slc 30 0 r.ex.length 1::(zerR (m-(i+1))).map .val,false⟩),cdB 30 r.ex,rdB' 700 l5 b5,pdB 6 (va:Nat) (vb:Nat) 21 m,v3B 24 2 0 0 none 0 0],joinM X H⟩) (Le.of (by exact ⟨O,O,O,O,O,O,trivial⟩) (by exact ⟨O,O,O,O,O,trivial⟩) (by exact O) (by exact O) (by repeat' (first|refine bT ?_ ?_|rfl|exact bV|exact bU|exact bW O))) ?_
    refine Leads.fixCell O bU bU O O O fun ρ H2 cap2 hR2 hO2 _ _ => ?_
    rw [joinM_join]
    refine cD ⟨m-(i+1),by omega,i+1,rs++[r],l5,b5,ws++[.slice (some ⟨ρ.1,0,none⟩) r.ex.length cap2],joinM H H2,by omega,O,hT2,hO.join hO2,(GR.mono (joinM_keeps hO2)).push ⟨_,_,O,hR2.2.mono fun b o h=>joinM_in h⟩,?_⟩
    rw [rwZ_add GR.len]
    unfold dpSt
    simp
  · have e:i=m:=by omega
    subst e
    have hS:=hS rs l' b' hK
    rw [Nat.sub_self,show zerR 0=[] from rfl,dJ]
    rw [← hcn] at *
    have hsm:=okK_in hK.ok
    have hsz:=okK_size hK.ok
    (refine aA<|rgN<|klt O O (cO (by omega))<|aB<|aA<|aF O ?_;refine aJ<|aA<|aA ?_)
    refine LWP.le (σ':=⟨[(2,Lp 2),(4,Lp 700),(5,Ln .i64 (fi:Nat)),(6,Lp 6)],[(21,some ⟨46,(rwZ rs ws).map .val,false⟩),rdB' 700 l' b',pdB 6 (va:Nat) (vb:Nat) 21 rs.length,v3B 24 2 0 0 none 0 0],joinM X H⟩) (Le.of (by exact ⟨O,O,O,O,trivial⟩) (by exact ⟨O,O,O,O,trivial⟩) (by exact O) (by exact O) (by repeat' (first|refine bT ?_ ?_|rfl|exact bV|exact bU|exact bW O))) ?_
    refine rl_shutW hO GR hsm ?_
    have hD:=Done_spec X l' b' _ rfl
    by_cases hd:(!b'&&(l'==[]))=true
    case neg =>
      rw [if_neg fun h=>hd h.1] at hS
      obtain ⟨q1,q2⟩:=kp_none hS
      rw [q1,q2]
      rw [Bool.not_eq_true] at hd
      rw [hd] at hD
      (refine rgN<|kmv O<|aU [(1000000,700)] (rd 700 l' b') (hD) O O (by exact (cQ ⟨_,O,O⟩ trivial)) (by exact (bT (bT O (bT O O)) O)) O O O O (by exact (.box O O .nil)) dR<|aV O O dR<|kmv O<|aC O O O<|aC O O O<|kpt O O<|kmv O<|aC O O O<|aC O O O<|aC O O O<|kpt O O<|aB ?_;refine aE O ?_;refine aA<|rgN<|aT O O (by exact O) (by exact nl3 O O O O) dR ?_;refine aM O O O O O O dR ?_;refine kas O<|aB<|aI ?_)
      exact ⟨[],⟨[_,_],⟨⟨_,_,rfl,rfl,rfl,.inl ⟨AggT.h,rfl⟩⟩,rfl,trivial⟩,rfl⟩,(by repeat' (first|exact trivial|refine cQ ⟨_,rfl,?_⟩ ?_|refine cQ ⟨_,rfl⟩ ?_|rfl|exact bX _ _ _ _|exact bY _ _ _ _|exact bZ rfl)),rfl,rfl⟩
    rw [hd] at hD
    by_cases hm:fi=77
    case neg =>
      rw [if_neg fun h=>hm h.2.1] at hS
      obtain ⟨q1,q2⟩:=kp_none hS
      rw [q1,q2]
      have hne:(((fi:Nat):Int) != 77)=true:=by rw [bne_iff_ne];omega
      (refine rgN<|kmv O<|aU [(1000000,700)] (rd 700 l' b') (hD) O O (by exact (cQ ⟨_,O,O⟩ trivial)) (by exact (bT (bT O (bT O O)) O)) O O O O (by exact (.box O O .nil)) dR<|aV O O dR<|kmv O<|gmv O O O<|aX O O hne (dS O O) ?_;refine kpf O O<|kmv O<|aC O O O<|aC O O O<|aC O O O<|kpt O O<|aB<|aE O ?_;refine aA<|rgN<|aT O O (by exact O) (by exact nl3 O O O O) dR ?_;refine aM O O O O O O dR ?_;refine kas O<|aB<|aI ?_)
      exact ⟨[],⟨[_,_],⟨⟨_,_,rfl,rfl,rfl,.inl ⟨AggT.h,rfl⟩⟩,rfl,trivial⟩,rfl⟩,(by repeat' (first|exact trivial|refine cQ ⟨_,rfl,?_⟩ ?_|refine cQ ⟨_,rfl⟩ ?_|rfl|exact bX _ _ _ _|exact bY _ _ _ _|exact bZ rfl)),rfl,rfl⟩
    have hne:(((fi:Nat):Int) != 77)=false:=by rw [bne_eq_false_iff_eq];omega
    by_cases hz:chkP ⟨(va:Nat),(vb:Nat),rs⟩=0
    · rw [if_pos ⟨hd,hm,hz⟩] at hS
      obtain ⟨q1,q2⟩:=kp_some hS
      rw [q1,q2]
      have hc:=fun (S:Nat→Option (Option Box)) (hk:S 21=some (some ⟨0,[],.res (rlR 46 rs)⟩))=>kcheck_lent X (S:=S) (k:=21) (va:=(va:Nat)) (vb:=(vb:Nat)) (by omega) hsz hz hk
      (refine rgN<|kmv O<|aU [(1000000,700)] (rd 700 l' b') (hD) O O (by exact (cQ ⟨_,O,O⟩ trivial)) (by exact (bT (bT O (bT O O)) O)) O O O O (by exact (.box O O .nil)) dR<|aV O O dR<|kmv O<|gmv O O O<|aX O O hne (dS O O) ?_;refine kpf O O<|kmv O<|aK O O O (dS O O) ?_;refine K.callL [21] O O O (hc _ O) (dS O O) ?_;refine aX O O (r:=false) (by decide) (dS O O) ?_;refine kpf O O<|aB<|aF O ?_;refine aH ?_;refine aA<|rgN<|aK O O O dR ?_;refine aM O O O O O O dR ?_;refine kas O<|aB<|aI ?_)
      exact ⟨[(1000001,21)],⟨[_,_],⟨⟨_,_,rfl,rfl,rfl,.inl ⟨AggT.h,rfl⟩⟩,rfl,trivial⟩,rfl⟩,(by repeat' (first|exact trivial|refine cQ ⟨_,rfl,?_⟩ ?_|refine cQ ⟨_,rfl⟩ ?_|rfl|exact bX _ _ _ _|exact bY _ _ _ _|exact bZ rfl)),rfl,rfl⟩
    · rw [if_neg fun h=>hz h.2.2] at hS
      obtain ⟨q1,q2⟩:=kp_none hS
      rw [q1,q2]
      have hne2:(chkP ⟨(va:Nat),(vb:Nat),rs⟩ != 0)=true:=by rw [bne_iff_ne];exact hz
      have hc:=fun (S:Nat→Option (Option Box)) (hk:S 21=some (some ⟨0,[],.res (rlR 46 rs)⟩))=>kcheck_lent X (S:=S) (k:=21) (va:=(va:Nat)) (vb:=(vb:Nat)) (by omega) hsz rfl hk
      generalize chkP ⟨(va:Nat),(vb:Nat),rs⟩=ce at *
      (refine rgN<|kmv O<|aU [(1000000,700)] (rd 700 l' b') (hD) O O (by exact (cQ ⟨_,O,O⟩ trivial)) (by exact (bT (bT O (bT O O)) O)) O O O O (by exact (.box O O .nil)) dR<|aV O O dR<|kmv O<|gmv O O O<|aX O O hne (dS O O) ?_;refine kpf O O<|kmv O<|aK O O O (dS O O) ?_;refine K.callL [21] O O O (hc _ O) (dS O O) ?_;refine aX O O hne2 (dS O O) ?_;refine kpf O O<|aB<|aE O ?_;refine aA<|rgN<|aT O O (by exact O) (by exact nl3 O O O O) dR ?_;refine aM O O O O O O dR ?_;refine kas O<|aB<|aI ?_)
      exact ⟨[],⟨[_,_],⟨⟨_,_,rfl,rfl,rfl,.inl ⟨AggT.h,rfl⟩⟩,rfl,trivial⟩,rfl⟩,(by repeat' (first|exact trivial|refine cQ ⟨_,rfl,?_⟩ ?_|refine cQ ⟨_,rfl⟩ ?_|rfl|exact bX _ _ _ _|exact bY _ _ _ _|exact bZ rfl)),rfl,rfl⟩
end Go.Proofs.YtamplgnbbanamaaGreatDoor
end
section
namespace Go.Proofs.YtamplgnbbanamaaGreatDoor
open Go Go.Lg Go.Lg.Fml Go.Lg.Fld Go.Lg.Arith
set_option maxRecDepth 100000
def txt1 (l:List (List UInt8)):List Value:=l.map fun t=>.string ⟨t.toArray⟩
theorem txt1_len (l:List (List UInt8)):(txt1 l).length=l.length:=cW _
theorem txt1_snoc (l:List (List UInt8)) (t:List UInt8):txt1 (l++[t])=txt1 l++[.string ⟨t.toArray⟩]:=by unfold txt1;simp
def wordsR (r:Rl):List (List UInt8):=if r.old=0 then [[102,114,101,115,104],dg1 r.nw] else [dg1 r.nw,[102,114,111,109],dg1 r.old]++r.ex.map showX
theorem tailL_join:∀ l:List (List Ins),Lib.joinTail [32] (l.map showX)=tailL l
  | []=>rfl
  | c::t=>by
    have:=tailL_join t
    unfold Lib.joinTail at this ⊢
    simp only [List.map_cons,List.flatten_cons,tailL,this]
    rfl
theorem words_join (r:Rl):Lib.join (wordsR r) [32]=lineR r:=by
  unfold wordsR lineR
  by_cases h:r.old=0
  · rw [if_pos h,if_pos h,Lib.join_cons]
    simp [Lib.joinTail]
  · rw [if_neg h,if_neg h,List.cons_append,Lib.join_cons,← tailL_join]
    simp [Lib.joinTail]
theorem lineR_len {r:Rl} (h1:0≤r.nw∧r.nw≤24) (h2:0≤r.old∧r.old≤24) (hi:∀ c∈r.ex,∀ x∈c,In2 x.k.2):(lineR r).length≤100+3201*r.ex.length:=by
  have l1:=Lib.itoa_length_le r.nw (by omega) (by omega)
  have l2:=Lib.itoa_length_le r.old (by omega) (by omega)
  have l3:=tailL_len r.ex hi
  unfold lineR dg1
  split
  · rw [cV]
    simp only [dI,dO]
    omega
  · rw [cV,cV,cV]
    simp only [dI,dO]
    omega
variable (X:Nat→Option Obj)
theorem kItoa (n:Nat) (h1:n<100):PSpec Tryz.prog X 70 [Ln .i64 (n:Nat)] (Ls (dg1 (n:Nat))):=
  PSpec.ofBelow (vals:=[.int .i64 (n:Nat)]) (v:=.string ⟨(Lib.itoa (n:Nat)).toArray⟩) (by kernel_rfl) rfl rfl (fun w _=>(Tryz.strconv_Itoa_small n h1 w).mono fun _ _ ⟨he,hw⟩=>⟨by rw [Lib.itoa_nonneg];exact he,by rw [hw];exact Go.RowKit.Below.refl _ _⟩)
theorem kJoin_lent {S:Nat→Option (Option Box)} {l:List (List UInt8)} {k:Nat} {el:TypeId} {row:Bool} (hl:l.length≤140737488355328) (hj:(Lib.join l [32]).length≤140737488355328) (hk:S k=some (some ⟨el,(txt1 l).map .val,row⟩)):
    ∀ (Y:Nat→Option Obj) (us:List Value),(∀ b o,X b=some o→Y b=some o)→LentLs S Y [.sv (.one (.slc k 0 l.length)),Ls [32]] us→PSpec Tryz.prog Y 44 (us.map toLV) (Ls (Lib.join l [32])):=by
  intro Y us hY hL
  obtain ⟨u1,us1,rfl,⟨b,blk,cap2,m,hk',rfl,hc,hfit,hB⟩,u2,us2,rfl,h2,rfl⟩:=hL
  have h2:u2 = .string ⟨([32]:List UInt8).toArray⟩:=h2
  subst h2
  rw [hk] at hk'
  simp only [Option.some.injEq] at hk'
  subst hk'
  obtain ⟨arr,fr,us',sp,hYb,hsz,harr,hv⟩:=hB
  have:=hv _ rfl
  subst this
  refine PSpec.ofBelow (vals:=[.slice (some ⟨blk,0,none⟩) l.length cap2,.string ⟨([32]:List UInt8).toArray⟩]) (v:=.string ⟨(Lib.join l [32]).toArray⟩) (by kernel_rfl) O O fun w hX => ?_
  have hb:=hX _ _ hYb
  have hbk:blk<w.heap.size:=(Array.getElem?_eq_some_iff.1 hb).1
  have hcells:∀ (j:Nat) (x:ByteArray),(l.map fun t=>(⟨t.toArray⟩:ByteArray))[j]? = some x→w.cell? ⟨blk,0+j,none⟩=some (.string x):=fun j x hx=>by
    rw [dL] at hx
    cases ht:l[j]? with
    | none=>rw [ht] at hx;cases hx
    | some t =>
      rw [ht] at hx
      simp only [Option.map_some,Option.some.injEq] at hx
      subst hx
      have hjl:=(List.getElem?_eq_some_iff.1 ht).1
      have ha:arr[0+j]? = some (.string ⟨t.toArray⟩):=by
        rw [Nat.zero_add,← Array.getElem?_toList,harr,dQ (by rw [txt1_len];exact hjl)]
        unfold txt1
        rw [dL,ht]
        rfl
      simpa [World.cell?,hb] using ha
  have hmap:((l.map fun t=>(⟨t.toArray⟩:ByteArray)).map fun x=>x.data.toList)=l:=by rw [List.map_map];exact List.map_id _
  have h:=Tryz.strings_Join blk 0 cap2 (l.map fun t=>(⟨t.toArray⟩:ByteArray)) ⟨([32]:List UInt8).toArray⟩ w hcells hbk (by rw [cW];exact hl) (by rw [cW];exact hc) (by rw [hmap];exact hj)
  rw [hmap,cW] at h
  exact h
abbrev txB (k:Nat) (l:List (List UInt8)) (r:Bool):Nat×Option Box:=(k,some ⟨9,(txt1 l).map .val,r⟩)
abbrev woSt (ead:Option Addr) (n ecap i:Nat) (l:List (List UInt8)) (r:Bool) (Y:Nat→Option Obj):St:=
  ⟨[(4,.sv (.one (.slc 500 0 l.length 1))),(21,Lx ead n ecap),(22,Ln .i64 (n:Nat)),(23,Ln .i64 (i:Nat))],[txB 500 l r],Y⟩
set_option maxHeartbeats 6400000 in
theorem kWords (hT:XTab X) (r:Rl) (ead:Option Addr) (ecap:Nat) (hE:CodesIn X ead r.ex) (h1:0≤r.nw∧r.nw≤24) (h2:0≤r.old∧r.old≤24) (hn:r.ex.length≤65536) (hc:∀ c∈r.ex,c.length≤65536):
    MSpec Tryz.prog X 45 [LPg r.nw r.old ead r.ex.length ecap] [] (.sv (.one (.slc 1000001 0 (wordsR r).length 1))) [txB 1000001 (wordsR r) true]:=by
  obtain ⟨nw,old,ex⟩:=r
  simp only at hE h1 h2 hn hc ⊢
  obtain ⟨a,rfl⟩:=Int.eq_ofNat_of_zero_le h1.1
  obtain ⟨b,rfl⟩:=Int.eq_ofNat_of_zero_le h2.1
  have hA:=kItoa X a (by omega)
  have hB:=kItoa X b (by omega)
  have hrl:∀ l:List (List UInt8),((txt1 l).map CV.val).length=l.length*1:=fun l=>by rw [cW,txt1_len,Nat.mul_one]
  refine cG Tryz.func45 rfl (by kernel_rfl) rfl (by exact (by repeat' (first|refine bT ?_ ?_|rfl|exact bV|exact bU|exact bW rfl))) (by exact (by repeat' (first|refine bT ?_ ?_|rfl|exact bV|exact bU|exact bW rfl))) rfl rfl ?_
  intro C
  refine LWP.ends ?_
  by_cases h0:((b:Nat):Int)=0
  · rw [show wordsR ⟨(a:Nat),(b:Nat),ex⟩=[[102,114,101,115,104],dg1 (a:Nat)] from if_pos h0]
    generalize dg1 (a:Nat)=da at *
    (refine aA<|rgN<|aL O O O dR<|kas O<|aB<|aA<|rgN<|kfa O O ?_;refine kl1 O O O<|kca O O hA<|kas O<|aB<|aA<|aA<|rgN<|kfa O O ?_;refine kl1 O O O<|keq O O (cU h0)<|aB<|aE O ?_;refine aA<|rgN<|kmv O<|aZ (zs:=[.string ⟨#[]⟩,.string ⟨#[]⟩]) (sz:=1) (e:=9) (cs':=[.val (.string ⟨([102,114,101,115,104]:List UInt8).toArray⟩),.val (.string ⟨da.toArray⟩)]) (by kernel_rfl) O O O O O O dR<|kas O<|aB<|aI ?_)
    refine cE (σ':=⟨[(2,.sv (.one (.slc 14 0 2 1)))],[txB 14 [[102,114,101,115,104],da] false],X⟩) (Le.of (by exact ⟨O,trivial⟩) (by exact ⟨O,trivial⟩) (by exact O) (by exact O) (by repeat' (first|refine bT ?_ ?_|rfl|exact bV|exact bU|exact bW O))) ?_
    refine cE Le.loose (cD ?_)
    exact ⟨[(1000001,14)],⟨[_],⟨rfl,trivial⟩,rfl⟩,(by repeat' (first|exact trivial|refine cQ ⟨_,rfl,?_⟩ ?_|refine cQ ⟨_,rfl⟩ ?_|rfl|exact bX _ _ _ _|exact bY _ _ _ _|exact bZ rfl)),rfl,rfl⟩
  rw [show wordsR ⟨(a:Nat),(b:Nat),ex⟩=[dg1 (a:Nat),[102,114,111,109],dg1 (b:Nat)]++ex.map showX from if_neg h0]
  generalize dg1 (a:Nat)=da at *
  generalize dg1 (b:Nat)=db at *
  (refine aA<|rgN<|aL O O O dR<|kas O<|aB<|aA<|rgN<|kfa O O ?_;refine kl1 O O O<|kca O O hA<|kas O<|aB<|aA<|aA<|rgN<|kfa O O ?_;refine kl1 O O O<|keq O O (cR h0)<|aB<|aF O ?_;refine aH ?_;refine aA<|rgN<|kmv O<|kfa O O ?_;refine kl1 O O O<|kca O O hB<|aZ (zs:=[.string ⟨#[]⟩,.string ⟨#[]⟩,.string ⟨#[]⟩]) (sz:=1) (e:=9) (cs':=[.val (.string ⟨da.toArray⟩),.val (.string ⟨([102,114,111,109]:List UInt8).toArray⟩),.val (.string ⟨db.toArray⟩)]) (by kernel_rfl) O O O O O O dR<|kas O<|aB<|aA<|aA<|rgN<|kfa O O ?_;refine kl1 O O O<|aQ O cC O dR ?_;refine kmv O<|aB<|aG ?_)
  refine cL (fun m σ=>∃ (i:Nat) (r:Bool),i≤ex.length∧m=ex.length-i∧σ=woSt ead ex.length ecap i ([da,[102,114,111,109],db]++(ex.take i).map showX) r X) ex.length
    ⟨woSt ead ex.length ecap 0 [da,[102,114,111,109],db] false X,Le.ofR [(500,19)] (by exact ⟨rfl,rfl,rfl,rfl,trivial⟩) (by repeat' (first|exact trivial|refine cQ ⟨_,rfl,?_⟩ ?_|refine cQ ⟨_,rfl⟩ ?_|rfl|exact bX _ _ _ _|exact bY _ _ _ _|exact bZ rfl)) (by exact rfl) (by exact rfl) (by repeat' (first|refine bT ?_ ?_|rfl|exact bV|exact bU|exact bW rfl)) (by exact rfl) (by exact rfl),0,false,by omega,by omega,rfl⟩ ?_
  rintro m σ ⟨i,row,hi,rfl,rfl⟩
  by_cases hlt:i<ex.length
  case neg =>
    have e:i=ex.length:=by omega
    subst e
    rw [dF]
    generalize [da,[102,114,111,109],db]++ex.map showX=L at *
    (refine aA<|rgN<|klt O O (cO (by omega))<|aB<|aA<|aF O ?_;refine aJ<|aA<|rgN<|kmv O<|kas O<|aB<|aI ?_)
    refine cE (σ':=⟨[(2,.sv (.one (.slc 500 0 L.length 1)))],[txB 500 L row],X⟩) (Le.ofR [(500,500)] (by exact ⟨rfl,trivial⟩) (by repeat' (first|exact trivial|refine cQ ⟨_,rfl,?_⟩ ?_|refine cQ ⟨_,rfl⟩ ?_|rfl|exact bX _ _ _ _|exact bY _ _ _ _|exact bZ rfl)) (by exact rfl) (by exact rfl) (by repeat' (first|refine bT ?_ ?_|rfl|exact bV|exact bU|exact bW rfl)) (by exact rfl) (by exact rfl)) ?_
    refine cE Le.loose (cD ?_)
    exact ⟨[(1000001,500)],⟨[_],⟨rfl,trivial⟩,rfl⟩,(by repeat' (first|exact trivial|refine cQ ⟨_,rfl,?_⟩ ?_|refine cQ ⟨_,rfl⟩ ?_|rfl|exact bX _ _ _ _|exact bY _ _ _ _|exact bZ rfl)),rfl,rfl⟩
  obtain ⟨c,hcc⟩:∃ c,ex[i]? = some c:=⟨_,cX hlt⟩
  obtain ⟨eb,eo,earr,eel,efr,vad,vcap,rfl,hEX,hec,hI⟩:=hE.get hcc
  have hio:eo+Int.toNat (i:Int)*1=eo+i*1:=by simp
  have hcl:=hc c (dD hcc)
  have hG:=gShow X hT c vad vcap hI (by omega)
  have hnx:[da,[102,114,111,109],db]++(ex.take (i+1)).map showX=([da,[102,114,111,109],db]++(ex.take i).map showX)++[showX c]:=by rw [take_snoc hcc,dH,dM];rfl
  have hLl:([da,[102,114,111,109],db]++(ex.take i).map showX).length=3+i:=by
    rw [cV,cW,cZ]
    simp only [dI,dO]
    omega
  generalize [da,[102,114,111,109],db]++(ex.take i).map showX=L at *
  generalize showX c=sc at *
  have hadd:IntKind.i64.wrap (((i:Nat):Int)+1)=((i+1:Nat):Int):=by rw [cH (by omega)];omega
  have hnc:(txt1 L).map CV.val++[.val (.string ⟨sc.toArray⟩)]=(txt1 (L++[sc])).map CV.val:=by rw [txt1_snoc,dH];rfl
  have hnl:L.length+1=(L++[sc]).length:=by rw [cV];rfl
  (refine aA<|rgN<|klt O O (cP (by omega))<|aB<|aA<|aE O ?_;refine aH ?_;refine aA<|aG<|aA<|rgN<|aR O O cC (by omega) hio dR<|aW O hEX O hec dR<|kas O<|aB<|rgN<|kmv O<|kmv O<|kca O O hG<|aZ (zs:=[.string ⟨#[]⟩]) (sz:=1) (e:=9) (cs':=[.val (.string ⟨sc.toArray⟩)]) (by kernel_rfl) O O O O O O dR<|bQ (by_:=16) (e2:=9) (l2:=[.val (.string ⟨sc.toArray⟩)]) (nl:=(L++[sc]).length) (nc:=(txt1 (L++[sc])).map .val) O O (hrl L) O O (dN _) O O (by kernel_rfl) (by kernel_rfl) (by omega) (by omega) O hnl hnc dR ?_;refine kas O<|aB<|rgN<|kad O O hadd<|kmv O<|aB ?_)
  exact ⟨_,woSt (some ⟨eb,eo,none⟩) ex.length ecap (i+1) (L++[sc]) true X,by omega,Le.ofR [(500,31)] (by exact ⟨rfl,rfl,rfl,rfl,trivial⟩) (by repeat' (first|exact trivial|refine cQ ⟨_,rfl,?_⟩ ?_|refine cQ ⟨_,rfl⟩ ?_|rfl|exact bX _ _ _ _|exact bY _ _ _ _|exact bZ rfl)) (by exact rfl) (by exact rfl) (by repeat' (first|refine bT ?_ ?_|rfl|exact bV|exact bU|exact bW rfl)) (by exact rfl) (by exact rfl),i+1,true,by omega,rfl,by rw [hnx]⟩
def zerS (k:Nat):List Value:=List.replicate k (.string ⟨#[]⟩)
theorem zerS_splice {l:List (List UInt8)} {k i:Nat} {t:List UInt8} (hi:l.length=i):splice ((txt1 l++zerS (k+1)).map CV.val) i [.val (.string ⟨t.toArray⟩)]=(txt1 (l++[t])++zerS k).map CV.val:=by
  unfold splice
  rw [show zerS (k+1) = .string ⟨#[]⟩::zerS k from List.replicate_succ,txt1_snoc]
  simp only [dH,dM]
  have hml:((txt1 l).map CV.val).length=i:=by rw [cW,txt1_len,hi]
  generalize (txt1 l).map CV.val=R at *
  rw [← hml,List.take_left,List.drop_length_add_append]
  simp
abbrev liSt (ad:Option Addr) (n cap i:Nat) (l:List (List UInt8)) (Y:Nat→Option Obj):St:=
  ⟨[(3,.sv (.one (.slc 12 0 n 1))),(14,Lx ad n cap),(15,Ln .i64 (n:Nat)),(16,Ln .i64 (i:Nat))],[(12,some ⟨9,(txt1 l++zerS (n-i)).map .val,false⟩)],Y⟩
set_option maxHeartbeats 6400000 in
theorem kLines_ok (hT:XTab X) (p:Pg) (ad:Option Addr) (cap:Nat) (hin:RulesIn X ad p.rs) (hbig:p.rs.length<4611686018427387904) (hsz:sizeR p.rs) (hz:chkP p=0):
    MSpec Tryz.prog X 21 [LPg p.va p.vb ad p.rs.length cap] [] (.sv (.one (.slc 1000001 0 p.rs.length 1))) [txB 1000001 (p.rs.map lineR) true]:=by
  have hc:=kCheck X p ad cap hin hbig hsz
  rw [hz] at hc
  obtain ⟨_,_,hcr,h24⟩:=chkP_zero hz
  obtain ⟨va,vb,rs⟩:=p
  simp only at hin hbig hsz hc hcr h24 ⊢
  have hi2:=hin.in2
  have hmk:slcBuild Tryz.prog 55 rs.length=some (zerS rs.length,1,9):=slcBuild_one (by kernel_rfl) (by kernel_rfl) (by omega)
  refine cG Tryz.func21 rfl (by kernel_rfl) rfl (by exact (by repeat' (first|refine bT ?_ ?_|rfl|exact bV|exact bU|exact bW rfl))) (by exact (by repeat' (first|refine bT ?_ ?_|rfl|exact bV|exact bU|exact bW rfl))) rfl rfl ?_
  intro C
  refine LWP.ends ?_
  (refine aA<|rgN<|aL O O O dR<|kas O<|aB<|aA<|aA<|rgN<|aK O O O dR ?_;refine kca O O hc<|kne O O (r:=false) O<|aB<|aF O ?_;refine aH ?_;refine aA<|rgN<|kfa O O ?_;refine kl1 O O O<|aQ O cC O dR ?_;refine K.makeSlc (m:=rs.length) (bytes:=16) O O hmk (by kernel_rfl) (by omega) O O dR<|kas O<|aB<|aA<|aA<|rgN<|kfa O O ?_;refine kl1 O O O<|aQ O cC O dR ?_;refine kmv O<|aB<|aG ?_)
  refine cL (fun m σ=>∃ i:Nat,i≤rs.length∧m=rs.length-i∧σ=liSt ad rs.length cap i ((rs.take i).map lineR) X) rs.length
    ⟨liSt ad rs.length cap 0 [] X,Le.of (by exact ⟨rfl,rfl,rfl,rfl,trivial⟩) (by exact ⟨rfl,trivial⟩) (by exact rfl) (by exact rfl) (by repeat' (first|refine bT ?_ ?_|rfl|exact bV|exact bU|exact bW rfl)),0,by omega,by omega,rfl⟩ ?_
  rintro m σ ⟨i,hi,rfl,rfl⟩
  by_cases hlt:i<rs.length
  case neg =>
    have e:i=rs.length:=by omega
    subst e
    unfold liSt
    rw [dF,Nat.sub_self,show zerS 0=[] from rfl,dJ]
    (refine aA<|rgN<|klt O O (cO (by omega))<|aB<|aA<|aF O ?_;refine aJ<|aA<|rgN<|kmv O<|kas O<|aB<|aI ?_)
    refine cE (σ':=⟨[(2,.sv (.one (.slc 12 0 rs.length 1)))],[txB 12 (rs.map lineR) false],X⟩) (Le.of (by exact ⟨O,trivial⟩) (by exact ⟨O,trivial⟩) (by exact O) (by exact O) (by repeat' (first|refine bT ?_ ?_|rfl|exact bV|exact bU|exact bW O))) ?_
    refine cE Le.loose (cD ?_)
    exact ⟨[(1000001,12)],⟨[_],⟨rfl,trivial⟩,rfl⟩,(by repeat' (first|exact trivial|refine cQ ⟨_,rfl,?_⟩ ?_|refine cQ ⟨_,rfl⟩ ?_|rfl|exact bX _ _ _ _|exact bY _ _ _ _|exact bZ rfl)),rfl,rfl⟩
  obtain ⟨r,hr⟩:∃ r,rs[i]? = some r:=⟨_,cX hlt⟩
  have hmem:=dD hr
  obtain ⟨last,hl⟩:=chkRs_mem hcr r hmem
  obtain ⟨q1,q2,_,_,q5,q6⟩:=chkR_zero hl
  obtain ⟨blk,off,arr,el,fr,ead,ecap,rfl,hX,hsiz,hcs,_,_,_,hE⟩:=hin.get hr
  have hio:off+Int.toNat (i:Int)*3=off+i*3:=by simp
  have hix:0+Int.toNat (i:Int)*1=i:=by rw [dG];omega
  have hcl:∀ c∈r.ex,c.length≤65536:=fun c hc=>by
    have he:=firstX_zero q6 c hc
    by_cases hz:chkX c=0
    · have:=(chkX_zero hz).1;omega
    · exact absurd ((if_neg hz:encErr c=chkX c)▸he) hz
  have hW:=kWords X hT r ead ecap hE ⟨by omega,q1.2⟩ q2 (by omega) hcl
  have hll:=lineR_len ⟨by omega,q1.2⟩ q2 (hi2 r hmem)
  have hwj:=words_join r
  have hJ:=fun (S:Nat→Option (Option Box)) (hk:S 601=some (some ⟨9,(txt1 (wordsR r)).map .val,true⟩))=>kJoin_lent X (S:=S) (l:=wordsR r) (k:=601) (by
    unfold wordsR
    split
    · simp
    · rw [cV,cW];simp only [dI,dO];omega) (by rw [hwj];omega) hk
  rw [hwj] at hJ
  have hml:((rs.take i).map lineR).length=i:=by rw [cW,cZ];omega
  have hnx:(rs.take (i+1)).map lineR=(rs.take i).map lineR++[lineR r]:=by rw [take_snoc hr,dH];rfl
  clear hll hwj
  generalize wordsR r=W at *
  generalize lineR r=ln at *
  generalize (rs.take i).map lineR=L at *
  have hroom:i+1≤((txt1 L++zerS (rs.length-i)).map CV.val).length:=by
    rw [cW,cV,txt1_len,hml]
    unfold zerS
    rw [dE];omega
  have hspl:splice ((txt1 L++zerS (rs.length-i)).map CV.val) i [.val (.string ⟨ln.toArray⟩)]=(txt1 (L++[ln])++zerS (rs.length-(i+1))).map CV.val:=by
    rw [show rs.length-i=(rs.length-(i+1))+1 by omega,zerS_splice hml]
  have hadd:IntKind.i64.wrap (((i:Nat):Int)+1)=((i+1:Nat):Int):=by rw [cH (by omega)];omega
  (refine aA<|rgN<|klt O O (cP (by omega))<|aB<|aA<|aE O ?_;refine aH ?_;refine aA<|aG<|aA<|rgN<|kmv O<|aR O O cC (by omega) hio dR<|aY O hX (by kernel_rfl) hsiz hcs dR<|aP O dR ?_;refine kas O<|aM O O O O O O dR ?_;refine aB<|rgN<|kmv O<|kmv O<|aK O O O dR ?_;refine bE [(1000001,601)] (.sv (.one (.slc 601 0 W.length 1))) [txB 601 W true] (hW) O O (by exact trivial) O O O O O (by exact (.box O (bY _ _ _ _) .nil)) dR<|K.callL [601] O O O (hJ _ O) dR ?_;refine K.indexSlc O O (by omega) hix dR ?_;refine K.store O O O O (by kernel_rfl) hroom hspl dR<|aB<|rgN<|kad O O hadd<|kmv O<|aB ?_)
  exact ⟨_,liSt (some ⟨blk,off,none⟩) rs.length cap (i+1) (L++[ln]) X,by omega,Le.of (by exact ⟨rfl,rfl,rfl,rfl,trivial⟩) (by exact ⟨rfl,trivial⟩) (by exact rfl) (by exact rfl) (by repeat' (first|refine bT ?_ ?_|rfl|exact bV|exact bU|exact bW rfl)),i+1,by omega,rfl,by rw [hnx]⟩
end Go.Proofs.YtamplgnbbanamaaGreatDoor
end
section
namespace Go.Proofs.YtamplgnbbanamaaGreatDoor
open Go Go.Lg Go.Lg.Fml Go.Lg.Fld Go.Lg.Arith
set_option maxRecDepth 100000
def pgOk (p:Pg):Prop:=p.rs.length≤30∧∀ r∈p.rs,r.ex.length≤12∧∀ c∈r.ex,c.length≤80
theorem pgOk.size {p:Pg} (h:pgOk p):sizeR p.rs:=fun r hr=>by
  obtain ⟨h1,h2⟩:=h.2 r hr
  exact ⟨by omega,fun c hc=>by have:=h2 c hc;omega⟩
theorem pgOk.big {p:Pg} (h:pgOk p):p.rs.length<4611686018427387904:=by have:=h.1;omega
theorem pgOk.half {p:Pg} (h:pgOk p):∀ r∈p.rs,r.ex.length≤65536∧∀ c∈r.ex,c.length≤65536:=fun r hr=>by
  obtain ⟨h1,h2⟩:=h.2 r hr
  exact ⟨by omega,fun c hc=>by have:=h2 c hc;omega⟩
variable (X:Nat→Option Obj)
section
variable (p:Pg) (ad:Option Addr) (cap:Nat) (hin:RulesIn X ad p.rs) (hs:pgOk p)
include hin hs
theorem hCheck:PSpec Tryz.prog X 12 [LPg p.va p.vb ad p.rs.length cap] (Ln .i64 (chkP p)):=kCheck X p ad cap hin hs.big hs.size
theorem hEncode:PSpec Tryz.prog X 11 [LPg p.va p.vb ad p.rs.length cap] (.tup [Ss (encPT p),Sn .i64 (chkP p)]):=kEncode X p ad cap hin hs.big hs.size
theorem hFind_yes (id:Int) {r:Rl} (h:findP p.rs id=some r):MSpec Tryz.prog X 18 [LPg p.va p.vb ad p.rs.length cap,Ln .i64 id] [] (.tup [SRs r 1000001,Sb true]) [cdB 1000001 r.ex]:=kFind_yes X p ad cap hin hs.big hs.half id h
theorem hFrom (old:Int):MSpec Tryz.prog X 20 [LPg p.va p.vb ad p.rs.length cap,Ln .i64 old] [] (.sv (.one (.slc 1000001 0 (fromP p.rs old).length 1))) [(1000001,some ⟨3,(int1 (fromP p.rs old)).map .val,true⟩)]:=kFrom X p ad cap hin (by have:=hs.1;omega) old
theorem hLines (hT:XTab X) (hz:chkP p=0):MSpec Tryz.prog X 21 [LPg p.va p.vb ad p.rs.length cap] [] (.sv (.one (.slc 1000001 0 p.rs.length 1))) [txB 1000001 (p.rs.map lineR) true]:=kLines_ok X hT p ad cap hin hs.big hs.size hz
theorem hSame (q:Pg) (bd:Option Addr) (cap2:Nat) (hin2:RulesIn X bd q.rs):PSpec Tryz.prog X 19 [LPg p.va p.vb ad p.rs.length cap,LPg q.va q.vb bd q.rs.length cap2] (Lb (decide (p=q))):=kSame X p q ad bd cap cap2 hin hin2 hs.big hs.size
end
theorem hDecode_no (s:List UInt8) (hs:s.length≤1099511627776) (h:decP s=none):PSpec Tryz.prog X 14 [Ls s] (.tup [SPg 0 0 none 0 0,Sn .i64 4]):=by
  have hM:=kDecodeM X s hs
  obtain ⟨q1,q2⟩:=kp_none h
  rw [q1,q2] at hM
  exact hM.plain
theorem hDecode_ok (s:List UInt8) (hs:s.length≤1099511627776) {p:Pg} (h:decP s=some p):MSpec Tryz.prog X 14 [Ls s] [] (.tup [.agg [.val (.int .i64 p.va),.val (.int .i64 p.vb),.slc 1000001 0 p.rs.length 3],Sn .i64 0]) [rlB 46 1000001 p.rs]:=by
  have hM:=kDecodeM X s hs
  obtain ⟨q1,q2⟩:=kp_some h
  rw [q1,q2] at hM
  exact hM
theorem hsame_lent {S:Nat→Option (Option Box)} {p q:Pg} {ad:Option Addr} {cap k:Nat} {e:TypeId} {cc:List CV} {t:TypeId} {r:Bool} (hin:RulesIn X ad p.rs) (hs:pgOk p) (he:decide (p=q)=r) (hk:S k=some (some ⟨e,cc,.res (rlR t q.rs)⟩)):
    ∀ (Y:Nat→Option Obj) (us:List Value),(∀ b o,X b=some o→Y b=some o)→LentLs S Y [LPg p.va p.vb ad p.rs.length cap,.sv (.agg [.val (.int .i64 q.va),.val (.int .i64 q.vb),.slc k 0 q.rs.length 3])] us→PSpec Tryz.prog Y 19 (us.map toLV) (Lb r):=by
  intro Y us hY hL
  obtain ⟨u1,us1,rfl,⟨av,rfl,a1,av1,rfl,g1,a2,av2,rfl,g2,a3,av3,rfl,g3,rfl⟩,u2,us2,rfl,⟨bv,rfl,b1,bv1,rfl,f1,b2,bv2,rfl,f2,b3,bv3,rfl,f3,rfl⟩,rfl⟩:=hL
  have g1:a1 = .int .i64 p.va:=g1
  have g2:a2 = .int .i64 p.vb:=g2
  have g3:a3 = .slice ad p.rs.length cap:=g3
  have f1:b1 = .int .i64 q.va:=f1
  have f2:b2 = .int .i64 q.vb:=f2
  subst g1 g2 g3 f1 f2
  obtain ⟨bb,blk,cap2,m,hk',rfl,hc,hfit,hB⟩:=f3
  rw [hk] at hk'
  simp only [Option.some.injEq] at hk'
  subst hk'
  obtain ⟨H,hR,hHY⟩:=hB
  have:=hSame Y p ad cap (hin.mono hY) hs q (some ⟨blk,0,none⟩) cap2 (hR.2.mono hHY)
  rw [he] at this
  exact this
end Go.Proofs.YtamplgnbbanamaaGreatDoor
end
section
namespace Go.Proofs.YtamplgnbbanamaaGreatDoor
open Go Go.Lg Go.Lg.Fml Go.Lg.Fld Go.Lg.Arith
set_option maxRecDepth 100000
def prog0:Pg:=⟨1,2,[⟨1,0,[]⟩,⟨2,1,[code0]⟩]⟩
theorem chk0:chkP prog0=0:=by rfl
theorem in0:InP prog0:=by
  intro r hr c hc x hx
  simp only [prog0,List.mem_cons,List.not_mem_nil,or_false] at hr
  rcases hr with rfl|rfl
  · cases hc
  · simp only [List.mem_cons,List.not_mem_nil,or_false] at hc
    subst hc
    exact (small_0 x hx).2.2.2
theorem encT0:encPT prog0=encP prog0:=if_pos chk0
theorem dec0:decP (encPT prog0)=some prog0:=by rw [encT0];exact decP_enc chk0 in0
theorem len0:20<(encPT prog0).length∧(encPT prog0).length≤1099511627776:=by rw [encT0];exact ⟨by decide,by decide⟩
theorem dg1_1:dg1 1=[49]:=by
  show Lib.itoa 1=[49]
  rw [show (1:Int)=((1:Nat):Int) from rfl]
  first
    | rfl
    | decide
    | simp [Lib.itoa,Lib.decDigits]
theorem dg1_2:dg1 2=[50]:=by
  show Lib.itoa 2=[50]
  rw [show (2:Int)=((2:Nat):Int) from rfl]
  first
    | rfl
    | decide
    | simp [Lib.itoa,Lib.decDigits]
def line1:List UInt8:=[102,114,101,115,104,32,49]
def line2:List UInt8:=[50,32,102,114,111,109,32,49,32,109,117,108,40,102,48,46,48,44,50,41]
theorem lines0:prog0.rs.map lineR=[line1,line2]:=by
  show [lineR ⟨1,0,[]⟩,lineR ⟨2,1,[code0]⟩]=_
  have h1:lineR ⟨1,0,[]⟩=line1:=by
    show [102,114,101,115,104,32]++dg1 1=_
    rw [dg1_1];rfl
  have h2:lineR ⟨2,1,[code0]⟩=line2:=by
    show ((dg1 2++[32,102,114,111,109,32])++dg1 1)++((32::showX code0)++[])=_
    rw [dg1_1,dg1_2,show0];rfl
  rw [h1,h2]
theorem from0:fromP prog0.rs 1=[2]:=by rfl
theorem find0:findP prog0.rs 2=some ⟨2,1,[code0]⟩:=by rfl
theorem ok0:pgOk prog0:=⟨by decide,by
  intro r hr
  simp only [prog0,List.mem_cons,List.not_mem_nil,or_false] at hr
  rcases hr with rfl|rfl
  · exact ⟨by decide,fun c hc=>by cases hc⟩
  · exact ⟨by decide,fun c hc=>by
      simp only [List.mem_cons,List.not_mem_nil,or_false] at hc
      subst hc
      decide⟩⟩
theorem smallR0:∀ r∈prog0.rs,smallR r:=by
  intro r hr
  simp only [prog0,List.mem_cons,List.not_mem_nil,or_false] at hr
  rcases hr with rfl|rfl<;>exact ⟨by decide,by decide⟩
variable (X:Nat→Option Obj)
abbrev izs12:List Value:=[.int .i64 0,.int .i64 0,.int .i64 0,.bool false,.int .u64 0,.int .u64 0]
abbrev rzs12:List Value:=[.int .i64 0,.int .i64 0,.slice none 0 0]
set_option maxHeartbeats 12800000 in
theorem awake12_spec (hTab:XTab X):PSpec Tryz.prog X 7 [] (Lb true):=by
  have o2:=Of_spec X 2 (by decide)
  refine cF Tryz.func7 rfl (by kernel_rfl) rfl rfl ?_
  intro C
  (refine aA<|rgN<|kas O<|aB<|aA<|rgN<|aT O O (by exact O) (by exact nl6 O O O O O O O) dR ?_;refine kca O O (o2)<|aT O O (by exact O) (by exact nl6 O O O O O O O) dR ?_;refine aT O O (by exact O) (by exact nl6 O O O O O O O) dR ?_;refine aZ (zs:=(List.replicate 3 izs12).flatten) (sz:=6) (e:=66) (cs':=(inssV code0).map .val) (by kernel_rfl) O O O O O O dR<|kas O<|aB<|aA ?_)
  refine LWP.le (σ':=⟨[(1,.sv (.one (.slc 17 0 3 6)))],[(17,some ⟨66,(inssV code0).map .val,false⟩)],X⟩) (Le.of (by exact ⟨O,trivial⟩) (by exact ⟨O,trivial⟩) (by exact O) (by exact O) (by repeat' (first|refine bT ?_ ?_|rfl|exact bV|exact bU|exact bW O))) ?_
  refine LWP.freeze O O O ?_
  intro blk cap arr fr hXn hFz hcp hfit hsp
  have hin1:InsIn (withBlock X blk (.cells arr 66 fr)) (some ⟨blk,0,none⟩) code0:=ins_in (cN _ _ _) small_0 hsp
  replace hTab:XTab (withBlock X blk (.cells arr 66 fr)):=xtab_mono (cJ hXn) hTab
  generalize withBlock X blk (.cells arr 66 fr)=Y at *
  (refine rgN<|aT O O (by exact O) (by exact nl3 O O O O) dR ?_;refine kmv O<|aZ (zs:=[.slice none 0 0]) (sz:=1) (e:=68) (cs':=[.val (.slice (some ⟨blk,0,none⟩) 3 cap)]) (by kernel_rfl) O O O O O O dR<|aT O O (by exact O) (by exact nl3 O O O O) dR ?_;refine aZ (zs:=(List.replicate 2 rzs12).flatten) (sz:=3) (e:=46) (cs':=[.val (.int .i64 1),.val (.int .i64 0),.val (.slice none 0 0),.val (.int .i64 2),.val (.int .i64 1),.slc 20 0 1 1]) (by kernel_rfl) O O O O O O dR<|aT O O (by exact O) (by exact nl3 O O O O) dR ?_;refine aP O dR ?_;refine aM O O O O O O dR ?_;refine aB<|aA ?_)
  refine LWP.le (σ':=⟨[(2,Lp 2)],[(22,some ⟨46,[.val (.int .i64 1),.val (.int .i64 0),.val (.slice none 0 0),.val (.int .i64 2),.val (.int .i64 1)] ++ .slc 20 0 1 1::[],false⟩),(20,some ⟨68,[Value.slice (some ⟨blk,0,none⟩) 3 cap].map .val,false⟩),(2,some ⟨24,[.val (.int .i64 1),.val (.int .i64 2),.slc 22 0 2 3],false⟩)],Y⟩) (Le.of (by exact ⟨O,trivial⟩) (by exact ⟨O,O,O,trivial⟩) (by exact O) (by exact O) (by repeat' (first|refine bT ?_ ?_|rfl|exact bV|exact bU|exact bW O))) ?_
  refine LWP.freezeCell O O O O O O ?_
  intro b2 c2 arr2 fr2 hn2 _ _ _ hsp2
  have hin2:CodesIn (withBlock Y b2 (.cells arr2 68 fr2)) (some ⟨b2,0,none⟩) [code0]:=by
    obtain ⟨sp,e⟩:=hsp2
    exact forms_block (cN _ _ _) e (FormsH.nil.push ⟨_,_,O,hin1.mono (cJ hn2)⟩)
  replace hTab:XTab (withBlock Y b2 (.cells arr2 68 fr2)):=xtab_mono (cJ hn2) hTab
  generalize withBlock Y b2 (.cells arr2 68 fr2)=Y2 at *
  refine LWP.le (σ':=⟨[(2,Lp 2)],[(2,some ⟨24,[.val (.int .i64 1),.val (.int .i64 2)] ++ .slc 22 0 2 3::[],false⟩),(22,some ⟨46,(rwZ prog0.rs [.slice none 0 0,.slice (some ⟨b2,0,none⟩) 1 c2]).map .val,false⟩)],Y2⟩) (Le.of (by exact ⟨O,trivial⟩) (by exact ⟨O,O,trivial⟩) (by exact O) (by exact O) (by repeat' (first|refine bT ?_ ?_|rfl|exact bV|exact bU|exact bW O))) ?_
  refine LWP.freezeCell O O O O O O ?_
  intro b3 c3 arr3 fr3 hn3 _ _ _ hsp3
  have hin:RulesIn (withBlock Y2 b3 (.cells arr3 46 fr3)) (some ⟨b3,0,none⟩) prog0.rs:=by
    obtain ⟨sp,e⟩:=hsp3
    exact rules_block (cN _ _ _) e ((RulesH.nil.push CodesIn.nilIn).push ⟨_,_,O,hin2.mono (cJ hn3)⟩) smallR0
  replace hTab:XTab (withBlock Y2 b3 (.cells arr3 46 fr3)):=xtab_mono (cJ hn3) hTab
  generalize withBlock Y2 b3 (.cells arr3 46 fr3)=Z at *
  refine LWP.le (σ':=⟨[(2,Lp 2)],[v3B 24 2 1 2 (some ⟨b3,0,none⟩) 2 c3],Z⟩) (Le.of (by exact ⟨O,trivial⟩) (by exact ⟨O,trivial⟩) (by exact O) (by exact O) (by repeat' (first|refine bT ?_ ?_|rfl|exact bV|exact bU|exact bW O))) ?_
  have hE:PSpec Tryz.prog Z 11 [LPg 1 2 (some ⟨b3,0,none⟩) 2 c3] (.tup [Ss (encPT prog0),Sn .i64 (chkP prog0)]):=hEncode Z prog0 _ c3 hin ok0
  rw [chk0] at hE
  have hD:MSpec Tryz.prog Z 14 [Ls (encPT prog0)] [] (.tup [.agg [.val (.int .i64 1),.val (.int .i64 2),.slc 1000001 0 2 3],Sn .i64 0]) [rlB 46 1000001 prog0.rs]:=hDecode_ok Z _ len0.2 dec0
  have hD7:=hDecode_no Z [77] (by decide) (decP_short (by decide))
  have hF:MSpec Tryz.prog Z 18 [LPg 1 2 (some ⟨b3,0,none⟩) 2 c3,Ln .i64 2] [] (.tup [SRs ⟨2,1,[code0]⟩ 1000001,Sb true]) [cdB 1000001 [code0]]:=hFind_yes Z prog0 _ c3 hin ok0 2 find0
  have hL:MSpec Tryz.prog Z 21 [LPg 1 2 (some ⟨b3,0,none⟩) 2 c3] [] (.sv (.one (.slc 1000001 0 2 1))) [txB 1000001 [line1,line2] true]:=by
    have h:=hLines Z prog0 (some ⟨b3,0,none⟩) c3 hin ok0 hTab chk0
    rw [lines0] at h
    exact h
  have hR:MSpec Tryz.prog Z 20 [LPg 1 2 (some ⟨b3,0,none⟩) 2 c3,Ln .i64 1] [] (.sv (.one (.slc 1000001 0 1 1))) [(1000001,some ⟨3,(int1 [2]).map .val,true⟩)]:=by
    have h:=hFrom Z prog0 (some ⟨b3,0,none⟩) c3 hin ok0 1
    rw [from0] at h
    exact h
  have hS:=fun S e cc hk=>hsame_lent Z (S:=S) (p:=prog0) (q:=prog0) (cap:=c3) (k:=601) (e:=e) (cc:=cc) (t:=46) (r:=true) hin ok0 (cP rfl) hk
  have hC:PSpec Tryz.prog Z 12 [LPg 0 0 none 0 0] (Ln .i64 1):=hCheck Z ⟨0,0,[]⟩ none 0 RulesIn.nil ⟨by decide,fun r hr=>by cases hr⟩
  have hlen:(⟨(encPT prog0).toArray⟩:ByteArray).size=(encPT prog0).length:=rfl
  have hl20:=len0.1
  generalize encPT prog0=bytes at *
  (refine rgN<|aK O O O dR ?_;refine kca O O hE<|kmv O<|kex O O<|kex O O<|kas O<|kas O<|aB<|aA<|rgN<|kmv O<|bE [(1000001,601)] (.tup [.agg [.val (.int .i64 1),.val (.int .i64 2),.slc 601 0 2 3],Sn .i64 0]) [rlB 46 601 prog0.rs] (hD) O O (by exact trivial) O O O O O (by exact (.box O O .nil)) dR<|kmv O<|kex O O<|kex O O ?_;refine aP O dR ?_;refine aM O O O O O O dR ?_;refine kas O<|aB<|aA<|rgN<|kca O O hD7<|kmv O<|kex O O<|kex O O<|aP O dR ?_;refine aM O O O O O O dR ?_;refine kas O<|aB<|aA<|rgN<|aK O O O dR ?_;refine bE [(1000001,602)] (.sv (.one (.slc 602 0 2 1))) [txB 602 [line1,line2] true] (hL) O O (by exact trivial) O O O O O (by exact (.box O O .nil)) dR<|kas O<|aB<|aA<|rgN<|aK O O O dR ?_;refine bE [(1000001,604)] (.tup [SRs ⟨2,1,[code0]⟩ 604,Sb true]) [cdB 604 [code0]] (hF) O O (by repeat' (first|exact trivial|refine cQ ⟨_,O,?_⟩ ?_|refine cQ ⟨_,O⟩ ?_|rfl|exact bX _ _ _ _|exact bY _ _ _ _|exact bZ O)) (by repeat' (first|refine bT ?_ ?_|rfl|exact bV|exact bU|exact bW O)) O O O O (by repeat' (first|exact .nil|refine .box O ?_ ?_|refine .dead O ?_|rfl|exact bX _ _ _ _|exact bY _ _ _ _|exact bZ O)) dR ?_;refine kmv O<|kex O O<|kex O O<|aP O dR ?_;refine aM O O O O O O dR ?_;refine kas O<|aB<|aA<|rgN<|aK O O O dR ?_;refine bE [(1000001,603)] (.sv (.one (.slc 603 0 1 1))) [(603,some ⟨3,(int1 [2]).map .val,true⟩)] (hR) O O (by exact trivial) O O O O O (by exact (.box O O .nil)) dR<|kas O<|aB<|aA ?_)
  refine LWP.le (σ':=⟨[(2,Lp 2),(3,Ls bytes),(4,Ln .i64 0),(5,Lp 5),(6,Ln .i64 0),(8,Ln .i64 4),(9,.sv (.one (.slc 602 0 2 1))),(10,Lp 10),(11,Lb true),(12,.sv (.one (.slc 603 0 1 1)))],[v3B 24 2 1 2 (some ⟨b3,0,none⟩) 2 c3,(5,some ⟨24,[.val (.int .i64 1),.val (.int .i64 2),.slc 601 0 2 3],false⟩),rlB 46 601 prog0.rs,txB 602 [line1,line2] true,(10,some ⟨46,[.val (.int .i64 2),.val (.int .i64 1),.slc 604 0 1 1],false⟩),(603,some ⟨3,(int1 [2]).map .val,true⟩),cdB 604 [code0]],Z⟩) (Le.of (by exact ⟨O,O,O,O,O,O,O,O,O,O,trivial⟩) (by exact ⟨O,O,O,O,O,O,O,trivial⟩) (by exact O) (by exact O) (by repeat' (first|refine bT ?_ ?_|rfl|exact bV|exact bU|exact bW O))) ?_
  ((refine rgN<|kmv O<|keq O O (r:=true) O<|kmv O<|gmv O O O<|K.lenStr O (dS O O) ?_;refine aS O O (cP (by rw [hlen];omega)) (dS O O) ?_;refine kpt O O<|kmv O<|gmv O O O<|bC O O (r:=true) O (dS O O) ?_;refine kpt O O<|kmv O<|aK O O O (dS O O) ?_;refine aK O O O (dS O O) ?_;refine K.callL [601] O O O (hS _ _ _ O) (dS O O) ?_;refine kpt O O<|kmv O<|gmv O O O<|bC O O (r:=true) O (dS O O) ?_;refine kpt O O<|kmv O<|gmv O O O<|K.lenSlc O cC O (dS O O) ?_;refine bC O O (r:=true) O (dS O O) ?_;refine kpt O O<|kmv O<|gmv O O O<|K.indexSlc O O (by decide) O (dS O O) ?_;refine aO O O O (dS O O) ?_;refine K.strEq O O (strs_eq (r:=true) (by decide)) (dS O O) ?_);(refine kpt O O<|kmv O<|gmv O O O<|K.indexSlc O O (by decide) O (dS O O) ?_;refine aO O O O (dS O O) ?_;refine K.strEq O O (strs_eq (r:=true) (by decide)) (dS O O) ?_;refine kpt O O<|kmv O<|gmv O O O<|kpt O O<|kmv O<|aN O O (dS O O) ?_;refine aO O O O (dS O O) ?_;refine bC O O (r:=true) O (dS O O) ?_;refine kpt O O<|kmv O<|gmv O O O<|K.lenSlc O cC O (dS O O) ?_;refine bC O O (r:=true) O (dS O O) ?_;refine kpt O O<|kmv O<|gmv O O O<|K.indexSlc O O (by decide) O (dS O O) ?_;refine aO O O O (dS O O) ?_;refine bC O O (r:=true) O (dS O O) ?_;refine kpt O O<|kmv O<|aT O O (by exact O) (by exact nl3 O O O O) (dS O O) ?_);(refine gca O O hC O O<|bC O O (r:=true) O (dS O O) ?_;refine kpt O O<|kas O<|aB<|aI ?_))
  exact ⟨[_],⟨O,trivial⟩,O⟩
end Go.Proofs.YtamplgnbbanamaaGreatDoor
end
section
namespace Go.Proofs.YtamplgnbbanamaaGreatDoor
open Go Go.Lg Go.Lg.Fml Go.Lg.Fld Go.Lg.Arith
set_option maxRecDepth 100000
def IntsI (X:Nat→Option Obj) (ad:Option Addr) (l:List Int):Prop:=Go.Lg.RowsIn X ad 1 (l.map fun n=>[.int .i64 n])
theorem ok_of_grt {p:Pg} (h:grtP p.rs=false):pgOk p:=grtP_false h
variable (X:Nat→Option Obj)
end Go.Proofs.YtamplgnbbanamaaGreatDoor
end
section
namespace Go.Proofs.YtamplgnbbanamaaGreatDoor
open Go Go.Lg Go.Lg.Fml Go.Lg.Fld Go.Lg.Arith
set_option maxRecDepth 100000
theorem ok_of_chk {p:Pg} (h:chkP p=0):pgOk p:=by
  have h24:=(chkP_zero h).2.2.2
  refine ⟨by omega,fun r hr => ?_⟩
  obtain ⟨_,_,h8,he⟩:=kok_rules h r hr
  refine ⟨by omega,fun c hc => ?_⟩
  have h0:=he c hc
  by_cases hz:chkX c=0
  · have:=(chkX_zero hz).1;omega
  · exact absurd ((if_neg hz:encErr c=chkX c)▸h0) hz
variable (X:Nat→Option Obj)
theorem lent_rl {S:Nat→Option (Option Box)} {Y:Nat→Option Obj} {k n:Nat} {rs:List Rl} {t e:TypeId} {cc:List CV} {u:Value} (hk:S k=some (some ⟨e,cc,.res (rlR t rs)⟩)) (hu:LentC S Y (.slc k 0 n 3) u):∃ (blk cap:Nat),u = .slice (some ⟨blk,0,none⟩) n cap∧RulesIn Y (some ⟨blk,0,none⟩) rs:=by
  obtain ⟨b,blk,cap2,m,hk',rfl,hc,hfit,hB⟩:=hu
  rw [hk] at hk'
  simp only [Option.some.injEq] at hk'
  subst hk'
  obtain ⟨H,hR,hHY⟩:=hB
  exact ⟨blk,cap2,O,hR.2.mono hHY⟩
end Go.Proofs.YtamplgnbbanamaaGreatDoor
end
section
namespace Go.Proofs.YtamplgnbbanamaaGreatDoor
open Go Go.Lg Go.Lg.Fml Go.Lg.Fld Go.Lg.Arith
set_option maxRecDepth 100000
variable (X:Nat→Option Obj)
set_option maxHeartbeats 25600000 in
theorem rDecode12 (s:List UInt8) (hb:s.length≤65536):MSpec Tryz.prog X 15 [Ls s] [] (dpR s) (dpBx s):=by
  refine cG Tryz.func15 rfl (by kernel_rfl) rfl (dpR_use s) (dpBx_use s) rfl rfl ?_
  intro C
  refine LWP.ends ?_
  have hlen:(⟨s.toArray⟩:ByteArray).size=s.length:=rfl
  by_cases h10:s.length<10
  · (refine aA<|rgN<|aP O dR ?_;refine kas O<|aB<|aA<|rgN<|aT O O (by exact O) (by exact nl3 O O O O) dR ?_;refine aP O dR ?_;refine aM O O O O O O dR ?_;refine aB<|aA<|aA<|rgN<|kmv O<|kln O<|klt O O (cP (by rw [hlen];omega))<|kmv O<|aC O O O<|aC O O O<|aC O O O<|kpt O O<|aB<|aE O ?_;refine aA<|rgN<|aK O O O dR ?_;refine aM O O O O O O dR ?_;refine kas O<|aB<|aI ?_)
    obtain ⟨q1,q2⟩:=dpR_none (decP_short h10)
    rw [q1,q2]
    exact cD ⟨[],⟨[_,_],⟨⟨_,_,rfl,rfl,rfl,.inl ⟨AggT.h,rfl⟩⟩,rfl,trivial⟩,rfl⟩,(by repeat' (first|exact trivial|refine cQ ⟨_,rfl,?_⟩ ?_|refine cQ ⟨_,rfl⟩ ?_|rfl|exact bX _ _ _ _|exact bY _ _ _ _|exact bZ rfl)),rfl,rfl⟩
  obtain ⟨c,a0,a1,a2,a3,b0,b1,b2,b3,nb,r,hl⟩:∃ c a0 a1 a2 a3 b0 b1 b2 b3 nb r,s=c::a0::a1::a2::a3::b0::b1::b2::b3::nb::r:=by
    match s,h10 with
    | c::a0::a1::a2::a3::b0::b1::b2::b3::nb::r,_=>exact ⟨c,a0,a1,a2,a3,b0,b1,b2,b3,nb,r,rfl⟩
    | [],h=>exact absurd (by simp) h
    | [_],h=>exact absurd (by simp) h
    | [_,_],h=>exact absurd (by simp) h
    | [_,_,_],h=>exact absurd (by simp) h
    | [_,_,_,_],h=>exact absurd (by simp) h
    | [_,_,_,_,_],h=>exact absurd (by simp) h
    | [_,_,_,_,_,_],h=>exact absurd (by simp) h
    | [_,_,_,_,_,_,_],h=>exact absurd (by simp) h
    | [_,_,_,_,_,_,_,_],h=>exact absurd (by simp) h
    | [_,_,_,_,_,_,_,_,_],h=>exact absurd (by simp) h
  have hg0:(⟨s.toArray⟩:ByteArray)[(0:Int).toNat]? = some c:=str_at (by rw [hl];rfl)
  by_cases hm:c=77
  case neg =>
    have hne0:(((c.toNat:Nat):Int) != 77)=true:=by
      rw [bne_iff_ne]
      intro e
      exact hm (UInt8.toNat_inj.1 (by have e2:c.toNat=77:=by omega
                                      exact e2))
    (refine aA<|rgN<|aP O dR ?_;refine kas O<|aB<|aA<|rgN<|aT O O (by exact O) (by exact nl3 O O O O) dR ?_;refine aP O dR ?_;refine aM O O O O O O dR ?_;refine aB<|aA<|aA<|rgN<|kmv O<|kln O<|klt O O (cO (by rw [hlen];omega))<|kmv O<|gmv O O O<|bB O O (by omega) hg0 (dS O O) ?_;refine aX O O hne0 (dS O O) ?_;refine kpf O O<|aB<|aE O ?_;refine aA<|rgN<|aK O O O dR ?_;refine aM O O O O O O dR ?_;refine kas O<|aB<|aI ?_)
    obtain ⟨q1,q2⟩:=dpR_none (show decP s=none by rw [hl];exact decP_head hm)
    rw [q1,q2]
    exact cD ⟨[],⟨[_,_],⟨⟨_,_,rfl,rfl,rfl,.inl ⟨AggT.h,rfl⟩⟩,rfl,trivial⟩,rfl⟩,(by repeat' (first|exact trivial|refine cQ ⟨_,rfl,?_⟩ ?_|refine cQ ⟨_,rfl⟩ ?_|rfl|exact bX _ _ _ _|exact bY _ _ _ _|exact bZ rfl)),rfl,rfl⟩
  subst hm
  have hg9:(⟨s.toArray⟩:ByteArray)[(9:Int).toNat]? = some nb:=str_at (by rw [hl];rfl)
  have hd10:s.drop 10=r:=by rw [hl];rfl
  have hdec:=decP_long a0 a1 a2 a3 b0 b1 b2 b3 nb r
  rw [← hl,← hd10] at hdec
  have hc1:(⟨s.toArray⟩:ByteArray).extract 1 5=⟨[a0,a1,a2,a3].toArray⟩:=by rw [str_cut,hl];rfl
  have hc2:(⟨s.toArray⟩:ByteArray).extract 5 9=⟨[b0,b1,b2,b3].toArray⟩:=by rw [str_cut,hl];rfl
  have hN1:=rNumber12 X [a0,a1,a2,a3] rfl
  have hN2:=rNumber12 X [b0,b1,b2,b3] rfl
  have h5s:5≤(⟨s.toArray⟩:ByteArray).size:=by rw [hlen];omega
  have h9s:9≤(⟨s.toArray⟩:ByteArray).size:=by rw [hlen];omega
  generalize [a0,a1,a2,a3]=A at *
  generalize [b0,b1,b2,b3]=B at *
  generalize le A=va at *
  generalize le B=vb at *
  have hnone:getRls nb.toNat (s.drop 10)=none→decP s=none:=fun h=>by rw [hdec,h]
  have hsome:∀ l,getRls nb.toNat (s.drop 10)=some (l,[])→decP s=if chkP ⟨(va:Nat),(vb:Nat),l⟩=0 then some ⟨(va:Nat),(vb:Nat),l⟩ else none:=fun l h=>by rw [hdec,h]
  have hrest:∀ l r,getRls nb.toNat (s.drop 10)=some (l,r)→r≠[]→decP s=none:=fun l r h hr=>by
    rw [hdec,h]
    cases r with
    | nil=>exact absurd rfl hr
    | cons=>rfl
  clear hdec hd10 hl
  have hnbb:=nb.toNat_lt
  have hw:∀ v:UInt8,IntKind.i64.wrap ((v.toNat:Nat):Int)=((v.toNat:Nat):Int):=fun v=>cH (by have:=v.toNat_lt;omega)
  (refine aA<|rgN<|aP O dR ?_;refine kas O<|aB<|aA<|rgN<|aT O O (by exact O) (by exact nl3 O O O O) dR ?_;refine aP O dR ?_;refine aM O O O O O O dR ?_;refine aB<|aA<|aA<|rgN<|kmv O<|kln O<|klt O O (cO (by rw [hlen];omega))<|kmv O<|gmv O O O<|bB O O (by omega) hg0 (dS O O) ?_;refine aX O O (r:=false) (by decide) (dS O O) ?_;refine kpf O O<|aB<|aF O ?_;refine aH ?_;refine aA<|rgD mixed<|kmv O<|bN (l:=1) (h:=5) (kl:=.i64) (kh:=.i64) O StrT.u O O ⟨(by omega),h5s⟩ hc1 dR<|kca O O hN1<|kmv O<|bN (l:=5) (h:=9) (kl:=.i64) (kh:=.i64) O StrT.u O O ⟨(by omega),h9s⟩ hc2 dR<|kca O O hN2<|aT O O (by exact O) (by exact nl3 O O O O) dR ?_;refine aP O dR ?_;refine aM O O O O O O dR ?_;refine aB<|rgA ?_;refine aA<|rgN<|kas O<|aB<|aA<|aA<|rgN<|kas O<|aB<|aG ?_)
  refine cM (fun m σ=>∃ (at_:Nat) (ls:List Rl) (ws:List Value) (H:Nat→Option Obj),ls.length≤nb.toNat∧m=nb.toNat-ls.length∧10≤at_∧at_≤s.length∧getRls ls.length (s.drop 10)=some (ls,s.drop at_)∧OwnedM C X H∧RulesH H ws ls∧((ls=[]∧σ=⟨[(0,Ls s),(2,Lp 2),(4,Lp 4),(5,Lp 5),(6,Ln .i64 (at_:Nat)),(7,Ln .i64 (ls.length:Nat))],[v3B 29 5 (va:Nat) (vb:Nat) none 0 0,v3B 29 4 0 0 none 0 0,v3B 29 2 0 0 none 0 0],joinM X H⟩)∨(ls≠[]∧σ=⟨[(0,Ls s),(2,Lp 2),(4,Lp 4),(5,Lp 5),(6,Ln .i64 (at_:Nat)),(7,Ln .i64 (ls.length:Nat))],[(600,some ⟨51,(rwZ (ls) (ws)).map .val,true⟩),(5,some ⟨29,[.val (.int .i64 (va:Nat)),.val (.int .i64 (vb:Nat)),.slc 600 0 (ls.length) 3],false⟩),v3B 29 4 0 0 none 0 0,v3B 29 2 0 0 none 0 0],joinM X H⟩))) nb.toNat
    (cE (σ':=⟨[(0,Ls s),(2,Lp 2),(4,Lp 4),(5,Lp 5),(6,Ln .i64 (10:Nat)),(7,Ln .i64 (0:Nat))],[v3B 29 5 (va:Nat) (vb:Nat) none 0 0,v3B 29 4 0 0 none 0 0,v3B 29 2 0 0 none 0 0],X⟩) (Le.of (by exact ⟨rfl,rfl,rfl,rfl,rfl,rfl,trivial⟩) (by exact ⟨rfl,rfl,rfl,trivial⟩) (by exact rfl) (by exact rfl) (by repeat' (first|refine bT ?_ ?_|rfl|exact bV|exact bU|exact bW rfl))) (cD ⟨10,[],[],fun _=>none,Nat.zero_le _,rfl,by omega,by omega,rfl,OwnedM.nil _ _,RulesH.nil,.inl ⟨rfl,by rw [joinM_nil];rfl⟩⟩)) ?_
  rintro m σ ⟨at_,ls,ws,H,hln,rfl,hat1,hat_,hrs,hO,GR,hst⟩
  rcases hst with ⟨hce,rfl⟩|⟨hce,rfl⟩
  · have hcle:ws=[]:=List.eq_nil_of_length_eq_zero (by rw [GR.len,hce];rfl)
    as_aux_lemma =>
      by_cases hlt:ls.length<nb.toNat
      case neg =>
        have e:ls.length=nb.toNat:=by omega
        rw [e] at hrs
        obtain ⟨_,_,hok⟩:=getRls_back hrs
        have hsr:∀ r∈ls,smallR r:=fun r hr=>small_rl (hok r hr)
        by_cases hend:at_=s.length
        · rw [List.drop_eq_nil_of_le (show s.length≤at_ by omega)] at hrs
          have hS:=hsome ls hrs
          have hne1:(((at_:Nat):Int) != ((⟨s.toArray⟩:ByteArray).size:Int))=false:=by rw [hlen,hend];simp
          have hck:PSpec Tryz.prog (joinM X H) 10 [LPg (va:Nat) (vb:Nat) none 0 0] (Ln .i64 (chkP ⟨(va:Nat),(vb:Nat),ls⟩)):=by
            rw [hce]
            exact rCheck12 (joinM X H) ⟨(va:Nat),(vb:Nat),[]⟩ none 0 RulesIn.nil (by show 0<4611686018427387904;decide) (fun c h=>(by cases h))
          by_cases hz:chkP ⟨(va:Nat),(vb:Nat),ls⟩=0
          · rw [if_pos hz] at hS
            rw [hz] at hck
            (refine aA<|aA<|rgN<|kmv O<|kmv O<|bB O O (by omega) hg9 dR<|kcv O (hw _) ?_;refine klt O O (cO (by omega))<|aB<|aF O ?_;refine aJ<|aA<|aA<|rgN<|kmv O<|kmv O<|kln O<|kne O O hne1<|kmv O<|aK O O O (dS O O) ?_;refine gca O O hck O O<|aX O O (r:=false) (by decide) (dS O O) ?_;refine kpf O O<|aB<|aF O ?_;refine aH ?_;refine aA<|rgN<|aK O O O dR ?_;refine aM O O O O O O dR ?_;refine kas O<|aB<|aI ?_)
            obtain ⟨q1,q2⟩:=dpR_nil hS (by show ls.length=0;rw [hce];rfl)
            rw [q1,q2]
            refine cE (σ':=⟨[(2,Lp 2),(3,Lb true)],[v3B 29 2 (va:Nat) (vb:Nat) none 0 0],joinM X H⟩) (Le.of (by exact ⟨O,O,trivial⟩) (by exact ⟨O,trivial⟩) (by exact O) (by exact O) (by repeat' (first|refine bT ?_ ?_|rfl|exact bV|exact bU|exact bW O))) ?_
            refine cE (Le.drop fun b o h=>joinM_has hO h) (cD ?_)
            exact ⟨[],⟨[_,_],⟨⟨_,_,rfl,rfl,rfl,.inl ⟨AggT.h,rfl⟩⟩,rfl,trivial⟩,rfl⟩,(by repeat' (first|exact trivial|refine cQ ⟨_,rfl,?_⟩ ?_|refine cQ ⟨_,rfl⟩ ?_|rfl|exact bX _ _ _ _|exact bY _ _ _ _|exact bZ rfl)),rfl,rfl⟩
          · rw [if_neg hz] at hS
            have hne2:(chkP ⟨(va:Nat),(vb:Nat),ls⟩ != 0)=true:=by rw [bne_iff_ne];exact hz
            generalize chkP ⟨(va:Nat),(vb:Nat),ls⟩=ce at *
            (refine aA<|aA<|rgN<|kmv O<|kmv O<|bB O O (by omega) hg9 dR<|kcv O (hw _) ?_;refine klt O O (cO (by omega))<|aB<|aF O ?_;refine aJ<|aA<|aA<|rgN<|kmv O<|kmv O<|kln O<|kne O O hne1<|kmv O<|aK O O O (dS O O) ?_;refine gca O O hck O O<|aX O O hne2 (dS O O) ?_;refine kpf O O<|aB<|aE O ?_;refine aA<|rgN<|aK O O O dR ?_;refine aM O O O O O O dR ?_;refine kas O<|aB<|aI ?_)
            obtain ⟨q1,q2⟩:=dpR_none (show decP s=none from hS)
            rw [q1,q2]
            refine cE (σ':=⟨[(2,Lp 2),(3,Lb false)],[v3B 29 2 0 0 none 0 0],joinM X H⟩) (Le.of (by exact ⟨O,O,trivial⟩) (by exact ⟨O,trivial⟩) (by exact O) (by exact O) (by repeat' (first|refine bT ?_ ?_|rfl|exact bV|exact bU|exact bW O))) ?_
            refine cE (Le.drop fun b o h=>joinM_has hO h) (cD ?_)
            exact ⟨[],⟨[_,_],⟨⟨_,_,rfl,rfl,rfl,.inl ⟨AggT.h,rfl⟩⟩,rfl,trivial⟩,rfl⟩,(by repeat' (first|exact trivial|refine cQ ⟨_,rfl,?_⟩ ?_|refine cQ ⟨_,rfl⟩ ?_|rfl|exact bX _ _ _ _|exact bY _ _ _ _|exact bZ rfl)),rfl,rfl⟩
        · have hne1:(((at_:Nat):Int) != ((⟨s.toArray⟩:ByteArray).size:Int))=true:=by rw [bne_iff_ne,hlen];omega
          (refine aA<|aA<|rgN<|kmv O<|kmv O<|bB O O (by omega) hg9 dR<|kcv O (hw _) ?_;refine klt O O (cO (by omega))<|aB<|aF O ?_;refine aJ<|aA<|aA<|rgN<|kmv O<|kmv O<|kln O<|kne O O hne1<|kmv O<|aC O O O<|aC O O O<|aC O O O<|kpt O O<|aB ?_;refine aE O ?_;refine aA<|rgN<|aK O O O dR ?_;refine aM O O O O O O dR ?_;refine kas O<|aB<|aI ?_)
          obtain ⟨q1,q2⟩:=dpR_none (show decP s=none from hrest ls _ hrs (fun h=>hend (by have:=congrArg List.length h;rw [dA,dO] at this;omega)))
          rw [q1,q2]
          refine cE (σ':=⟨[(2,Lp 2),(3,Lb false)],[v3B 29 2 0 0 none 0 0],joinM X H⟩) (Le.of (by exact ⟨O,O,trivial⟩) (by exact ⟨O,trivial⟩) (by exact O) (by exact O) (by repeat' (first|refine bT ?_ ?_|rfl|exact bV|exact bU|exact bW O))) ?_
          refine cE (Le.drop fun b o h=>joinM_has hO h) (cD ?_)
          exact ⟨[],⟨[_,_],⟨⟨_,_,rfl,rfl,rfl,.inl ⟨AggT.h,rfl⟩⟩,rfl,trivial⟩,rfl⟩,(by repeat' (first|exact trivial|refine cQ ⟨_,rfl,?_⟩ ?_|refine cQ ⟨_,rfl⟩ ?_|rfl|exact bX _ _ _ _|exact bY _ _ _ _|exact bZ rfl)),rfl,rfl⟩
      have p3:IntKind.i64.wrap ((at_:Int)+3)=((at_+3:Nat):Int):=by rw [cH (by omega)];omega
      have p2:IntKind.i64.wrap ((at_:Int)+2)=((at_+2:Nat):Int):=by rw [cH (by omega)];omega
      have p1:IntKind.i64.wrap ((at_:Int)+1)=((at_+1:Nat):Int):=by rw [cH (by omega)];omega
      by_cases h3:at_+3≤s.length
      case neg =>
        (refine aA<|aA<|rgN<|kmv O<|kmv O<|bB O O (by omega) hg9 dR<|kcv O (hw _) ?_;refine klt O O (cP (by omega))<|aB<|aE O ?_;refine aH ?_;refine aA<|aG<|aA<|aA<|rgN<|kmv O<|kad O O p3<|kmv O<|kln O<|aS O O (cP (by rw [hlen];omega)) dR<|aB<|aE O ?_;refine aA<|rgN<|aK O O O dR ?_;refine aM O O O O O O dR ?_;refine kas O<|aB<|aI ?_)
        obtain ⟨q1,q2⟩:=dpR_none (show decP s=none from hnone (getRls_fail hrs (by omega) (getRl_short (by rw [dA];omega))))
        rw [q1,q2]
        refine cE (σ':=⟨[(2,Lp 2),(3,Lb false)],[v3B 29 2 0 0 none 0 0],joinM X H⟩) (Le.of (by exact ⟨O,O,trivial⟩) (by exact ⟨O,trivial⟩) (by exact O) (by exact O) (by repeat' (first|refine bT ?_ ?_|rfl|exact bV|exact bU|exact bW O))) ?_
        refine cE (Le.drop fun b o h=>joinM_has hO h) (cD ?_)
        exact ⟨[],⟨[_,_],⟨⟨_,_,rfl,rfl,rfl,.inl ⟨AggT.h,rfl⟩⟩,rfl,trivial⟩,rfl⟩,(by repeat' (first|exact trivial|refine cQ ⟨_,rfl,?_⟩ ?_|refine cQ ⟨_,rfl⟩ ?_|rfl|exact bX _ _ _ _|exact bY _ _ _ _|exact bZ rfl)),rfl,rfl⟩
      obtain ⟨n0,hn0⟩:∃ x,s[at_]? = some x:=⟨_,cX (by omega)⟩
      obtain ⟨n1,hn1⟩:∃ x,s[at_+1]? = some x:=⟨_,cX (by omega)⟩
      obtain ⟨n2,hn2⟩:∃ x,s[at_+2]? = some x:=⟨_,cX (by omega)⟩
      have hd3:s.drop at_=n0::n1::n2::s.drop (at_+3):=by rw [drop_at hn0,drop_at hn1,show at_+1+1=at_+2 from rfl,drop_at hn2]
      have y0:(⟨s.toArray⟩:ByteArray)[Int.toNat (at_:Nat)]? = some n0:=str_at (by rw [dG];exact hn0)
      have y1:(⟨s.toArray⟩:ByteArray)[Int.toNat ((at_+1:Nat):Int)]? = some n1:=str_at (by rw [dG];exact hn1)
      have y2:(⟨s.toArray⟩:ByteArray)[Int.toNat ((at_+2:Nat):Int)]? = some n2:=str_at (by rw [dG];exact hn2)
      have hn2b:=n2.toNat_lt
      (refine aA<|aA<|rgN<|kmv O<|kmv O<|bB O O (by omega) hg9 dR<|kcv O (hw _) ?_;refine klt O O (cP (by omega))<|aB<|aE O ?_;refine aH ?_;refine aA<|aG<|aA<|aA<|rgN<|kmv O<|kad O O p3<|kmv O<|kln O<|aS O O (cO (by rw [hlen];omega)) dR<|aB<|aF O ?_;refine aH ?_;refine aA<|rgD mixed<|kmv O<|kmv O<|bB O O (by omega) y0 dR<|kcv O (hw _) ?_;refine kmv O<|kmv O<|kad O O p1<|bB O O (by omega) y1 dR<|kcv O (hw _) ?_;refine aT O O (by exact O) (by exact nl3 O O O O) dR ?_;refine aP O dR ?_;refine aM O O O O O O dR ?_;refine aB<|rgA ?_;refine aA<|rgN<|kmv O<|kmv O<|kad O O p2<|bB O O (by omega) y2 dR<|kcv O (hw _) ?_;refine kas O<|aB<|aA<|rgN<|kmv O<|kad O O p3<|kas O<|aB<|aA<|aA<|rgN<|kas O<|aB<|aG ?_)
      refine cM (fun m σ=>∃ (at2:Nat) (cs:List (List Ins)) (vs:List Value) (H:Nat→Option Obj),cs.length≤n2.toNat∧m=n2.toNat-cs.length∧(10≤at2∧at2≤s.length)∧getEs cs.length (s.drop (at_+3))=some (cs,s.drop at2)∧OwnedM C X H∧RulesH H ws ls∧FormsH H vs cs∧((cs=[]∧σ=⟨[(0,Ls s),(2,Lp 2),(4,Lp 4),(5,Lp 5),(6,Ln .i64 (at2:Nat)),(7,Ln .i64 (ls.length:Nat)),(8,Lp 8),(9,Ln .i64 (n2.toNat:Nat)),(10,Ln .i64 (cs.length:Nat))],[v3B 51 8 (n0.toNat:Nat) (n1.toNat:Nat) none 0 0,v3B 29 5 (va:Nat) (vb:Nat) none 0 0,v3B 29 4 0 0 none 0 0,v3B 29 2 0 0 none 0 0],joinM X H⟩)∨(cs≠[]∧σ=⟨[(0,Ls s),(2,Lp 2),(4,Lp 4),(5,Lp 5),(6,Ln .i64 (at2:Nat)),(7,Ln .i64 (ls.length:Nat)),(8,Lp 8),(9,Ln .i64 (n2.toNat:Nat)),(10,Ln .i64 (cs.length:Nat))],[(601,some ⟨69,(vs).map .val,true⟩),(8,some ⟨51,[.val (.int .i64 (n0.toNat:Nat)),.val (.int .i64 (n1.toNat:Nat)),.slc 601 0 (cs.length) 1],false⟩),v3B 29 5 (va:Nat) (vb:Nat) none 0 0,v3B 29 4 0 0 none 0 0,v3B 29 2 0 0 none 0 0],joinM X H⟩))) n2.toNat
        (cE (σ':=⟨[(0,Ls s),(2,Lp 2),(4,Lp 4),(5,Lp 5),(6,Ln .i64 (at_+3:Nat)),(7,Ln .i64 (ls.length:Nat)),(8,Lp 8),(9,Ln .i64 (n2.toNat:Nat)),(10,Ln .i64 (0:Nat))],[v3B 51 8 (n0.toNat:Nat) (n1.toNat:Nat) none 0 0,v3B 29 5 (va:Nat) (vb:Nat) none 0 0,v3B 29 4 0 0 none 0 0,v3B 29 2 0 0 none 0 0],joinM X H⟩) (Le.of (by exact ⟨rfl,rfl,rfl,rfl,rfl,rfl,rfl,rfl,rfl,trivial⟩) (by exact ⟨rfl,rfl,rfl,rfl,trivial⟩) (by exact rfl) (by exact rfl) (by repeat' (first|refine bT ?_ ?_|rfl|exact bV|exact bU|exact bW rfl))) (cD ⟨at_+3,[],[],H,Nat.zero_le _,rfl,by omega,rfl,hO,GR,FormsH.nil,.inl ⟨rfl,rfl⟩⟩)) ?_
      clear hO GR
      clear H
      rintro m σ ⟨at2,cs,vs,H,hkm0,rfl,hat2,hes,hO,GR,GF,hst⟩
      rcases hst with ⟨hfe,rfl⟩|⟨hfe,rfl⟩
      · have hve:vs=[]:=List.eq_nil_of_length_eq_zero (by rw [GF.len,hfe];rfl)
        as_aux_lemma =>
          by_cases hkm:cs.length<n2.toNat
          · have p4:IntKind.i64.wrap ((at2:Int)+4)=((at2+4:Nat):Int):=by rw [cH (by omega)];omega
            have hvl:(vs.map CV.val).length=cs.length*1:=by rw [cW,GF.len];omega
            by_cases hroom:at2+4≤s.length
            case neg =>
              (refine aA<|aA<|rgN<|kmv O<|kmv O<|klt O O (cP (by omega))<|aB<|aE O ?_;refine aH ?_;refine aA<|aG<|aA<|aA<|rgN<|kmv O<|kad O O p4<|kmv O<|kln O<|aS O O (cP (by rw [hlen];omega)) dR<|aB<|aE O ?_;refine aA<|rgN<|aK O O O dR ?_;refine aM O O O O O O dR ?_;refine kas O<|aB<|aI ?_)
              obtain ⟨q1,q2⟩:=dpR_none (show decP s=none from hnone (getRls_fail hrs (by omega) (by rw [hd3];exact getRl_no (getEs_fail hes (by omega) (getE_short (by rw [dA];omega))))))
              rw [q1,q2]
              refine cE (σ':=⟨[(2,Lp 2),(3,Lb false)],[v3B 29 2 0 0 none 0 0],joinM X H⟩) (Le.of (by exact ⟨O,O,trivial⟩) (by exact ⟨O,trivial⟩) (by exact O) (by exact O) (by repeat' (first|refine bT ?_ ?_|rfl|exact bV|exact bU|exact bW O))) ?_
              refine cE (Le.drop fun b o h=>joinM_has hO h) (cD ?_)
              exact ⟨[],⟨[_,_],⟨⟨_,_,rfl,rfl,rfl,.inl ⟨AggT.h,rfl⟩⟩,rfl,trivial⟩,rfl⟩,(by repeat' (first|exact trivial|refine cQ ⟨_,rfl,?_⟩ ?_|refine cQ ⟨_,rfl⟩ ?_|rfl|exact bX _ _ _ _|exact bY _ _ _ _|exact bZ rfl)),rfl,rfl⟩
            have h4s:at2+4≤(⟨s.toArray⟩:ByteArray).size:=by rw [hlen];omega
            have hc4:(⟨s.toArray⟩:ByteArray).extract at2 (at2+4)=⟨((s.drop at2).take 4).toArray⟩:=by rw [str_cut,show at2+4-at2=4 by omega]
            have hL4:((s.drop at2).take 4).length=4:=by rw [cZ,dA];omega
            have hN:=rNumber12 (joinM X H) ((s.drop at2).take 4) hL4
            have hmlt:=le_lt ((s.drop at2).take 4)
            rw [hL4,show (256:Nat)^4=4294967296 by decide] at hmlt
            have hs1:IntKind.i64.wrap (((⟨s.toArray⟩:ByteArray).size:Int)-(at2:Nat))=((s.length-at2:Nat):Int):=by rw [hlen,cH (by omega)];omega
            have hs2:IntKind.i64.wrap (((s.length-at2:Nat):Int)-4)=((s.length-at2-4:Nat):Int):=by rw [cH (by omega)];omega
            have hgl:=getE_long (r:=s.drop at2) (by rw [dA];omega)
            have hga:=getE_at (r:=s.drop at2) (by rw [dA];omega)
            rw [List.drop_drop,dA] at hgl hga
            rw [List.drop_drop] at hga
            generalize le ((s.drop at2).take 4)=m at *
            by_cases hm:m≤s.length-at2-4
            case neg =>
              (refine aA<|aA<|rgN<|kmv O<|kmv O<|klt O O (cP (by omega))<|aB<|aE O ?_;refine aH ?_;refine aA<|aG<|aA<|aA<|rgN<|kmv O<|kad O O p4<|kmv O<|kln O<|aS O O (cO (by rw [hlen];omega)) dR<|aB<|aF O ?_;refine aH ?_;refine aA<|rgN<|kmv O<|kmv O<|kmv O<|kad O O p4<|bN (l:=at2) (h:=at2+4) (kl:=.i64) (kh:=.i64) O StrT.u O O ⟨(by omega),h4s⟩ hc4 dR<|kca O O hN<|kas O<|aB<|aA<|aA<|rgN<|kmv O ?_;refine kmv O<|kln O<|kmv O<|bA O O hs1 dR<|bA O O hs2 dR<|aS O O (cP (by omega)) dR<|aB<|aE O ?_;refine aA<|rgN<|aK O O O dR ?_;refine aM O O O O O O dR ?_;refine kas O<|aB<|aI ?_)
              obtain ⟨q1,q2⟩:=dpR_none (show decP s=none from hnone (getRls_fail hrs (by omega) (by rw [hd3];exact getRl_no (getEs_fail hes (by omega) (hgl (by omega))))))
              rw [q1,q2]
              refine cE (σ':=⟨[(2,Lp 2),(3,Lb false)],[v3B 29 2 0 0 none 0 0],joinM X H⟩) (Le.of (by exact ⟨O,O,trivial⟩) (by exact ⟨O,trivial⟩) (by exact O) (by exact O) (by repeat' (first|refine bT ?_ ?_|rfl|exact bV|exact bU|exact bW O))) ?_
              refine cE (Le.drop fun b o h=>joinM_has hO h) (cD ?_)
              exact ⟨[],⟨[_,_],⟨⟨_,_,rfl,rfl,rfl,.inl ⟨AggT.h,rfl⟩⟩,rfl,trivial⟩,rfl⟩,(by repeat' (first|exact trivial|refine cQ ⟨_,rfl,?_⟩ ?_|refine cQ ⟨_,rfl⟩ ?_|rfl|exact bX _ _ _ _|exact bY _ _ _ _|exact bZ rfl)),rfl,rfl⟩
            have hga:=hga (by omega)
            have hs3:IntKind.i64.wrap (((at2+4:Nat):Int)+(m:Nat))=((at2+4+m:Nat):Int):=by rw [cH (by omega)];omega
            have hms:at2+4+m≤(⟨s.toArray⟩:ByteArray).size:=by rw [hlen];omega
            have hcp:(⟨s.toArray⟩:ByteArray).extract (at2+4) (at2+4+m)=⟨((s.drop (at2+4)).take m).toArray⟩:=by rw [str_cut,show at2+4+m-(at2+4)=m by omega]
            have hD:=rDecode11 (joinM X H) ((s.drop (at2+4)).take m) (by rw [cZ];omega)
            cases hp:decX ((s.drop (at2+4)).take m) with
            | none =>
              obtain ⟨r1,r2⟩:=decR_none hp
              rw [r1,r2] at hD
              have hD2:=hD.plain
              rw [hp] at hga
              (refine aA<|aA<|rgN<|kmv O<|kmv O<|klt O O (cP (by omega))<|aB<|aE O ?_;refine aH ?_;refine aA<|aG<|aA<|aA<|rgN<|kmv O<|kad O O p4<|kmv O<|kln O<|aS O O (cO (by rw [hlen];omega)) dR<|aB<|aF O ?_;refine aH ?_;refine aA<|rgN<|kmv O<|kmv O<|kmv O<|kad O O p4<|bN (l:=at2) (h:=at2+4) (kl:=.i64) (kh:=.i64) O StrT.u O O ⟨(by omega),h4s⟩ hc4 dR<|kca O O hN<|kas O<|aB<|aA<|aA<|rgN<|kmv O ?_;refine kmv O<|kln O<|kmv O<|bA O O hs1 dR<|bA O O hs2 dR<|aS O O (cO (by omega)) dR<|aB<|aF O ?_;refine aH ?_;refine aA<|rgN<|kmv O<|kmv O<|kad O O p4<|kmv O<|kad O O p4<|kmv O<|kad O O hs3<|bN (l:=at2+4) (h:=at2+4+m) (kl:=.i64) (kh:=.i64) O StrT.u O O ⟨(by omega),hms⟩ hcp dR<|kca O O hD2<|kmv O<|kex O O<|kex O O ?_;refine kas O<|kas O<|aB<|aA<|aA<|rgN<|kmv O<|aV O O dR<|aB<|aE O ?_;refine aA<|rgN<|aK O O O dR ?_;refine aM O O O O O O dR ?_;refine kas O<|aB<|aI ?_)
              obtain ⟨q1,q2⟩:=dpR_none (show decP s=none from hnone (getRls_fail hrs (by omega) (by rw [hd3];exact getRl_no (getEs_fail hes (by omega) hga))))
              rw [q1,q2]
              refine cE (σ':=⟨[(2,Lp 2),(3,Lb false)],[v3B 29 2 0 0 none 0 0],joinM X H⟩) (Le.of (by exact ⟨O,O,trivial⟩) (by exact ⟨O,trivial⟩) (by exact O) (by exact O) (by repeat' (first|refine bT ?_ ?_|rfl|exact bV|exact bU|exact bW O))) ?_
              refine cE (Le.drop fun b o h=>joinM_has hO h) (cD ?_)
              exact ⟨[],⟨[_,_],⟨⟨_,_,rfl,rfl,rfl,.inl ⟨AggT.h,rfl⟩⟩,rfl,trivial⟩,rfl⟩,(by repeat' (first|exact trivial|refine cQ ⟨_,rfl,?_⟩ ?_|refine cQ ⟨_,rfl⟩ ?_|rfl|exact bX _ _ _ _|exact bY _ _ _ _|exact bZ rfl)),rfl,rfl⟩
            | some c =>
              obtain ⟨r1,r2⟩:=decR_some hp
              rw [r1,r2] at hD
              rw [hp] at hga
              simp only at hga
              have hstep:=getEs_step hes hga
              have hsmall:=small_dec hp
              have hadd:IntKind.i64.wrap ((cs.length:Int)+1)=((cs.length+1:Nat):Int):=by rw [cH (by omega)];omega
              generalize (s.drop (at2+4)).take m=part at *
              (refine aA<|aA<|rgN<|kmv O<|kmv O<|klt O O (cP (by omega))<|aB<|aE O ?_;refine aH ?_;refine aA<|aG<|aA<|aA<|rgN<|kmv O<|kad O O p4<|kmv O<|kln O<|aS O O (cO (by rw [hlen];omega)) dR<|aB<|aF O ?_;refine aH ?_;refine aA<|rgN<|kmv O<|kmv O<|kmv O<|kad O O p4<|bN (l:=at2) (h:=at2+4) (kl:=.i64) (kh:=.i64) O StrT.u O O ⟨(by omega),h4s⟩ hc4 dR<|kca O O hN<|kas O<|aB<|aA<|aA<|rgN<|kmv O ?_;refine kmv O<|kln O<|kmv O<|bA O O hs1 dR<|bA O O hs2 dR<|aS O O (cO (by omega)) dR<|aB<|aF O ?_;refine aH ?_;refine aA<|rgN<|kmv O<|kmv O<|kad O O p4<|kmv O<|kad O O p4<|kmv O<|kad O O hs3<|bN (l:=at2+4) (h:=at2+4+m) (kl:=.i64) (kh:=.i64) O StrT.u O O ⟨(by omega),hms⟩ hcp dR<|bE [(1000001,700)] (.tup [.one (.slc 700 0 c.length 6),Sb true]) [(700,some ⟨70,(inssV c).map .val,true⟩)] (hD) O O (by exact trivial) O O O O O (by exact (.box O (bY _ _ _ _) .nil)) dR<|kmv O<|kex O O<|kex O O ?_;refine kas O<|kas O<|aB<|aA<|aA<|rgN<|kmv O<|aV O O dR<|aB<|aF O ?_;refine aH ?_;refine aA<|rgN<|kfa O O ?_;refine kl1 O O O<|kmv O<|aZ (zs:=[.slice none 0 0]) (sz:=1) (e:=69) (cs':=[.slc 700 0 c.length 6]) (by kernel_rfl) O O O O O O dR<|K.appendNil (by_:=24) (e:=69) (e2:=69) (l2:=[.slc 700 0 c.length 6]) O O O (dN _) O O (by decide) (by kernel_rfl) (by kernel_rfl) (by omega) (by omega) O dR ?_;refine kfa O O ?_;refine bG O O O O O (nl3 O O O O) dR<|aB<|rgN<|kmv O<|kad O O p4<|kmv O<|kad O O hs3<|kas O<|aB<|rgN<|kmv O<|kad O O hadd<|kas O<|aB ?_)
              refine cE (σ':=⟨[(0,Ls s),(2,Lp 2),(4,Lp 4),(5,Lp 5),(6,Ln .i64 (at2+4+m:Nat)),(7,Ln .i64 (ls.length:Nat)),(8,Lp 8),(9,Ln .i64 (n2.toNat:Nat)),(10,Ln .i64 (cs.length+1:Nat))],[(601,some ⟨69,vs.map .val ++ .slc 700 0 c.length 6::([]:List Value).map .val,true⟩),(700,some ⟨70,(inssV c).map .val,true⟩),(8,some ⟨51,[.val (.int .i64 (n0.toNat:Nat)),.val (.int .i64 (n1.toNat:Nat)),.slc 601 0 (cs.length+1) 1],false⟩),v3B 29 5 (va:Nat) (vb:Nat) none 0 0,v3B 29 4 0 0 none 0 0,v3B 29 2 0 0 none 0 0],joinM X H⟩) ?_ ?_
              · rw [show cs=[] from hfe,show vs=[] from hve]
                exact Le.ofR [(601,105)] (by exact ⟨rfl,rfl,rfl,rfl,rfl,rfl,rfl,rfl,rfl,trivial⟩) (by repeat' (first|exact trivial|refine cQ ⟨_,rfl,?_⟩ ?_|refine cQ ⟨_,rfl⟩ ?_|rfl|exact bX _ _ _ _|exact bY _ _ _ _|exact bZ rfl)) (by exact rfl) (by exact rfl) (by repeat' (first|refine bT ?_ ?_|rfl|exact bV|exact bU|exact bW rfl)) (by exact rfl) (by exact rfl)
              refine Leads.closeCell hO (by have:=inssV_len c;rw [cW] at this;exact this) rfl bU rfl (by repeat' (first|refine bT ?_ ?_|rfl|exact bU)) rfl rfl fun b o v g1 _ hO3 hv=>cD ⟨n2.toNat-(cs.length+1),by omega,at2+4+m,cs++[c],vs++[v],withBlock H b o,by rw [cV];simp only [cY];omega,by rw [cV];rfl,by omega,by rw [cV];exact hstep,hO3,GR.mono (cJ g1),(GF.mono (cJ g1)).push (ins_leads hv hsmall),.inr ⟨by simp,?_⟩⟩
              rw [dH,cV]
              rfl
          · have hke:cs.length=n2.toNat:=by omega
            rw [hke] at hes
            have hstep:=getRls_step hrs (by rw [hd3];exact getRl_yes (n:=n0) (o:=n1) hes)
            have hrl:((rwZ ls ws).map CV.val).length=ls.length*3:=by rw [cW,rwZ_len GR.len]
            have hadd:IntKind.i64.wrap ((ls.length:Int)+1)=((ls.length+1:Nat):Int):=by rw [cH (by omega)];omega
            have hnc3:(rwZ ls ws).map CV.val++[.val (.int .i64 (n0.toNat:Nat)),.val (.int .i64 (n1.toNat:Nat)),.val (.slice none 0 0)]=(rwZ (ls++[(⟨(n0.toNat:Nat),(n1.toNat:Nat),cs⟩:Rl)]) (ws++[.slice none 0 0])).map .val:=by
              rw [rwZ_add GR.len];simp
            (refine aA<|aA<|rgN<|kmv O<|kmv O<|klt O O (cO (by omega))<|aB<|aF O ?_;refine aJ<|rgN<|kfa O O ?_;refine kl1 O O O<|aK O O O dR ?_;refine aZ (zs:=[.int .i64 0,.int .i64 0,.slice none 0 0]) (sz:=3) (e:=51) (cs':=[.val (.int .i64 (n0.toNat:Nat)),.val (.int .i64 (n1.toNat:Nat)),.val (.slice none 0 0)]) (by kernel_rfl) O O O O O O dR<|K.appendNil (by_:=40) (e:=51) (e2:=51) (l2:=[.val (.int .i64 (n0.toNat:Nat)),.val (.int .i64 (n1.toNat:Nat)),.val (.slice none 0 0)]) O O O (dN _) O O (by decide) (by kernel_rfl) (by kernel_rfl) (by omega) (by omega) O dR ?_;refine kfa O O ?_;refine bG O O O O O (nl3 O O O O) dR<|aB<|rgN<|kmv O<|kad O O hadd<|kas O<|aB ?_)
            have hcn:(ls++[(⟨(n0.toNat:Nat),(n1.toNat:Nat),cs⟩:Rl)]).length=ls.length+1:=by rw [cV];rfl
            refine cE (σ':=⟨[(0,Ls s),(2,Lp 2),(4,Lp 4),(5,Lp 5),(6,Ln .i64 (at2:Nat)),(7,Ln .i64 (ls.length+1:Nat))],[(600,some ⟨51,(rwZ (ls++[(⟨(n0.toNat:Nat),(n1.toNat:Nat),cs⟩:Rl)]) (ws++[.slice none 0 0])).map .val,true⟩),(5,some ⟨29,[.val (.int .i64 (va:Nat)),.val (.int .i64 (vb:Nat)),.slc 600 0 (ls.length+1) 3],false⟩),v3B 29 4 0 0 none 0 0,v3B 29 2 0 0 none 0 0],joinM X H⟩) ?_ (cD ⟨nb.toNat-(ls.length+1),by omega,at2,ls++[(⟨(n0.toNat:Nat),(n1.toNat:Nat),cs⟩:Rl)],ws++[.slice none 0 0],H,by rw [hcn];omega,by rw [hcn],by omega,by omega,by rw [hcn];exact hstep,hO,GR.push (by rw [show cs=[] from hfe];exact CodesIn.nilIn),.inr ⟨by simp,by rw [hcn]⟩⟩)
            rw [show ls=[] from hce,show ws=[] from hcle]
            exact Le.ofR [(600,115)] (by exact ⟨rfl,rfl,rfl,rfl,rfl,rfl,trivial⟩) (by repeat' (first|exact trivial|refine cQ ⟨_,rfl,?_⟩ ?_|refine cQ ⟨_,rfl⟩ ?_|rfl|exact bX _ _ _ _|exact bY _ _ _ _|exact bZ rfl)) (by exact rfl) (by exact rfl) (by repeat' (first|refine bT ?_ ?_|rfl|exact bV|exact bU|exact bW rfl)) (by exact rfl) (by exact rfl)
      · as_aux_lemma =>
          by_cases hkm:cs.length<n2.toNat
          · have p4:IntKind.i64.wrap ((at2:Int)+4)=((at2+4:Nat):Int):=by rw [cH (by omega)];omega
            have hvl:(vs.map CV.val).length=cs.length*1:=by rw [cW,GF.len];omega
            by_cases hroom:at2+4≤s.length
            case neg =>
              (refine aA<|aA<|rgN<|kmv O<|kmv O<|klt O O (cP (by omega))<|aB<|aE O ?_;refine aH ?_;refine aA<|aG<|aA<|aA<|rgN<|kmv O<|kad O O p4<|kmv O<|kln O<|aS O O (cP (by rw [hlen];omega)) dR<|aB<|aE O ?_;refine aA<|rgN<|aK O O O dR ?_;refine aM O O O O O O dR ?_;refine kas O<|aB<|aI ?_)
              obtain ⟨q1,q2⟩:=dpR_none (show decP s=none from hnone (getRls_fail hrs (by omega) (by rw [hd3];exact getRl_no (getEs_fail hes (by omega) (getE_short (by rw [dA];omega))))))
              rw [q1,q2]
              refine cE (σ':=⟨[(2,Lp 2),(3,Lb false)],[v3B 29 2 0 0 none 0 0],joinM X H⟩) (Le.of (by exact ⟨O,O,trivial⟩) (by exact ⟨O,trivial⟩) (by exact O) (by exact O) (by repeat' (first|refine bT ?_ ?_|rfl|exact bV|exact bU|exact bW O))) ?_
              refine cE (Le.drop fun b o h=>joinM_has hO h) (cD ?_)
              exact ⟨[],⟨[_,_],⟨⟨_,_,rfl,rfl,rfl,.inl ⟨AggT.h,rfl⟩⟩,rfl,trivial⟩,rfl⟩,(by repeat' (first|exact trivial|refine cQ ⟨_,rfl,?_⟩ ?_|refine cQ ⟨_,rfl⟩ ?_|rfl|exact bX _ _ _ _|exact bY _ _ _ _|exact bZ rfl)),rfl,rfl⟩
            have h4s:at2+4≤(⟨s.toArray⟩:ByteArray).size:=by rw [hlen];omega
            have hc4:(⟨s.toArray⟩:ByteArray).extract at2 (at2+4)=⟨((s.drop at2).take 4).toArray⟩:=by rw [str_cut,show at2+4-at2=4 by omega]
            have hL4:((s.drop at2).take 4).length=4:=by rw [cZ,dA];omega
            have hN:=rNumber12 (joinM X H) ((s.drop at2).take 4) hL4
            have hmlt:=le_lt ((s.drop at2).take 4)
            rw [hL4,show (256:Nat)^4=4294967296 by decide] at hmlt
            have hs1:IntKind.i64.wrap (((⟨s.toArray⟩:ByteArray).size:Int)-(at2:Nat))=((s.length-at2:Nat):Int):=by rw [hlen,cH (by omega)];omega
            have hs2:IntKind.i64.wrap (((s.length-at2:Nat):Int)-4)=((s.length-at2-4:Nat):Int):=by rw [cH (by omega)];omega
            have hgl:=getE_long (r:=s.drop at2) (by rw [dA];omega)
            have hga:=getE_at (r:=s.drop at2) (by rw [dA];omega)
            rw [List.drop_drop,dA] at hgl hga
            rw [List.drop_drop] at hga
            generalize le ((s.drop at2).take 4)=m at *
            by_cases hm:m≤s.length-at2-4
            case neg =>
              (refine aA<|aA<|rgN<|kmv O<|kmv O<|klt O O (cP (by omega))<|aB<|aE O ?_;refine aH ?_;refine aA<|aG<|aA<|aA<|rgN<|kmv O<|kad O O p4<|kmv O<|kln O<|aS O O (cO (by rw [hlen];omega)) dR<|aB<|aF O ?_;refine aH ?_;refine aA<|rgN<|kmv O<|kmv O<|kmv O<|kad O O p4<|bN (l:=at2) (h:=at2+4) (kl:=.i64) (kh:=.i64) O StrT.u O O ⟨(by omega),h4s⟩ hc4 dR<|kca O O hN<|kas O<|aB<|aA<|aA<|rgN<|kmv O ?_;refine kmv O<|kln O<|kmv O<|bA O O hs1 dR<|bA O O hs2 dR<|aS O O (cP (by omega)) dR<|aB<|aE O ?_;refine aA<|rgN<|aK O O O dR ?_;refine aM O O O O O O dR ?_;refine kas O<|aB<|aI ?_)
              obtain ⟨q1,q2⟩:=dpR_none (show decP s=none from hnone (getRls_fail hrs (by omega) (by rw [hd3];exact getRl_no (getEs_fail hes (by omega) (hgl (by omega))))))
              rw [q1,q2]
              refine cE (σ':=⟨[(2,Lp 2),(3,Lb false)],[v3B 29 2 0 0 none 0 0],joinM X H⟩) (Le.of (by exact ⟨O,O,trivial⟩) (by exact ⟨O,trivial⟩) (by exact O) (by exact O) (by repeat' (first|refine bT ?_ ?_|rfl|exact bV|exact bU|exact bW O))) ?_
              refine cE (Le.drop fun b o h=>joinM_has hO h) (cD ?_)
              exact ⟨[],⟨[_,_],⟨⟨_,_,rfl,rfl,rfl,.inl ⟨AggT.h,rfl⟩⟩,rfl,trivial⟩,rfl⟩,(by repeat' (first|exact trivial|refine cQ ⟨_,rfl,?_⟩ ?_|refine cQ ⟨_,rfl⟩ ?_|rfl|exact bX _ _ _ _|exact bY _ _ _ _|exact bZ rfl)),rfl,rfl⟩
            have hga:=hga (by omega)
            have hs3:IntKind.i64.wrap (((at2+4:Nat):Int)+(m:Nat))=((at2+4+m:Nat):Int):=by rw [cH (by omega)];omega
            have hms:at2+4+m≤(⟨s.toArray⟩:ByteArray).size:=by rw [hlen];omega
            have hcp:(⟨s.toArray⟩:ByteArray).extract (at2+4) (at2+4+m)=⟨((s.drop (at2+4)).take m).toArray⟩:=by rw [str_cut,show at2+4+m-(at2+4)=m by omega]
            have hD:=rDecode11 (joinM X H) ((s.drop (at2+4)).take m) (by rw [cZ];omega)
            cases hp:decX ((s.drop (at2+4)).take m) with
            | none =>
              obtain ⟨r1,r2⟩:=decR_none hp
              rw [r1,r2] at hD
              have hD2:=hD.plain
              rw [hp] at hga
              (refine aA<|aA<|rgN<|kmv O<|kmv O<|klt O O (cP (by omega))<|aB<|aE O ?_;refine aH ?_;refine aA<|aG<|aA<|aA<|rgN<|kmv O<|kad O O p4<|kmv O<|kln O<|aS O O (cO (by rw [hlen];omega)) dR<|aB<|aF O ?_;refine aH ?_;refine aA<|rgN<|kmv O<|kmv O<|kmv O<|kad O O p4<|bN (l:=at2) (h:=at2+4) (kl:=.i64) (kh:=.i64) O StrT.u O O ⟨(by omega),h4s⟩ hc4 dR<|kca O O hN<|kas O<|aB<|aA<|aA<|rgN<|kmv O ?_;refine kmv O<|kln O<|kmv O<|bA O O hs1 dR<|bA O O hs2 dR<|aS O O (cO (by omega)) dR<|aB<|aF O ?_;refine aH ?_;refine aA<|rgN<|kmv O<|kmv O<|kad O O p4<|kmv O<|kad O O p4<|kmv O<|kad O O hs3<|bN (l:=at2+4) (h:=at2+4+m) (kl:=.i64) (kh:=.i64) O StrT.u O O ⟨(by omega),hms⟩ hcp dR<|kca O O hD2<|kmv O<|kex O O<|kex O O ?_;refine kas O<|kas O<|aB<|aA<|aA<|rgN<|kmv O<|aV O O dR<|aB<|aE O ?_;refine aA<|rgN<|aK O O O dR ?_;refine aM O O O O O O dR ?_;refine kas O<|aB<|aI ?_)
              obtain ⟨q1,q2⟩:=dpR_none (show decP s=none from hnone (getRls_fail hrs (by omega) (by rw [hd3];exact getRl_no (getEs_fail hes (by omega) hga))))
              rw [q1,q2]
              refine cE (σ':=⟨[(2,Lp 2),(3,Lb false)],[v3B 29 2 0 0 none 0 0],joinM X H⟩) (Le.of (by exact ⟨O,O,trivial⟩) (by exact ⟨O,trivial⟩) (by exact O) (by exact O) (by repeat' (first|refine bT ?_ ?_|rfl|exact bV|exact bU|exact bW O))) ?_
              refine cE (Le.drop fun b o h=>joinM_has hO h) (cD ?_)
              exact ⟨[],⟨[_,_],⟨⟨_,_,rfl,rfl,rfl,.inl ⟨AggT.h,rfl⟩⟩,rfl,trivial⟩,rfl⟩,(by repeat' (first|exact trivial|refine cQ ⟨_,rfl,?_⟩ ?_|refine cQ ⟨_,rfl⟩ ?_|rfl|exact bX _ _ _ _|exact bY _ _ _ _|exact bZ rfl)),rfl,rfl⟩
            | some c =>
              obtain ⟨r1,r2⟩:=decR_some hp
              rw [r1,r2] at hD
              rw [hp] at hga
              simp only at hga
              have hstep:=getEs_step hes hga
              have hsmall:=small_dec hp
              have hadd:IntKind.i64.wrap ((cs.length:Int)+1)=((cs.length+1:Nat):Int):=by rw [cH (by omega)];omega
              generalize (s.drop (at2+4)).take m=part at *
              (refine aA<|aA<|rgN<|kmv O<|kmv O<|klt O O (cP (by omega))<|aB<|aE O ?_;refine aH ?_;refine aA<|aG<|aA<|aA<|rgN<|kmv O<|kad O O p4<|kmv O<|kln O<|aS O O (cO (by rw [hlen];omega)) dR<|aB<|aF O ?_;refine aH ?_;refine aA<|rgN<|kmv O<|kmv O<|kmv O<|kad O O p4<|bN (l:=at2) (h:=at2+4) (kl:=.i64) (kh:=.i64) O StrT.u O O ⟨(by omega),h4s⟩ hc4 dR<|kca O O hN<|kas O<|aB<|aA<|aA<|rgN<|kmv O ?_;refine kmv O<|kln O<|kmv O<|bA O O hs1 dR<|bA O O hs2 dR<|aS O O (cO (by omega)) dR<|aB<|aF O ?_;refine aH ?_;refine aA<|rgN<|kmv O<|kmv O<|kad O O p4<|kmv O<|kad O O p4<|kmv O<|kad O O hs3<|bN (l:=at2+4) (h:=at2+4+m) (kl:=.i64) (kh:=.i64) O StrT.u O O ⟨(by omega),hms⟩ hcp dR<|bE [(1000001,700)] (.tup [.one (.slc 700 0 c.length 6),Sb true]) [(700,some ⟨70,(inssV c).map .val,true⟩)] (hD) O O (by exact trivial) O O O O O (by exact (.box O (bY _ _ _ _) .nil)) dR<|kmv O<|kex O O<|kex O O ?_;refine kas O<|kas O<|aB<|aA<|aA<|rgN<|kmv O<|aV O O dR<|aB<|aF O ?_;refine aH ?_;refine aA<|rgN<|kfa O O ?_;refine kl1 O O O<|kmv O<|aZ (zs:=[.slice none 0 0]) (sz:=1) (e:=69) (cs':=[.slc 700 0 c.length 6]) (by kernel_rfl) O O O O O O dR<|bQ (by_:=24) (e2:=69) (l2:=[.slc 700 0 c.length 6]) (nl:=cs.length+1) (nc:=vs.map .val++[.slc 700 0 c.length 6]) O O hvl O O (dN _) O O (by kernel_rfl) (by kernel_rfl) (by omega) (by omega) O O O dR<|kfa O O ?_;refine bG O O O O O (nl3 O O O O) dR<|aB<|rgN<|kmv O<|kad O O p4<|kmv O<|kad O O hs3<|kas O<|aB<|rgN<|kmv O<|kad O O hadd<|kas O<|aB ?_)
              refine cE (σ':=⟨[(0,Ls s),(2,Lp 2),(4,Lp 4),(5,Lp 5),(6,Ln .i64 (at2+4+m:Nat)),(7,Ln .i64 (ls.length:Nat)),(8,Lp 8),(9,Ln .i64 (n2.toNat:Nat)),(10,Ln .i64 (cs.length+1:Nat))],[(601,some ⟨69,vs.map .val ++ .slc 700 0 c.length 6::([]:List Value).map .val,true⟩),(700,some ⟨70,(inssV c).map .val,true⟩),(8,some ⟨51,[.val (.int .i64 (n0.toNat:Nat)),.val (.int .i64 (n1.toNat:Nat)),.slc 601 0 (cs.length+1) 1],false⟩),v3B 29 5 (va:Nat) (vb:Nat) none 0 0,v3B 29 4 0 0 none 0 0,v3B 29 2 0 0 none 0 0],joinM X H⟩) ?_ ?_
              · exact Le.ofR [(601,105)] (by exact ⟨rfl,rfl,rfl,rfl,rfl,rfl,rfl,rfl,rfl,trivial⟩) (by repeat' (first|exact trivial|refine cQ ⟨_,rfl,?_⟩ ?_|refine cQ ⟨_,rfl⟩ ?_|rfl|exact bX _ _ _ _|exact bY _ _ _ _|exact bZ rfl)) (by exact rfl) (by exact rfl) (by repeat' (first|refine bT ?_ ?_|rfl|exact bV|exact bU|exact bW rfl)) (by exact rfl) (by exact rfl)
              refine Leads.closeCell hO (by have:=inssV_len c;rw [cW] at this;exact this) rfl bU rfl (by repeat' (first|refine bT ?_ ?_|rfl|exact bU)) rfl rfl fun b o v g1 _ hO3 hv=>cD ⟨n2.toNat-(cs.length+1),by omega,at2+4+m,cs++[c],vs++[v],withBlock H b o,by rw [cV];simp only [cY];omega,by rw [cV];rfl,by omega,by rw [cV];exact hstep,hO3,GR.mono (cJ g1),(GF.mono (cJ g1)).push (ins_leads hv hsmall),.inr ⟨by simp,?_⟩⟩
              rw [dH,cV]
              rfl
          · have hke:cs.length=n2.toNat:=by omega
            rw [hke] at hes
            have hstep:=getRls_step hrs (by rw [hd3];exact getRl_yes (n:=n0) (o:=n1) hes)
            have hrl:((rwZ ls ws).map CV.val).length=ls.length*3:=by rw [cW,rwZ_len GR.len]
            have hadd:IntKind.i64.wrap ((ls.length:Int)+1)=((ls.length+1:Nat):Int):=by rw [cH (by omega)];omega
            have hnc3:(rwZ ls ws).map CV.val++[.val (.int .i64 (n0.toNat:Nat)),.val (.int .i64 (n1.toNat:Nat)),.slc 601 0 cs.length 1]=(rwZ ls ws++[Value.int .i64 (n0.toNat:Nat),Value.int .i64 (n1.toNat:Nat)]).map .val ++ .slc 601 0 cs.length 1::([]:List Value).map .val:=by
              simp
            (refine aA<|aA<|rgN<|kmv O<|kmv O<|klt O O (cO (by omega))<|aB<|aF O ?_;refine aJ<|rgN<|kfa O O ?_;refine kl1 O O O<|aK O O O dR ?_;refine aZ (zs:=[.int .i64 0,.int .i64 0,.slice none 0 0]) (sz:=3) (e:=51) (cs':=[.val (.int .i64 (n0.toNat:Nat)),.val (.int .i64 (n1.toNat:Nat)),.slc 601 0 cs.length 1]) (by kernel_rfl) O O O O O O dR<|K.appendNil (by_:=40) (e:=51) (e2:=51) (l2:=[.val (.int .i64 (n0.toNat:Nat)),.val (.int .i64 (n1.toNat:Nat)),.slc 601 0 cs.length 1]) O O O (dN _) O O (by decide) (by kernel_rfl) (by kernel_rfl) (by omega) (by omega) O dR ?_;refine kfa O O ?_;refine bG O O O O O (nl3 O O O O) dR<|aB<|rgN<|kmv O<|kad O O hadd<|kas O<|aB ?_)
            have hcn:(ls++[(⟨(n0.toNat:Nat),(n1.toNat:Nat),cs⟩:Rl)]).length=ls.length+1:=by rw [cV];rfl
            refine cE (σ':=⟨[(0,Ls s),(2,Lp 2),(4,Lp 4),(5,Lp 5),(6,Ln .i64 (at2:Nat)),(7,Ln .i64 (ls.length+1:Nat))],[(600,some ⟨51,(rwZ ls ws++[Value.int .i64 (n0.toNat:Nat),Value.int .i64 (n1.toNat:Nat)]).map .val ++ .slc 601 0 cs.length 1::([]:List Value).map .val,true⟩),(601,some ⟨69,vs.map .val,true⟩),(5,some ⟨29,[.val (.int .i64 (va:Nat)),.val (.int .i64 (vb:Nat)),.slc 600 0 (ls.length+1) 3],false⟩),v3B 29 4 0 0 none 0 0,v3B 29 2 0 0 none 0 0],joinM X H⟩) ?_ ?_
            · rw [show ls=[] from hce,show ws=[] from hcle]
              exact Le.ofR [(600,115)] (by exact ⟨rfl,rfl,rfl,rfl,rfl,rfl,trivial⟩) (by repeat' (first|exact trivial|refine cQ ⟨_,rfl,?_⟩ ?_|refine cQ ⟨_,rfl⟩ ?_|rfl|exact bX _ _ _ _|exact bY _ _ _ _|exact bZ rfl)) (by exact rfl) (by exact rfl) (by repeat' (first|refine bT ?_ ?_|rfl|exact bV|exact bU|exact bW rfl)) (by exact rfl) (by exact rfl)
            refine Leads.closeCell hO (by have:=GF.len;omega) rfl bU rfl (by repeat' (first|refine bT ?_ ?_|rfl|exact bU)) rfl rfl fun b o v g1 _ hO3 hv=>cD ⟨nb.toNat-(ls.length+1),by omega,at2,ls++[(⟨(n0.toNat:Nat),(n1.toNat:Nat),cs⟩:Rl)],ws++[v],withBlock H b o,by rw [hcn];omega,by rw [hcn],by omega,by omega,by rw [hcn];exact hstep,hO3,(GR.mono (cJ g1)).push (codes_leads hv (GF.mono (cJ g1))),.inr ⟨by simp,?_⟩⟩
            rw [hcn,rwZ_add GR.len]
            simp
  · as_aux_lemma =>
      by_cases hlt:ls.length<nb.toNat
      case neg =>
        have e:ls.length=nb.toNat:=by omega
        rw [e] at hrs
        obtain ⟨_,_,hok⟩:=getRls_back hrs
        have hsr:∀ r∈ls,smallR r:=fun r hr=>small_rl (hok r hr)
        by_cases hend:at_=s.length
        · rw [List.drop_eq_nil_of_le (show s.length≤at_ by omega)] at hrs
          have hS:=hsome ls hrs
          have hne1:(((at_:Nat):Int) != ((⟨s.toArray⟩:ByteArray).size:Int))=false:=by rw [hlen,hend];simp
          skip
          by_cases hz:chkP ⟨(va:Nat),(vb:Nat),ls⟩=0
          · rw [if_pos hz] at hS
            have hck:=rcheck12_lent (va:=(va:Nat)) (vb:=(vb:Nat)) (e:=0) X GR hsr (by omega) (size_rl hok) (el:=51) (row:=true) (k:=600) (S:=(fun k=>Go.Lg.look k [(600,some ⟨51,(rwZ (ls) (ws)).map .val,true⟩),(5,some ⟨29,[.val (.int .i64 (va:Nat)),.val (.int .i64 (vb:Nat)),.slc 600 0 (ls.length) 3],false⟩),v3B 29 4 0 0 none 0 0,v3B 29 2 0 0 none 0 0])) rfl hz
            (refine aA<|aA<|rgN<|kmv O<|kmv O<|bB O O (by omega) hg9 dR<|kcv O (hw _) ?_;refine klt O O (cO (by omega))<|aB<|aF O ?_;refine aJ<|aA<|aA<|rgN<|kmv O<|kmv O<|kln O<|kne O O hne1<|kmv O<|aK O O O (dS O O) ?_;refine K.callL [600] O O O hck (dS O O) ?_;refine aX O O (r:=false) (by decide) (dS O O) ?_;refine kpf O O<|aB<|aF O ?_;refine aH ?_;refine aA<|rgN<|aK O O O dR ?_;refine aM O O O O O O dR ?_;refine kas O<|aB<|aI ?_)
            obtain ⟨q1,q2⟩:=dpR_some hS (fun e=>hce (List.eq_nil_of_length_eq_zero e))
            rw [q1,q2]
            refine cE (σ':=⟨[(2,Lp 2),(3,Lb true)],[(600,some ⟨51,(rwZ ls ws).map .val,true⟩),(2,some ⟨29,[.val (.int .i64 (va:Nat)),.val (.int .i64 (vb:Nat)),.slc 600 0 ls.length 3],false⟩)],joinM X H⟩) (Le.of (by exact ⟨O,O,trivial⟩) (by exact ⟨O,O,trivial⟩) (by exact O) (by exact O) (by repeat' (first|refine bT ?_ ?_|rfl|exact bV|exact bU|exact bW O))) ?_
            refine Leads.spare fun sp=>rl_shut hO GR hsr (cD ?_)
            exact ⟨[(1000001,600)],⟨[_,_],⟨⟨_,_,rfl,rfl,rfl,.inl ⟨AggT.h,rfl⟩⟩,rfl,trivial⟩,rfl⟩,(by repeat' (first|exact trivial|refine cQ ⟨_,rfl,?_⟩ ?_|refine cQ ⟨_,rfl⟩ ?_|rfl|exact bX _ _ _ _|exact bY _ _ _ _|exact bZ rfl)),rfl,rfl⟩
          · rw [if_neg hz] at hS
            have hne2:(chkP ⟨(va:Nat),(vb:Nat),ls⟩ != 0)=true:=by rw [bne_iff_ne];exact hz
            have hck:=rcheck12_lent (va:=(va:Nat)) (vb:=(vb:Nat))  X GR hsr (by omega) (size_rl hok) (el:=51) (row:=true) (k:=600) (S:=(fun k=>Go.Lg.look k [(600,some ⟨51,(rwZ (ls) (ws)).map .val,true⟩),(5,some ⟨29,[.val (.int .i64 (va:Nat)),.val (.int .i64 (vb:Nat)),.slc 600 0 (ls.length) 3],false⟩),v3B 29 4 0 0 none 0 0,v3B 29 2 0 0 none 0 0])) rfl rfl
            generalize chkP ⟨(va:Nat),(vb:Nat),ls⟩=ce at *
            (refine aA<|aA<|rgN<|kmv O<|kmv O<|bB O O (by omega) hg9 dR<|kcv O (hw _) ?_;refine klt O O (cO (by omega))<|aB<|aF O ?_;refine aJ<|aA<|aA<|rgN<|kmv O<|kmv O<|kln O<|kne O O hne1<|kmv O<|aK O O O (dS O O) ?_;refine K.callL [600] O O O hck (dS O O) ?_;refine aX O O hne2 (dS O O) ?_;refine kpf O O<|aB<|aE O ?_;refine aA<|rgN<|aK O O O dR ?_;refine aM O O O O O O dR ?_;refine kas O<|aB<|aI ?_)
            obtain ⟨q1,q2⟩:=dpR_none (show decP s=none from hS)
            rw [q1,q2]
            refine cE (σ':=⟨[(2,Lp 2),(3,Lb false)],[v3B 29 2 0 0 none 0 0],joinM X H⟩) (Le.of (by exact ⟨O,O,trivial⟩) (by exact ⟨O,trivial⟩) (by exact O) (by exact O) (by repeat' (first|refine bT ?_ ?_|rfl|exact bV|exact bU|exact bW O))) ?_
            refine cE (Le.drop fun b o h=>joinM_has hO h) (cD ?_)
            exact ⟨[],⟨[_,_],⟨⟨_,_,rfl,rfl,rfl,.inl ⟨AggT.h,rfl⟩⟩,rfl,trivial⟩,rfl⟩,(by repeat' (first|exact trivial|refine cQ ⟨_,rfl,?_⟩ ?_|refine cQ ⟨_,rfl⟩ ?_|rfl|exact bX _ _ _ _|exact bY _ _ _ _|exact bZ rfl)),rfl,rfl⟩
        · have hne1:(((at_:Nat):Int) != ((⟨s.toArray⟩:ByteArray).size:Int))=true:=by rw [bne_iff_ne,hlen];omega
          (refine aA<|aA<|rgN<|kmv O<|kmv O<|bB O O (by omega) hg9 dR<|kcv O (hw _) ?_;refine klt O O (cO (by omega))<|aB<|aF O ?_;refine aJ<|aA<|aA<|rgN<|kmv O<|kmv O<|kln O<|kne O O hne1<|kmv O<|aC O O O<|aC O O O<|aC O O O<|kpt O O<|aB ?_;refine aE O ?_;refine aA<|rgN<|aK O O O dR ?_;refine aM O O O O O O dR ?_;refine kas O<|aB<|aI ?_)
          obtain ⟨q1,q2⟩:=dpR_none (show decP s=none from hrest ls _ hrs (fun h=>hend (by have:=congrArg List.length h;rw [dA,dO] at this;omega)))
          rw [q1,q2]
          refine cE (σ':=⟨[(2,Lp 2),(3,Lb false)],[v3B 29 2 0 0 none 0 0],joinM X H⟩) (Le.of (by exact ⟨O,O,trivial⟩) (by exact ⟨O,trivial⟩) (by exact O) (by exact O) (by repeat' (first|refine bT ?_ ?_|rfl|exact bV|exact bU|exact bW O))) ?_
          refine cE (Le.drop fun b o h=>joinM_has hO h) (cD ?_)
          exact ⟨[],⟨[_,_],⟨⟨_,_,rfl,rfl,rfl,.inl ⟨AggT.h,rfl⟩⟩,rfl,trivial⟩,rfl⟩,(by repeat' (first|exact trivial|refine cQ ⟨_,rfl,?_⟩ ?_|refine cQ ⟨_,rfl⟩ ?_|rfl|exact bX _ _ _ _|exact bY _ _ _ _|exact bZ rfl)),rfl,rfl⟩
      have p3:IntKind.i64.wrap ((at_:Int)+3)=((at_+3:Nat):Int):=by rw [cH (by omega)];omega
      have p2:IntKind.i64.wrap ((at_:Int)+2)=((at_+2:Nat):Int):=by rw [cH (by omega)];omega
      have p1:IntKind.i64.wrap ((at_:Int)+1)=((at_+1:Nat):Int):=by rw [cH (by omega)];omega
      by_cases h3:at_+3≤s.length
      case neg =>
        (refine aA<|aA<|rgN<|kmv O<|kmv O<|bB O O (by omega) hg9 dR<|kcv O (hw _) ?_;refine klt O O (cP (by omega))<|aB<|aE O ?_;refine aH ?_;refine aA<|aG<|aA<|aA<|rgN<|kmv O<|kad O O p3<|kmv O<|kln O<|aS O O (cP (by rw [hlen];omega)) dR<|aB<|aE O ?_;refine aA<|rgN<|aK O O O dR ?_;refine aM O O O O O O dR ?_;refine kas O<|aB<|aI ?_)
        obtain ⟨q1,q2⟩:=dpR_none (show decP s=none from hnone (getRls_fail hrs (by omega) (getRl_short (by rw [dA];omega))))
        rw [q1,q2]
        refine cE (σ':=⟨[(2,Lp 2),(3,Lb false)],[v3B 29 2 0 0 none 0 0],joinM X H⟩) (Le.of (by exact ⟨O,O,trivial⟩) (by exact ⟨O,trivial⟩) (by exact O) (by exact O) (by repeat' (first|refine bT ?_ ?_|rfl|exact bV|exact bU|exact bW O))) ?_
        refine cE (Le.drop fun b o h=>joinM_has hO h) (cD ?_)
        exact ⟨[],⟨[_,_],⟨⟨_,_,rfl,rfl,rfl,.inl ⟨AggT.h,rfl⟩⟩,rfl,trivial⟩,rfl⟩,(by repeat' (first|exact trivial|refine cQ ⟨_,rfl,?_⟩ ?_|refine cQ ⟨_,rfl⟩ ?_|rfl|exact bX _ _ _ _|exact bY _ _ _ _|exact bZ rfl)),rfl,rfl⟩
      obtain ⟨n0,hn0⟩:∃ x,s[at_]? = some x:=⟨_,cX (by omega)⟩
      obtain ⟨n1,hn1⟩:∃ x,s[at_+1]? = some x:=⟨_,cX (by omega)⟩
      obtain ⟨n2,hn2⟩:∃ x,s[at_+2]? = some x:=⟨_,cX (by omega)⟩
      have hd3:s.drop at_=n0::n1::n2::s.drop (at_+3):=by rw [drop_at hn0,drop_at hn1,show at_+1+1=at_+2 from rfl,drop_at hn2]
      have y0:(⟨s.toArray⟩:ByteArray)[Int.toNat (at_:Nat)]? = some n0:=str_at (by rw [dG];exact hn0)
      have y1:(⟨s.toArray⟩:ByteArray)[Int.toNat ((at_+1:Nat):Int)]? = some n1:=str_at (by rw [dG];exact hn1)
      have y2:(⟨s.toArray⟩:ByteArray)[Int.toNat ((at_+2:Nat):Int)]? = some n2:=str_at (by rw [dG];exact hn2)
      have hn2b:=n2.toNat_lt
      (refine aA<|aA<|rgN<|kmv O<|kmv O<|bB O O (by omega) hg9 dR<|kcv O (hw _) ?_;refine klt O O (cP (by omega))<|aB<|aE O ?_;refine aH ?_;refine aA<|aG<|aA<|aA<|rgN<|kmv O<|kad O O p3<|kmv O<|kln O<|aS O O (cO (by rw [hlen];omega)) dR<|aB<|aF O ?_;refine aH ?_;refine aA<|rgD mixed<|kmv O<|kmv O<|bB O O (by omega) y0 dR<|kcv O (hw _) ?_;refine kmv O<|kmv O<|kad O O p1<|bB O O (by omega) y1 dR<|kcv O (hw _) ?_;refine aT O O (by exact O) (by exact nl3 O O O O) dR ?_;refine aP O dR ?_;refine aM O O O O O O dR ?_;refine aB<|rgA ?_;refine aA<|rgN<|kmv O<|kmv O<|kad O O p2<|bB O O (by omega) y2 dR<|kcv O (hw _) ?_;refine kas O<|aB<|aA<|rgN<|kmv O<|kad O O p3<|kas O<|aB<|aA<|aA<|rgN<|kas O<|aB<|aG ?_)
      refine cM (fun m σ=>∃ (at2:Nat) (cs:List (List Ins)) (vs:List Value) (H:Nat→Option Obj),cs.length≤n2.toNat∧m=n2.toNat-cs.length∧(10≤at2∧at2≤s.length)∧getEs cs.length (s.drop (at_+3))=some (cs,s.drop at2)∧OwnedM C X H∧RulesH H ws ls∧FormsH H vs cs∧((cs=[]∧σ=⟨[(0,Ls s),(2,Lp 2),(4,Lp 4),(5,Lp 5),(6,Ln .i64 (at2:Nat)),(7,Ln .i64 (ls.length:Nat)),(8,Lp 8),(9,Ln .i64 (n2.toNat:Nat)),(10,Ln .i64 (cs.length:Nat))],[v3B 51 8 (n0.toNat:Nat) (n1.toNat:Nat) none 0 0,(600,some ⟨51,(rwZ (ls) (ws)).map .val,true⟩),(5,some ⟨29,[.val (.int .i64 (va:Nat)),.val (.int .i64 (vb:Nat)),.slc 600 0 (ls.length) 3],false⟩),v3B 29 4 0 0 none 0 0,v3B 29 2 0 0 none 0 0],joinM X H⟩)∨(cs≠[]∧σ=⟨[(0,Ls s),(2,Lp 2),(4,Lp 4),(5,Lp 5),(6,Ln .i64 (at2:Nat)),(7,Ln .i64 (ls.length:Nat)),(8,Lp 8),(9,Ln .i64 (n2.toNat:Nat)),(10,Ln .i64 (cs.length:Nat))],[(601,some ⟨69,(vs).map .val,true⟩),(8,some ⟨51,[.val (.int .i64 (n0.toNat:Nat)),.val (.int .i64 (n1.toNat:Nat)),.slc 601 0 (cs.length) 1],false⟩),(600,some ⟨51,(rwZ (ls) (ws)).map .val,true⟩),(5,some ⟨29,[.val (.int .i64 (va:Nat)),.val (.int .i64 (vb:Nat)),.slc 600 0 (ls.length) 3],false⟩),v3B 29 4 0 0 none 0 0,v3B 29 2 0 0 none 0 0],joinM X H⟩))) n2.toNat
        (cE (σ':=⟨[(0,Ls s),(2,Lp 2),(4,Lp 4),(5,Lp 5),(6,Ln .i64 (at_+3:Nat)),(7,Ln .i64 (ls.length:Nat)),(8,Lp 8),(9,Ln .i64 (n2.toNat:Nat)),(10,Ln .i64 (0:Nat))],[v3B 51 8 (n0.toNat:Nat) (n1.toNat:Nat) none 0 0,(600,some ⟨51,(rwZ (ls) (ws)).map .val,true⟩),(5,some ⟨29,[.val (.int .i64 (va:Nat)),.val (.int .i64 (vb:Nat)),.slc 600 0 (ls.length) 3],false⟩),v3B 29 4 0 0 none 0 0,v3B 29 2 0 0 none 0 0],joinM X H⟩) (Le.of (by exact ⟨rfl,rfl,rfl,rfl,rfl,rfl,rfl,rfl,rfl,trivial⟩) (by exact ⟨rfl,rfl,rfl,rfl,rfl,trivial⟩) (by exact rfl) (by exact rfl) (by repeat' (first|refine bT ?_ ?_|rfl|exact bV|exact bU|exact bW rfl))) (cD ⟨at_+3,[],[],H,Nat.zero_le _,rfl,by omega,rfl,hO,GR,FormsH.nil,.inl ⟨rfl,rfl⟩⟩)) ?_
      clear hO GR
      clear H
      rintro m σ ⟨at2,cs,vs,H,hkm0,rfl,hat2,hes,hO,GR,GF,hst⟩
      rcases hst with ⟨hfe,rfl⟩|⟨hfe,rfl⟩
      · have hve:vs=[]:=List.eq_nil_of_length_eq_zero (by rw [GF.len,hfe];rfl)
        as_aux_lemma =>
          by_cases hkm:cs.length<n2.toNat
          · have p4:IntKind.i64.wrap ((at2:Int)+4)=((at2+4:Nat):Int):=by rw [cH (by omega)];omega
            have hvl:(vs.map CV.val).length=cs.length*1:=by rw [cW,GF.len];omega
            by_cases hroom:at2+4≤s.length
            case neg =>
              (refine aA<|aA<|rgN<|kmv O<|kmv O<|klt O O (cP (by omega))<|aB<|aE O ?_;refine aH ?_;refine aA<|aG<|aA<|aA<|rgN<|kmv O<|kad O O p4<|kmv O<|kln O<|aS O O (cP (by rw [hlen];omega)) dR<|aB<|aE O ?_;refine aA<|rgN<|aK O O O dR ?_;refine aM O O O O O O dR ?_;refine kas O<|aB<|aI ?_)
              obtain ⟨q1,q2⟩:=dpR_none (show decP s=none from hnone (getRls_fail hrs (by omega) (by rw [hd3];exact getRl_no (getEs_fail hes (by omega) (getE_short (by rw [dA];omega))))))
              rw [q1,q2]
              refine cE (σ':=⟨[(2,Lp 2),(3,Lb false)],[v3B 29 2 0 0 none 0 0],joinM X H⟩) (Le.of (by exact ⟨O,O,trivial⟩) (by exact ⟨O,trivial⟩) (by exact O) (by exact O) (by repeat' (first|refine bT ?_ ?_|rfl|exact bV|exact bU|exact bW O))) ?_
              refine cE (Le.drop fun b o h=>joinM_has hO h) (cD ?_)
              exact ⟨[],⟨[_,_],⟨⟨_,_,rfl,rfl,rfl,.inl ⟨AggT.h,rfl⟩⟩,rfl,trivial⟩,rfl⟩,(by repeat' (first|exact trivial|refine cQ ⟨_,rfl,?_⟩ ?_|refine cQ ⟨_,rfl⟩ ?_|rfl|exact bX _ _ _ _|exact bY _ _ _ _|exact bZ rfl)),rfl,rfl⟩
            have h4s:at2+4≤(⟨s.toArray⟩:ByteArray).size:=by rw [hlen];omega
            have hc4:(⟨s.toArray⟩:ByteArray).extract at2 (at2+4)=⟨((s.drop at2).take 4).toArray⟩:=by rw [str_cut,show at2+4-at2=4 by omega]
            have hL4:((s.drop at2).take 4).length=4:=by rw [cZ,dA];omega
            have hN:=rNumber12 (joinM X H) ((s.drop at2).take 4) hL4
            have hmlt:=le_lt ((s.drop at2).take 4)
            rw [hL4,show (256:Nat)^4=4294967296 by decide] at hmlt
            have hs1:IntKind.i64.wrap (((⟨s.toArray⟩:ByteArray).size:Int)-(at2:Nat))=((s.length-at2:Nat):Int):=by rw [hlen,cH (by omega)];omega
            have hs2:IntKind.i64.wrap (((s.length-at2:Nat):Int)-4)=((s.length-at2-4:Nat):Int):=by rw [cH (by omega)];omega
            have hgl:=getE_long (r:=s.drop at2) (by rw [dA];omega)
            have hga:=getE_at (r:=s.drop at2) (by rw [dA];omega)
            rw [List.drop_drop,dA] at hgl hga
            rw [List.drop_drop] at hga
            generalize le ((s.drop at2).take 4)=m at *
            by_cases hm:m≤s.length-at2-4
            case neg =>
              (refine aA<|aA<|rgN<|kmv O<|kmv O<|klt O O (cP (by omega))<|aB<|aE O ?_;refine aH ?_;refine aA<|aG<|aA<|aA<|rgN<|kmv O<|kad O O p4<|kmv O<|kln O<|aS O O (cO (by rw [hlen];omega)) dR<|aB<|aF O ?_;refine aH ?_;refine aA<|rgN<|kmv O<|kmv O<|kmv O<|kad O O p4<|bN (l:=at2) (h:=at2+4) (kl:=.i64) (kh:=.i64) O StrT.u O O ⟨(by omega),h4s⟩ hc4 dR<|kca O O hN<|kas O<|aB<|aA<|aA<|rgN<|kmv O ?_;refine kmv O<|kln O<|kmv O<|bA O O hs1 dR<|bA O O hs2 dR<|aS O O (cP (by omega)) dR<|aB<|aE O ?_;refine aA<|rgN<|aK O O O dR ?_;refine aM O O O O O O dR ?_;refine kas O<|aB<|aI ?_)
              obtain ⟨q1,q2⟩:=dpR_none (show decP s=none from hnone (getRls_fail hrs (by omega) (by rw [hd3];exact getRl_no (getEs_fail hes (by omega) (hgl (by omega))))))
              rw [q1,q2]
              refine cE (σ':=⟨[(2,Lp 2),(3,Lb false)],[v3B 29 2 0 0 none 0 0],joinM X H⟩) (Le.of (by exact ⟨O,O,trivial⟩) (by exact ⟨O,trivial⟩) (by exact O) (by exact O) (by repeat' (first|refine bT ?_ ?_|rfl|exact bV|exact bU|exact bW O))) ?_
              refine cE (Le.drop fun b o h=>joinM_has hO h) (cD ?_)
              exact ⟨[],⟨[_,_],⟨⟨_,_,rfl,rfl,rfl,.inl ⟨AggT.h,rfl⟩⟩,rfl,trivial⟩,rfl⟩,(by repeat' (first|exact trivial|refine cQ ⟨_,rfl,?_⟩ ?_|refine cQ ⟨_,rfl⟩ ?_|rfl|exact bX _ _ _ _|exact bY _ _ _ _|exact bZ rfl)),rfl,rfl⟩
            have hga:=hga (by omega)
            have hs3:IntKind.i64.wrap (((at2+4:Nat):Int)+(m:Nat))=((at2+4+m:Nat):Int):=by rw [cH (by omega)];omega
            have hms:at2+4+m≤(⟨s.toArray⟩:ByteArray).size:=by rw [hlen];omega
            have hcp:(⟨s.toArray⟩:ByteArray).extract (at2+4) (at2+4+m)=⟨((s.drop (at2+4)).take m).toArray⟩:=by rw [str_cut,show at2+4+m-(at2+4)=m by omega]
            have hD:=rDecode11 (joinM X H) ((s.drop (at2+4)).take m) (by rw [cZ];omega)
            cases hp:decX ((s.drop (at2+4)).take m) with
            | none =>
              obtain ⟨r1,r2⟩:=decR_none hp
              rw [r1,r2] at hD
              have hD2:=hD.plain
              rw [hp] at hga
              (refine aA<|aA<|rgN<|kmv O<|kmv O<|klt O O (cP (by omega))<|aB<|aE O ?_;refine aH ?_;refine aA<|aG<|aA<|aA<|rgN<|kmv O<|kad O O p4<|kmv O<|kln O<|aS O O (cO (by rw [hlen];omega)) dR<|aB<|aF O ?_;refine aH ?_;refine aA<|rgN<|kmv O<|kmv O<|kmv O<|kad O O p4<|bN (l:=at2) (h:=at2+4) (kl:=.i64) (kh:=.i64) O StrT.u O O ⟨(by omega),h4s⟩ hc4 dR<|kca O O hN<|kas O<|aB<|aA<|aA<|rgN<|kmv O ?_;refine kmv O<|kln O<|kmv O<|bA O O hs1 dR<|bA O O hs2 dR<|aS O O (cO (by omega)) dR<|aB<|aF O ?_;refine aH ?_;refine aA<|rgN<|kmv O<|kmv O<|kad O O p4<|kmv O<|kad O O p4<|kmv O<|kad O O hs3<|bN (l:=at2+4) (h:=at2+4+m) (kl:=.i64) (kh:=.i64) O StrT.u O O ⟨(by omega),hms⟩ hcp dR<|kca O O hD2<|kmv O<|kex O O<|kex O O ?_;refine kas O<|kas O<|aB<|aA<|aA<|rgN<|kmv O<|aV O O dR<|aB<|aE O ?_;refine aA<|rgN<|aK O O O dR ?_;refine aM O O O O O O dR ?_;refine kas O<|aB<|aI ?_)
              obtain ⟨q1,q2⟩:=dpR_none (show decP s=none from hnone (getRls_fail hrs (by omega) (by rw [hd3];exact getRl_no (getEs_fail hes (by omega) hga))))
              rw [q1,q2]
              refine cE (σ':=⟨[(2,Lp 2),(3,Lb false)],[v3B 29 2 0 0 none 0 0],joinM X H⟩) (Le.of (by exact ⟨O,O,trivial⟩) (by exact ⟨O,trivial⟩) (by exact O) (by exact O) (by repeat' (first|refine bT ?_ ?_|rfl|exact bV|exact bU|exact bW O))) ?_
              refine cE (Le.drop fun b o h=>joinM_has hO h) (cD ?_)
              exact ⟨[],⟨[_,_],⟨⟨_,_,rfl,rfl,rfl,.inl ⟨AggT.h,rfl⟩⟩,rfl,trivial⟩,rfl⟩,(by repeat' (first|exact trivial|refine cQ ⟨_,rfl,?_⟩ ?_|refine cQ ⟨_,rfl⟩ ?_|rfl|exact bX _ _ _ _|exact bY _ _ _ _|exact bZ rfl)),rfl,rfl⟩
            | some c =>
              obtain ⟨r1,r2⟩:=decR_some hp
              rw [r1,r2] at hD
              rw [hp] at hga
              simp only at hga
              have hstep:=getEs_step hes hga
              have hsmall:=small_dec hp
              have hadd:IntKind.i64.wrap ((cs.length:Int)+1)=((cs.length+1:Nat):Int):=by rw [cH (by omega)];omega
              generalize (s.drop (at2+4)).take m=part at *
              (refine aA<|aA<|rgN<|kmv O<|kmv O<|klt O O (cP (by omega))<|aB<|aE O ?_;refine aH ?_;refine aA<|aG<|aA<|aA<|rgN<|kmv O<|kad O O p4<|kmv O<|kln O<|aS O O (cO (by rw [hlen];omega)) dR<|aB<|aF O ?_;refine aH ?_;refine aA<|rgN<|kmv O<|kmv O<|kmv O<|kad O O p4<|bN (l:=at2) (h:=at2+4) (kl:=.i64) (kh:=.i64) O StrT.u O O ⟨(by omega),h4s⟩ hc4 dR<|kca O O hN<|kas O<|aB<|aA<|aA<|rgN<|kmv O ?_;refine kmv O<|kln O<|kmv O<|bA O O hs1 dR<|bA O O hs2 dR<|aS O O (cO (by omega)) dR<|aB<|aF O ?_;refine aH ?_;refine aA<|rgN<|kmv O<|kmv O<|kad O O p4<|kmv O<|kad O O p4<|kmv O<|kad O O hs3<|bN (l:=at2+4) (h:=at2+4+m) (kl:=.i64) (kh:=.i64) O StrT.u O O ⟨(by omega),hms⟩ hcp dR<|bE [(1000001,700)] (.tup [.one (.slc 700 0 c.length 6),Sb true]) [(700,some ⟨70,(inssV c).map .val,true⟩)] (hD) O O (by exact trivial) O O O O O (by exact (.box O (bY _ _ _ _) .nil)) dR<|kmv O<|kex O O<|kex O O ?_;refine kas O<|kas O<|aB<|aA<|aA<|rgN<|kmv O<|aV O O dR<|aB<|aF O ?_;refine aH ?_;refine aA<|rgN<|kfa O O ?_;refine kl1 O O O<|kmv O<|aZ (zs:=[.slice none 0 0]) (sz:=1) (e:=69) (cs':=[.slc 700 0 c.length 6]) (by kernel_rfl) O O O O O O dR<|K.appendNil (by_:=24) (e:=69) (e2:=69) (l2:=[.slc 700 0 c.length 6]) O O O (dN _) O O (by decide) (by kernel_rfl) (by kernel_rfl) (by omega) (by omega) O dR ?_;refine kfa O O ?_;refine bG O O O O O (nl3 O O O O) dR<|aB<|rgN<|kmv O<|kad O O p4<|kmv O<|kad O O hs3<|kas O<|aB<|rgN<|kmv O<|kad O O hadd<|kas O<|aB ?_)
              refine cE (σ':=⟨[(0,Ls s),(2,Lp 2),(4,Lp 4),(5,Lp 5),(6,Ln .i64 (at2+4+m:Nat)),(7,Ln .i64 (ls.length:Nat)),(8,Lp 8),(9,Ln .i64 (n2.toNat:Nat)),(10,Ln .i64 (cs.length+1:Nat))],[(601,some ⟨69,vs.map .val ++ .slc 700 0 c.length 6::([]:List Value).map .val,true⟩),(700,some ⟨70,(inssV c).map .val,true⟩),(8,some ⟨51,[.val (.int .i64 (n0.toNat:Nat)),.val (.int .i64 (n1.toNat:Nat)),.slc 601 0 (cs.length+1) 1],false⟩),(600,some ⟨51,(rwZ (ls) (ws)).map .val,true⟩),(5,some ⟨29,[.val (.int .i64 (va:Nat)),.val (.int .i64 (vb:Nat)),.slc 600 0 (ls.length) 3],false⟩),v3B 29 4 0 0 none 0 0,v3B 29 2 0 0 none 0 0],joinM X H⟩) ?_ ?_
              · rw [show cs=[] from hfe,show vs=[] from hve]
                exact Le.ofR [(601,105)] (by exact ⟨rfl,rfl,rfl,rfl,rfl,rfl,rfl,rfl,rfl,trivial⟩) (by repeat' (first|exact trivial|refine cQ ⟨_,rfl,?_⟩ ?_|refine cQ ⟨_,rfl⟩ ?_|rfl|exact bX _ _ _ _|exact bY _ _ _ _|exact bZ rfl)) (by exact rfl) (by exact rfl) (by repeat' (first|refine bT ?_ ?_|rfl|exact bV|exact bU|exact bW rfl)) (by exact rfl) (by exact rfl)
              refine Leads.closeCell hO (by have:=inssV_len c;rw [cW] at this;exact this) rfl bU rfl (by repeat' (first|refine bT ?_ ?_|rfl|exact bU)) rfl rfl fun b o v g1 _ hO3 hv=>cD ⟨n2.toNat-(cs.length+1),by omega,at2+4+m,cs++[c],vs++[v],withBlock H b o,by rw [cV];simp only [cY];omega,by rw [cV];rfl,by omega,by rw [cV];exact hstep,hO3,GR.mono (cJ g1),(GF.mono (cJ g1)).push (ins_leads hv hsmall),.inr ⟨by simp,?_⟩⟩
              rw [dH,cV]
              rfl
          · have hke:cs.length=n2.toNat:=by omega
            rw [hke] at hes
            have hstep:=getRls_step hrs (by rw [hd3];exact getRl_yes (n:=n0) (o:=n1) hes)
            have hrl:((rwZ ls ws).map CV.val).length=ls.length*3:=by rw [cW,rwZ_len GR.len]
            have hadd:IntKind.i64.wrap ((ls.length:Int)+1)=((ls.length+1:Nat):Int):=by rw [cH (by omega)];omega
            have hnc3:(rwZ ls ws).map CV.val++[.val (.int .i64 (n0.toNat:Nat)),.val (.int .i64 (n1.toNat:Nat)),.val (.slice none 0 0)]=(rwZ (ls++[(⟨(n0.toNat:Nat),(n1.toNat:Nat),cs⟩:Rl)]) (ws++[.slice none 0 0])).map .val:=by
              rw [rwZ_add GR.len];simp
            (refine aA<|aA<|rgN<|kmv O<|kmv O<|klt O O (cO (by omega))<|aB<|aF O ?_;refine aJ<|rgN<|kfa O O ?_;refine kl1 O O O<|aK O O O dR ?_;refine aZ (zs:=[.int .i64 0,.int .i64 0,.slice none 0 0]) (sz:=3) (e:=51) (cs':=[.val (.int .i64 (n0.toNat:Nat)),.val (.int .i64 (n1.toNat:Nat)),.val (.slice none 0 0)]) (by kernel_rfl) O O O O O O dR<|bQ (by_:=40) (e2:=51) (l2:=[.val (.int .i64 (n0.toNat:Nat)),.val (.int .i64 (n1.toNat:Nat)),.val (.slice none 0 0)]) (nl:=ls.length+1) (nc:=(rwZ (ls++[(⟨(n0.toNat:Nat),(n1.toNat:Nat),cs⟩:Rl)]) (ws++[.slice none 0 0])).map .val) O O hrl O O (dN _) O O (by kernel_rfl) (by kernel_rfl) (by omega) (by omega) O O hnc3 dR<|kfa O O ?_;refine bG O O O O O (nl3 O O O O) dR<|aB<|rgN<|kmv O<|kad O O hadd<|kas O<|aB ?_)
            have hcn:(ls++[(⟨(n0.toNat:Nat),(n1.toNat:Nat),cs⟩:Rl)]).length=ls.length+1:=by rw [cV];rfl
            refine cE (σ':=⟨[(0,Ls s),(2,Lp 2),(4,Lp 4),(5,Lp 5),(6,Ln .i64 (at2:Nat)),(7,Ln .i64 (ls.length+1:Nat))],[(600,some ⟨51,(rwZ (ls++[(⟨(n0.toNat:Nat),(n1.toNat:Nat),cs⟩:Rl)]) (ws++[.slice none 0 0])).map .val,true⟩),(5,some ⟨29,[.val (.int .i64 (va:Nat)),.val (.int .i64 (vb:Nat)),.slc 600 0 (ls.length+1) 3],false⟩),v3B 29 4 0 0 none 0 0,v3B 29 2 0 0 none 0 0],joinM X H⟩) ?_ (cD ⟨nb.toNat-(ls.length+1),by omega,at2,ls++[(⟨(n0.toNat:Nat),(n1.toNat:Nat),cs⟩:Rl)],ws++[.slice none 0 0],H,by rw [hcn];omega,by rw [hcn],by omega,by omega,by rw [hcn];exact hstep,hO,GR.push (by rw [show cs=[] from hfe];exact CodesIn.nilIn),.inr ⟨by simp,by rw [hcn]⟩⟩)
            exact Le.ofR [(600,115)] (by exact ⟨rfl,rfl,rfl,rfl,rfl,rfl,trivial⟩) (by repeat' (first|exact trivial|refine cQ ⟨_,rfl,?_⟩ ?_|refine cQ ⟨_,rfl⟩ ?_|rfl|exact bX _ _ _ _|exact bY _ _ _ _|exact bZ rfl)) (by exact rfl) (by exact rfl) (by repeat' (first|refine bT ?_ ?_|rfl|exact bV|exact bU|exact bW rfl)) (by exact rfl) (by exact rfl)
      · as_aux_lemma =>
          by_cases hkm:cs.length<n2.toNat
          · have p4:IntKind.i64.wrap ((at2:Int)+4)=((at2+4:Nat):Int):=by rw [cH (by omega)];omega
            have hvl:(vs.map CV.val).length=cs.length*1:=by rw [cW,GF.len];omega
            by_cases hroom:at2+4≤s.length
            case neg =>
              (refine aA<|aA<|rgN<|kmv O<|kmv O<|klt O O (cP (by omega))<|aB<|aE O ?_;refine aH ?_;refine aA<|aG<|aA<|aA<|rgN<|kmv O<|kad O O p4<|kmv O<|kln O<|aS O O (cP (by rw [hlen];omega)) dR<|aB<|aE O ?_;refine aA<|rgN<|aK O O O dR ?_;refine aM O O O O O O dR ?_;refine kas O<|aB<|aI ?_)
              obtain ⟨q1,q2⟩:=dpR_none (show decP s=none from hnone (getRls_fail hrs (by omega) (by rw [hd3];exact getRl_no (getEs_fail hes (by omega) (getE_short (by rw [dA];omega))))))
              rw [q1,q2]
              refine cE (σ':=⟨[(2,Lp 2),(3,Lb false)],[v3B 29 2 0 0 none 0 0],joinM X H⟩) (Le.of (by exact ⟨O,O,trivial⟩) (by exact ⟨O,trivial⟩) (by exact O) (by exact O) (by repeat' (first|refine bT ?_ ?_|rfl|exact bV|exact bU|exact bW O))) ?_
              refine cE (Le.drop fun b o h=>joinM_has hO h) (cD ?_)
              exact ⟨[],⟨[_,_],⟨⟨_,_,rfl,rfl,rfl,.inl ⟨AggT.h,rfl⟩⟩,rfl,trivial⟩,rfl⟩,(by repeat' (first|exact trivial|refine cQ ⟨_,rfl,?_⟩ ?_|refine cQ ⟨_,rfl⟩ ?_|rfl|exact bX _ _ _ _|exact bY _ _ _ _|exact bZ rfl)),rfl,rfl⟩
            have h4s:at2+4≤(⟨s.toArray⟩:ByteArray).size:=by rw [hlen];omega
            have hc4:(⟨s.toArray⟩:ByteArray).extract at2 (at2+4)=⟨((s.drop at2).take 4).toArray⟩:=by rw [str_cut,show at2+4-at2=4 by omega]
            have hL4:((s.drop at2).take 4).length=4:=by rw [cZ,dA];omega
            have hN:=rNumber12 (joinM X H) ((s.drop at2).take 4) hL4
            have hmlt:=le_lt ((s.drop at2).take 4)
            rw [hL4,show (256:Nat)^4=4294967296 by decide] at hmlt
            have hs1:IntKind.i64.wrap (((⟨s.toArray⟩:ByteArray).size:Int)-(at2:Nat))=((s.length-at2:Nat):Int):=by rw [hlen,cH (by omega)];omega
            have hs2:IntKind.i64.wrap (((s.length-at2:Nat):Int)-4)=((s.length-at2-4:Nat):Int):=by rw [cH (by omega)];omega
            have hgl:=getE_long (r:=s.drop at2) (by rw [dA];omega)
            have hga:=getE_at (r:=s.drop at2) (by rw [dA];omega)
            rw [List.drop_drop,dA] at hgl hga
            rw [List.drop_drop] at hga
            generalize le ((s.drop at2).take 4)=m at *
            by_cases hm:m≤s.length-at2-4
            case neg =>
              (refine aA<|aA<|rgN<|kmv O<|kmv O<|klt O O (cP (by omega))<|aB<|aE O ?_;refine aH ?_;refine aA<|aG<|aA<|aA<|rgN<|kmv O<|kad O O p4<|kmv O<|kln O<|aS O O (cO (by rw [hlen];omega)) dR<|aB<|aF O ?_;refine aH ?_;refine aA<|rgN<|kmv O<|kmv O<|kmv O<|kad O O p4<|bN (l:=at2) (h:=at2+4) (kl:=.i64) (kh:=.i64) O StrT.u O O ⟨(by omega),h4s⟩ hc4 dR<|kca O O hN<|kas O<|aB<|aA<|aA<|rgN<|kmv O ?_;refine kmv O<|kln O<|kmv O<|bA O O hs1 dR<|bA O O hs2 dR<|aS O O (cP (by omega)) dR<|aB<|aE O ?_;refine aA<|rgN<|aK O O O dR ?_;refine aM O O O O O O dR ?_;refine kas O<|aB<|aI ?_)
              obtain ⟨q1,q2⟩:=dpR_none (show decP s=none from hnone (getRls_fail hrs (by omega) (by rw [hd3];exact getRl_no (getEs_fail hes (by omega) (hgl (by omega))))))
              rw [q1,q2]
              refine cE (σ':=⟨[(2,Lp 2),(3,Lb false)],[v3B 29 2 0 0 none 0 0],joinM X H⟩) (Le.of (by exact ⟨O,O,trivial⟩) (by exact ⟨O,trivial⟩) (by exact O) (by exact O) (by repeat' (first|refine bT ?_ ?_|rfl|exact bV|exact bU|exact bW O))) ?_
              refine cE (Le.drop fun b o h=>joinM_has hO h) (cD ?_)
              exact ⟨[],⟨[_,_],⟨⟨_,_,rfl,rfl,rfl,.inl ⟨AggT.h,rfl⟩⟩,rfl,trivial⟩,rfl⟩,(by repeat' (first|exact trivial|refine cQ ⟨_,rfl,?_⟩ ?_|refine cQ ⟨_,rfl⟩ ?_|rfl|exact bX _ _ _ _|exact bY _ _ _ _|exact bZ rfl)),rfl,rfl⟩
            have hga:=hga (by omega)
            have hs3:IntKind.i64.wrap (((at2+4:Nat):Int)+(m:Nat))=((at2+4+m:Nat):Int):=by rw [cH (by omega)];omega
            have hms:at2+4+m≤(⟨s.toArray⟩:ByteArray).size:=by rw [hlen];omega
            have hcp:(⟨s.toArray⟩:ByteArray).extract (at2+4) (at2+4+m)=⟨((s.drop (at2+4)).take m).toArray⟩:=by rw [str_cut,show at2+4+m-(at2+4)=m by omega]
            have hD:=rDecode11 (joinM X H) ((s.drop (at2+4)).take m) (by rw [cZ];omega)
            cases hp:decX ((s.drop (at2+4)).take m) with
            | none =>
              obtain ⟨r1,r2⟩:=decR_none hp
              rw [r1,r2] at hD
              have hD2:=hD.plain
              rw [hp] at hga
              (refine aA<|aA<|rgN<|kmv O<|kmv O<|klt O O (cP (by omega))<|aB<|aE O ?_;refine aH ?_;refine aA<|aG<|aA<|aA<|rgN<|kmv O<|kad O O p4<|kmv O<|kln O<|aS O O (cO (by rw [hlen];omega)) dR<|aB<|aF O ?_;refine aH ?_;refine aA<|rgN<|kmv O<|kmv O<|kmv O<|kad O O p4<|bN (l:=at2) (h:=at2+4) (kl:=.i64) (kh:=.i64) O StrT.u O O ⟨(by omega),h4s⟩ hc4 dR<|kca O O hN<|kas O<|aB<|aA<|aA<|rgN<|kmv O ?_;refine kmv O<|kln O<|kmv O<|bA O O hs1 dR<|bA O O hs2 dR<|aS O O (cO (by omega)) dR<|aB<|aF O ?_;refine aH ?_;refine aA<|rgN<|kmv O<|kmv O<|kad O O p4<|kmv O<|kad O O p4<|kmv O<|kad O O hs3<|bN (l:=at2+4) (h:=at2+4+m) (kl:=.i64) (kh:=.i64) O StrT.u O O ⟨(by omega),hms⟩ hcp dR<|kca O O hD2<|kmv O<|kex O O<|kex O O ?_;refine kas O<|kas O<|aB<|aA<|aA<|rgN<|kmv O<|aV O O dR<|aB<|aE O ?_;refine aA<|rgN<|aK O O O dR ?_;refine aM O O O O O O dR ?_;refine kas O<|aB<|aI ?_)
              obtain ⟨q1,q2⟩:=dpR_none (show decP s=none from hnone (getRls_fail hrs (by omega) (by rw [hd3];exact getRl_no (getEs_fail hes (by omega) hga))))
              rw [q1,q2]
              refine cE (σ':=⟨[(2,Lp 2),(3,Lb false)],[v3B 29 2 0 0 none 0 0],joinM X H⟩) (Le.of (by exact ⟨O,O,trivial⟩) (by exact ⟨O,trivial⟩) (by exact O) (by exact O) (by repeat' (first|refine bT ?_ ?_|rfl|exact bV|exact bU|exact bW O))) ?_
              refine cE (Le.drop fun b o h=>joinM_has hO h) (cD ?_)
              exact ⟨[],⟨[_,_],⟨⟨_,_,rfl,rfl,rfl,.inl ⟨AggT.h,rfl⟩⟩,rfl,trivial⟩,rfl⟩,(by repeat' (first|exact trivial|refine cQ ⟨_,rfl,?_⟩ ?_|refine cQ ⟨_,rfl⟩ ?_|rfl|exact bX _ _ _ _|exact bY _ _ _ _|exact bZ rfl)),rfl,rfl⟩
            | some c =>
              obtain ⟨r1,r2⟩:=decR_some hp
              rw [r1,r2] at hD
              rw [hp] at hga
              simp only at hga
              have hstep:=getEs_step hes hga
              have hsmall:=small_dec hp
              have hadd:IntKind.i64.wrap ((cs.length:Int)+1)=((cs.length+1:Nat):Int):=by rw [cH (by omega)];omega
              generalize (s.drop (at2+4)).take m=part at *
              (refine aA<|aA<|rgN<|kmv O<|kmv O<|klt O O (cP (by omega))<|aB<|aE O ?_;refine aH ?_;refine aA<|aG<|aA<|aA<|rgN<|kmv O<|kad O O p4<|kmv O<|kln O<|aS O O (cO (by rw [hlen];omega)) dR<|aB<|aF O ?_;refine aH ?_;refine aA<|rgN<|kmv O<|kmv O<|kmv O<|kad O O p4<|bN (l:=at2) (h:=at2+4) (kl:=.i64) (kh:=.i64) O StrT.u O O ⟨(by omega),h4s⟩ hc4 dR<|kca O O hN<|kas O<|aB<|aA<|aA<|rgN<|kmv O ?_;refine kmv O<|kln O<|kmv O<|bA O O hs1 dR<|bA O O hs2 dR<|aS O O (cO (by omega)) dR<|aB<|aF O ?_;refine aH ?_;refine aA<|rgN<|kmv O<|kmv O<|kad O O p4<|kmv O<|kad O O p4<|kmv O<|kad O O hs3<|bN (l:=at2+4) (h:=at2+4+m) (kl:=.i64) (kh:=.i64) O StrT.u O O ⟨(by omega),hms⟩ hcp dR<|bE [(1000001,700)] (.tup [.one (.slc 700 0 c.length 6),Sb true]) [(700,some ⟨70,(inssV c).map .val,true⟩)] (hD) O O (by exact trivial) O O O O O (by exact (.box O (bY _ _ _ _) .nil)) dR<|kmv O<|kex O O<|kex O O ?_;refine kas O<|kas O<|aB<|aA<|aA<|rgN<|kmv O<|aV O O dR<|aB<|aF O ?_;refine aH ?_;refine aA<|rgN<|kfa O O ?_;refine kl1 O O O<|kmv O<|aZ (zs:=[.slice none 0 0]) (sz:=1) (e:=69) (cs':=[.slc 700 0 c.length 6]) (by kernel_rfl) O O O O O O dR<|bQ (by_:=24) (e2:=69) (l2:=[.slc 700 0 c.length 6]) (nl:=cs.length+1) (nc:=vs.map .val++[.slc 700 0 c.length 6]) O O hvl O O (dN _) O O (by kernel_rfl) (by kernel_rfl) (by omega) (by omega) O O O dR<|kfa O O ?_;refine bG O O O O O (nl3 O O O O) dR<|aB<|rgN<|kmv O<|kad O O p4<|kmv O<|kad O O hs3<|kas O<|aB<|rgN<|kmv O<|kad O O hadd<|kas O<|aB ?_)
              refine cE (σ':=⟨[(0,Ls s),(2,Lp 2),(4,Lp 4),(5,Lp 5),(6,Ln .i64 (at2+4+m:Nat)),(7,Ln .i64 (ls.length:Nat)),(8,Lp 8),(9,Ln .i64 (n2.toNat:Nat)),(10,Ln .i64 (cs.length+1:Nat))],[(601,some ⟨69,vs.map .val ++ .slc 700 0 c.length 6::([]:List Value).map .val,true⟩),(700,some ⟨70,(inssV c).map .val,true⟩),(8,some ⟨51,[.val (.int .i64 (n0.toNat:Nat)),.val (.int .i64 (n1.toNat:Nat)),.slc 601 0 (cs.length+1) 1],false⟩),(600,some ⟨51,(rwZ (ls) (ws)).map .val,true⟩),(5,some ⟨29,[.val (.int .i64 (va:Nat)),.val (.int .i64 (vb:Nat)),.slc 600 0 (ls.length) 3],false⟩),v3B 29 4 0 0 none 0 0,v3B 29 2 0 0 none 0 0],joinM X H⟩) ?_ ?_
              · exact Le.ofR [(601,105)] (by exact ⟨rfl,rfl,rfl,rfl,rfl,rfl,rfl,rfl,rfl,trivial⟩) (by repeat' (first|exact trivial|refine cQ ⟨_,rfl,?_⟩ ?_|refine cQ ⟨_,rfl⟩ ?_|rfl|exact bX _ _ _ _|exact bY _ _ _ _|exact bZ rfl)) (by exact rfl) (by exact rfl) (by repeat' (first|refine bT ?_ ?_|rfl|exact bV|exact bU|exact bW rfl)) (by exact rfl) (by exact rfl)
              refine Leads.closeCell hO (by have:=inssV_len c;rw [cW] at this;exact this) rfl bU rfl (by repeat' (first|refine bT ?_ ?_|rfl|exact bU)) rfl rfl fun b o v g1 _ hO3 hv=>cD ⟨n2.toNat-(cs.length+1),by omega,at2+4+m,cs++[c],vs++[v],withBlock H b o,by rw [cV];simp only [cY];omega,by rw [cV];rfl,by omega,by rw [cV];exact hstep,hO3,GR.mono (cJ g1),(GF.mono (cJ g1)).push (ins_leads hv hsmall),.inr ⟨by simp,?_⟩⟩
              rw [dH,cV]
              rfl
          · have hke:cs.length=n2.toNat:=by omega
            rw [hke] at hes
            have hstep:=getRls_step hrs (by rw [hd3];exact getRl_yes (n:=n0) (o:=n1) hes)
            have hrl:((rwZ ls ws).map CV.val).length=ls.length*3:=by rw [cW,rwZ_len GR.len]
            have hadd:IntKind.i64.wrap ((ls.length:Int)+1)=((ls.length+1:Nat):Int):=by rw [cH (by omega)];omega
            have hnc3:(rwZ ls ws).map CV.val++[.val (.int .i64 (n0.toNat:Nat)),.val (.int .i64 (n1.toNat:Nat)),.slc 601 0 cs.length 1]=(rwZ ls ws++[Value.int .i64 (n0.toNat:Nat),Value.int .i64 (n1.toNat:Nat)]).map .val ++ .slc 601 0 cs.length 1::([]:List Value).map .val:=by
              simp
            (refine aA<|aA<|rgN<|kmv O<|kmv O<|klt O O (cO (by omega))<|aB<|aF O ?_;refine aJ<|rgN<|kfa O O ?_;refine kl1 O O O<|aK O O O dR ?_;refine aZ (zs:=[.int .i64 0,.int .i64 0,.slice none 0 0]) (sz:=3) (e:=51) (cs':=[.val (.int .i64 (n0.toNat:Nat)),.val (.int .i64 (n1.toNat:Nat)),.slc 601 0 cs.length 1]) (by kernel_rfl) O O O O O O dR<|bQ (by_:=40) (e2:=51) (l2:=[.val (.int .i64 (n0.toNat:Nat)),.val (.int .i64 (n1.toNat:Nat)),.slc 601 0 cs.length 1]) (nl:=ls.length+1) (nc:=(rwZ ls ws++[Value.int .i64 (n0.toNat:Nat),Value.int .i64 (n1.toNat:Nat)]).map .val ++ .slc 601 0 cs.length 1::([]:List Value).map .val) O O hrl O O (dN _) O O (by kernel_rfl) (by kernel_rfl) (by omega) (by omega) O O hnc3 dR<|kfa O O ?_;refine bG O O O O O (nl3 O O O O) dR<|aB<|rgN<|kmv O<|kad O O hadd<|kas O<|aB ?_)
            have hcn:(ls++[(⟨(n0.toNat:Nat),(n1.toNat:Nat),cs⟩:Rl)]).length=ls.length+1:=by rw [cV];rfl
            refine cE (σ':=⟨[(0,Ls s),(2,Lp 2),(4,Lp 4),(5,Lp 5),(6,Ln .i64 (at2:Nat)),(7,Ln .i64 (ls.length+1:Nat))],[(600,some ⟨51,(rwZ ls ws++[Value.int .i64 (n0.toNat:Nat),Value.int .i64 (n1.toNat:Nat)]).map .val ++ .slc 601 0 cs.length 1::([]:List Value).map .val,true⟩),(601,some ⟨69,vs.map .val,true⟩),(5,some ⟨29,[.val (.int .i64 (va:Nat)),.val (.int .i64 (vb:Nat)),.slc 600 0 (ls.length+1) 3],false⟩),v3B 29 4 0 0 none 0 0,v3B 29 2 0 0 none 0 0],joinM X H⟩) ?_ ?_
            · exact Le.ofR [(600,115)] (by exact ⟨rfl,rfl,rfl,rfl,rfl,rfl,trivial⟩) (by repeat' (first|exact trivial|refine cQ ⟨_,rfl,?_⟩ ?_|refine cQ ⟨_,rfl⟩ ?_|rfl|exact bX _ _ _ _|exact bY _ _ _ _|exact bZ rfl)) (by exact rfl) (by exact rfl) (by repeat' (first|refine bT ?_ ?_|rfl|exact bV|exact bU|exact bW rfl)) (by exact rfl) (by exact rfl)
            refine Leads.closeCell hO (by have:=GF.len;omega) rfl bU rfl (by repeat' (first|refine bT ?_ ?_|rfl|exact bU)) rfl rfl fun b o v g1 _ hO3 hv=>cD ⟨nb.toNat-(ls.length+1),by omega,at2,ls++[(⟨(n0.toNat:Nat),(n1.toNat:Nat),cs⟩:Rl)],ws++[v],withBlock H b o,by rw [hcn];omega,by rw [hcn],by omega,by omega,by rw [hcn];exact hstep,hO3,(GR.mono (cJ g1)).push (codes_leads hv (GF.mono (cJ g1))),.inr ⟨by simp,?_⟩⟩
            rw [hcn,rwZ_add GR.len]
            simp
end Go.Proofs.YtamplgnbbanamaaGreatDoor
end
section
namespace Go.Proofs.YtamplgnbbanamaaGreatDoor
open Go Go.Lg Go.Lg.Fml Go.Lg.Fld Go.Lg.Arith
set_option maxRecDepth 100000
variable (X:Nat→Option Obj)
theorem same12_lent {S:Nat→Option (Option Box)} {p q:Pg} {bd:Option Addr} {cap2 k:Nat} {t e:TypeId} {cc:List CV} {r:Bool} (hs:pgOk p) (hin2:RulesIn X bd q.rs) (hs2:pgOk q) (he:decide (p=q)=r) (hk:S k=some (some ⟨e,cc,.res (rlR t p.rs)⟩)):
    ∀ (Y:Nat→Option Obj) (us:List Value),(∀ b o,X b=some o→Y b=some o)→LentLs S Y [.sv (.agg [.val (.int .i64 p.va),.val (.int .i64 p.vb),.slc k 0 p.rs.length 3]),LPg q.va q.vb bd q.rs.length cap2] us→PSpec Tryz.prog Y 16 (us.map toLV) (Lb r):=by
  intro Y us hY hL
  obtain ⟨u2,us2,rfl,⟨bv,rfl,b1,bv1,rfl,f1,b2,bv2,rfl,f2,b3,bv3,rfl,f3,rfl⟩,u1,us1,rfl,⟨av,rfl,a1,av1,rfl,g1,a2,av2,rfl,g2,a3,av3,rfl,g3,rfl⟩,rfl⟩:=hL
  have g1:a1 = .int .i64 q.va:=g1
  have g2:a2 = .int .i64 q.vb:=g2
  have g3:a3 = .slice bd q.rs.length cap2:=g3
  have f1:b1 = .int .i64 p.va:=f1
  have f2:b2 = .int .i64 p.vb:=f2
  subst g1 g2 g3 f1 f2
  obtain ⟨blk,cap3,rfl,hin⟩:=lent_rl hk f3
  have:=same12_spec Y p q (some ⟨blk,0,none⟩) cap3 hin hs.big hs.size bd cap2 (hin2.mono hY) hs2.big hs2.size
  rw [he] at this
  exact this
theorem joinM_old {C:Ctx} {X H:Nat→Option Obj} (hO:OwnedM C X H):∀ b o,X b=some o→joinM X H b=some o:=fun _ _ h=>joinM_has hO h
abbrev reSt (bs:List UInt8) (p:Pg) (ad ud:Option Addr) (cap uc:Nat) (Y:Nat→Option Obj):St:=
  ⟨[(1,Ls bs),(2,Lp 2),(5,Lp 5)],[v3B 24 2 p.va p.vb ad p.rs.length cap,v3B 29 5 p.va p.vb ud p.rs.length uc],Y⟩
set_option maxHeartbeats 12800000 in
theorem RuleExact_spec (hTab:XTab X) (p:Pg) (ad:Option Addr) (cap:Nat) (bs:List UInt8) (hin:RulesIn X ad p.rs) (hbig:p.rs.length<9223372036854775808) (hsz:sizeB p.rs):
    PSpec Tryz.prog X 3 [LPg p.va p.vb ad p.rs.length cap,Ls bs] (Lb true):=by
  have hW:=awake12_spec X hTab
  have hG:=great12_spec X p ad cap hin hbig hsz
  refine cF Tryz.func3 rfl (by kernel_rfl) rfl rfl ?_
  intro C
  have hlen:(⟨bs.toArray⟩:ByteArray).size=bs.length:=rfl
  cases hg:grtP p.rs with
  | true =>
    rw [hg] at hG
    (refine aA<|rgN<|aL O O O dR<|kas O<|aB<|aA<|aA<|rgN<|kca O O (hW)<|aV O O dR<|aB<|aF O ?_;refine aH ?_;refine aA<|aA<|rgN<|aK O O O dR ?_;refine kca O O hG<|kmv O<|aC O O O<|aC O O O<|aC O O O<|kpt O O<|aB<|aE O ?_;refine aA<|rgN<|kas O<|aB<|aI ?_)
    exact ⟨[_],⟨O,trivial⟩,O⟩
  | false =>
  rw [hg] at hG
  have hS:=ok_of_grt hg
  by_cases hlb:8192<bs.length
  · (refine aA<|rgN<|aL O O O dR<|kas O<|aB<|aA<|aA<|rgN<|kca O O (hW)<|aV O O dR<|aB<|aF O ?_;refine aH ?_;refine aA<|aA<|rgN<|aK O O O dR ?_;refine kca O O hG<|kmv O<|gmv O O O<|K.lenStr O (dS O O) ?_;refine aS O O (cP (by rw [hlen];omega)) (dS O O) ?_;refine kpf O O<|aB<|aE O ?_;refine aA<|rgN<|kas O<|aB<|aI ?_)
    exact ⟨[_],⟨O,trivial⟩,O⟩
  (refine aA<|rgN<|aL O O O dR<|kas O<|aB<|aA<|aA<|rgN<|kca O O (hW)<|aV O O dR<|aB<|aF O ?_;refine aH ?_;refine aA<|aA<|rgN<|aK O O O dR ?_;refine kca O O hG<|kmv O<|gmv O O O<|K.lenStr O (dS O O) ?_;refine aS O O (cO (by rw [hlen];omega)) (dS O O) ?_;refine kpf O O<|aB<|aF O ?_;refine aH ?_;refine aA ?_)
  repeat refine aA ?_
  refine LWP.meetL (fun σ=>∃ (Y:Nat→Option Obj) (ud:Option Addr) (uc:Nat),(∀ b o,X b=some o→Y b=some o)∧RulesIn Y ud p.rs∧σ=reSt bs p ad ud cap uc Y) ?_ ?_
  · by_cases h0:p.rs=[]
    · have hF:=form12_nil X p.va p.vb ad cap
      obtain ⟨va,vb,rs⟩:=p
      simp only at h0
      subst h0
      (refine rgN<|aK O O O dR ?_;refine aU [] [] (hF) O O (by exact trivial) O O O O O (by exact .nil) dR<|aP O dR ?_;refine aM O O O O O O dR ?_;refine aB ?_)
      exact Leads.here (σ':=reSt bs ⟨va,vb,[]⟩ ad none cap 0 X) (Le.of (by exact ⟨O,O,O,trivial⟩) (by exact ⟨O,O,trivial⟩) (by exact O) (by exact O) (by repeat' (first|refine bT ?_ ?_|rfl|exact bV|exact bU|exact bW O))) ⟨X,none,0,fun _ _ h=>h,RulesIn.nil,O⟩
    · have hF:=form12_some X p.va p.vb p.rs ad cap hin (List.length_pos_iff.2 h0) hS
      (refine rgN<|aK O O O dR ?_;refine bE [(1000001,601)] (.sv (.agg [.val (.int .i64 p.va),.val (.int .i64 p.vb),.slc 601 0 p.rs.length 3])) [rlB 51 601 p.rs] (hF) O O (by exact trivial) O O O O O (by exact (.box O O .nil)) dR<|aP O dR ?_;refine aM O O O O O O dR ?_;refine aB ?_)
      refine cE (σ':=⟨[(1,Ls bs),(2,Lp 2),(5,Lp 5)],[(5,some ⟨29,[.val (.int .i64 p.va),.val (.int .i64 p.vb)] ++ .slc 601 0 p.rs.length 3::[],false⟩),rlB 51 601 p.rs,v3B 24 2 p.va p.vb ad p.rs.length cap],X⟩) (Le.of (by exact ⟨O,O,O,trivial⟩) (by exact ⟨O,O,O,trivial⟩) (by exact O) (by exact O) (by repeat' (first|refine bT ?_ ?_|rfl|exact bV|exact bU|exact bW O))) ?_
      refine Leads.fixCell O O O O O O fun ρ H uc hR hO _ _ => ?_
      exact cE (Le.of (by exact ⟨O,O,O,trivial⟩) (by exact ⟨O,O,trivial⟩) (by exact O) (by exact O) (by repeat' (first|refine bT ?_ ?_|rfl|exact bV|exact bU|exact bW O))) (cD ⟨joinM X H,some ⟨ρ.1,0,none⟩,uc,joinM_old hO,hR.2.mono fun b o h=>joinM_in h,O⟩)
  rintro σ ⟨Y,ud,uc,hY,hU,rfl⟩
  replace hin:=hin.mono hY
  have hRC:=rCheck12 Y p ud uc hU hS.big hS.size
  have hE:=hEncode Y p ad cap hin hS
  have hC:=hCheck Y p ad cap hin hS
  (refine aA<|rgN<|aK O O O dR ?_;refine kca O O hRC<|kas O<|aB<|aA<|rgN<|aK O O O dR ?_;refine kca O O hE<|kmv O<|kex O O<|kex O O<|kas O<|kas O<|aB<|aA<|aA ?_)
  refine LWP.cut (fun σ=>σ=⟨[(1,Ls bs)],[],Y⟩) ?_ ?_
  · by_cases hz:chkP p=0
    · have hta:encPT p=encP p:=if_pos hz
      have hRE:=rEncode12 Y p ud uc hU hz hS.size
      rw [hta,hz]
      rw [hz] at hC
      generalize encP p=eb at *
      (refine rgN<|aK O O O dR ?_;refine kca O O hC<|kmv O<|kne O O (r:=false) O<|kmv O<|gmv O O O<|gmv O O O<|aX O O (r:=false) O (dS O O) ?_;refine kpf O O<|kmv O<|gmv O O O<|bC O O (r:=true) O (dS O O) ?_;refine gmv O O O<|gmv O O O<|aK O O O (dS O O) ?_;refine gca O O hRE O O<|K.strNe O O (strs_ne (r:=false) (by simp)) (dS O O) ?_;refine bF O O (dS O O) ?_;refine kpf O O<|kmv O<|gmv O O O<|aX O O (r:=false) O (dS O O) ?_;refine gmv O O O<|aC O O O<|aC O O O<|bP O O (dS O O) ?_;refine kpf O O<|aB<|aF O ?_;refine aH ?_)
      exact ⟨_,Le.of (by exact ⟨O,trivial⟩) (by exact trivial) (by exact O) (by exact O) (by repeat' (first|refine bT ?_ ?_|rfl|exact bV|exact bU|exact bW O)),O⟩
    · have hta:encPT p=[]:=if_neg hz
      rw [hta]
      generalize chkP p=ce at *
      (refine rgN<|aK O O O dR ?_;refine kca O O hC<|kmv O<|kne O O (cS O)<|kmv O<|gmv O O O<|gmv O O O<|aX O O (cS O) (dS O O) ?_;refine kpf O O<|kmv O<|gmv O O O<|bC O O (cR hz) (dS O O) ?_;refine gmv O O O<|aC O O O<|aC O O O<|aC O O O<|aC O O O<|bP O O (dS O O) ?_;refine kpf O O<|kmv O<|gmv O O O<|aX O O (cT hz) (dS O O) ?_;refine gmv O O O<|gmv O O O<|K.strNe O O (strs_ne (r:=false) (by decide)) (dS O O) ?_;refine bF O O (dS O O) ?_;refine kpf O O<|aB<|aF O ?_;refine aH ?_)
      exact ⟨_,Le.of (by exact ⟨O,trivial⟩) (by exact trivial) (by exact O) (by exact O) (by repeat' (first|refine bT ?_ ?_|rfl|exact bV|exact bU|exact bW O)),O⟩
  rintro σ rfl
  have hR:=rDecode12 Y bs (by omega)
  cases hd:decP bs with
  | none =>
    have d1:=hDecode_no Y bs (by omega) hd
    obtain ⟨q1,q2⟩:=dpR_none hd
    rw [q1,q2] at hR
    have hF:=form12_nil Y 0 0 none 0
    have hq:=same12_spec Y ⟨0,0,[]⟩ ⟨0,0,[]⟩ none 0 RulesIn.nil (by decide) (fun r hr=>by cases hr) none 0 RulesIn.nil (by decide) (fun r hr=>by cases hr)
    rw [cP rfl] at hq
    (refine aA<|rgN<|kmv O<|kca O O d1<|kmv O<|kex O O<|kex O O<|aP O dR ?_;refine aM O O O O O O dR ?_;refine kas O<|aB<|aA<|rgN<|kmv O<|aU [] [] (hR) O O (by exact trivial) O O O O O (by exact .nil) dR<|kmv O<|kex O O<|kex O O<|aP O dR ?_;refine aM O O O O O O dR ?_;refine kas O<|aB<|aA<|rgD mixed<|kmv O<|kmv O<|keq O O (r:=false) O<|K.eqlB O O (beq_self_eq_true false) dR<|kmv O<|gmv O O O<|gmv O O O<|gmv O O O<|bC O O (r:=true) O (dS O O) ?_;refine bP O O (dS O O) ?_;refine kpt O O<|kmv O<|aK O O O (dS O O) ?_;refine aU [] [] (hF) O O (by exact trivial) O O O O O (by exact .nil) (dS O O) ?_;refine aK O O O (dS O O) ?_;refine gca O O hq O O<|kpt O O<|kas O<|aB<|rgA ?_;refine aI ?_)
    exact ⟨[_],⟨O,trivial⟩,O⟩
  | some t =>
    obtain ⟨_,hz,_⟩:=encP_dec hd
    have hT:=ok_of_chk hz
    have d1:=hDecode_ok Y bs (by omega) hd
    (refine aA<|rgN<|kmv O<|bE [(1000001,701)] (.tup [.agg [.val (.int .i64 t.va),.val (.int .i64 t.vb),.slc 701 0 t.rs.length 3],Sn .i64 0]) [rlB 46 701 t.rs] (d1) O O (by exact trivial) O O O O O (by exact (.box O O .nil)) dR<|kmv O<|kex O O<|kex O O<|aP O dR ?_;refine aM O O O O O O dR ?_;refine kas O<|aB<|aA ?_)
    refine LWP.le (σ':=⟨[(1,Ls bs),(9,Lp 9),(10,Ln .i64 0)],[(9,some ⟨24,[.val (.int .i64 t.va),.val (.int .i64 t.vb)] ++ .slc 701 0 t.rs.length 3::[],false⟩),rlB 46 701 t.rs],Y⟩) (Le.of (by exact ⟨O,O,O,trivial⟩) (by exact ⟨O,O,trivial⟩) (by exact O) (by exact O) (by repeat' (first|refine bT ?_ ?_|rfl|exact bV|exact bU|exact bW O))) ?_
    refine LWP.fixCell O O O O O O fun ρ H qc hR1 hO _ _ => ?_
    have hq:=hR1.2.mono fun b o h=>joinM_in (X:=Y) h
    replace hR:=rDecode12 (joinM Y H) bs (by omega)
    clear hO hR1
    generalize joinM Y H=Z at *
    generalize (some ⟨ρ.1,0,none⟩:Option Addr)=qd at *
    by_cases h0:t.rs=[]
    · obtain ⟨q1,q2⟩:=dpR_nil hd (by rw [h0];rfl)
      rw [q1,q2] at hR
      have hF:=form12_nil Z t.va t.vb qd qc
      have hsm:=same12_spec Z t t none 0 (by rw [h0];exact RulesIn.nil) hT.big hT.size none 0 (by rw [h0];exact RulesIn.nil) hT.big hT.size
      rw [cP rfl] at hsm
      obtain ⟨va,vb,rs⟩:=t
      simp only at h0
      subst h0
      (refine rgN<|kmv O<|aU [] [] (hR) O O (by exact trivial) O O O O O (by exact .nil) dR<|kmv O<|kex O O<|kex O O<|aP O dR ?_;refine aM O O O O O O dR ?_;refine kas O<|aB<|aA<|rgD mixed<|kmv O<|kmv O<|keq O O (r:=true) O<|K.eqlB O O (beq_self_eq_true true) dR<|kmv O<|gmv O O O<|gmv O O O<|aC O O O<|aC O O O<|bF O O (dS O O) ?_;refine kpt O O<|kmv O<|aK O O O (dS O O) ?_;refine aU [] [] (hF) O O (by exact trivial) O O O O O (by exact .nil) (dS O O) ?_;refine aK O O O (dS O O) ?_;refine gca O O hsm O O<|kpt O O<|kas O<|aB<|rgA ?_;refine aI ?_)
      exact ⟨[_],⟨O,trivial⟩,O⟩
    · obtain ⟨q1,q2⟩:=dpR_some hd (fun e=>h0 (List.eq_nil_of_length_eq_zero e))
      rw [q1,q2] at hR
      (refine rgN<|kmv O<|bE [(1000001,702)] (.tup [.agg [.val (.int .i64 t.va),.val (.int .i64 t.vb),.slc 702 0 t.rs.length 3],Sb true]) [rlB 51 702 t.rs] (hR) O O (by exact trivial) O O O O O (by exact (.box O O .nil)) dR<|kmv O<|kex O O<|kex O O<|aP O dR ?_;refine aM O O O O O O dR ?_;refine kas O<|aB<|aA ?_)
      refine LWP.le (σ':=⟨[(9,Lp 9),(10,Ln .i64 0),(11,Lp 11),(12,Lb true)],[(11,some ⟨29,[.val (.int .i64 t.va),.val (.int .i64 t.vb)] ++ .slc 702 0 t.rs.length 3::[],false⟩),rlB 51 702 t.rs,v3B 24 9 t.va t.vb qd t.rs.length qc],Z⟩) (Le.of (by exact ⟨O,O,O,O,trivial⟩) (by exact ⟨O,O,O,trivial⟩) (by exact O) (by exact O) (by repeat' (first|refine bT ?_ ?_|rfl|exact bV|exact bU|exact bW O))) ?_
      refine LWP.fixCell O O O O O O fun ρ2 H2 wc hR2 hO2 _ _ => ?_
      have hw:=hR2.2.mono fun b o h=>joinM_in (X:=Z) h
      replace hq:=hq.mono (joinM_old hO2)
      generalize joinM Z H2=Z2 at *
      generalize (some ⟨ρ2.1,0,none⟩:Option Addr)=wd at *
      have hF:=form12_some Z2 t.va t.vb t.rs qd qc hq (List.length_pos_iff.2 h0) hT
      have hsm:=fun (S:Nat→Option (Option Box)) (hk:S 703=some (some ⟨0,[],.res (rlR 51 t.rs)⟩))=>same12_lent Z2 (S:=S) (p:=t) (q:=t) (cap2:=wc) (k:=703) hT hw hT (cP rfl) hk
      (refine rgD mixed<|kmv O<|kmv O<|keq O O (r:=true) O<|K.eqlB O O (beq_self_eq_true true) dR<|kmv O<|gmv O O O<|gmv O O O<|aC O O O<|aC O O O<|bF O O (dS O O) ?_;refine kpt O O<|kmv O<|aK O O O (dS O O) ?_;refine bE [(1000001,703)] (.sv (.agg [.val (.int .i64 t.va),.val (.int .i64 t.vb),.slc 703 0 t.rs.length 3])) [rlB 51 703 t.rs] (hF) O O (by exact trivial) O O O O O (by exact (.box O O .nil)) (dS O O) ?_;refine aK O O O (dS O O) ?_;refine K.callL [703] O O O (hsm _ O) (dS O O) ?_;refine kpt O O<|kas O<|aB<|rgA ?_;refine aI ?_)
      exact ⟨[_],⟨O,trivial⟩,O⟩
end Go.Proofs.YtamplgnbbanamaaGreatDoor
end
section
namespace Go.Proofs.YtamplgnbbanamaaGreatDoor
open Go Go.Lg Go.RowKit Go.ChangeShapes Go.WideShapes Go.Joins
set_option maxRecDepth 100000
theorem tab_of_laid11 {W : World} (h : laidMetH Tryz.prog [("math/bits.deBruijn32tab", Rows.laid_math_bits_deBruijn32tab), ("math/bits.deBruijn64tab", Rows.laid_math_bits_deBruijn64tab), ("internal/strconv.uint64pow10", Rows.laid_internal_strconv_uint64pow10)] W) : Lib.TabIs Tryz.prog W "internal/strconv.uint64pow10" .u64 Lib.pow10Tab := by
  rw [MakeChecks.laidMetH_plain _ _ _ (by kernel_rfl)] at h
  have h3 : laidMet Tryz.prog (("internal/strconv.uint64pow10", Lib.tabData .u64 Lib.pow10Tab) :: []) W := (h.tail).tail
  exact Lib.tabIs_of_head (g:=1) (t:=209) (e:=62) (n:=20) (by kernel_rfl) (by kernel_rfl) (by kernel_rfl) (by kernel_rfl) (by kernel_rfl) (by kernel_rfl) h3
theorem xtab11 {W : World} (h : Lib.TabIs Tryz.prog W "internal/strconv.uint64pow10" .u64 Lib.pow10Tab) : XTab (fun b => W.heap[b]?) := by
  intro w hX
  unfold Lib.TabIs World.var? at h ⊢
  have hg : Tryz.prog.globalNamed "internal/strconv.uint64pow10" = some 1 := by kernel_rfl
  rw [hg] at h ⊢
  simp only [Option.bind_some] at h ⊢
  cases e:W.heap[1]? with
  | none=>rw [e] at h;cases h
  | some o=>rw [hX _ _ e];rw [e] at h;exact h
end Go.Proofs.YtamplgnbbanamaaGreatDoor
end
