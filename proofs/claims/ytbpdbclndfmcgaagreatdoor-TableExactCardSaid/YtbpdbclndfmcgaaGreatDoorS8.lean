/- A piece of a proof over this program: contracts of its functions, and a logic to prove them by. -/
import Derived.Test.YtbpdbclndfmcgaaGreatDoorS3
import Derived.Test.YtbpdbclndfmcgaaGreatDoorS7
section
set_option maxHeartbeats 12800000
set_option maxRecDepth 100000
namespace Go.Proofs.YtbpdbclndfmcgaaGreatDoor
open Go Go.Lg Go.Lg.Fld Go.Lg.Sg
set_option maxRecDepth 100000
theorem tbs_nil16 {X:Nat→Option Obj} {ad:Option Addr}:TbsIn X ad []:=⟨[],TbsH.nil,fun i r hr=>by simp at hr⟩
theorem good_most {s:Sc} {set:Nat} {most:Int} (h:goodT s set most=true):∃ n:Nat,most=(n:Int):=by
 unfold goodT at h
 simp only [Bool.and_eq_true,decide_eq_true_eq] at h
 exact ⟨most.toNat,by omega⟩
theorem tget_at {t:Tb} {row comp:Int} (h:tgetE t row comp=0):∃ j k:Nat,row=(j:Int)∧j<t.l.length∧placeT t.set comp=some k:=by
 unfold tgetE at h
 split at h
 ·rename_i h1
  split at h
  ·rename_i h2
   obtain ⟨k,hk⟩:=Option.isSome_iff_exists.1 h2
   obtain ⟨j,hj,hjl⟩:=rowB_some h1
   exact ⟨j,k,hj,hjl,hk⟩
  ·cases h
 ·cases h
theorem tset_at {t:Tb} {row:Int} {p:Pt} (h:tsetE t row p=0):∃ j k:Nat,row=(j:Int)∧j<t.l.length∧placeT t.set p.comp=some k∧fitErr (fsAt t.sc.cs p.comp) p.val=0:=by
 unfold tsetE at h
 by_cases c:tgetE t row p.comp=0
 ·rw [if_pos c] at h
  obtain ⟨j,k,h1,h2,h3⟩:=tget_at c
  exact ⟨j,k,h1,h2,h3,h⟩
 ·rw [if_neg c] at h
  exact absurd h c
theorem val_big {X:Nat→Option Obj} {t:Tb} {lad:Option Addr} (hk:TbOk t) (hT:TbsIn X lad t.l) {i k:Nat}:(valT t i k).length<4611686018427387904∧∀ n∈valT t i k,In2 n.2:=by
 unfold valT
 cases hr:t.l[i]? with
 | none=>exact ⟨show (0:Nat)<4611686018427387904 by decide,fun n hn=>by cases hn⟩
 | some r =>
  simp only
  cases hp:r.p[k]? with
  | none=>exact ⟨show (0:Nat)<4611686018427387904 by decide,fun n hn=>by cases hn⟩
  | some p =>
   simp only
   obtain ⟨_,_,_,_,_,_,_,_,_,_,_,_,_,hP⟩:=hT.get hr
   obtain ⟨_,_,_,_,_,_,_,_,_,_,_,_,_,hN⟩:=hP.get hp
   exact ⟨row_big hk (dA hr) (dA hp),hN.in2⟩
variable (X:Nat→Option Obj)
set_option maxHeartbeats 102400000 in
theorem tableExact_law (s:Sc) (set:Nat) (most:Int) (acs:List Ac) (ad aad:Option Addr) (cap acap:Nat) (hin:CompsIn X ad s.cs) (hnm:NamesIn s.cs) (hset:set<4294967296) (hA:AcsIn X aad acs) (hb:acs.length<9223372036854775808):
  PSpec Tryz.prog X 3 [Sx s.ver ad s.cs.length cap,Ln .u32 (set:Nat),Ln .i64 most,.sv (.one (.val (.slice aad acs.length acap)))] (Lb true):=by
 have hW:=awake16_spec X
 have hG:=great16_spec X s.ver ad cap s.cs hin (greatB16 s.cs) rfl
 refine cD Tryz.func3 rfl V5 rfl rfl ?_
 intro C
 cases hg:greatB16 s.cs with
 | true =>
  rw [hg] at hG
  refine U30 ?_
  exact V6
 | false =>
 rw [hg] at hG
 obtain ⟨s1,s2⟩:=greatB16_no hg
 by_cases h80:80<acs.length
 ·(refine U21 ?_;refine aS O O (cM V3) (dP O O) ?_;refine U8 ?_)
  exact V6
 have hGo:=rGood_spec X s set most ad cap hin ⟨s1,s2⟩ hset
 cases hgt:goodT s set most with
 | false =>
  rw [hgt] at hGo
  have hN:=tNew_no X s set most ad cap hin hnm ⟨s1,s2⟩ hset hgt
  ((refine U21 ?_;refine aS O O (cL V3) (dP O O) ?_;refine U25 ?_;refine kca O O (tAdd_nil X 1 none 0 0) ?_;refine U9 ?_;refine kca O O (tDrop_nil X 0) ?_;refine U9 ?_;refine kca O O (tGet_nil X 0 1) ?_;refine U4 ?_);(refine U5 ?_;refine kca O O (tParts_nil X 0) ?_;refine U9 ?_;refine kca O O (tBytes_nil X 0 1) ?_;refine U9 ?_;refine K.nilNil O V5 (.inl ⟨O,O⟩) dO ?_;refine U22 ?_;refine aT O O V2 V1C (dP O O) ?_;refine gca O O (tSet_nil X 0 ⟨0,[]⟩ none 0) O O ?_;refine U4 ?_;refine gca O O (tKeep_nil X) O O ?_;refine U4 ?_;refine gca O O (tYield_nil X) O O ?_;refine U4 ?_;refine gca O O (tLen_nil X) O O ?_;refine U1 ?_;refine gca O O (tKept_nil X) O O<|K.add O O (c:=0) O (dP O O) ?_);(refine U1 ?_;refine gca O O (tRoom_nil X) O O<|K.add O O (c:=0) O (dP O O) ?_;refine U1 ?_;refine gca O O (tEnts_nil X) O O ?_;refine U1 ?_;refine K.add O O (c:=0) O (dP O O) ?_;refine U4 ?_;refine gca O O (tEnt_nil X 0) O O ?_;refine U4 ?_;refine gca O O (tSig_nil X) O O ?_;refine U4 ?_;refine gca O O (tClone_nil X) O O<|K.nilNil O V5 (.inl ⟨O,O⟩) (dP O O) ?_;refine U4 ?_))
  exact V6
 | true =>
 rw [hgt] at hGo
 obtain ⟨mo,rfl⟩:=good_most hgt
 have hN:=tNew X s set mo ad cap hin hnm ⟨s1,s2⟩ hset hgt
 have hId:=rIds_spec X set hset
 (refine U21 ?_;refine aS O O (cL V3) (dP O O) ?_;refine U9 ?_;refine bE [(1000001,500)] (Lp 500) [tB 500 ⟨s,set,mo,0,[]⟩] (hN) O O V15 O O O O O VB dO ?_;refine U14 ?_;refine rgD mixed ?_;refine U2 ?_;refine bE [(1000001,601)] (.sv (.one (.slc 601 0 (idsL set).length))) [nuB 601 (idsL set)] (hId) O O V15 O O O O O V18 dO<|kmv O<|aT O O V2 (by exact nl6 O O O O O O O) dO ?_;refine U10 ?_)
 refine LWP.le (σ':=⟨[(1,Ln .u32 (set:Nat)),(3,.sv (.one (.val (.slice aad acs.length acap)))),(9,Lp 500),(20,Lp 20),(21,Ln .i64 (0:Nat))],[(20,some ⟨62,[.val (.int .i64 s.ver),.val (.slice ad s.cs.length cap)] ++ .slc 601 0 (idsL set).length 1::[.val (.int .i64 (mo:Nat)),.val (.int .i64 (0:Nat)),.val (.slice none 0 0)],false⟩),(601,some ⟨3,(nuV (idsL set)).map .val,true⟩),tB 500 ⟨s,set,mo,0,[]⟩],X⟩) (Le.of V12 V9 V2 V2 V0) ?_
 refine LWP.freezeCell O O O O O O fun k1 icap arr1 fr1 hn1 _ _ _ hv1 => ?_
 have hids:NuIn (withBlock X k1 (.cells arr1 3 fr1)) (some ⟨k1,0,none⟩) (idsL set):=nu_frozen hv1
 have hX0:∀ b o,X b=some o→withBlock X k1 (.cells arr1 3 fr1) b=some o:=cG hn1
 clear hv1 hn1
 generalize withBlock X k1 (.cells arr1 3 fr1)=Y0 at *
 generalize (some ⟨k1,0,none⟩:Option Addr)=iad at *
 have hOk0:TbOk ⟨s,set,mo,0,[]⟩:=TbOk.new hset hgt
 have hT0:TbIn Y0 ⟨s,set,mo,0,[]⟩ ad iad none:=⟨hin.mono hX0,hids,tbs_nil16,⟨s1,s2⟩⟩
 have hse0:(⟨s,set,mo,0,[]⟩:Tb).set=set:=rfl
 refine LWP.le (σ':=⟨[(1,Ln .u32 (set:Nat)),(3,.sv (.one (.val (.slice aad acs.length acap)))),(9,Lp 500),(20,Lp 20),(21,Ln .i64 (0:Nat))],[tB 500 (⟨s,set,mo,0,[]⟩),utB 20 (Tcs (⟨s,set,mo,0,[]⟩) ad cap iad icap none 0)],Y0⟩) (Le.of V12 VA V2 V2 V0) ?_
 clear hN hW hG hgt hGo hId hids
 generalize (⟨s,set,mo,0,[]⟩:Tb)=t0 at *
 refine cJ (fun z σ=>∃ (i:Nat) (t:Tb) (Y:Nat→Option Obj) (lad:Option Addr) (lcap:Nat),i≤acs.length∧z=acs.length-i∧TbOk t∧t.set=set∧(∀ b o,X b=some o→Y b=some o)∧TbIn Y t ad iad lad∧σ=⟨[(1,Ln .u32 (set:Nat)),(3,.sv (.one (.val (.slice aad acs.length acap)))),(9,Lp 500),(20,Lp 20),(21,Ln .i64 (i:Nat))],[tB 500 (t),utB 20 (Tcs (t) ad cap iad icap lad lcap)],Y⟩) acs.length
  (cA ⟨0,t0,Y0,none,0,by omega,by omega,hOk0,hse0,hX0,hT0,rfl⟩) ?_
 clear hOk0 hT0 hse0 hX0
 clear t0 Y0
 rintro z σ ⟨i,t,Y,lad,lcap,hi,rfl,hk,hset0,hXY,hT,rfl⟩
 by_cases hlt:i<acs.length
 case neg =>
  refine U15 ?_
  exact V6
 obtain ⟨a,ha⟩:=wg hlt
 obtain ⟨ab,ao,arr,el,fr,pad,pcap,rfl,hX,hsz,hc4,hP⟩:=hA.at_ i a ha
 obtain ⟨ak,ai,ae,apl,apv⟩:=hA.small a (dA ha)
 have hXa:=hXY _ _ hX
 replace hP:=hP.mono hXY
 have hcells:((arr.toList.drop (ao+i*4)).take 4).map CV.val=[.val (.int .i64 a.kind),.val (.int .i64 a.i),.val (.int .u64 (a.e:Nat)),.val (.slice pad a.p.length pcap)]:=by rw [hc4];rfl
 have hao:=wo ao i 4
 have hadd:=wi i V3
 have hm:=hk.most
 have hroom:=hk.room
 by_cases h12:12<a.p.length
 ·(refine U27 ?_;refine aS O O (cM V3) dO ?_;refine U7 ?_)
  exact V6
 refine U33 ?_
 repeat refine aA ?_
 refine LWP.meetL (fun σ=>σ=⟨[(23,Ln .i64 (0:Nat)),(1,Ln .u32 (set:Nat)),(3,.sv (.one (.val (.slice (some ⟨ab,ao,none⟩) acs.length acap)))),(9,Lp 500),(20,Lp 20),(21,Ln .i64 (i:Nat)),(22,Lp 22)],[(22,some ⟨64,[.val (.int .i64 a.kind),.val (.int .i64 a.i),.val (.int .u64 (a.e:Nat)),.val (.slice pad a.p.length pcap)],false⟩),tB 500 (t),utB 20 (Tcs (t) ad cap iad icap lad lcap)],Y⟩) ?_ ?_
 ·refine U3 ?_
  exact Leads.here (σ':=⟨[(23,Ln .i64 (0:Nat)),(1,Ln .u32 (set:Nat)),(3,.sv (.one (.val (.slice (some ⟨ab,ao,none⟩) acs.length acap)))),(9,Lp 500),(20,Lp 20),(21,Ln .i64 (i:Nat)),(22,Lp 22)],[(22,some ⟨64,[.val (.int .i64 a.kind),.val (.int .i64 a.i),.val (.int .u64 (a.e:Nat)),.val (.slice pad a.p.length pcap)],false⟩),tB 500 (t),utB 20 (Tcs (t) ad cap iad icap lad lcap)],Y⟩) (Le.of V1D V9 V2 V2 V0) O
 rintro σ rfl
 repeat refine aA ?_
 refine LWP.meetQ (fun σ=>(∀ x∈a.p,x.val.length≤100)∧σ=⟨[(1,Ln .u32 (set:Nat)),(3,.sv (.one (.val (.slice (some ⟨ab,ao,none⟩) acs.length acap)))),(9,Lp 500),(20,Lp 20),(21,Ln .i64 (i:Nat)),(22,Lp 22)],[(22,some ⟨64,[.val (.int .i64 a.kind),.val (.int .i64 a.i),.val (.int .u64 (a.e:Nat)),.val (.slice pad a.p.length pcap)],false⟩),tB 500 (t),utB 20 (Tcs (t) ad cap iad icap lad lcap)],Y⟩) ?_ ?_
 ·repeat (first|refine aA ?_|refine LWP.block ?_)
  refine cH (fun z σ=>∃ k:Nat,k≤a.p.length∧z=a.p.length-k∧(∀ x∈a.p.take k,x.val.length≤100)∧σ=⟨[(23,Ln .i64 (k:Nat)),(1,Ln .u32 (set:Nat)),(3,.sv (.one (.val (.slice (some ⟨ab,ao,none⟩) acs.length acap)))),(9,Lp 500),(20,Lp 20),(21,Ln .i64 (i:Nat)),(22,Lp 22)],[(22,some ⟨64,[.val (.int .i64 a.kind),.val (.int .i64 a.i),.val (.int .u64 (a.e:Nat)),.val (.slice pad a.p.length pcap)],false⟩),tB 500 (t),utB 20 (Tcs (t) ad cap iad icap lad lcap)],Y⟩) a.p.length
   ⟨⟨[(23,Ln .i64 (0:Nat)),(1,Ln .u32 (set:Nat)),(3,.sv (.one (.val (.slice (some ⟨ab,ao,none⟩) acs.length acap)))),(9,Lp 500),(20,Lp 20),(21,Ln .i64 (i:Nat)),(22,Lp 22)],[(22,some ⟨64,[.val (.int .i64 a.kind),.val (.int .i64 a.i),.val (.int .u64 (a.e:Nat)),.val (.slice pad a.p.length pcap)],false⟩),tB 500 (t),utB 20 (Tcs (t) ad cap iad icap lad lcap)],Y⟩,Le.of V1D V9 V2 V2 V0,0,by omega,by omega,(fun x hx=>by simp at hx),rfl⟩ ?_
  rintro z σ ⟨k,hkk,rfl,hpre,rfl⟩
  by_cases hkl:k<a.p.length
  case neg =>
   have e:k=a.p.length:=by omega
   subst e
   rw [dC] at hpre
   refine U11 ?_
   exact Leads.here (σ':=⟨[(1,Ln .u32 (set:Nat)),(3,.sv (.one (.val (.slice (some ⟨ab,ao,none⟩) acs.length acap)))),(9,Lp 500),(20,Lp 20),(21,Ln .i64 (i:Nat)),(22,Lp 22)],[(22,some ⟨64,[.val (.int .i64 a.kind),.val (.int .i64 a.i),.val (.int .u64 (a.e:Nat)),.val (.slice pad a.p.length pcap)],false⟩),tB 500 (t),utB 20 (Tcs (t) ad cap iad icap lad lcap)],Y⟩) (Le.of VC V9 V2 V2 V0) ⟨hpre,O⟩
  obtain ⟨p,hp⟩:=wg hkl
  obtain ⟨pb,po,parr,pel,pfr,vad,vcap,rfl,hPX,hpsz,hpc,hp1,hp2,hN,hvc⟩:=hP.get hp
  have hpo:po+Int.toNat ((k:Nat):Int)*2=po+k*2:=by simp
  have haddk:=wi k V3
  have hpb:=apv p (dA hp)
  by_cases h100:100<p.val.length
  ·(refine U22 ?_;refine aS O O (cM V3) dO ?_;refine U7 ?_)
   exact V6
  refine U31 ?_
  exact ⟨a.p.length-(k+1),⟨[(23,Ln .i64 (k+1:Nat)),(1,Ln .u32 (set:Nat)),(3,.sv (.one (.val (.slice (some ⟨ab,ao,none⟩) acs.length acap)))),(9,Lp 500),(20,Lp 20),(21,Ln .i64 (i:Nat)),(22,Lp 22)],[(22,some ⟨64,[.val (.int .i64 a.kind),.val (.int .i64 a.i),.val (.int .u64 (a.e:Nat)),.val (.slice (some ⟨pb,po,none⟩) a.p.length pcap)],false⟩),tB 500 (t),utB 20 (Tcs (t) ad cap iad icap lad lcap)],Y⟩,by omega,Le.of V1D V9 V2 V2 V0,k+1,by omega,O,(fun x hx=>by
   rw [take_snoc hp] at hx
   rcases List.mem_append.1 hx with hx|hx
   ·exact hpre x hx
   ·rw [List.mem_singleton.1 hx];omega),rfl⟩
 rintro σ ⟨hv100,rfl⟩
 have hl12:a.p.length≤12∧∀ x∈a.p,x.val.length<4611686018427387904:=⟨by omega,apv⟩
 have hl100:a.p.length≤12∧∀ x∈a.p,x.val.length≤100:=⟨by omega,hv100⟩
 clear hXa hX hcells hsz hc4 hao hv100
 repeat refine aA ?_
 refine LWP.meetL (fun σ=>σ=⟨[(192,Ln .i64 a.kind),(1,Ln .u32 (set:Nat)),(3,.sv (.one (.val (.slice (some ⟨ab,ao,none⟩) acs.length acap)))),(9,Lp 500),(20,Lp 20),(21,Ln .i64 (i:Nat)),(22,Lp 22)],[(22,some ⟨64,[.val (.int .i64 a.kind),.val (.int .i64 a.i),.val (.int .u64 (a.e:Nat)),.val (.slice pad a.p.length pcap)],false⟩),tB 500 (t),utB 20 (Tcs (t) ad cap iad icap lad lcap)],Y⟩) ?_ ?_
 ·refine U4 ?_
  exact Leads.here (σ':=⟨[(192,Ln .i64 a.kind),(1,Ln .u32 (set:Nat)),(3,.sv (.one (.val (.slice (some ⟨ab,ao,none⟩) acs.length acap)))),(9,Lp 500),(20,Lp 20),(21,Ln .i64 (i:Nat)),(22,Lp 22)],[(22,some ⟨64,[.val (.int .i64 a.kind),.val (.int .i64 a.i),.val (.int .u64 (a.e:Nat)),.val (.slice pad a.p.length pcap)],false⟩),tB 500 (t),utB 20 (Tcs (t) ad cap iad icap lad lcap)],Y⟩) (Le.of V1D V9 V2 V2 V0) O
 rintro σ rfl
 repeat refine aA ?_
 refine LWP.meetL (fun σ=>∃ (u:Tb) (Z:Nat→Option Obj) (ld:Option Addr) (lc:Nat),TbOk u∧u.set=set∧(∀ b o,Y b=some o→Z b=some o)∧TbIn Z u ad iad ld∧σ=⟨[(1,Ln .u32 (set:Nat)),(3,.sv (.one (.val (.slice (some ⟨ab,ao,none⟩) acs.length acap)))),(9,Lp 500),(20,Lp 20),(21,Ln .i64 (i:Nat)),(22,Lp 22)],[(22,some ⟨64,[.val (.int .i64 a.kind),.val (.int .i64 a.i),.val (.int .u64 (a.e:Nat)),.val (.slice pad a.p.length pcap)],false⟩),tB 500 (u),utB 20 (Tcs (u) ad cap iad icap ld lc)],Z⟩) ?_ ?_
 ·by_cases c1:a.kind=1
  ·by_cases hz:addE t a.e a.p=0
   ·have hAd:=tAdd Y t hk a.e ae a.p pad pcap hP hl12 hz
    have hRa:=rAdd Y t a.e a.p ad iad lad pad cap icap lcap pcap hT hk hP.parts hl100 hz
    have hku:=(hk.add ae hz).1
    rw [show addT t a.e a.p={ t with l:=(addT t a.e a.p).l } from rfl] at hAd hRa hku
    generalize (addT t a.e a.p).l=L1 at *
    ((refine U4 ?_;refine keq O O (r:=true) (cS c1) ?_;refine U12 ?_;refine aU [(1000000,500)] [tB 500 ({ t with l:=L1 })] (hAd) O O V7 VE O O O O VB dO ?_;refine U13 ?_;refine bE [(1000001,601)] (.tup [.agg (TcsM t ad cap iad icap 601 L1.length),Sn .i64 0]) [tbsB Y 601 L1] (hRa) O O V15 O O O O O VB dO ?_;refine U19 ?_);(refine U2 ?_;refine aX O O (r:=false) (cP O) (dP O O) ?_;refine bF O O (dP O O) ?_;refine U3 ?_;refine aX O O (r:=false) O (dP O O) ?_;refine U3 ?_;refine bO O O (dP O O) ?_;refine U8 ?_))
    refine cC (σ':=⟨[(1,Ln .u32 (set:Nat)),(3,.sv (.one (.val (.slice (some ⟨ab,ao,none⟩) acs.length acap)))),(9,Lp 500),(20,Lp 20),(21,Ln .i64 (i:Nat)),(22,Lp 22)],[(20,some ⟨62,[.val (.int .i64 t.sc.ver),.val (.slice ad t.sc.cs.length cap),.val (.slice iad (idsL t.set).length icap),.val (.int .i64 (t.most:Nat)),.val (.int .i64 (t.kept:Nat))] ++ .slc 601 0 L1.length 2::[],false⟩),tbsB Y 601 L1,(22,some ⟨64,[.val (.int .i64 a.kind),.val (.int .i64 a.i),.val (.int .u64 (a.e:Nat)),.val (.slice pad a.p.length pcap)],false⟩),tB 500 ({ t with l:=L1 })],Y⟩) (Le.of VC VD V2 V2 V0) ?_
    refine Leads.fixCell O O O V16 O O fun ρ H c2 hR hO _ _ => ?_
    exact Leads.here (σ':=⟨[(1,Ln .u32 (set:Nat)),(3,.sv (.one (.val (.slice (some ⟨ab,ao,none⟩) acs.length acap)))),(9,Lp 500),(20,Lp 20),(21,Ln .i64 (i:Nat)),(22,Lp 22)],[(22,some ⟨64,[.val (.int .i64 a.kind),.val (.int .i64 a.i),.val (.int .u64 (a.e:Nat)),.val (.slice pad a.p.length pcap)],false⟩),tB 500 ({ t with l:=L1 }),utB 20 (Tcs ({ t with l:=L1 }) ad cap iad icap (some ⟨ρ.1,0,none⟩) c2)],joinM Y H⟩) (Le.of VC V9 V2 V2 V0) ⟨{ t with l:=L1 },joinM Y H,some ⟨ρ.1,0,none⟩,c2,hku,hset0,fun _ _ h=>joinM_has hO h,⟨hT.cs.mono fun _ _ h=>joinM_has hO h,hT.ids.mono fun _ _ h=>joinM_has hO h,hR.2,hT.small⟩,O⟩
   ·have hAd:=tAdd_no Y t hk a.e ae a.p pad pcap hP hl12 hz
    have hRa:=rAdd_no Y t a.e a.p ad iad lad pad cap icap lcap pcap hT hk hP.parts hl100 hz
    generalize addE t a.e a.p=e at *
    (refine U4 ?_;refine keq O O (r:=true) (cS c1) ?_;refine U12 ?_;refine aU [(1000000,500)] [tB 500 (t)] (hAd) O O V7 VE O O O O VB dO ?_;refine U26 ?_;refine kne O O (r:=false) (cP O) ?_;refine U2 ?_;refine bC O O (r:=false) (cO hz) (dP O O) ?_;refine U6 ?_;refine bO O O (dP O O) ?_;refine U3 ?_;refine aX O O (r:=true) (cR hz) (dP O O) ?_;refine U2 ?_;refine aX O O (r:=false) O (dP O O) ?_;refine bF O O (dP O O) ?_;refine U8 ?_)
    exact Leads.here (σ':=⟨[(1,Ln .u32 (set:Nat)),(3,.sv (.one (.val (.slice (some ⟨ab,ao,none⟩) acs.length acap)))),(9,Lp 500),(20,Lp 20),(21,Ln .i64 (i:Nat)),(22,Lp 22)],[(22,some ⟨64,[.val (.int .i64 a.kind),.val (.int .i64 a.i),.val (.int .u64 (a.e:Nat)),.val (.slice pad a.p.length pcap)],false⟩),tB 500 (t),utB 20 (Tcs (t) ad cap iad icap lad lcap)],Y⟩) (Le.of VC V9 V2 V2 V0) ⟨t,Y,lad,lcap,hk,hset0,fun _ _ h=>h,hT,O⟩
  by_cases c2:a.kind=2
  ·by_cases hz:addE t a.e a.p=0
   ·have hAd:=tAdd Y t hk a.e ae a.p pad pcap hP hl12 hz
    have hRa:=rAdd Y t a.e a.p ad iad lad pad cap icap lcap pcap hT hk hP.parts hl100 hz
    have hku:=(hk.add ae hz).1
    rw [show addT t a.e a.p={ t with l:=(addT t a.e a.p).l } from rfl] at hAd hRa hku
    generalize (addT t a.e a.p).l=L1 at *
    ((refine U4 ?_;refine keq O O (r:=false) (cO c1) ?_;refine U5 ?_;refine keq O O (r:=true) (cS c2) ?_;refine U12 ?_;refine aU [(1000000,500)] [tB 500 ({ t with l:=L1 })] (hAd) O O V7 VE O O O O VB dO ?_;refine U13 ?_;refine bE [(1000001,601)] (.tup [.agg (TcsM t ad cap iad icap 601 L1.length),Sn .i64 0]) [tbsB Y 601 L1] (hRa) O O V15 O O O O O VB dO ?_;refine U16 ?_);(refine U5 ?_;refine aX O O (r:=false) (cP O) (dP O O) ?_;refine bF O O (dP O O) ?_;refine U3 ?_;refine aX O O (r:=false) O (dP O O) ?_;refine U3 ?_;refine bO O O (dP O O) ?_;refine U8 ?_))
    refine cC (σ':=⟨[(1,Ln .u32 (set:Nat)),(3,.sv (.one (.val (.slice (some ⟨ab,ao,none⟩) acs.length acap)))),(9,Lp 500),(20,Lp 20),(21,Ln .i64 (i:Nat)),(22,Lp 22)],[(20,some ⟨62,[.val (.int .i64 t.sc.ver),.val (.slice ad t.sc.cs.length cap),.val (.slice iad (idsL t.set).length icap),.val (.int .i64 (t.most:Nat)),.val (.int .i64 (t.kept:Nat))] ++ .slc 601 0 L1.length 2::[],false⟩),tbsB Y 601 L1,(22,some ⟨64,[.val (.int .i64 a.kind),.val (.int .i64 a.i),.val (.int .u64 (a.e:Nat)),.val (.slice pad a.p.length pcap)],false⟩),tB 500 ({ t with l:=L1 })],Y⟩) (Le.of VC VD V2 V2 V0) ?_
    refine Leads.fixCell O O O V16 O O fun ρ H c2 hR hO _ _ => ?_
    exact Leads.here (σ':=⟨[(1,Ln .u32 (set:Nat)),(3,.sv (.one (.val (.slice (some ⟨ab,ao,none⟩) acs.length acap)))),(9,Lp 500),(20,Lp 20),(21,Ln .i64 (i:Nat)),(22,Lp 22)],[(22,some ⟨64,[.val (.int .i64 a.kind),.val (.int .i64 a.i),.val (.int .u64 (a.e:Nat)),.val (.slice pad a.p.length pcap)],false⟩),tB 500 ({ t with l:=L1 }),utB 20 (Tcs ({ t with l:=L1 }) ad cap iad icap (some ⟨ρ.1,0,none⟩) c2)],joinM Y H⟩) (Le.of VC V9 V2 V2 V0) ⟨{ t with l:=L1 },joinM Y H,some ⟨ρ.1,0,none⟩,c2,hku,hset0,fun _ _ h=>joinM_has hO h,⟨hT.cs.mono fun _ _ h=>joinM_has hO h,hT.ids.mono fun _ _ h=>joinM_has hO h,hR.2,hT.small⟩,O⟩
   ·have hAd:=tAdd_no Y t hk a.e ae a.p pad pcap hP hl12 hz
    have hRa:=rAdd_no Y t a.e a.p ad iad lad pad cap icap lcap pcap hT hk hP.parts hl100 hz
    generalize addE t a.e a.p=e at *
    ((refine U4 ?_;refine keq O O (r:=false) (cO c1) ?_;refine U5 ?_;refine keq O O (r:=true) (cS c2) ?_;refine U12 ?_;refine aU [(1000000,500)] [tB 500 (t)] (hAd) O O V7 VE O O O O VB dO ?_;refine U26 ?_;refine kne O O (r:=false) (cP O) ?_;refine U2 ?_;refine bC O O (r:=false) (cO hz) (dP O O) ?_);(refine U6 ?_;refine bO O O (dP O O) ?_;refine U3 ?_;refine aX O O (r:=true) (cR hz) (dP O O) ?_;refine U2 ?_;refine aX O O (r:=false) O (dP O O) ?_;refine bF O O (dP O O) ?_;refine U8 ?_))
    exact Leads.here (σ':=⟨[(1,Ln .u32 (set:Nat)),(3,.sv (.one (.val (.slice (some ⟨ab,ao,none⟩) acs.length acap)))),(9,Lp 500),(20,Lp 20),(21,Ln .i64 (i:Nat)),(22,Lp 22)],[(22,some ⟨64,[.val (.int .i64 a.kind),.val (.int .i64 a.i),.val (.int .u64 (a.e:Nat)),.val (.slice pad a.p.length pcap)],false⟩),tB 500 (t),utB 20 (Tcs (t) ad cap iad icap lad lcap)],Y⟩) (Le.of VC V9 V2 V2 V0) ⟨t,Y,lad,lcap,hk,hset0,fun _ _ h=>h,hT,O⟩
  by_cases c3:a.kind=3
  ·by_cases hz:addE t a.e a.p=0
   ·have hAd:=tAdd Y t hk a.e ae a.p pad pcap hP hl12 hz
    have hRa:=rAdd Y t a.e a.p ad iad lad pad cap icap lcap pcap hT hk hP.parts hl100 hz
    have hku:=(hk.add ae hz).1
    rw [show addT t a.e a.p={ t with l:=(addT t a.e a.p).l } from rfl] at hAd hRa hku
    generalize (addT t a.e a.p).l=L1 at *
    ((refine U4 ?_;refine keq O O (r:=false) (cO c1) ?_;refine U5 ?_;refine keq O O (r:=false) (cO c2) ?_;refine U4 ?_;refine keq O O (r:=true) (cS c3) ?_;refine U10 ?_;refine aU [(1000000,500)] [tB 500 ({ t with l:=L1 })] (hAd) O O V7 VE O O O O VB dO ?_;refine U13 ?_;refine bE [(1000001,601)] (.tup [.agg (TcsM t ad cap iad icap 601 L1.length),Sn .i64 0]) [tbsB Y 601 L1] (hRa) O O V15 O O O O O VB dO ?_;refine U19 ?_);(refine U2 ?_;refine aX O O (r:=false) (cP O) (dP O O) ?_;refine bF O O (dP O O) ?_;refine U3 ?_;refine aX O O (r:=false) O (dP O O) ?_;refine U3 ?_;refine bO O O (dP O O) ?_;refine U8 ?_))
    refine cC (σ':=⟨[(1,Ln .u32 (set:Nat)),(3,.sv (.one (.val (.slice (some ⟨ab,ao,none⟩) acs.length acap)))),(9,Lp 500),(20,Lp 20),(21,Ln .i64 (i:Nat)),(22,Lp 22)],[(20,some ⟨62,[.val (.int .i64 t.sc.ver),.val (.slice ad t.sc.cs.length cap),.val (.slice iad (idsL t.set).length icap),.val (.int .i64 (t.most:Nat)),.val (.int .i64 (t.kept:Nat))] ++ .slc 601 0 L1.length 2::[],false⟩),tbsB Y 601 L1,(22,some ⟨64,[.val (.int .i64 a.kind),.val (.int .i64 a.i),.val (.int .u64 (a.e:Nat)),.val (.slice pad a.p.length pcap)],false⟩),tB 500 ({ t with l:=L1 })],Y⟩) (Le.of VC VD V2 V2 V0) ?_
    refine Leads.fixCell O O O V16 O O fun ρ H c2 hR hO _ _ => ?_
    exact Leads.here (σ':=⟨[(1,Ln .u32 (set:Nat)),(3,.sv (.one (.val (.slice (some ⟨ab,ao,none⟩) acs.length acap)))),(9,Lp 500),(20,Lp 20),(21,Ln .i64 (i:Nat)),(22,Lp 22)],[(22,some ⟨64,[.val (.int .i64 a.kind),.val (.int .i64 a.i),.val (.int .u64 (a.e:Nat)),.val (.slice pad a.p.length pcap)],false⟩),tB 500 ({ t with l:=L1 }),utB 20 (Tcs ({ t with l:=L1 }) ad cap iad icap (some ⟨ρ.1,0,none⟩) c2)],joinM Y H⟩) (Le.of VC V9 V2 V2 V0) ⟨{ t with l:=L1 },joinM Y H,some ⟨ρ.1,0,none⟩,c2,hku,hset0,fun _ _ h=>joinM_has hO h,⟨hT.cs.mono fun _ _ h=>joinM_has hO h,hT.ids.mono fun _ _ h=>joinM_has hO h,hR.2,hT.small⟩,O⟩
   ·have hAd:=tAdd_no Y t hk a.e ae a.p pad pcap hP hl12 hz
    have hRa:=rAdd_no Y t a.e a.p ad iad lad pad cap icap lcap pcap hT hk hP.parts hl100 hz
    generalize addE t a.e a.p=e at *
    (refine U4 ?_;refine keq O O (r:=false) (cO c1) ?_;refine U5 ?_;refine keq O O (r:=false) (cO c2) ?_;refine U4 ?_;refine keq O O (r:=true) (cS c3) ?_;refine U10 ?_;refine aU [(1000000,500)] [tB 500 (t)] (hAd) O O V7 VE O O O O VB dO ?_;refine U26 ?_;refine kne O O (r:=false) (cP O) ?_;refine U2 ?_;refine bC O O (r:=false) (cO hz) (dP O O) ?_;refine U6 ?_;refine bO O O (dP O O) ?_;refine U3 ?_;refine aX O O (r:=true) (cR hz) (dP O O) ?_;refine U2 ?_;refine aX O O (r:=false) O (dP O O) ?_;refine bF O O (dP O O) ?_;refine U8 ?_)
    exact Leads.here (σ':=⟨[(1,Ln .u32 (set:Nat)),(3,.sv (.one (.val (.slice (some ⟨ab,ao,none⟩) acs.length acap)))),(9,Lp 500),(20,Lp 20),(21,Ln .i64 (i:Nat)),(22,Lp 22)],[(22,some ⟨64,[.val (.int .i64 a.kind),.val (.int .i64 a.i),.val (.int .u64 (a.e:Nat)),.val (.slice pad a.p.length pcap)],false⟩),tB 500 (t),utB 20 (Tcs (t) ad cap iad icap lad lcap)],Y⟩) (Le.of VC V9 V2 V2 V0) ⟨t,Y,lad,lcap,hk,hset0,fun _ _ h=>h,hT,O⟩
  by_cases c4:a.kind=4
  ·cases hrb:rowB t a.i with
   | false =>
    have hD:=tDrop_no Y t hk a.i hrb
    have hRd:=rDrop_no Y t a.i ad iad lad cap icap lcap hrb
    (refine U4 ?_;refine keq O O (r:=false) (cO c1) ?_;refine U5 ?_;refine keq O O (r:=false) (cO c2) ?_;refine U4 ?_;refine keq O O (r:=false) (cO c3) ?_;refine U5 ?_;refine keq O O (r:=true) (cS c4) ?_;refine U8 ?_;refine aU [(1000000,500)] [tB 500 (t)] (hD) O O V7 VE O O O O VB dO ?_;refine U30 ?_;refine aX O O (r:=false) O (dP O O) ?_;refine U8 ?_)
    exact Leads.here (σ':=⟨[(1,Ln .u32 (set:Nat)),(3,.sv (.one (.val (.slice (some ⟨ab,ao,none⟩) acs.length acap)))),(9,Lp 500),(20,Lp 20),(21,Ln .i64 (i:Nat)),(22,Lp 22)],[(22,some ⟨64,[.val (.int .i64 a.kind),.val (.int .i64 a.i),.val (.int .u64 (a.e:Nat)),.val (.slice pad a.p.length pcap)],false⟩),tB 500 (t),utB 20 (Tcs (t) ad cap iad icap lad lcap)],Y⟩) (Le.of VC V9 V2 V2 V0) ⟨t,Y,lad,lcap,hk,hset0,fun _ _ h=>h,hT,O⟩
   | true =>
    obtain ⟨j,hj,hjl⟩:=rowB_some hrb
    have hD:=tDrop Y t hk j hjl
    have hRd:=rDrop Y t j ad iad lad cap icap lcap hT hjl V3
    have hku:=hk.drop hjl
    rw [show dropT t j={ t with l:=(dropT t j).l } from rfl] at hD hRd hku
    generalize (dropT t j).l=L1 at *
    generalize movedT t j=mv at *
    rw [hj]
    (refine U4 ?_;refine keq O O (r:=false) (cO c1) ?_;refine U5 ?_;refine keq O O (r:=false) (cO c2) ?_;refine U4 ?_;refine keq O O (r:=false) (cO c3) ?_;refine U5 ?_;refine keq O O (r:=true) (cS c4) ?_;refine U8 ?_;refine aU [(1000000,500)] [tB 500 ({ t with l:=L1 })] (hD) O O V7 VE O O O O VB dO ?_;refine U11 ?_;refine bE [(1000001,601)] (.tup [.agg (TcsM t ad cap iad icap 601 L1.length),Sn .u64 (mv:Nat),Sn .i64 0]) [tbsB Y 601 L1] (hRd) O O V15 O O O O O VB dO ?_;refine U14 ?_;refine kne O O (r:=false) (cP O) ?_;refine U3 ?_;refine aX O O (r:=false) O (dP O O) ?_;refine U8 ?_)
    rw [← hj]
    refine cC (σ':=⟨[(1,Ln .u32 (set:Nat)),(3,.sv (.one (.val (.slice (some ⟨ab,ao,none⟩) acs.length acap)))),(9,Lp 500),(20,Lp 20),(21,Ln .i64 (i:Nat)),(22,Lp 22)],[(20,some ⟨62,[.val (.int .i64 t.sc.ver),.val (.slice ad t.sc.cs.length cap),.val (.slice iad (idsL t.set).length icap),.val (.int .i64 (t.most:Nat)),.val (.int .i64 (t.kept:Nat))] ++ .slc 601 0 L1.length 2::[],false⟩),tbsB Y 601 L1,(22,some ⟨64,[.val (.int .i64 a.kind),.val (.int .i64 a.i),.val (.int .u64 (a.e:Nat)),.val (.slice pad a.p.length pcap)],false⟩),tB 500 ({ t with l:=L1 })],Y⟩) (Le.of VC VD V2 V2 V0) ?_
    refine Leads.fixCell O O O V16 O O fun ρ H c2 hR hO _ _ => ?_
    exact Leads.here (σ':=⟨[(1,Ln .u32 (set:Nat)),(3,.sv (.one (.val (.slice (some ⟨ab,ao,none⟩) acs.length acap)))),(9,Lp 500),(20,Lp 20),(21,Ln .i64 (i:Nat)),(22,Lp 22)],[(22,some ⟨64,[.val (.int .i64 a.kind),.val (.int .i64 a.i),.val (.int .u64 (a.e:Nat)),.val (.slice pad a.p.length pcap)],false⟩),tB 500 ({ t with l:=L1 }),utB 20 (Tcs ({ t with l:=L1 }) ad cap iad icap (some ⟨ρ.1,0,none⟩) c2)],joinM Y H⟩) (Le.of VC V9 V2 V2 V0) ⟨{ t with l:=L1 },joinM Y H,some ⟨ρ.1,0,none⟩,c2,hku,hset0,fun _ _ h=>joinM_has hO h,⟨hT.cs.mono fun _ _ h=>joinM_has hO h,hT.ids.mono fun _ _ h=>joinM_has hO h,hR.2,hT.small⟩,O⟩
  by_cases c5:a.kind=5
  ·by_cases c0:a.p.length=0
   ·(refine U4 ?_;refine keq rfl rfl (r:=false) (cO c1) ?_;refine U5 ?_;refine keq rfl rfl (r:=false) (cO c2) ?_;refine U4 ?_;refine keq rfl rfl (r:=false) (cO c3) ?_;refine U5 ?_;refine keq rfl rfl (r:=false) (cO c4) ?_;refine U5 ?_;refine keq rfl rfl (r:=true) (cS c5) ?_;refine U12 ?_)
    exact Leads.here (σ':=⟨[(1,Ln .u32 (set:Nat)),(3,.sv (.one (.val (.slice (some ⟨ab,ao,none⟩) acs.length acap)))),(9,Lp 500),(20,Lp 20),(21,Ln .i64 (i:Nat)),(22,Lp 22)],[(22,some ⟨64,[.val (.int .i64 a.kind),.val (.int .i64 a.i),.val (.int .u64 (a.e:Nat)),.val (.slice pad a.p.length pcap)],false⟩),tB 500 (t),utB 20 (Tcs (t) ad cap iad icap lad lcap)],Y⟩) (Le.of VC V9 V2 V2 V0) ⟨t,Y,lad,lcap,hk,hset0,fun _ _ h=>h,hT,O⟩
   obtain ⟨p,hp⟩:∃ p,a.p[0]? = some p:=wg V3
   obtain ⟨pb,po,parr,pel,pfr,vad,vcap,rfl,hPX,hpsz,hpc,hp1,hp2,hN,hvc⟩:=hP.get hp
   have hpo:po+Int.toNat (0:Int)*2=po+0*2:=rfl
   have hpb:=apv p (dA hp)
   have hp100:=hl100.2 p (dA hp)
   by_cases hz:tsetE t a.i p=0
   case neg =>
    have hSe:=tSet_no Y t hk a.i p vad vcap hN hpb hvc hz
    have hRs:=rSet_no Y t a.i p ad iad lad vad cap icap lcap vcap hT hk hN hpb hz
    generalize tsetE t a.i p=e at *
    ((refine U4 ?_;refine keq O O (r:=false) (cO c1) ?_;refine U5 ?_;refine keq O O (r:=false) (cO c2) ?_;refine U4 ?_;refine keq O O (r:=false) (cO c3) ?_;refine U5 ?_;refine keq O O (r:=false) (cO c4) ?_;refine U5 ?_;refine keq O O (r:=true) (cS c5) ?_;refine U8 ?_;refine aS O O (cM V3) dO ?_;refine U3 ?_;refine rgD mixed ?_;refine U7 ?_;refine aU [(1000000,500)] [tB 500 (t)] (hSe) O O V7 VE O O O O VB dO ?_;refine U4 ?_;refine rgD mixed ?_;refine U1 ?_);(refine U20 ?_;refine kne O O (r:=false) (cP O) ?_;refine U7 ?_))
    exact Leads.here (σ':=⟨[(1,Ln .u32 (set:Nat)),(3,.sv (.one (.val (.slice (some ⟨ab,ao,none⟩) acs.length acap)))),(9,Lp 500),(20,Lp 20),(21,Ln .i64 (i:Nat)),(22,Lp 22)],[(22,some ⟨64,[.val (.int .i64 a.kind),.val (.int .i64 a.i),.val (.int .u64 (a.e:Nat)),.val (.slice (some ⟨pb,po,none⟩) a.p.length pcap)],false⟩),tB 500 (t),utB 20 (Tcs (t) ad cap iad icap lad lcap)],Y⟩) (Le.of VC V9 V2 V2 V0) ⟨t,Y,lad,lcap,hk,hset0,fun _ _ h=>h,hT,O⟩
   obtain ⟨j,kk,hj,hjl,hpl,hfit⟩:=tset_at hz
   rw [hj] at hz
   have hSe:=tSet Y t hk j kk p vad vcap hN hpb hvc hjl hpl hfit
   have hRs:=rSet Y t j kk p ad iad lad vad cap icap lcap vcap hT hk hjl hpl hN hpb hfit V3
   have hku:=hk.setV (i:=j) hpl hfit
   obtain ⟨rj,hrj⟩:=wg hjl
   rw [show setT t j kk p={ t with l:=t.l.set j (setR rj kk p) } by unfold setT;rw [hrj]] at hSe hRs hku
   generalize t.l.set j (setR rj kk p)=L1 at *
   rw [hj]
   ((refine U4 ?_;refine keq O O (r:=false) (cO c1) ?_;refine U5 ?_;refine keq O O (r:=false) (cO c2) ?_;refine U4 ?_;refine keq O O (r:=false) (cO c3) ?_;refine U5 ?_;refine keq O O (r:=false) (cO c4) ?_;refine U5 ?_;refine keq O O (r:=true) (cS c5) ?_;refine U8 ?_;refine aS O O (cM V3) dO ?_;refine U3 ?_;refine rgD mixed ?_;refine U7 ?_;refine aU [(1000000,500)] [tB 500 ({ t with l:=L1 })] (hSe) O O V7 VE O O O O VB dO ?_;refine U4 ?_;refine rgD mixed ?_;refine U1 ?_);(refine U6 ?_;refine bE [(1000001,601)] (.tup [.agg (TcsM t ad cap iad icap 601 L1.length),Sn .i64 0]) [tbsB Y 601 L1] (hRs) O O V15 O O O O O VB dO ?_;refine U21 ?_))
   rw [← hj]
   refine cC (σ':=⟨[(1,Ln .u32 (set:Nat)),(3,.sv (.one (.val (.slice (some ⟨ab,ao,none⟩) acs.length acap)))),(9,Lp 500),(20,Lp 20),(21,Ln .i64 (i:Nat)),(22,Lp 22)],[(20,some ⟨62,[.val (.int .i64 t.sc.ver),.val (.slice ad t.sc.cs.length cap),.val (.slice iad (idsL t.set).length icap),.val (.int .i64 (t.most:Nat)),.val (.int .i64 (t.kept:Nat))] ++ .slc 601 0 L1.length 2::[],false⟩),tbsB Y 601 L1,(22,some ⟨64,[.val (.int .i64 a.kind),.val (.int .i64 a.i),.val (.int .u64 (a.e:Nat)),.val (.slice (some ⟨pb,po,none⟩) a.p.length pcap)],false⟩),tB 500 ({ t with l:=L1 })],Y⟩) (Le.of VC VD V2 V2 V0) ?_
   refine Leads.fixCell O O O V16 O O fun ρ H c2 hR hO _ _ => ?_
   exact Leads.here (σ':=⟨[(1,Ln .u32 (set:Nat)),(3,.sv (.one (.val (.slice (some ⟨ab,ao,none⟩) acs.length acap)))),(9,Lp 500),(20,Lp 20),(21,Ln .i64 (i:Nat)),(22,Lp 22)],[(22,some ⟨64,[.val (.int .i64 a.kind),.val (.int .i64 a.i),.val (.int .u64 (a.e:Nat)),.val (.slice (some ⟨pb,po,none⟩) a.p.length pcap)],false⟩),tB 500 ({ t with l:=L1 }),utB 20 (Tcs ({ t with l:=L1 }) ad cap iad icap (some ⟨ρ.1,0,none⟩) c2)],joinM Y H⟩) (Le.of VC V9 V2 V2 V0) ⟨{ t with l:=L1 },joinM Y H,some ⟨ρ.1,0,none⟩,c2,hku,hset0,fun _ _ h=>joinM_has hO h,⟨hT.cs.mono fun _ _ h=>joinM_has hO h,hT.ids.mono fun _ _ h=>joinM_has hO h,hR.2,hT.small⟩,O⟩
  by_cases c6:a.kind=6
  ·have hRR:=rRoom_spec Y t ad iad lad cap icap lcap hm.2 hroom
   by_cases hr0:roomT t=0
   ·have hKe:=tKeep_no Y t hk hr0
    (refine U4 ?_;refine keq O O (r:=false) (cO c1) ?_;refine U5 ?_;refine keq O O (r:=false) (cO c2) ?_;refine U4 ?_;refine keq O O (r:=false) (cO c3) ?_;refine U5 ?_;refine keq O O (r:=false) (cO c4) ?_;refine U5 ?_;refine keq O O (r:=false) (cO c5) ?_;refine U5 ?_;refine keq O O (r:=true) (cS c6) ?_;refine U5 ?_;refine rgD mixed<|kmv O<|aU [(1000000,500)] [tB 500 (t)] (hKe) O O V7 VE O O O O VB dO<|keq O O (r:=false) O ?_;refine U3 ?_;refine K.neqB O O O dO ?_;refine U12 ?_)
    exact Leads.here (σ':=⟨[(1,Ln .u32 (set:Nat)),(3,.sv (.one (.val (.slice (some ⟨ab,ao,none⟩) acs.length acap)))),(9,Lp 500),(20,Lp 20),(21,Ln .i64 (i:Nat)),(22,Lp 22)],[(22,some ⟨64,[.val (.int .i64 a.kind),.val (.int .i64 a.i),.val (.int .u64 (a.e:Nat)),.val (.slice pad a.p.length pcap)],false⟩),tB 500 (t),utB 20 (Tcs (t) ad cap iad icap lad lcap)],Y⟩) (Le.of VC V9 V2 V2 V0) ⟨t,Y,lad,lcap,hk,hset0,fun _ _ h=>h,hT,O⟩
   ·have hKe:=tKeep Y t hk hr0
    have hka:IntKind.i64.wrap (((t.kept:Nat):Int)+1)=((t.kept+1:Nat):Int):=by rw [cF V3];omega
    (refine U4 ?_;refine keq O O (r:=false) (cO c1) ?_;refine U5 ?_;refine keq O O (r:=false) (cO c2) ?_;refine U4 ?_;refine keq O O (r:=false) (cO c3) ?_;refine U5 ?_;refine keq O O (r:=false) (cO c4) ?_;refine U5 ?_;refine keq O O (r:=false) (cO c5) ?_;refine U5 ?_;refine keq O O (r:=true) (cS c6) ?_;refine U5 ?_;refine rgD mixed<|kmv O<|aU [(1000000,500)] [tB 500 ({ t with kept:=t.kept+1 })] (hKe) O O V7 VE O O O O VB dO<|keq O O (r:=true) O ?_;refine U2 ?_;refine aS O O (cM V3) dO<|K.neqB O O O dO ?_;refine U8 ?_;refine aS O O (cM V3) dO ?_;refine U7 ?_;refine bG O O O O O (nl6 O O O O O O O) dO ?_;refine U1 ?_)
    exact Leads.here (σ':=⟨[(1,Ln .u32 (set:Nat)),(3,.sv (.one (.val (.slice (some ⟨ab,ao,none⟩) acs.length acap)))),(9,Lp 500),(20,Lp 20),(21,Ln .i64 (i:Nat)),(22,Lp 22)],[(22,some ⟨64,[.val (.int .i64 a.kind),.val (.int .i64 a.i),.val (.int .u64 (a.e:Nat)),.val (.slice pad a.p.length pcap)],false⟩),tB 500 ({ t with kept:=t.kept+1 }),utB 20 (Tcs ({ t with kept:=t.kept+1 }) ad cap iad icap lad lcap)],Y⟩) (Le.of VC V9 V2 V2 V0) ⟨{ t with kept:=t.kept+1 },Y,lad,lcap,hk.kept hr0,hset0,fun _ _ h=>h,⟨hT.cs,hT.ids,hT.l,hT.small⟩,O⟩
  by_cases c7:a.kind=7
  ·by_cases hr0:t.kept=0
   ·have hKe:=tYield_no Y t hk hr0
    (refine U4 ?_;refine keq O O (r:=false) (cO c1) ?_;refine U5 ?_;refine keq O O (r:=false) (cO c2) ?_;refine U4 ?_;refine keq O O (r:=false) (cO c3) ?_;refine U5 ?_;refine keq O O (r:=false) (cO c4) ?_;refine U5 ?_;refine keq O O (r:=false) (cO c5) ?_;refine U5 ?_;refine keq O O (r:=false) (cO c6) ?_;refine U5 ?_;refine keq O O (r:=true) (cS c7) ?_;refine U5 ?_;refine rgD mixed<|kmv O<|aU [(1000000,500)] [tB 500 (t)] (hKe) O O V7 VE O O O O VB dO<|keq O O (r:=false) O ?_;refine U3 ?_;refine K.neqB O O O dO ?_;refine U12 ?_)
    exact Leads.here (σ':=⟨[(1,Ln .u32 (set:Nat)),(3,.sv (.one (.val (.slice (some ⟨ab,ao,none⟩) acs.length acap)))),(9,Lp 500),(20,Lp 20),(21,Ln .i64 (i:Nat)),(22,Lp 22)],[(22,some ⟨64,[.val (.int .i64 a.kind),.val (.int .i64 a.i),.val (.int .u64 (a.e:Nat)),.val (.slice pad a.p.length pcap)],false⟩),tB 500 (t),utB 20 (Tcs (t) ad cap iad icap lad lcap)],Y⟩) (Le.of VC V9 V2 V2 V0) ⟨t,Y,lad,lcap,hk,hset0,fun _ _ h=>h,hT,O⟩
   ·have hKe:=tYield Y t hk hr0
    have hka:IntKind.i64.wrap (((t.kept:Nat):Int)-1)=((t.kept-1:Nat):Int):=by rw [cF V3];omega
    (refine U4 ?_;refine keq O O (r:=false) (cO c1) ?_;refine U5 ?_;refine keq O O (r:=false) (cO c2) ?_;refine U4 ?_;refine keq O O (r:=false) (cO c3) ?_;refine U5 ?_;refine keq O O (r:=false) (cO c4) ?_;refine U5 ?_;refine keq O O (r:=false) (cO c5) ?_;refine U5 ?_;refine keq O O (r:=false) (cO c6) ?_;refine U5 ?_;refine keq O O (r:=true) (cS c7) ?_;refine U5 ?_;refine rgD mixed<|kmv O<|aU [(1000000,500)] [tB 500 ({ t with kept:=t.kept-1 })] (hKe) O O V7 VE O O O O VB dO<|keq O O (r:=true) O ?_;refine U2 ?_;refine aS O O (cM V3) dO<|K.neqB O O O dO ?_;refine U8 ?_;refine aS O O (cM V3) dO ?_;refine U7 ?_;refine bG O O O O O (nl6 O O O O O O O) dO ?_;refine U1 ?_)
    exact Leads.here (σ':=⟨[(1,Ln .u32 (set:Nat)),(3,.sv (.one (.val (.slice (some ⟨ab,ao,none⟩) acs.length acap)))),(9,Lp 500),(20,Lp 20),(21,Ln .i64 (i:Nat)),(22,Lp 22)],[(22,some ⟨64,[.val (.int .i64 a.kind),.val (.int .i64 a.i),.val (.int .u64 (a.e:Nat)),.val (.slice pad a.p.length pcap)],false⟩),tB 500 ({ t with kept:=t.kept-1 }),utB 20 (Tcs ({ t with kept:=t.kept-1 }) ad cap iad icap lad lcap)],Y⟩) (Le.of VC V9 V2 V2 V0) ⟨{ t with kept:=t.kept-1 },Y,lad,lcap,hk.yield,hset0,fun _ _ h=>h,⟨hT.cs,hT.ids,hT.l,hT.small⟩,O⟩
  by_cases c8:a.kind=8
  ·have hC:=tClone Y t hk
   (refine U4 ?_;refine keq O O (r:=false) (cO c1) ?_;refine U5 ?_;refine keq O O (r:=false) (cO c2) ?_;refine U4 ?_;refine keq O O (r:=false) (cO c3) ?_;refine U5 ?_;refine keq O O (r:=false) (cO c4) ?_;refine U5 ?_;refine keq O O (r:=false) (cO c5) ?_;refine U5 ?_;refine keq O O (r:=false) (cO c6) ?_;refine U5 ?_;refine keq O O (r:=false) (cO c7) ?_;refine U5 ?_;refine keq O O (r:=true) (cS c8) ?_;refine U5 ?_;refine bE [(1000000,500),(1000001,501)] (Lp 501) [tB 500 t,tB 501 t] (hC) O O V7 VE O O O O (by exact (.box O O (.box O O .nil))) dO ?_;refine U2 ?_)
   exact Leads.here (σ':=⟨[(1,Ln .u32 (set:Nat)),(3,.sv (.one (.val (.slice (some ⟨ab,ao,none⟩) acs.length acap)))),(9,Lp 500),(20,Lp 20),(21,Ln .i64 (i:Nat)),(22,Lp 22)],[(22,some ⟨64,[.val (.int .i64 a.kind),.val (.int .i64 a.i),.val (.int .u64 (a.e:Nat)),.val (.slice pad a.p.length pcap)],false⟩),tB 500 (t),utB 20 (Tcs (t) ad cap iad icap lad lcap)],Y⟩) (Le.ofR [(500,501)] VC V1 V2 V2 V0 V2 V2) ⟨t,Y,lad,lcap,hk,hset0,fun _ _ h=>h,hT,O⟩
  by_cases c9:a.kind=9
  ·have hC:=tClone Y t hk
   (refine U4 ?_;refine keq O O (r:=false) (cO c1) ?_;refine U5 ?_;refine keq O O (r:=false) (cO c2) ?_;refine U4 ?_;refine keq O O (r:=false) (cO c3) ?_;refine U5 ?_;refine keq O O (r:=false) (cO c4) ?_;refine U5 ?_;refine keq O O (r:=false) (cO c5) ?_;refine U5 ?_;refine keq O O (r:=false) (cO c6) ?_;refine U5 ?_;refine keq O O (r:=false) (cO c7) ?_;refine U5 ?_;refine keq O O (r:=false) (cO c8) ?_;refine U5 ?_;refine keq O O (r:=true) (cS c9) ?_;refine U6 ?_;refine bE [(1000000,500),(1000001,502)] (Lp 502) [tB 500 t,tB 502 t] (hC) O O V7 VE O O O O (by exact (.box O O (.box O O .nil))) dO ?_;refine U3 ?_)
   repeat refine aA ?_
   refine LWP.meetL (fun σ=>∃ c:Tb,TbOk c∧σ=⟨[(1,Ln .u32 (set:Nat)),(3,.sv (.one (.val (.slice (some ⟨ab,ao,none⟩) acs.length acap)))),(9,Lp 500),(20,Lp 20),(21,Ln .i64 (i:Nat)),(22,Lp 22),(36,Lp 502)],[tB 502 (c),(22,some ⟨64,[.val (.int .i64 a.kind),.val (.int .i64 a.i),.val (.int .u64 (a.e:Nat)),.val (.slice pad a.p.length pcap)],false⟩),tB 500 (t),utB 20 (Tcs (t) ad cap iad icap lad lcap)],Y⟩) ?_ ?_
   ·by_cases hr0:roomT t=0
    ·have hKe:=tKeep_no Y t hk hr0
     (refine U2 ?_;refine aU [(1000000,502)] [tB 502 (t)] (hKe) O O V7 VE O O O O VB dO ?_;refine U1 ?_)
     exact Leads.here (σ':=⟨[(1,Ln .u32 (set:Nat)),(3,.sv (.one (.val (.slice (some ⟨ab,ao,none⟩) acs.length acap)))),(9,Lp 500),(20,Lp 20),(21,Ln .i64 (i:Nat)),(22,Lp 22),(36,Lp 502)],[tB 502 (t),(22,some ⟨64,[.val (.int .i64 a.kind),.val (.int .i64 a.i),.val (.int .u64 (a.e:Nat)),.val (.slice pad a.p.length pcap)],false⟩),tB 500 (t),utB 20 (Tcs (t) ad cap iad icap lad lcap)],Y⟩) (Le.of V1D VD V2 V2 V0) ⟨t,hk,O⟩
    ·have hKe:=tKeep Y t hk hr0
     (refine U2 ?_;refine aU [(1000000,502)] [tB 502 ({ t with kept:=t.kept+1 })] (hKe) O O V7 VE O O O O VB dO ?_;refine U1 ?_)
     exact Leads.here (σ':=⟨[(1,Ln .u32 (set:Nat)),(3,.sv (.one (.val (.slice (some ⟨ab,ao,none⟩) acs.length acap)))),(9,Lp 500),(20,Lp 20),(21,Ln .i64 (i:Nat)),(22,Lp 22),(36,Lp 502)],[tB 502 ({ t with kept:=t.kept+1 }),(22,some ⟨64,[.val (.int .i64 a.kind),.val (.int .i64 a.i),.val (.int .u64 (a.e:Nat)),.val (.slice pad a.p.length pcap)],false⟩),tB 500 (t),utB 20 (Tcs (t) ad cap iad icap lad lcap)],Y⟩) (Le.of V1D VD V2 V2 V0) ⟨_,hk.kept hr0,O⟩
   rintro σ ⟨c,hkc,rfl⟩
   repeat refine aA ?_
   refine LWP.meetL (fun σ=>∃ d:Tb,TbOk d∧σ=⟨[(1,Ln .u32 (set:Nat)),(3,.sv (.one (.val (.slice (some ⟨ab,ao,none⟩) acs.length acap)))),(9,Lp 500),(20,Lp 20),(21,Ln .i64 (i:Nat)),(22,Lp 22),(36,Lp 502)],[tB 502 (d),(22,some ⟨64,[.val (.int .i64 a.kind),.val (.int .i64 a.i),.val (.int .u64 (a.e:Nat)),.val (.slice pad a.p.length pcap)],false⟩),tB 500 (t),utB 20 (Tcs (t) ad cap iad icap lad lcap)],Y⟩) ?_ ?_
   ·by_cases hl0:0<c.l.length
    ·have hD:=tDrop Y c hkc 0 hl0
     (refine U2 ?_;refine aU [(1000000,502)] [tB 502 (dropT c 0)] (hD) O O V7 VE O O O O VB dO ?_;refine U1 ?_)
     exact Leads.here (σ':=⟨[(1,Ln .u32 (set:Nat)),(3,.sv (.one (.val (.slice (some ⟨ab,ao,none⟩) acs.length acap)))),(9,Lp 500),(20,Lp 20),(21,Ln .i64 (i:Nat)),(22,Lp 22),(36,Lp 502)],[tB 502 (dropT c 0),(22,some ⟨64,[.val (.int .i64 a.kind),.val (.int .i64 a.i),.val (.int .u64 (a.e:Nat)),.val (.slice pad a.p.length pcap)],false⟩),tB 500 (t),utB 20 (Tcs (t) ad cap iad icap lad lcap)],Y⟩) (Le.of V1D VD V2 V2 V0) ⟨_,hkc.drop hl0,O⟩
    ·have hD:=tDrop_no Y c hkc 0 (by unfold rowB;rw [cL (show ¬(0:Int)<((c.l.length:Nat):Int) by omega),Bool.and_false])
     (refine U2 ?_;refine aU [(1000000,502)] [tB 502 (c)] (hD) O O V7 VE O O O O VB dO ?_;refine U1 ?_)
     exact Leads.here (σ':=⟨[(1,Ln .u32 (set:Nat)),(3,.sv (.one (.val (.slice (some ⟨ab,ao,none⟩) acs.length acap)))),(9,Lp 500),(20,Lp 20),(21,Ln .i64 (i:Nat)),(22,Lp 22),(36,Lp 502)],[tB 502 (c),(22,some ⟨64,[.val (.int .i64 a.kind),.val (.int .i64 a.i),.val (.int .u64 (a.e:Nat)),.val (.slice pad a.p.length pcap)],false⟩),tB 500 (t),utB 20 (Tcs (t) ad cap iad icap lad lcap)],Y⟩) (Le.of V1D VD V2 V2 V0) ⟨c,hkc,O⟩
   rintro σ ⟨d,hkd,rfl⟩
   by_cases hz:addE d a.e a.p=0
   ·have hAd:=tAdd Y d hkd a.e ae a.p pad pcap hP hl12 hz
    (refine U6 ?_;refine aU [(1000000,502)] [tB 502 (addT d a.e a.p)] (hAd) O O V7 VE O O O O VB dO ?_;refine U1 ?_)
    exact Leads.here (σ':=⟨[(1,Ln .u32 (set:Nat)),(3,.sv (.one (.val (.slice (some ⟨ab,ao,none⟩) acs.length acap)))),(9,Lp 500),(20,Lp 20),(21,Ln .i64 (i:Nat)),(22,Lp 22)],[(22,some ⟨64,[.val (.int .i64 a.kind),.val (.int .i64 a.i),.val (.int .u64 (a.e:Nat)),.val (.slice pad a.p.length pcap)],false⟩),tB 500 (t),utB 20 (Tcs (t) ad cap iad icap lad lcap)],Y⟩) (Le.of VC V9 V2 V2 V0) ⟨t,Y,lad,lcap,hk,hset0,fun _ _ h=>h,hT,O⟩
   ·have hAd:=tAdd_no Y d hkd a.e ae a.p pad pcap hP hl12 hz
    (refine U6 ?_;refine aU [(1000000,502)] [tB 502 (d)] (hAd) O O V7 VE O O O O VB dO ?_;refine U1 ?_)
    exact Leads.here (σ':=⟨[(1,Ln .u32 (set:Nat)),(3,.sv (.one (.val (.slice (some ⟨ab,ao,none⟩) acs.length acap)))),(9,Lp 500),(20,Lp 20),(21,Ln .i64 (i:Nat)),(22,Lp 22)],[(22,some ⟨64,[.val (.int .i64 a.kind),.val (.int .i64 a.i),.val (.int .u64 (a.e:Nat)),.val (.slice pad a.p.length pcap)],false⟩),tB 500 (t),utB 20 (Tcs (t) ad cap iad icap lad lcap)],Y⟩) (Le.of VC V9 V2 V2 V0) ⟨t,Y,lad,lcap,hk,hset0,fun _ _ h=>h,hT,O⟩
  (refine U4 ?_;refine keq rfl rfl (r:=false) (cO c1) ?_;refine U5 ?_;refine keq rfl rfl (r:=false) (cO c2) ?_;refine U4 ?_;refine keq rfl rfl (r:=false) (cO c3) ?_;refine U5 ?_;refine keq rfl rfl (r:=false) (cO c4) ?_;refine U5 ?_;refine keq rfl rfl (r:=false) (cO c5) ?_;refine U5 ?_;refine keq rfl rfl (r:=false) (cO c6) ?_;refine U5 ?_;refine keq rfl rfl (r:=false) (cO c7) ?_;refine U5 ?_;refine keq rfl rfl (r:=false) (cO c8) ?_;refine U5 ?_;refine keq rfl rfl (r:=false) (cO c9) ?_;refine U4 ?_)
  exact Leads.here (σ':=⟨[(1,Ln .u32 (set:Nat)),(3,.sv (.one (.val (.slice (some ⟨ab,ao,none⟩) acs.length acap)))),(9,Lp 500),(20,Lp 20),(21,Ln .i64 (i:Nat)),(22,Lp 22)],[(22,some ⟨64,[.val (.int .i64 a.kind),.val (.int .i64 a.i),.val (.int .u64 (a.e:Nat)),.val (.slice pad a.p.length pcap)],false⟩),tB 500 (t),utB 20 (Tcs (t) ad cap iad icap lad lcap)],Y⟩) (Le.of VC V9 V2 V2 V0) ⟨t,Y,lad,lcap,hk,hset0,fun _ _ h=>h,hT,O⟩
 rintro σ ⟨u,Z,ld,lc,hku,hus,hZ,hTZ,rfl⟩
 have hXZ:∀ b o,X b=some o→Z b=some o:=fun b o h=>hZ b o (hXY b o h)
 clear hT hXY hk hset0 hm hroom hP hl12 hl100
 clear hZ
 clear Y t lad lcap
 have hmu:=hku.most
 have hru:=hku.room
 obtain ⟨c,hc⟩:∃ c,i%6+1=c:=⟨_,rfl⟩
 have hrem:(((i:Nat):Int)).tmod 6=((i%6:Nat):Int):=by rw [Int.tmod_eq_emod_of_nonneg V3];omega
 have hcadd:IntKind.i64.wrap (1+((i%6:Nat):Int))=((c:Nat):Int):=by rw [cF V3];omega
 generalize i%6=i6 at *
 by_cases hz:tgetE u a.i (c:Nat)=0
 case neg =>
  have hRw:=rows16 Z u hku ad iad ld cap icap lc hTZ (fun r hr p hp=>by have:=row_few hku hr hp;omega)
  have hG:=tGet_no Z u hku a.i (c:Nat) hz
  have hRg:=rGet_no Z u a.i (c:Nat) ad iad ld cap icap lc hTZ.ids hz
  have hB:=tBytes_no Z u hku a.i (c:Nat) hz
  have hRb:=rBytes_no Z u a.i (c:Nat) ad iad ld cap icap lc hTZ.ids hz
  have hVa:=values16 Z [] [] none none 0 0 nums_nil16 nums_nil16 V11 true (cM rfl)
  have hEn:=tEnt Z u hku (u.l.length:Nat)
  rw [show (if rowB u (u.l.length:Nat)=true then entT u (Int.toNat ((u.l.length:Nat):Int)) else 0)=0 from if_neg (by unfold rowB;rw [cL (show ¬((u.l.length:Nat):Int)<((u.l.length:Nat):Int) by omega),Bool.and_false];decide)] at hEn
  have hSi:=tSig Z u hku
  generalize tgetE u a.i (c:Nat)=e at *
  ((refine U3 ?_;refine K.rem O O V11 hrem dO ?_;refine U9 ?_;refine aU [(1000000,500)] [tB 500 (u)] (hG) O O V7 VE O O O O VB dO ?_;refine U25 ?_;refine aU [(1000000,500)] [tB 500 (u)] (hB) O O V7 VE O O O O VB dO ?_;refine U23 ?_;refine aU [(1000000,500)] [tB 500 (u)] (hRw) O O V7 VE O O O O VB dO ?_;refine U10 ?_;refine aX O O (r:=false) (cP O) (dP O O) ?_;refine U4 ?_;refine K.strNe O O (strs_ne (r:=false) V24) (dP O O) ?_;refine U4 ?_;refine aX O O (r:=false) (cP O) (dP O O) ?_;refine U4 ?_);(refine U2 ?_;refine aU [(1000000,500)] [tB 500 (u)] (hEn) O O V7 VE O O O O VB (dP O O) ?_;refine aX O O (r:=false) O (dP O O) ?_;refine U3 ?_;refine aU [(1000000,500)] [tB 500 (u)] (hSi) O O V7 VE O O O O VB (dP O O) ?_;refine U1 ?_;refine aX O O (r:=false) (cP (by rw [hus])) (dP O O) ?_;refine U9 ?_))
  exact cC (σ':=⟨[(1,Ln .u32 (set:Nat)),(3,.sv (.one (.val (.slice (some ⟨ab,ao,none⟩) acs.length acap)))),(9,Lp 500),(20,Lp 20),(21,Ln .i64 (i+1:Nat))],[tB 500 (u),utB 20 (Tcs (u) ad cap iad icap ld lc)],Z⟩) (Le.of V12 VA V2 V2 V0) (cA ⟨acs.length-(i+1),by omega,i+1,u,Z,ld,lc,by omega,O,hku,hus,hXZ,hTZ,O⟩)
 obtain ⟨j,kk,hj,hjl,hpl⟩:=tget_at hz
 have hgv:getV u a.i (c:Nat)=valT u j kk:=by unfold getV;rw [hpl,hj,dD]
 have hN0:(valT u j kk).length<4611686018427387904∧∀ n∈valT u j kk,In2 n.2:=val_big hku hTZ.l
 (refine U3 ?_;refine K.rem O O V11 hrem dO ?_;refine U4 ?_)
 repeat refine aA ?_
 refine LWP.meetL (fun σ=>∃ (W:Nat→Option Obj) (wd:Option Addr) (wc:Nat),(∀ b o,Z b=some o→W b=some o)∧NumsIn W wd (valT u j kk)∧σ=⟨[(38,.sv (.one (.val (.slice wd (valT u j kk).length wc)))),(39,Ln .i64 0),(37,Ln .i64 (c:Nat)),(1,Ln .u32 (set:Nat)),(3,.sv (.one (.val (.slice (some ⟨ab,ao,none⟩) acs.length acap)))),(9,Lp 500),(20,Lp 20),(21,Ln .i64 (i:Nat)),(22,Lp 22)],[(22,some ⟨64,[.val (.int .i64 a.kind),.val (.int .i64 a.i),.val (.int .u64 (a.e:Nat)),.val (.slice pad a.p.length pcap)],false⟩),tB 500 (u),utB 20 (Tcs (u) ad cap iad icap ld lc)],W⟩) ?_ ?_
 ·cases hmm:tMade (valT u j kk).length with
  | false =>
   have hG:=tGet_none Z u hku a.i (c:Nat) hz (by rw [hgv];exact hmm)
   have hz0:=tMade_zero hmm
   (refine U5 ?_;refine aU [(1000000,500)] [tB 500 (u)] (hG) O O V7 VE O O O O VB dO ?_;refine U6 ?_)
   exact Leads.here (σ':=⟨[(38,.sv (.one (.val (.slice none 0 0)))),(39,Ln .i64 0),(37,Ln .i64 (c:Nat)),(1,Ln .u32 (set:Nat)),(3,.sv (.one (.val (.slice (some ⟨ab,ao,none⟩) acs.length acap)))),(9,Lp 500),(20,Lp 20),(21,Ln .i64 (i:Nat)),(22,Lp 22)],[(22,some ⟨64,[.val (.int .i64 a.kind),.val (.int .i64 a.i),.val (.int .u64 (a.e:Nat)),.val (.slice pad a.p.length pcap)],false⟩),tB 500 (u),utB 20 (Tcs (u) ad cap iad icap ld lc)],Z⟩) (Le.of V21 V9 V2 V2 V0) ⟨Z,none,0,fun _ _ h=>h,by rw [List.eq_nil_of_length_eq_zero hz0];exact nums_nil16,by rw [hz0]⟩
  | true =>
   have hG:=tGet Z u hku a.i (c:Nat) hz (by rw [hgv];exact hmm)
   rw [hgv] at hG
   (refine U5 ?_;refine bE [(1000000,500),(1000001,603)] (.tup [.one (.slc 603 0 (valT u j kk).length 3),Sn .i64 0]) [tB 500 (u),nmsB 603 (valT u j kk) true] (hG) O O V7 VE O O O O (by exact (.box O O (.box O (bX _ _ _ _) .nil))) dO ?_;refine U6 ?_)
   refine cC (σ':=⟨[(38,.sv (.one (.slc 603 0 (valT u j kk).length 3))),(39,Ln .i64 0),(37,Ln .i64 (c:Nat)),(1,Ln .u32 (set:Nat)),(3,.sv (.one (.val (.slice (some ⟨ab,ao,none⟩) acs.length acap)))),(9,Lp 500),(20,Lp 20),(21,Ln .i64 (i:Nat)),(22,Lp 22)],[nmsB 603 (valT u j kk) true,(22,some ⟨64,[.val (.int .i64 a.kind),.val (.int .i64 a.i),.val (.int .u64 (a.e:Nat)),.val (.slice pad a.p.length pcap)],false⟩),tB 500 (u),utB 20 (Tcs (u) ad cap iad icap ld lc)],Z⟩) (Le.of V21 VD V2 V2 V0) ?_
   refine Leads.freeze O V16 O fun blk c2 arr fr hn _ _ _ hsp => ?_
   exact Leads.here (σ':=⟨[(38,.sv (.one (.val (.slice (some ⟨blk,0,none⟩) (valT u j kk).length c2)))),(39,Ln .i64 0),(37,Ln .i64 (c:Nat)),(1,Ln .u32 (set:Nat)),(3,.sv (.one (.val (.slice (some ⟨ab,ao,none⟩) acs.length acap)))),(9,Lp 500),(20,Lp 20),(21,Ln .i64 (i:Nat)),(22,Lp 22)],[(22,some ⟨64,[.val (.int .i64 a.kind),.val (.int .i64 a.i),.val (.int .u64 (a.e:Nat)),.val (.slice pad a.p.length pcap)],false⟩),tB 500 (u),utB 20 (Tcs (u) ad cap iad icap ld lc)],withBlock Z blk (.cells arr 82 fr)⟩) (Le.of V21 V9 V2 V2 V0) ⟨_,some ⟨blk,0,none⟩,c2,cG hn,nms_in (cK _ _ _) hN0.2 hsp,O⟩
 rintro σ ⟨W,wd,wc,hW,hNw,rfl⟩
 have hTW:=hTZ.mono hW
 have hRw:=rows16 W u hku ad iad ld cap icap lc hTW (fun r hr p hp=>by have:=row_few hku hr hp;omega)
 obtain ⟨vd,vc,hNv,hRg⟩:=rGet_ok W u j kk (c:Nat) ad iad ld cap icap lc hTW hjl hpl (fun r hr=>(hku.rows r hr).len)
 have hB:=tBytes W u hku a.i (c:Nat) hz
 have hRb:=rBytes_ok W u j kk (c:Nat) ad iad ld cap icap lc hTW hku hjl hpl
 rw [show bytesT u a.i (c:Nat)=packB (fsAt u.sc.cs (c:Nat)) (valT u j kk) by unfold bytesT;rw [hgv]] at hB
 have hVa:=values16 W (valT u j kk) (valT u j kk) wd vd wc vc hNw hNv hN0.1 true (cM rfl)
 have hEn:=tEnt W u hku (u.l.length:Nat)
 rw [show (if rowB u (u.l.length:Nat)=true then entT u (Int.toNat ((u.l.length:Nat):Int)) else 0)=0 from if_neg (by unfold rowB;rw [cL (show ¬((u.l.length:Nat):Int)<((u.l.length:Nat):Int) by omega),Bool.and_false];decide)] at hEn
 have hSi:=tSig W u hku
 rw [hj] at hB ⊢
 generalize packB (fsAt u.sc.cs (c:Nat)) (valT u j kk)=bt at *
 generalize valT u j kk=vv at *
 (refine U19 ?_;refine aU [(1000000,500)] [tB 500 (u)] (hB) O O V7 VE O O O O VB dO ?_;refine U23 ?_;refine aU [(1000000,500)] [tB 500 (u)] (hRw) O O V7 VE O O O O VB dO ?_;refine U10 ?_;refine aX O O (r:=false) (cP O) (dP O O) ?_;refine U4 ?_;refine K.strNe O O (strs_ne (r:=false) V24) (dP O O) ?_;refine U4 ?_;refine aX O O (r:=false) (cP O) (dP O O) ?_;refine U6 ?_;refine aU [(1000000,500)] [tB 500 (u)] (hEn) O O V7 VE O O O O VB (dP O O) ?_;refine aX O O (r:=false) O (dP O O) ?_;refine U3 ?_;refine aU [(1000000,500)] [tB 500 (u)] (hSi) O O V7 VE O O O O VB (dP O O) ?_;refine U1 ?_;refine aX O O (r:=false) (cP (by rw [hus])) (dP O O) ?_;refine U9 ?_)
 exact cC (σ':=⟨[(1,Ln .u32 (set:Nat)),(3,.sv (.one (.val (.slice (some ⟨ab,ao,none⟩) acs.length acap)))),(9,Lp 500),(20,Lp 20),(21,Ln .i64 (i+1:Nat))],[tB 500 (u),utB 20 (Tcs (u) ad cap iad icap ld lc)],W⟩) (Le.of V12 VA V2 V2 V0) (cA ⟨acs.length-(i+1),by omega,i+1,u,W,ld,lc,by omega,O,hku,hus,fun b o h=>hW b o (hXZ b o h),hTW,O⟩)
end Go.Proofs.YtbpdbclndfmcgaaGreatDoor
end
