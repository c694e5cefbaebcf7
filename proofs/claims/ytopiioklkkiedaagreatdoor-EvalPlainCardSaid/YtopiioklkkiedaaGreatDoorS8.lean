/- A piece of a proof over this program: contracts of its functions, and a logic to prove them by. -/
import Derived.Test.YtopiioklkkiedaaGreatDoorS3
import Derived.Test.YtopiioklkkiedaaGreatDoorS4
import Derived.Test.YtopiioklkkiedaaGreatDoorS5
import Derived.Test.YtopiioklkkiedaaGreatDoorS6
import Derived.Test.YtopiioklkkiedaaGreatDoorS7
import Derived.Lib.ItoaLen
section
namespace Go.Proofs.YtopiioklkkiedaaGreatDoor
open Go Go.Lg Go.Lg.Fml Go.Lg.Fld Go.Lg.Arith
set_option maxRecDepth 100000
variable (X:Nat→Option Obj)
set_option maxHeartbeats 25600000 in
theorem eVal' (a b:Cp) (r:Rl) (ns:List Nm) (aad bad ead vad:Option Addr) (acap bcap ecap vcap:Nat) (hA:FieldsIn X aad a.fs) (hac:a.fs.length≤acap) (hB:FieldsIn X bad b.fs) (hE:CodesIn X ead r.ex) (hN:NumsIn X vad ns) (hvc:ns.length≤vcap) (la:a.fs.length≤12) (lb:b.fs.length≤12) (lr:r.ex.length≤12∧∀ c∈r.ex,c.length≤80) (ln:ns.length<4611686018427387904):
  MSpec Tryz.prog X 12 [Cx a aad acap,Cx b bad bcap,LPg r.nw r.old ead r.ex.length ecap,Lx vad ns.length vcap] [] (evR (valE a.fs b.fs r ns) (valN a.fs b.fs r ns)) (evBx (valE a.fs b.fs r ns) (valN a.fs b.fs r ns)):=by
 have hC:=eCheck X a b r ns aad bad ead vad acap bcap ecap vcap hA hB hE hN (by omega) (by omega) (fun c hc=>by have:=lr.2 c hc;omega)
 refine cD Tryz.func12 rfl (by kernel_rfl) rfl (by unfold evR evBx;split<;>rfl) (by unfold evBx;split<;>exact (by repeat' (first|refine bS ?_ ?_|rfl|exact bU|exact bT|exact bV rfl))) rfl rfl ?_
 intro C
 by_cases z:ckV a.fs b.fs r ns=0
 case neg =>
  rw [valE_no z]
  unfold evR evBx
  rw [if_neg z,if_neg z]
  generalize ckV a.fs b.fs r ns=e at *
  (refine aA<|rgN<|aL O O O dO<|aL O O O dO<|aL O O O dO<|kas O<|kas O<|aB<|aA<|aA<|rgN<|aK O O O dO ?_;refine aK O O O dO ?_;refine aK O O O dO ?_;refine kmv O<|kca O O hC<|kas O<|aB<|aA<|rgN<|kmv O<|kne O O (r:=true) (cP z)<|aB<|aE O ?_;refine aA<|rgN<|kmv O<|kas O<|kas O<|aB<|aI ?_)
  exact ⟨[],⟨[_,_],⟨O,O,trivial⟩,O⟩,trivial,O,O⟩
 obtain ⟨z1,z2,z3,z4,z5⟩:=valE_go z
 rw [z] at hC
 rw [z5]
 unfold valN
 have hS:=eSplit X a.fs ns aad vad acap vcap hA hac hN hvc la ln z1
 have hEl:=Elems_spec X bad bcap b.fs hB (by omega)
 have hel:=ruE_len z4 z3
 obtain ⟨z6,hns,_⟩:=fit_all z1
 obtain ⟨_,hoka,_⟩:=layErr_facts z6
 obtain ⟨_,hokb,_⟩:=layErr_facts z2
 have hE96:elemsN b.fs≤96:=by
  unfold elemsN
  rw [if_pos z2,elems_sum]
  have:=sum_le b.fs hokb
  omega
 have hmk:slcBuild Tryz.prog 28 (elemsN b.fs)=some ((List.replicate (elemsN b.fs) [Value.bool false,.int .u64 0,.int .u64 0]).flatten,3,86):=slcBuild_many (z := #[.bool false,.int .u64 0,.int .u64 0]) (by kernel_rfl) (by kernel_rfl) rfl (by omega)
 (refine aA<|rgN<|aL O O O dO<|aL O O O dO<|aL O O O dO<|kas O<|kas O<|aB<|aA<|aA<|rgN<|aK O O O dO ?_;refine aK O O O dO ?_;refine aK O O O dO ?_;refine kmv O<|kca O O hC<|kas O<|aB<|aA<|rgN<|kmv O<|kne O O (r:=false) O<|aB<|aF O ?_;refine aH ?_;refine aA<|rgN<|kfa O O ?_;refine kl1 O O O<|kmv O<|bE [(1000001,501)] (.sv (.one (.slc 501 0 a.fs.length 1))) [(501,some ⟨28,(subV vad vcap 0 a.fs).map .val,false⟩)] (hS) O O (by exact trivial) O O O O O (by exact (.box O (bX _ _ _ _) .nil)) dO<|kas O<|aB<|aA ?_)
 clear hC hS
 refine LWP.le (σ':=⟨[(11,.sv (.one (.slc 501 0 a.fs.length 1))),(5,Lp 5),(6,Lp 6)],[(501,some ⟨28,(subV vad vcap 0 a.fs).map .val,false⟩),cpB 5 b bad bcap,v3B 27 6 r.nw r.old ead r.ex.length ecap],X⟩) (Le.of (by exact ⟨O,O,O,trivial⟩) (by exact ⟨O,O,O,trivial⟩) (by exact O) (by exact O) (by repeat' (first|refine bS ?_ ?_|rfl|exact bU|exact bT|exact bV O))) ?_
 refine LWP.freeze O O O fun fb0 fc fa0 ff0 hn0 _ hfc _ hsp => ?_
 have hXY:=cF (o:=.cells fa0 28 ff0) hn0
 have hFs:=fss_block (cJ X fb0 (.cells fa0 28 ff0)) hsp ⟨hN.rows.mono hXY,hN.in2⟩ hns
 have hf2:∀ l∈cutN a.fs ns,∀ u∈l,In2 u.2:=fun l hl u hu=>hN.in2 u (cut_mem hl u hu)
 have hrl:∀ l∈cutN a.fs ns,l.length<4611686018427387904:=fun l hl=>by
  obtain ⟨i,hi⟩:=List.mem_iff_getElem?.1 hl
  have hil:=(List.getElem?_eq_some_iff.1 hi).1
  rw [cutN_len] at hil
  rw [cut_at (cU hil)] at hi
  cases hi
  rw [cW,cX];omega
 replace hB:=hB.mono hXY
 replace hE:=hE.mono hXY
 replace hEl:=Elems_spec _ bad bcap b.fs hB (by omega)
 have hfl:a.fs.length=(cutN a.fs ns).length:=cutN_len.symm
 have hcl12:(cutN a.fs ns).length≤12:=by rw [cutN_len];exact la
 clear hA hN hsp hn0 hXY
 generalize withBlock X fb0 (.cells fa0 28 ff0)=Y at *
 generalize (some ⟨fb0,0,none⟩:Option Addr)=fad at *
 rw [hfl]
 generalize cutN a.fs ns=G at *
 (refine rgN<|kfa O O ?_;refine kl1 O O O<|kca O O hEl<|K.makeSlc0 (m:=elemsN b.fs) (bytes:=24) O O hmk (by kernel_rfl) (by omega) O dO ?_;refine kas O<|aB<|aA<|aA<|rgN<|kfa O O ?_;refine kl1 O O O<|aQ O bZ O dO ?_;refine kmv O<|aB<|aG ?_)
 clear hEl hmk
 refine cH (fun m σ=>∃ (i:Nat) (L:List Nm),i≤b.fs.length∧m=b.fs.length-i∧L=(stepsN (b.fs.take i) (r.ex.take i)).map (stepV G)∧seqE (stepE G) (stepsN (b.fs.take i) (r.ex.take i))=0∧σ=⟨[(6,Lp 6),(11,Lx fad G.length fc),(12,.sv (.one (.slc 500 0 L.length 3))),(35,Lx bad b.fs.length bcap),(36,Ln .i64 (b.fs.length:Nat)),(37,Ln .i64 (i:Nat))],[nmsB 500 (L) true,v3B 27 6 r.nw r.old ead r.ex.length ecap],Y⟩) b.fs.length
  (cB (σ':=⟨[(6,Lp 6),(11,Lx fad G.length fc),(12,.sv (.one (.slc 500 0 0 3))),(35,Lx bad b.fs.length bcap),(36,Ln .i64 (b.fs.length:Nat)),(37,Ln .i64 (0:Nat))],[nmsB 500 ([]) true,v3B 27 6 r.nw r.old ead r.ex.length ecap],Y⟩) (Le.ofR [(500,33)] (by exact ⟨rfl,rfl,rfl,rfl,rfl,rfl,trivial⟩) (by repeat' (first|exact trivial|refine cM ⟨_,rfl,?_⟩ ?_|refine cM ⟨_,rfl⟩ ?_|rfl|exact bW _ _ _ _|exact bX _ _ _ _|exact bY rfl)) (by exact rfl) (by exact rfl) (by repeat' (first|refine bS ?_ ?_|rfl|exact bU|exact bT|exact bV rfl)) (by exact rfl) (by exact rfl)) (cA ⟨0,[],by omega,by omega,rfl,rfl,rfl⟩)) ?_
 rintro m σ ⟨i,L,hi,rfl,hL,hpre,rfl⟩
 by_cases hlt:i<b.fs.length
 case neg =>
  have e:i=b.fs.length:=by omega
  subst e
  rw [dC,← hel,dC] at hL hpre
  rw [hpre]
  unfold evR evBx
  rw [if_pos rfl,if_pos rfl,← hL]
  (refine aA<|rgN<|klt O O (cK (by omega))<|aB<|aA<|aF O ?_;refine aJ<|aA<|rgN<|kmv O<|kas O<|kas O<|aB<|aI ?_)
  exact ⟨[(1000001,500)],⟨[_,_],⟨rfl,rfl,trivial⟩,rfl⟩,(by repeat' (first|exact trivial|refine cM ⟨_,rfl,?_⟩ ?_|refine cM ⟨_,rfl⟩ ?_|rfl|exact bW _ _ _ _|exact bX _ _ _ _|exact bY rfl)),rfl,rfl⟩
 obtain ⟨f,hf⟩:∃ f,b.fs[i]? = some f:=⟨_,cU hlt⟩
 obtain ⟨c,hc⟩:∃ c,r.ex[i]? = some c:=⟨_,cU (by omega)⟩
 obtain ⟨fb,fo,farr,fel,ffr,rfl,hFX,hFz,hFc,_,_,_⟩:=hB.cells hf
 obtain ⟨eb,eo,earr,eel,efr,cad,ccap,rfl,hEX,hec,hI⟩:=hE.get hc
 have hio:fo+Int.toNat (i:Int)*3=fo+i*3:=by simp
 have hio1:eo+Int.toNat (i:Int)*1=eo+i*1:=by simp
 obtain ⟨hn1,hn8,hnc⟩:=sum_pos hokb hf
 have hadd:IntKind.i64.wrap (((i:Nat):Int)+1)=((i+1:Nat):Int):=by rw [cE (by omega)];omega
 have hc80:=lr.2 c (cZ hc)
 have hsl:(stepsN (b.fs.take i) (r.ex.take i)).length≤96:=by
  have h1:=steps_len (b:=b.fs.take i) (ex:=r.ex.take i) (by rw [cW,cW];omega)
  rw [h1,elems_sum]
  have h2:=sum_le (b.fs.take i) (Fld.take_ok hokb i)
  rw [cW] at h2
  omega
 (refine aA<|rgN<|klt O O (cL (by omega))<|aB<|aA<|aE O ?_;refine aH ?_;refine aA<|aG<|aA<|rgN<|kmv O<|aR O O bZ (by omega) hio dO<|aY O hFX (by kernel_rfl) hFz hFc dO<|aP O dO ?_;refine kas O<|aM O O O O O O dO ?_;refine aB<|aA<|rgN<|kfa O O ?_;refine kl1 O O O<|kmv O<|aB<|aG ?_)
 refine cH (fun m σ=>∃ (k:Nat) (L:List Nm),k≤f.n∧m=f.n-k∧L=(stepsN (b.fs.take i) (r.ex.take i)++fldS f c k).map (stepV G)∧seqE (stepE G) (stepsN (b.fs.take i) (r.ex.take i)++fldS f c k)=0∧σ=⟨[(6,Lp 6),(11,Lx fad G.length fc),(12,.sv (.one (.slc 500 0 L.length 3))),(35,Lx (some ⟨fb,fo,none⟩) b.fs.length bcap),(36,Ln .i64 (b.fs.length:Nat)),(37,Ln .i64 (i:Nat)),(13,Ln .i64 (i:Nat)),(14,Lp 14),(43,Ln .i64 f.count),(44,Ln .i64 (k:Nat))],[nmsB 500 (L) true,v3B 27 6 r.nw r.old (some ⟨eb,eo,none⟩) r.ex.length ecap,flB 14 f],Y⟩) f.n
  (cB (σ':=⟨[(6,Lp 6),(11,Lx fad G.length fc),(12,.sv (.one (.slc 500 0 L.length 3))),(35,Lx (some ⟨fb,fo,none⟩) b.fs.length bcap),(36,Ln .i64 (b.fs.length:Nat)),(37,Ln .i64 (i:Nat)),(13,Ln .i64 (i:Nat)),(14,Lp 14),(43,Ln .i64 f.count),(44,Ln .i64 (0:Nat))],[nmsB 500 (L) true,v3B 27 6 r.nw r.old (some ⟨eb,eo,none⟩) r.ex.length ecap,flB 14 f],Y⟩) (Le.ofR [(500,500)] (by exact ⟨rfl,rfl,rfl,rfl,rfl,rfl,rfl,rfl,rfl,rfl,trivial⟩) (by repeat' (first|exact trivial|refine cM ⟨_,rfl,?_⟩ ?_|refine cM ⟨_,rfl⟩ ?_|rfl|exact bW _ _ _ _|exact bX _ _ _ _|exact bY rfl)) (by exact rfl) (by exact rfl) (by repeat' (first|refine bS ?_ ?_|rfl|exact bU|exact bT|exact bV rfl)) (by exact rfl) (by exact rfl)) (cA ⟨0,L,by omega,by omega,by rw [fldS_zero,dG];exact hL,by rw [fldS_zero,dG];exact hpre,rfl⟩)) ?_
 clear hpre hL
 clear L
 rintro m σ ⟨k,L,hk,rfl,hL,hpre,rfl⟩
 have hLl:L.length≤104:=by rw [hL,cT,cS,fldS_len];omega
 by_cases hkl:k<f.n
 case neg =>
  have e:k=f.n:=by omega
  subst e
  (refine aA<|rgN<|klt O O (cK (by omega))<|aB<|aA<|aF O ?_;refine aJ<|rgN<|kad O O hadd<|kmv O<|aB ?_)
  exact cB (σ':=⟨[(6,Lp 6),(11,Lx fad G.length fc),(12,.sv (.one (.slc 500 0 L.length 3))),(35,Lx (some ⟨fb,fo,none⟩) b.fs.length bcap),(36,Ln .i64 (b.fs.length:Nat)),(37,Ln .i64 (i+1:Nat))],[nmsB 500 (L) true,v3B 27 6 r.nw r.old (some ⟨eb,eo,none⟩) r.ex.length ecap],Y⟩) (Le.ofR [(500,500)] (by exact ⟨rfl,rfl,rfl,rfl,rfl,rfl,trivial⟩) (by repeat' (first|exact trivial|refine cM ⟨_,rfl,?_⟩ ?_|refine cM ⟨_,rfl⟩ ?_|rfl|exact bW _ _ _ _|exact bX _ _ _ _|exact bY rfl)) (by exact rfl) (by exact rfl) (by repeat' (first|refine bS ?_ ?_|rfl|exact bU|exact bT|exact bV rfl)) (by exact rfl) (by exact rfl)) (cA ⟨b.fs.length-(i+1),by omega,i+1,L,by omega,rfl,by rw [steps_snoc hf hc];exact hL,by rw [steps_snoc hf hc];exact hpre,rfl⟩)
 obtain ⟨post,hpost⟩:=steps_at hf hc hkl
 have hEm:=eElem Y f c G cad fad ccap fc (k:Nat) hI (by omega) hFs (by omega) hrl hf2 (by omega)
 have haddk:IntKind.i64.wrap (((k:Nat):Int)+1)=((k+1:Nat):Int):=by rw [cE (by omega)];omega
 cases hev:elX f.kind c G (k:Nat) with
 | error e =>
  obtain ⟨hne,hse⟩:=elX_err hev
  rw [seqE_hit hpost hpre (by rw [hse];exact hne),hse]
  unfold evR evBx
  rw [if_neg hne,if_neg hne]
  rw [hev] at hEm
  (refine aA<|rgN<|klt O O (cL (by omega))<|aB<|aA<|aE O ?_;refine aH ?_;refine aA<|aG<|aA<|rgN<|kmv O<|kas O<|aB<|aA<|rgD mixed<|aK O O O dO ?_;refine kfa O O ?_;refine kl1 O O O<|kmv O<|aR O O bZ (by omega) hio1 dO<|aW O hEX O hec dO<|kmv O<|kmv O<|aT O O (by exact O) (by exact nl2 O O O) dO ?_;refine kca O O hEm<|kmv O<|kex O O<|kex O O<|aP O dO ?_;refine aM O O O O O O dO ?_;refine kas O<|aB<|rgA ?_;refine aA<|aA<|rgN<|kmv O<|kne O O (r:=true) (cP hne)<|aB<|aE O ?_;refine aA<|rgN<|kmv O<|kas O<|kas O<|aB<|aI ?_)
  exact ⟨[],⟨[_,_],⟨O,O,trivial⟩,O⟩,trivial,O,O⟩
 | ok v =>
 obtain ⟨hse,hsv⟩:=elX_ok hev
 rw [hev] at hEm
 have hcl:=nmsV_len L
 have hnc2:=nmsV_snoc L v
 have hL2:L++[v]=(stepsN (b.fs.take i) (r.ex.take i)++fldS f c (k+1)).map (stepV G):=by
  rw [fldS_succ,← dJ,dE,← hL,List.map_cons,List.map_nil,hsv]
 have hpre2:seqE (stepE G) (stepsN (b.fs.take i) (r.ex.take i)++fldS f c (k+1))=0:=by
  rw [fldS_succ,← dJ];exact seqE_snoc hpre hse
 have hnl:L.length+1=(L++[v]).length:=by rw [cS];rfl
 (refine aA<|rgN<|klt O O (cL (by omega))<|aB<|aA<|aE O ?_;refine aH ?_;refine aA<|aG<|aA<|rgN<|kmv O<|kas O<|aB<|aA<|rgD mixed<|aK O O O dO ?_;refine kfa O O ?_;refine kl1 O O O<|kmv O<|aR O O bZ (by omega) hio1 dO<|aW O hEX O hec dO<|kmv O<|kmv O<|aT O O (by exact O) (by exact nl2 O O O) dO ?_;refine kca O O hEm<|kmv O<|kex O O<|kex O O<|aP O dO ?_;refine aM O O O O O O dO ?_;refine kas O<|aB<|rgA ?_;refine aA<|aA<|rgN<|kmv O<|kne O O (r:=false) O<|aB<|aF O ?_;refine aH ?_;refine rgN<|kmv O<|aK O O O dO ?_;refine aZ (zs:=[.bool false,.int .u64 0,.int .u64 0]) (sz:=3) (e:=86) (cs':=cI v.1 v.2) (by kernel_rfl) O O O O O O dO<|bP (by_:=24) (e2:=86) (l2:=cI v.1 v.2) (nl:=(L++[v]).length) (nc:=(nmsV (L++[v])).map .val) O O hcl O O (dK _) O O (by kernel_rfl) (by kernel_rfl) (by omega) (by omega) O hnl hnc2 dO<|kas O<|aB<|rgN<|kad O O haddk<|kmv O<|aB ?_)
 exact cB (σ':=⟨[(6,Lp 6),(11,Lx fad G.length fc),(12,.sv (.one (.slc 500 0 (L++[v]).length 3))),(35,Lx (some ⟨fb,fo,none⟩) b.fs.length bcap),(36,Ln .i64 (b.fs.length:Nat)),(37,Ln .i64 (i:Nat)),(13,Ln .i64 (i:Nat)),(14,Lp 14),(43,Ln .i64 f.count),(44,Ln .i64 (k+1:Nat))],[nmsB 500 (L++[v]) true,v3B 27 6 r.nw r.old (some ⟨eb,eo,none⟩) r.ex.length ecap,flB 14 f],Y⟩) (Le.ofR [(500,66)] (by exact ⟨rfl,rfl,rfl,rfl,rfl,rfl,rfl,rfl,rfl,rfl,trivial⟩) (by repeat' (first|exact trivial|refine cM ⟨_,rfl,?_⟩ ?_|refine cM ⟨_,rfl⟩ ?_|rfl|exact bW _ _ _ _|exact bX _ _ _ _|exact bY rfl)) (by exact rfl) (by exact rfl) (by repeat' (first|refine bS ?_ ?_|rfl|exact bU|exact bT|exact bV rfl)) (by exact rfl) (by exact rfl)) (cA ⟨f.n-(k+1),by omega,k+1,L++[v],by omega,rfl,hL2,hpre2,rfl⟩)
end Go.Proofs.YtopiioklkkiedaaGreatDoor
end
section
namespace Go.Proofs.YtopiioklkkiedaaGreatDoor
open Go Go.Lg Go.Lg.Fml Go.Lg.Fld Go.Lg.Arith
set_option maxRecDepth 100000
variable (X:Nat→Option Obj)
theorem eVal_nil' (a b:Cp) (r:Rl) (ns:List Nm) (aad bad ead vad:Option Addr) (acap bcap ecap vcap:Nat) (hA:FieldsIn X aad a.fs) (hac:a.fs.length≤acap) (hB:FieldsIn X bad b.fs) (hE:CodesIn X ead r.ex) (hN:NumsIn X vad ns) (hvc:ns.length≤vcap) (la:a.fs.length≤12) (lb:b.fs.length≤12) (lr:r.ex.length≤12∧∀ c∈r.ex,c.length≤80) (ln:ns.length<4611686018427387904) (h:valE a.fs b.fs r ns≠0):
  MSpec Tryz.prog X 12 [Cx a aad acap,Cx b bad bcap,LPg r.nw r.old ead r.ex.length ecap,Lx vad ns.length vcap] [] (.tup [.one (.val (.slice none 0 0)),Sn .i64 (valE a.fs b.fs r ns)]) []:=by
 have:=eVal' X a b r ns aad bad ead vad acap bcap ecap vcap hA hac hB hE hN hvc la lb lr ln
 unfold evR evBx at this
 rw [if_neg h,if_neg h] at this
 exact this
theorem eVal_box' (a b:Cp) (r:Rl) (ns:List Nm) (aad bad ead vad:Option Addr) (acap bcap ecap vcap:Nat) (hA:FieldsIn X aad a.fs) (hac:a.fs.length≤acap) (hB:FieldsIn X bad b.fs) (hE:CodesIn X ead r.ex) (hN:NumsIn X vad ns) (hvc:ns.length≤vcap) (la:a.fs.length≤12) (lb:b.fs.length≤12) (lr:r.ex.length≤12∧∀ c∈r.ex,c.length≤80) (ln:ns.length<4611686018427387904) (h:valE a.fs b.fs r ns=0):
  MSpec Tryz.prog X 12 [Cx a aad acap,Cx b bad bcap,LPg r.nw r.old ead r.ex.length ecap,Lx vad ns.length vcap] [] (.tup [.one (.slc 1000001 0 (valN a.fs b.fs r ns).length 3),Sn .i64 0]) [nmsB 1000001 (valN a.fs b.fs r ns) true]:=by
 have:=eVal' X a b r ns aad bad ead vad acap bcap ecap vcap hA hac hB hE hN hvc la lb lr ln
 unfold evR evBx at this
 rw [if_pos h,if_pos h] at this
 exact this
set_option maxHeartbeats 6400000 in
theorem eRow' (a b:Cp) (r:Rl) (s:List UInt8) (aad bad ead:Option Addr) (acap bcap ecap:Nat) (hA:FieldsIn X aad a.fs) (hac:a.fs.length≤acap) (hB:FieldsIn X bad b.fs) (hE:CodesIn X ead r.ex) (la:a.fs.length≤12) (lb:b.fs.length≤12) (lr:r.ex.length≤12∧∀ c∈r.ex,c.length≤80):
  PSpec Tryz.prog X 15 [Cx a aad acap,Cx b bad bcap,LPg r.nw r.old ead r.ex.length ecap,Ls s] (.tup [Ss (rowN a.fs b.fs r s),Sn .i64 (rowE a.fs b.fs r s)]):=by
 refine cC Tryz.func15 rfl (by kernel_rfl) rfl rfl ?_
 intro C
 by_cases hu:unpErr a.fs s=0
 case neg =>
  have e1:rowE a.fs b.fs r s=unpErr a.fs s:=if_neg hu
  rw [show rowN a.fs b.fs r s=[] from if_neg (by rw [e1];exact hu),e1]
  have hU:=lUnpack_err X aad acap a.fs s hA (by omega) hu
  generalize unpErr a.fs s=e at *
  (refine aA<|rgN<|aL O O O dO<|aL O O O dO<|aL O O O dO<|kas O<|kas O<|aB<|aA<|rgN<|kfa O O ?_;refine kl1 O O O<|kmv O<|kca O O hU<|kmv O<|kex O O<|kex O O<|kas O<|kas O<|aB<|aA<|aA<|rgN<|kmv O<|kne O O (r:=true) (cP hu) ?_;refine aB<|aE O ?_;refine aA<|rgN<|kmv O<|kas O<|kas O<|aB<|aI ?_)
  exact ⟨[_,_],⟨O,O,trivial⟩,O⟩
 have e1:rowE a.fs b.fs r s=valE a.fs b.fs r ((unpZ a.fs s).map qn):=if_pos hu
 have e2:rowN a.fs b.fs r s=if rowE a.fs b.fs r s=0 then packB b.fs (valN a.fs b.fs r ((unpZ a.fs s).map qn)) else []:=rfl
 rw [e1] at e2 ⊢
 have hU:=lUnpack_ok X aad acap a.fs s hA (by omega) hu
 have hRz:=unp_R hu
 have hl64:=unpZ_len hu
 (refine aA<|rgN<|aL O O O dO<|aL O O O dO<|aL O O O dO<|kas O<|kas O<|aB<|aA<|rgN<|kfa O O ?_;refine kl1 O O O<|kmv O<|bE [(1000001,501)] (.tup [.one (.slc 501 0 (unpZ a.fs s).length 3),Sn .i64 0]) [(501,some ⟨86,(nsV (unpZ a.fs s)).map .val,false⟩)] (hU) O O (by exact trivial) O O O O O (by exact (.box O (bX _ _ _ _) .nil)) dO<|kmv O<|kex O O<|kex O O<|kas O<|kas O<|aB<|aA<|aA<|rgN<|kmv O<|kne O O (r:=false) O ?_;refine aB<|aF O ?_;refine aH ?_;refine aA ?_)
 refine LWP.le (σ':=⟨[(10,.sv (.one (.slc 501 0 (unpZ a.fs s).length 3))),(4,Lp 4),(5,Lp 5),(6,Lp 6)],[(501,some ⟨86,(nsV (unpZ a.fs s)).map .val,false⟩),v3B 27 6 r.nw r.old ead r.ex.length ecap,cpB 5 b bad bcap,cpB 4 a aad acap],X⟩) (Le.of (by exact ⟨O,O,O,O,trivial⟩) (by exact ⟨O,O,O,O,trivial⟩) (by exact O) (by exact O) (by repeat' (first|refine bS ?_ ?_|rfl|exact bU|exact bT|exact bV O))) ?_
 refine LWP.freeze O O O fun blk zc arr fr hn _ hzc _ hsp => ?_
 have hN:=nums_in (cJ X blk (.cells arr 86 fr)) hRz hsp
 have hZ:=cF (o:=.cells arr 86 fr) hn
 replace hA:=hA.mono hZ
 replace hB:=hB.mono hZ
 replace hE:=hE.mono hZ
 clear hsp hn hZ hU
 generalize withBlock X blk (.cells arr 86 fr)=Z at *
 generalize (some ⟨blk,0,none⟩:Option Addr)=zad at *
 have htwo:∀ u∈(valN a.fs b.fs r ((unpZ a.fs s).map qn)),In2 u.2:=valN_two (fun q hq y hy=>by
  obtain ⟨w,hw⟩:=List.mem_iff_getElem?.1 hq
  obtain ⟨_,_,_,_,_,_,_,_,_,_,hI⟩:=hE.get hw
  exact (hI.small y hy).2.2.2) hN.in2 (fun f hf=>(hB.small f hf).2.2)
 by_cases h0:valE a.fs b.fs r ((unpZ a.fs s).map qn)=0
 case neg =>
  have hV:=eVal_nil' Z a b r ((unpZ a.fs s).map qn) aad bad ead zad acap bcap ecap zc hA hac hB hE hN (by rw [cT];exact hzc) la lb lr (by rw [cT];omega) h0
  rw [cT] at hV
  rw [if_neg h0] at e2
  rw [e2]
  generalize valE a.fs b.fs r ((unpZ a.fs s).map qn)=e at *
  (refine rgN<|aK O O O dO ?_;refine aK O O O dO ?_;refine aK O O O dO ?_;refine kmv O<|aU [] [] (hV) O O (by exact trivial) O O O O O (by exact .nil) dO<|kmv O<|kex O O<|kex O O<|kas O<|kas O<|aB<|aA<|aA<|rgN<|kmv O<|kne O O (r:=true) (cP h0)<|aB ?_;refine aE O ?_;refine aA<|rgN<|kmv O<|kas O<|kas O<|aB<|aI ?_)
  exact ⟨[_,_],⟨O,O,trivial⟩,O⟩
 have hV:=eVal_box' Z a b r ((unpZ a.fs s).map qn) aad bad ead zad acap bcap ecap zc hA hac hB hE hN (by rw [cT];exact hzc) la lb lr (by rw [cT];omega) h0
 have hfit:=valN_fit h0
 obtain ⟨hfl,hfn,_⟩:=fit_all hfit
 have hLn:(valN a.fs b.fs r ((unpZ a.fs s).map qn)).length<4611686018427387904:=by
  have:=sum_le b.fs (layErr_facts hfl).2.1
  omega
 rw [cT] at hV
 rw [if_pos h0] at e2
 rw [e2,h0]
 clear e1 e2
 generalize valN a.fs b.fs r ((unpZ a.fs s).map qn)=L at *
 (refine rgN<|aK O O O dO ?_;refine aK O O O dO ?_;refine aK O O O dO ?_;refine kmv O<|bE [(1000001,701)] (.tup [.one (.slc 701 0 L.length 3),Sn .i64 0]) [nmsB 701 L true] (hV) O O (by exact trivial) O O O O O (by exact (.box O (bX _ _ _ _) .nil)) dO<|kmv O<|kex O O<|kex O O<|kas O<|kas O<|aB<|aA<|aA<|rgN<|kmv O<|kne O O (r:=false) O<|aB ?_;refine aF O ?_;refine aH ?_;refine aA ?_)
 refine LWP.le (σ':=⟨[(12,.sv (.one (.slc 701 0 L.length 3))),(5,Lp 5)],[nmsB 701 L true,cpB 5 b bad bcap],Z⟩) (Le.of (by exact ⟨O,O,trivial⟩) (by exact ⟨O,O,trivial⟩) (by exact O) (by exact O) (by repeat' (first|refine bS ?_ ?_|rfl|exact bU|exact bT|exact bV O))) ?_
 refine LWP.freeze O O O fun b2 c2 arr2 fr2 hn2 _ _ _ hsp2 => ?_
 have hP:=lPack_spec (withBlock Z b2 (.cells arr2 86 fr2)) bad (some ⟨b2,0,none⟩) bcap c2 b.fs L (hB.mono (cF hn2)) (by omega) (nms_in (cJ _ _ _) htwo hsp2) hLn
 rw [hfit,show packR b.fs L=packB b.fs L from if_pos hfit] at hP
 generalize packB b.fs L=B at *
 (refine rgN<|kfa O O ?_;refine kl1 O O O<|kmv O<|kca O O hP<|kex O O<|kex O O<|kas O<|kas O<|aB<|aI ?_)
 exact ⟨[_,_],⟨O,O,trivial⟩,O⟩
end Go.Proofs.YtopiioklkkiedaaGreatDoor
end
section
namespace Go.Proofs.YtopiioklkkiedaaGreatDoor
open Go Go.Lg Go.Lg.Fml Go.Lg.Fld Go.Lg.Arith
set_option maxRecDepth 100000
theorem part_cases (ps:List Pt) (id:Int):(∃ (i:Nat) (x:Pt),ps[i]? = some x∧x.comp=id∧∀ (j:Nat) (y:Pt),j<i→ps[j]? = some y→(y.comp==id)=false)∨∀ (j:Nat) (y:Pt),ps[j]? = some y→(y.comp==id)=false:=by
 cases hf:ps.findIdx? (fun c=>c.comp==id) with
 | some i =>
  obtain ⟨hi,h1,h2⟩:=List.findIdx?_eq_some_iff_getElem.1 hf
  refine .inl ⟨i,ps[i],cU hi,beq_iff_eq.1 h1,fun j y hj hy => ?_⟩
  obtain ⟨hjl,rfl⟩:=List.getElem?_eq_some_iff.1 hy
  simpa using h2 j hj
 | none =>
  refine .inr fun j y hy => ?_
  simpa using List.findIdx?_eq_none_iff.1 hf y (cZ hy)
variable (X:Nat→Option Obj)
set_option maxHeartbeats 25600000 in
theorem eParts' (a b:Sc) (p:Pg) (ps:List Pt) (ad1 ad2 ad pad:Option Addr) (cap1 cap2 cap pcap:Nat) (ha:CompsIn X ad1 a.cs) (hb:CompsIn X ad2 b.cs) (hp:RulesIn X ad p.rs) (hP:PartsC X pad ps) (na:NamesIn a.cs) (nb:NamesIn b.cs) (sa:scOk a.cs) (sb:scOk b.cs) (sp:p.rs.length≤30∧∀ r∈p.rs,r.ex.length≤12∧∀ c∈r.ex,c.length≤80) (sl:ps.length≤12∧∀ x∈ps,x.val.length<4611686018427387904):
  MSpec Tryz.prog X 18 [Sx a.ver ad1 a.cs.length cap1,Sx b.ver ad2 b.cs.length cap2,LPg p.va p.vb ad p.rs.length cap,Lx pad ps.length pcap] [] (pR14 (psE a b p ps) (psV a b p ps)) (pBx14 (psE a b p ps) (psV a b p ps)):=by
 have hC:=cCheck X a b p ad1 ad2 ad cap1 cap2 cap ha hb hp na nb sa sb sp
 obtain ⟨sa1,sa2⟩:=sa
 obtain ⟨sb1,sb2⟩:=sb
 obtain ⟨sl1,sl2⟩:=sl
 have sp1:=sp.1
 have hS:=fun e he=>pPartsBig X a.ver ad1 pad cap1 pcap a.cs ps ha (by omega) (fun c hc=>by have:=sa2 c hc;omega) hP.parts (by omega) e he
 refine cD Tryz.func18 rfl (by kernel_rfl) rfl (by unfold pR14 pBx14;split<;>rfl) (by unfold pBx14;split<;>exact (by repeat' (first|refine bS ?_ ?_|rfl|exact bU|exact bT|exact bV rfl))) rfl rfl ?_
 intro C
 refine LWP.ends ?_
 by_cases z1:ckE a b p=0
 case neg =>
  rw [show psE a b p ps=ckE a b p by unfold psE;rw [if_neg z1]]
  unfold pR14 pBx14
  rw [if_neg z1,if_neg z1]
  generalize ckE a b p=e at *
  (refine aA<|rgN<|aL O O O dO<|aL O O O dO<|aL O O O dO<|kas O<|kas O<|aB<|aA<|aA<|rgN<|aK O O O dO ?_;refine aK O O O dO ?_;refine aK O O O dO ?_;refine kca O O hC<|kas O<|aB<|aA<|rgN<|kmv O<|kne O O (r:=true) (cP z1)<|aB<|aE O ?_;refine aA<|rgN<|kmv O<|kas O<|kas O<|aB<|aI ?_)
  exact cA ⟨[],⟨[_,_],⟨O,O,trivial⟩,O⟩,trivial,O,O⟩
 rw [z1] at hC
 by_cases z2:partsE a.cs ps=0
 case neg =>
  replace hS:=hS _ rfl
  rw [show psE a b p ps=partsE a.cs ps by unfold psE;rw [if_pos z1,if_neg z2]]
  unfold pR14 pBx14
  rw [if_neg z2,if_neg z2]
  generalize partsE a.cs ps=e at *
  (refine aA<|rgN<|aL O O O dO<|aL O O O dO<|aL O O O dO<|kas O<|kas O<|aB<|aA<|aA<|rgN<|aK O O O dO ?_;refine aK O O O dO ?_;refine aK O O O dO ?_;refine kca O O hC<|kas O<|aB<|aA<|rgN<|kmv O<|kne O O (r:=false) O<|aB<|aF O ?_;refine aH ?_;refine aA<|aA<|rgN<|aK O O O dO ?_;refine kmv O<|kca O O hS<|kas O<|aB<|aA<|rgN<|kmv O<|kne O O (r:=true) (cP z2)<|aB<|aE O ?_;refine aA<|rgN<|kmv O<|kas O<|kas O<|aB<|aI ?_)
  exact cA ⟨[],⟨[_,_],⟨O,O,trivial⟩,O⟩,trivial,O,O⟩
 replace hS:=hS 0 z2
 obtain ⟨_,_,_,hl,_⟩:=ckE_facts z1
 obtain ⟨hpw,hfacts⟩:=prt_facts z2
 rw [show psE a b p ps=seqE (pqE a) (prS p.rs b.cs ps) by unfold psE;rw [if_pos z1,if_pos z2]]
 unfold psV
 have hsmP:∀ x∈(prS p.rs b.cs ps).map (prV a),smallP x:=fun x hx=>by
  obtain ⟨q,hq,rfl⟩:=List.mem_map.1 hx
  exact (hp.small q.1 (List.of_mem_zip (mem_prS.1 hq).1).1).1
 (refine aA<|rgN<|aL O O O dO<|aL O O O dO<|aL O O O dO<|kas O<|kas O<|aB<|aA<|aA<|rgN<|aK O O O dO ?_;refine aK O O O dO ?_;refine aK O O O dO ?_;refine kca O O hC<|kas O<|aB<|aA<|rgN<|kmv O<|kne O O (r:=false) O<|aB<|aF O ?_;refine aH ?_;refine aA<|aA<|rgN<|aK O O O dO ?_;refine kmv O<|kca O O hS<|kas O<|aB<|aA<|rgN<|kmv O<|kne O O (r:=false) O<|aB<|aF O ?_;refine aH ?_;refine aA<|rgN<|aZ (zs:=[]) (sz:=2) (e:=59) (by kernel_rfl) O O O O O O dO<|kas O<|aB<|aA<|aA<|rgN<|kfa O O ?_;refine kl1 O O O<|aQ O bZ O dO ?_;refine kmv O<|aB<|aG ?_)
 clear hC hS
 refine cH (fun m σ=>∃ (i:Nat) (L:List Pt) (ws:List Value) (H:Nat→Option Obj),i≤p.rs.length∧m=p.rs.length-i∧OwnedM C X H∧PartsH H ws L∧L=(prS (p.rs.take i) (b.cs.take i) ps).map (prV a)∧seqE (pqE a) (prS (p.rs.take i) (b.cs.take i) ps)=0∧σ=⟨[(3,Lx pad ps.length pcap),(4,Lp 4),(5,Lp 5),(12,.sv (.one (.slc 500 0 (L).length 2))),(38,Lx ad p.rs.length cap),(39,Ln .i64 (p.rs.length:Nat)),(40,Ln .i64 (i:Nat))],[(500,some ⟨59,(ptZ (L) (ws)).map .val,(Nat.blt 0 (L).length)⟩),sxB 5 b.ver ad2 b.cs.length cap2,sxB 4 a.ver ad1 a.cs.length cap1],joinM X H⟩) p.rs.length
  (cB (σ':=⟨[(3,Lx pad ps.length pcap),(4,Lp 4),(5,Lp 5),(12,.sv (.one (.slc 500 0 ([]).length 2))),(38,Lx ad p.rs.length cap),(39,Ln .i64 (p.rs.length:Nat)),(40,Ln .i64 (0:Nat))],[(500,some ⟨59,(ptZ ([]) ([])).map .val,false⟩),sxB 5 b.ver ad2 b.cs.length cap2,sxB 4 a.ver ad1 a.cs.length cap1],X⟩) (Le.ofR [(500,36)] (by exact ⟨rfl,rfl,rfl,rfl,rfl,rfl,rfl,trivial⟩) (by repeat' (first|exact trivial|refine cM ⟨_,rfl,?_⟩ ?_|refine cM ⟨_,rfl⟩ ?_|rfl|exact bW _ _ _ _|exact bX _ _ _ _|exact bY rfl)) (by exact rfl) (by exact rfl) (by repeat' (first|refine bS ?_ ?_|rfl|exact bU|exact bT|exact bV rfl)) (by exact rfl) (by exact rfl)) (cA ⟨0,[],[],fun _=>none,by omega,by omega,OwnedM.nil C X,PartsH.nil,rfl,rfl,by rw [joinM_nil];rfl⟩)) ?_
 rintro m σ ⟨i,L,ws,H,hi,rfl,hO,G,hL,hpre,rfl⟩
 by_cases hlt:i<p.rs.length
 case neg =>
  have e:i=p.rs.length:=by omega
  subst e
  rw [dC,hl,dC] at hL hpre
  rw [hpre]
  unfold pR14 pBx14
  rw [if_pos rfl,if_pos rfl,← hL]
  rw [← hL] at hsmP
  (refine aA<|rgN<|klt O O (cK (by omega))<|aB<|aA<|aF O ?_;refine aJ<|aA<|rgN<|kmv O<|kas O<|kas O<|aB<|aI ?_)
  refine cB (σ':=⟨[(8,.sv (.one (.slc 500 0 L.length 2))),(9,Ln .i64 0)],[(500,some ⟨59,(ptZ L ws).map .val,Nat.blt 0 L.length⟩)],joinM X H⟩) (Le.ofR [(500,500)] (by exact ⟨rfl,rfl,trivial⟩) (by repeat' (first|exact trivial|refine cM ⟨_,rfl,?_⟩ ?_|refine cM ⟨_,rfl⟩ ?_|rfl|exact bW _ _ _ _|exact bX _ _ _ _|exact bY rfl)) (by exact rfl) (by exact rfl) (by repeat' (first|refine bS ?_ ?_|rfl|exact bU|exact bT|exact bV rfl)) (by exact rfl) (by exact rfl)) ?_
  refine cB Le.loose ?_
  refine Leads.spare fun sp=>prt_shut hO G hsmP (cA ?_)
  exact ⟨[(1000001,500)],⟨[_,_],⟨rfl,rfl,trivial⟩,rfl⟩,(by repeat' (first|exact trivial|refine cM ⟨_,rfl,?_⟩ ?_|refine cM ⟨_,rfl⟩ ?_|rfl|exact bW _ _ _ _|exact bX _ _ _ _|exact bY rfl)),rfl,rfl⟩
 obtain ⟨r,hr⟩:∃ r,p.rs[i]? = some r:=⟨_,cU hlt⟩
 obtain ⟨c,hc⟩:∃ c,b.cs[i]? = some c:=⟨_,cU (by omega)⟩
 obtain ⟨rb,ro,rarr,rel,rfr,ead,ecap,rfl,hRX,hRz,hRc,_,_,_,hRE⟩:=hp.get hr
 have hior:ro+Int.toNat (i:Int)*3=ro+i*3:=by simp
 have hadd:IntKind.i64.wrap (((i:Nat):Int)+1)=((i+1:Nat):Int):=by rw [cE (by omega)];omega
 have hRJ:=joinM_has hO hRX
 have hPm:PartsC (joinM X H) pad ps:=hP.mono fun _ _ h=>joinM_has hO h
 have hps:=prS_snoc (ps:=ps) hr hc
 rcases part_cases ps r.old with ⟨j,x,hx,hm,hprx⟩|hno
 case inr =>
  rw [partsOf_none hno,dG] at hps
  have hFi:=efind_no (joinM X H) pad pcap ps r.old hPm (by omega) hno
  (refine aA<|rgN<|klt O O (cL (by omega))<|aB<|aA<|aE O ?_;refine aH ?_;refine aA<|aG<|aA<|rgN<|aR O O bZ (by omega) hior dO<|aY O hRJ (by kernel_rfl) hRz hRc dO<|aP O dO ?_;refine aM O O O O O O dO ?_;refine aB<|aA<|rgN<|kmv O<|kfa O O ?_;refine kl1 O O O<|kca O O hFi<|kmv O<|kex O O<|kex O O<|aP O dO ?_;refine aM O O O O O O dO ?_;refine kas O<|aB<|aA<|aA<|rgN<|kmv O<|aV O O dO<|aB<|aE O ?_;refine aJ<|rgN<|kad O O hadd<|kmv O<|aB ?_)
  exact cB (σ':=⟨[(3,Lx pad ps.length pcap),(4,Lp 4),(5,Lp 5),(12,.sv (.one (.slc 500 0 (L).length 2))),(38,Lx (some ⟨rb,ro,none⟩) p.rs.length cap),(39,Ln .i64 (p.rs.length:Nat)),(40,Ln .i64 (i+1:Nat))],[(500,some ⟨59,(ptZ (L) (ws)).map .val,(Nat.blt 0 (L).length)⟩),sxB 5 b.ver ad2 b.cs.length cap2,sxB 4 a.ver ad1 a.cs.length cap1],joinM X H⟩) (Le.ofR [(500,500)] (by exact ⟨rfl,rfl,rfl,rfl,rfl,rfl,rfl,trivial⟩) (by repeat' (first|exact trivial|refine cM ⟨_,rfl,?_⟩ ?_|refine cM ⟨_,rfl⟩ ?_|rfl|exact bW _ _ _ _|exact bX _ _ _ _|exact bY rfl)) (by exact rfl) (by exact rfl) (by repeat' (first|refine bS ?_ ?_|rfl|exact bU|exact bT|exact bV rfl)) (by exact rfl) (by exact rfl)) (cA ⟨p.rs.length-(i+1),by omega,i+1,L,ws,H,by omega,rfl,hO,G,by rw [hps];exact hL,by rw [hps];exact hpre,rfl⟩)
 rw [partsOf_one hpw hx hm] at hps
 obtain ⟨post,hpost⟩:∃ post,prS p.rs b.cs ps=prS (p.rs.take i) (b.cs.take i) ps++(r,c,x)::post:=by
  obtain ⟨post,h⟩:=prS_split (ps:=ps) hr hc
  rw [partsOf_one hpw hx hm] at h
  exact ⟨post,h⟩
 have hxm:=cZ hx
 obtain ⟨pb,po,parr,pel,pfr,xad,xcap,rfl,hPX,hPz,hPc,_,_,hN,hNc⟩:=hP.get hx
 have hPJ:=joinM_has hO hPX
 have hFi:=efind_yes (joinM X H) _ pcap ps r.old hPm (by omega) hprx hx hm rfl hPJ hPz hPc
 obtain ⟨d,hd,_⟩:=hfacts x hxm
 have hfo:findC a.cs r.old=some d:=by rw [← hm];exact hd
 obtain ⟨k1,hk1,hid1,hpr1⟩:=findC_at hfo
 obtain ⟨k2,hk2,hid2,hpr2⟩:=findC_at (find_made z1 hr hc)
 obtain ⟨_,_,_,_,_,_,_,_,_,_,_,_,_,_,hdF⟩:=ha.get hk1
 obtain ⟨_,_,_,_,_,_,_,_,_,_,_,_,_,_,hcF⟩:=hb.get hk2
 have hdl:=sa2 d (cZ hk1)
 have hcl:=sb2 c (cZ hk2)
 (refine aA<|rgN<|klt O O (cL (by omega))<|aB<|aA<|aE O ?_;refine aH ?_;refine aA<|aG<|aA<|rgN<|aR O O bZ (by omega) hior dO<|aY O hRJ (by kernel_rfl) hRz hRc dO<|aP O dO ?_;refine aM O O O O O O dO ?_;refine aB<|aA<|rgN<|kmv O<|kfa O O ?_;refine kl1 O O O<|kca O O hFi<|kmv O<|kex O O<|kex O O<|aP O dO ?_;refine aM O O O O O O dO ?_;refine kas O<|aB<|aA<|aA<|rgN<|kmv O<|aV O O dO<|aB<|aF O ?_;refine aH ?_;refine aA ?_)
 refine LWP.le (σ':=⟨[(14,Lp 14),(15,Lp 15),(3,Lx (some ⟨pb,po,none⟩) ps.length pcap),(4,Lp 4),(5,Lp 5),(12,.sv (.one (.slc 500 0 (L).length 2))),(38,Lx (some ⟨rb,ro,none⟩) p.rs.length cap),(39,Ln .i64 (p.rs.length:Nat)),(40,Ln .i64 (i:Nat))],[v3B 27 14 r.nw r.old ead r.ex.length ecap,(15,some ⟨59,[.val (.int .i64 x.comp),.val (.slice xad x.val.length xcap)],false⟩),(500,some ⟨59,(ptZ (L) (ws)).map .val,(Nat.blt 0 (L).length)⟩),sxB 5 b.ver ad2 b.cs.length cap2,sxB 4 a.ver ad1 a.cs.length cap1],joinM X H⟩) (Le.of (by exact ⟨O,O,O,O,O,O,O,O,O,trivial⟩) (by exact ⟨O,O,O,O,O,trivial⟩) (by exact O) (by exact O) (by repeat' (first|refine bS ?_ ?_|rfl|exact bU|exact bT|exact bV O))) ?_
 repeat refine aA ?_
 refine LWP.meetL (fun σ=>∃ (Y:Nat→Option Obj) (w:Cp) (fad:Option Addr) (fcap:Nat),(∀ b o,joinM X H b=some o→Y b=some o)∧w.fs=d.fs∧w.fs.length≤fcap∧FieldsIn Y fad w.fs∧σ=⟨[(17,Lp 17),(14,Lp 14),(15,Lp 15),(3,Lx (some ⟨pb,po,none⟩) ps.length pcap),(4,Lp 4),(5,Lp 5),(12,.sv (.one (.slc 500 0 (L).length 2))),(38,Lx (some ⟨rb,ro,none⟩) p.rs.length cap),(39,Ln .i64 (p.rs.length:Nat)),(40,Ln .i64 (i:Nat))],[cpB 17 w fad fcap,v3B 27 14 r.nw r.old ead r.ex.length ecap,(15,some ⟨59,[.val (.int .i64 x.comp),.val (.slice xad x.val.length xcap)],false⟩),(500,some ⟨59,(ptZ (L) (ws)).map .val,(Nat.blt 0 (L).length)⟩),sxB 5 b.ver ad2 b.cs.length cap2,sxB 4 a.ver ad1 a.cs.length cap1],Y⟩) ?_ ?_
 ·rcases pFind (joinM X H) a.ver ad1 cap1 a.cs r.old (ha.mono fun _ _ h=>joinM_has hO h) (by omega) (fun c hc=>by have:=sa2 c hc;omega) hpr1 hk1 hid1 with ⟨h0,hf⟩|hf
  ·have hl:d.fs.length=0:=by rw [h0];rfl
   (refine rgN<|aK O O O dO ?_;refine kfa O O ?_;refine kl1 O O O<|kca O O hf<|kmv O<|kex O O<|kex O O<|aP O dO ?_;refine aM O O O O O O dO ?_;refine kas O<|aB ?_)
   exact Leads.here (Le.of (by exact ⟨O,O,O,O,O,O,O,O,O,O,trivial⟩) (by exact ⟨O,O,O,O,O,O,trivial⟩) (by exact O) (by exact O) (by repeat' (first|refine bS ?_ ?_|rfl|exact bU|exact bT|exact bV O))) ⟨joinM X H,d,none,0,fun _ _ h=>h,O,by omega,fields_none h0,O⟩
  ·(refine rgN<|aK O O O dO ?_;refine kfa O O ?_;refine kl1 O O O<|bE [(1000001,601)] (.tup [SCs d 601,Sb true]) [fdB 601 d.fs] (hf) O O (by exact trivial) O O O O O (by exact (.box O (bX _ _ _ _) .nil)) dO<|kmv O<|kex O O<|kex O O<|aP O dO ?_;refine aM O O O O O O dO ?_;refine kas O<|aB ?_)
   refine cB (σ':=⟨[(17,Lp 17),(14,Lp 14),(15,Lp 15),(3,Lx (some ⟨pb,po,none⟩) ps.length pcap),(4,Lp 4),(5,Lp 5),(12,.sv (.one (.slc 500 0 (L).length 2))),(38,Lx (some ⟨rb,ro,none⟩) p.rs.length cap),(39,Ln .i64 (p.rs.length:Nat)),(40,Ln .i64 (i:Nat))],[(17,some ⟨24,[.val (.int .i64 d.id),.val (.string ⟨d.nm.toArray⟩)] ++ .slc 601 0 d.fs.length 3::[],false⟩),fdB 601 d.fs,v3B 27 14 r.nw r.old ead r.ex.length ecap,(15,some ⟨59,[.val (.int .i64 x.comp),.val (.slice xad x.val.length xcap)],false⟩),(500,some ⟨59,(ptZ (L) (ws)).map .val,(Nat.blt 0 (L).length)⟩),sxB 5 b.ver ad2 b.cs.length cap2,sxB 4 a.ver ad1 a.cs.length cap1],joinM X H⟩) (Le.of (by exact ⟨O,O,O,O,O,O,O,O,O,O,trivial⟩) (by exact ⟨O,O,O,O,O,O,O,trivial⟩) (by exact O) (by exact O) (by repeat' (first|refine bS ?_ ?_|rfl|exact bU|exact bT|exact bV O))) ?_
   refine Leads.freezeCell O O O (by repeat' (first|refine bS ?_ ?_|rfl|exact bT)) O O fun blk cp arr fr hn _ hcp _ hsp => ?_
   obtain ⟨sp',hsp⟩:=hsp
   exact cB (Le.of (by exact ⟨O,O,O,O,O,O,O,O,O,O,trivial⟩) (by exact ⟨O,O,O,O,O,O,trivial⟩) (by exact O) (by exact O) (by repeat' (first|refine bS ?_ ?_|rfl|exact bU|exact bT|exact bV O))) (cA ⟨_,d,some ⟨blk,0,none⟩,cp,cF hn,O,hcp,fields_block (cJ _ _ _) hsp hdF.small,O⟩)
 rintro σ ⟨Y,u,wad,wcap,hY,huf,hul,huF,rfl⟩
 repeat refine aA ?_
 refine LWP.meetL (fun σ=>∃ (Z:Nat→Option Obj) (w:Cp) (fad:Option Addr) (fcap:Nat),(∀ b o,Y b=some o→Z b=some o)∧w.fs=c.fs∧w.fs.length≤fcap∧FieldsIn Z fad w.fs∧σ=⟨[(17,Lp 17),(19,Lp 19),(14,Lp 14),(15,Lp 15),(3,Lx (some ⟨pb,po,none⟩) ps.length pcap),(4,Lp 4),(5,Lp 5),(12,.sv (.one (.slc 500 0 (L).length 2))),(38,Lx (some ⟨rb,ro,none⟩) p.rs.length cap),(39,Ln .i64 (p.rs.length:Nat)),(40,Ln .i64 (i:Nat))],[cpB 19 w fad fcap,cpB 17 u wad wcap,v3B 27 14 r.nw r.old ead r.ex.length ecap,(15,some ⟨59,[.val (.int .i64 x.comp),.val (.slice xad x.val.length xcap)],false⟩),(500,some ⟨59,(ptZ (L) (ws)).map .val,(Nat.blt 0 (L).length)⟩),sxB 5 b.ver ad2 b.cs.length cap2,sxB 4 a.ver ad1 a.cs.length cap1],Z⟩) ?_ ?_
 ·rcases pFind (Y) b.ver ad2 cap2 b.cs r.nw (hb.mono fun _ _ h=>hY _ _ (joinM_has hO h)) (by omega) (fun c hc=>by have:=sb2 c hc;omega) hpr2 hk2 hid2 with ⟨h0,hf⟩|hf
  ·have hl:c.fs.length=0:=by rw [h0];rfl
   (refine rgN<|aK O O O dO ?_;refine kfa O O ?_;refine kl1 O O O<|kca O O hf<|kmv O<|kex O O<|kex O O<|aP O dO ?_;refine aM O O O O O O dO ?_;refine kas O<|aB ?_)
   exact Leads.here (Le.of (by exact ⟨O,O,O,O,O,O,O,O,O,O,O,trivial⟩) (by exact ⟨O,O,O,O,O,O,O,trivial⟩) (by exact O) (by exact O) (by repeat' (first|refine bS ?_ ?_|rfl|exact bU|exact bT|exact bV O))) ⟨Y,c,none,0,fun _ _ h=>h,O,by omega,fields_none h0,O⟩
  ·(refine rgN<|aK O O O dO ?_;refine kfa O O ?_;refine kl1 O O O<|bE [(1000001,601)] (.tup [SCs c 601,Sb true]) [fdB 601 c.fs] (hf) O O (by exact trivial) O O O O O (by exact (.box O (bX _ _ _ _) .nil)) dO<|kmv O<|kex O O<|kex O O<|aP O dO ?_;refine aM O O O O O O dO ?_;refine kas O<|aB ?_)
   refine cB (σ':=⟨[(17,Lp 17),(19,Lp 19),(14,Lp 14),(15,Lp 15),(3,Lx (some ⟨pb,po,none⟩) ps.length pcap),(4,Lp 4),(5,Lp 5),(12,.sv (.one (.slc 500 0 (L).length 2))),(38,Lx (some ⟨rb,ro,none⟩) p.rs.length cap),(39,Ln .i64 (p.rs.length:Nat)),(40,Ln .i64 (i:Nat))],[(19,some ⟨24,[.val (.int .i64 c.id),.val (.string ⟨c.nm.toArray⟩)] ++ .slc 601 0 c.fs.length 3::[],false⟩),fdB 601 c.fs,cpB 17 u wad wcap,v3B 27 14 r.nw r.old ead r.ex.length ecap,(15,some ⟨59,[.val (.int .i64 x.comp),.val (.slice xad x.val.length xcap)],false⟩),(500,some ⟨59,(ptZ (L) (ws)).map .val,(Nat.blt 0 (L).length)⟩),sxB 5 b.ver ad2 b.cs.length cap2,sxB 4 a.ver ad1 a.cs.length cap1],Y⟩) (Le.of (by exact ⟨O,O,O,O,O,O,O,O,O,O,O,trivial⟩) (by exact ⟨O,O,O,O,O,O,O,O,trivial⟩) (by exact O) (by exact O) (by repeat' (first|refine bS ?_ ?_|rfl|exact bU|exact bT|exact bV O))) ?_
   refine Leads.freezeCell O O O (by repeat' (first|refine bS ?_ ?_|rfl|exact bT)) O O fun blk cp arr fr hn _ hcp _ hsp => ?_
   obtain ⟨sp',hsp⟩:=hsp
   exact cB (Le.of (by exact ⟨O,O,O,O,O,O,O,O,O,O,O,trivial⟩) (by exact ⟨O,O,O,O,O,O,O,trivial⟩) (by exact O) (by exact O) (by repeat' (first|refine bS ?_ ?_|rfl|exact bU|exact bT|exact bV O))) (cA ⟨_,c,some ⟨blk,0,none⟩,cp,cF hn,O,hcp,fields_block (cJ _ _ _) hsp hcF.small,O⟩)
 rintro σ ⟨Z,w,fad,fcap,hZ,hwf,hwl,hwF,rfl⟩
 have hXZ:∀ b o,X b=some o→Z b=some o:=fun b o h=>hZ b o (hY b o (joinM_has hO h))
 have hJZ:∀ b o,joinM X H b=some o→Z b=some o:=fun b o h=>hZ b o (hY b o h)
 have hrl:=sp.2 r (cZ hr)
 have hUF:FieldsIn Z wad u.fs:=huF.mono hZ
 have hNZ:NumsIn Z xad x.val:=⟨hN.rows.mono hXZ,hN.in2⟩
 have hREZ:=hRE.mono hXZ
 have hfl:flC a x.comp=d.fs:=by unfold flC;rw [show findC a.cs x.comp=some d from hd]
 have hqE:pqE a (r,c,x)=valE u.fs w.fs r x.val:=by show valE (flC a x.comp) c.fs r x.val=_;rw [hfl,huf,hwf]
 have hqV:prV a (r,c,x)=⟨r.nw,valN u.fs w.fs r x.val⟩:=by show (⟨r.nw,valN (flC a x.comp) c.fs r x.val⟩:Pt)=_;rw [hfl,huf,hwf]
 have hv2:∀ y∈valN u.fs w.fs r x.val,In2 y.2:=valN_two (fun q hq y hy=>by
  obtain ⟨g,hg⟩:=List.mem_iff_getElem?.1 hq
  obtain ⟨_,_,_,_,_,_,_,_,_,_,hI⟩:=hREZ.get hg
  exact (hI.small y hy).2.2.2) hNZ.in2 (fun f hf=>(hwF.small f hf).2.2)
 have hu12:u.fs.length≤12:=by rw [huf];exact hdl
 have hw12:w.fs.length≤12:=by rw [hwf];exact hcl
 by_cases he:valE u.fs w.fs r x.val=0
 case neg =>
  have hV:=eVal_nil' Z u w r x.val wad fad ead xad wcap fcap ecap xcap hUF hul hwF hREZ hNZ hNc hu12 hw12 hrl (sl2 x hxm) he
  rw [seqE_hit hpost hpre (by rw [hqE];exact he),hqE]
  unfold pR14 pBx14
  rw [if_neg he,if_neg he]
  generalize valE u.fs w.fs r x.val=e at *
  (refine aA<|rgN<|aK O O O dO ?_;refine aK O O O dO ?_;refine aK O O O dO ?_;refine kfa O O ?_;refine kl1 O O O<|aU [] [] (hV) O O (by exact trivial) O O O O O (by exact .nil) dO<|kmv O<|kex O O<|kex O O<|kas O<|kas O<|aB<|aA<|aA<|rgN<|kmv O<|kne O O (r:=true) (cP he)<|aB ?_;refine aE O ?_;refine aA<|rgN<|kmv O<|kas O<|kas O<|aB<|aI ?_)
  exact cA ⟨[],⟨[_,_],⟨O,O,trivial⟩,O⟩,trivial,O,O⟩
 have hV:=eVal_box' Z u w r x.val wad fad ead xad wcap fcap ecap xcap hUF hul hwF hREZ hNZ hNc hu12 hw12 hrl (sl2 x hxm) he
 have hpre2:seqE (pqE a) (prS (p.rs.take (i+1)) (b.cs.take (i+1)) ps)=0:=by
  rw [hps];exact seqE_snoc hpre (hqE.trans he)
 have hL2:L++[⟨r.nw,valN u.fs w.fs r x.val⟩]=(prS (p.rs.take (i+1)) (b.cs.take (i+1)) ps).map (prV a):=by
  rw [hps,dE,← hL,List.map_cons,List.map_nil,hqV]
 generalize valN u.fs w.fs r x.val=N at *
 have hlen:=G.len
 have hLl:L.length≤1000:=by
  rw [hL,cT]
  have h2:=(prS_sub (cs:=b.cs.take i) (rs:=p.rs.take i) hpw).length_le
  rw [cT,cW] at h2
  omega
 have hcl2:((ptZ L ws).map CV.val).length=L.length*2:=by rw [cT,ptZ_len hlen]
 have hnl:L.length+1=(L++[(⟨r.nw,N⟩:Pt)]).length:=by rw [cS];rfl
 have hrow:Nat.blt 0 (L++[(⟨r.nw,N⟩:Pt)]).length=true:=by rw [cS];simp
 (refine aA<|rgN<|aK O O O dO ?_;refine aK O O O dO ?_;refine aK O O O dO ?_;refine kfa O O ?_;refine kl1 O O O<|bE [(1000001,601)] (.tup [.one (.slc 601 0 N.length 3),Sn .i64 0]) [nmsB 601 N true] (hV) O O (by exact trivial) O O O O O (by exact (.box O (bX _ _ _ _) .nil)) dO<|kmv O<|kex O O<|kex O O<|kas O<|kas O<|aB<|aA<|aA<|rgN<|kmv O<|kne O O (r:=false) O<|aB ?_;refine aF O ?_;refine aH ?_;refine rgN<|kmv O<|kfa O O ?_;refine kl1 O O O<|kmv O<|aT O O (by exact O) (by exact nl2 O O O) dO ?_;refine aZ (zs:=[.int .i64 0,.slice none 0 0]) (sz:=2) (e:=59) (cs':=[.val (.int .i64 r.nw),.slc 601 0 N.length 3]) (by kernel_rfl) O O O O O O dO<|bP (by_:=32) (e2:=59) (l2:=[.val (.int .i64 r.nw),.slc 601 0 N.length 3]) (nl:=(L++[(⟨r.nw,N⟩:Pt)]).length) (nc:=(ptZ L ws++[Value.int .i64 r.nw]).map .val ++ .slc 601 0 N.length 3::([]:List Value).map .val) O O hcl2 O O (dK _) O O (by kernel_rfl) (by kernel_rfl) (by omega) (by omega) O hnl (by simp) dO<|kas O<|aB<|rgN<|kad O O hadd<|kmv O<|aB ?_)
 refine cB (σ':=⟨[(3,Lx (some ⟨pb,po,none⟩) ps.length pcap),(4,Lp 4),(5,Lp 5),(12,.sv (.one (.slc 500 0 (L++[(⟨r.nw,N⟩:Pt)]).length 2))),(38,Lx (some ⟨rb,ro,none⟩) p.rs.length cap),(39,Ln .i64 (p.rs.length:Nat)),(40,Ln .i64 (i+1:Nat))],[(500,some ⟨59,(ptZ L ws++[Value.int .i64 r.nw]).map .val ++ .slc 601 0 N.length 3::([]:List Value).map .val,true⟩),nmsB 601 N true,sxB 5 b.ver ad2 b.cs.length cap2,sxB 4 a.ver ad1 a.cs.length cap1],Z⟩) (Le.ofR [(500,85),(601,601)] (by exact ⟨rfl,rfl,rfl,rfl,rfl,rfl,rfl,trivial⟩) (by repeat' (first|exact trivial|refine cM ⟨_,rfl,?_⟩ ?_|refine cM ⟨_,rfl⟩ ?_|rfl|exact bW _ _ _ _|exact bX _ _ _ _|exact bY rfl)) (by exact rfl) (by exact rfl) (by repeat' (first|refine bS ?_ ?_|rfl|exact bU|exact bT|exact bV rfl)) (by exact rfl) (by exact rfl)) ?_
 refine cB (Le.drop hJZ) ?_
 refine Leads.closeCell hO (by have:=nmsV_len N;rw [cT] at this;exact this) rfl bT rfl (by repeat' (first|refine bS ?_ ?_|rfl|exact bT)) rfl rfl fun bk ob v g1 _ hO3 hv=>cA ⟨p.rs.length-(i+1),by omega,i+1,L++[⟨r.nw,N⟩],ws++[v],withBlock H bk ob,by omega,rfl,hO3,(G.mono (cF g1)).push (nms_leads hv hv2),hL2,hpre2,?_⟩
 rw [ptZ_add hlen,hrow]
 simp
end Go.Proofs.YtopiioklkkiedaaGreatDoor
end
section
namespace Go.Proofs.YtopiioklkkiedaaGreatDoor
open Go Go.Lg Go.Lg.Fml Go.Lg.Fld Go.Lg.Arith
set_option maxRecDepth 100000
variable (X:Nat→Option Obj)
theorem eVal_nil (a b:Cp) (r:Rl) (ns:List Nm) (aad bad ead vad:Option Addr) (acap bcap ecap vcap:Nat) (hA:FieldsIn X aad a.fs) (hac:a.fs.length≤acap) (hB:FieldsIn X bad b.fs) (hE:CodesIn X ead r.ex) (hN:NumsIn X vad ns) (hvc:ns.length≤vcap) (la:a.fs.length≤12) (lb:b.fs.length≤12) (lr:r.ex.length≤12∧∀ c∈r.ex,c.length≤80) (ln:ns.length<4611686018427387904) (h:vShape (valE a.fs b.fs r ns) (valA a.fs b.fs r ns)=false):
  MSpec Tryz.prog X 12 [Cx a aad acap,Cx b bad bcap,LPg r.nw r.old ead r.ex.length ecap,Lx vad ns.length vcap] [] (.tup [.one (.val (.slice none 0 0)),Sn .i64 (valE a.fs b.fs r ns)]) []:=
 eVal_nil' X a b r ns aad bad ead vad acap bcap ecap vcap hA hac hB hE hN hvc la lb lr ln fun e=>by
  unfold vShape at h
  rw [e] at h
  cases h
theorem eVal_box (a b:Cp) (r:Rl) (ns:List Nm) (aad bad ead vad:Option Addr) (acap bcap ecap vcap:Nat) (hA:FieldsIn X aad a.fs) (hac:a.fs.length≤acap) (hB:FieldsIn X bad b.fs) (hE:CodesIn X ead r.ex) (hN:NumsIn X vad ns) (hvc:ns.length≤vcap) (la:a.fs.length≤12) (lb:b.fs.length≤12) (lr:r.ex.length≤12∧∀ c∈r.ex,c.length≤80) (ln:ns.length<4611686018427387904) (h:vShape (valE a.fs b.fs r ns) (valA a.fs b.fs r ns)=true):
  MSpec Tryz.prog X 12 [Cx a aad acap,Cx b bad bcap,LPg r.nw r.old ead r.ex.length ecap,Lx vad ns.length vcap] [] (.tup [.one (.slc 1000001 0 (valA a.fs b.fs r ns).length 3),Sn .i64 (valE a.fs b.fs r ns)]) [nmsB 1000001 (valA a.fs b.fs r ns) (vRow (valA a.fs b.fs r ns))]:=by
 have e:valE a.fs b.fs r ns=0:=by
  unfold vShape at h
  exact beq_iff_eq.1 h
 rw [show valA a.fs b.fs r ns=valN a.fs b.fs r ns from if_pos e,e]
 exact eVal_box' X a b r ns aad bad ead vad acap bcap ecap vcap hA hac hB hE hN hvc la lb lr ln e
theorem eRow (a b:Cp) (r:Rl) (s:List UInt8) (aad bad ead:Option Addr) (acap bcap ecap:Nat) (hA:FieldsIn X aad a.fs) (hac:a.fs.length≤acap) (hB:FieldsIn X bad b.fs) (hE:CodesIn X ead r.ex) (la:a.fs.length≤12) (lb:b.fs.length≤12) (lr:r.ex.length≤12∧∀ c∈r.ex,c.length≤80) (ls:s.length≤1000):
  PSpec Tryz.prog X 15 [Cx a aad acap,Cx b bad bcap,LPg r.nw r.old ead r.ex.length ecap,Ls s] (.tup [Ss (rowN a.fs b.fs r s),Sn .i64 (rowE a.fs b.fs r s)]):=
 eRow' X a b r s aad bad ead acap bcap ecap hA hac hB hE la lb lr
theorem eSig (va vb:Int) (rs:List Rl) (ad:Option Addr) (cap s:Nat) (hp:RulesIn X ad rs) (hl:rs.length<4611686018427387904) (hs:s<4294967296):
  PSpec Tryz.prog X 20 [LPg va vb ad rs.length cap,Ln .u32 (s:Nat)] (Ln .u32 (sigN rs s:Nat)):=
 eSig' X va vb rs ad cap s hp hl hs
theorem eParts_nil (a b:Sc) (p:Pg) (ps:List Pt) (ad1 ad2 ad pad:Option Addr) (cap1 cap2 cap pcap:Nat) (ha:CompsIn X ad1 a.cs) (hb:CompsIn X ad2 b.cs) (hp:RulesIn X ad p.rs) (hP:PartsC X pad ps) (hpc:ps.length≤pcap) (na:NamesIn a.cs) (nb:NamesIn b.cs) (sa:scOk a.cs) (sb:scOk b.cs) (sp:p.rs.length≤30∧∀ r∈p.rs,r.ex.length≤12∧∀ c∈r.ex,c.length≤80) (sl:ps.length≤12∧∀ x∈ps,x.val.length<4611686018427387904) (h:pShape (psE a b p ps) (psA a b p ps)=false):
  MSpec Tryz.prog X 18 [Sx a.ver ad1 a.cs.length cap1,Sx b.ver ad2 b.cs.length cap2,LPg p.va p.vb ad p.rs.length cap,Lx pad ps.length pcap] [] (.tup [.one (.val (.slice none 0 0)),Sn .i64 (psE a b p ps)]) []:=by
 have e:psE a b p ps≠0:=fun e=>by
  unfold pShape at h
  rw [e] at h
  cases h
 have:=eParts' X a b p ps ad1 ad2 ad pad cap1 cap2 cap pcap ha hb hp hP na nb sa sb sp sl
 unfold pR14 pBx14 at this
 rw [if_neg e,if_neg e] at this
 exact this
theorem eParts_box (a b:Sc) (p:Pg) (ps:List Pt) (ad1 ad2 ad pad:Option Addr) (cap1 cap2 cap pcap:Nat) (ha:CompsIn X ad1 a.cs) (hb:CompsIn X ad2 b.cs) (hp:RulesIn X ad p.rs) (hP:PartsC X pad ps) (hpc:ps.length≤pcap) (na:NamesIn a.cs) (nb:NamesIn b.cs) (sa:scOk a.cs) (sb:scOk b.cs) (sp:p.rs.length≤30∧∀ r∈p.rs,r.ex.length≤12∧∀ c∈r.ex,c.length≤80) (sl:ps.length≤12∧∀ x∈ps,x.val.length<4611686018427387904) (h:pShape (psE a b p ps) (psA a b p ps)=true):
  MSpec Tryz.prog X 18 [Sx a.ver ad1 a.cs.length cap1,Sx b.ver ad2 b.cs.length cap2,LPg p.va p.vb ad p.rs.length cap,Lx pad ps.length pcap] [] (.tup [.one (.slc 1000001 0 (psA a b p ps).length 2),Sn .i64 (psE a b p ps)]) [prtB 1000001 (psA a b p ps)]:=by
 have e:psE a b p ps=0:=by
  unfold pShape at h
  exact beq_iff_eq.1 h
 rw [show psA a b p ps=psV a b p ps from if_pos e,e]
 have:=eParts' X a b p ps ad1 ad2 ad pad cap1 cap2 cap pcap ha hb hp hP na nb sa sb sp sl
 unfold pR14 pBx14 at this
 rw [if_pos e,if_pos e] at this
 exact this
end Go.Proofs.YtopiioklkkiedaaGreatDoor
end
section
namespace Go.Proofs.YtopiioklkkiedaaGreatDoor
open Go Go.Lg Go.Lg.Fml Go.Lg.Fld Go.RowKit Go.ChangeShapes Go.WideShapes Go.Joins
set_option maxRecDepth 100000
section
variable {H:Type} {enc:TypeId×Value→H} {w:World}
theorem open_nums_w {fuel:Nat} {l:List Value} {x:DataW H×List MemPlace} (h:DataW.trod enc Tryz.prog w 0 (fun _=>true) true fuel 28 l=some x) (hw:Light Tryz.prog 28 x.1):
  ∃ (ad:Option Addr) (cap:Nat) (ns:List (Bool×Int)),l=[.slice ad ns.length cap]∧ns.length≤cap∧ns.length≤4398046511104*4∧NumsIn (fun b=>w.heap[b]?) ad ns:=by
 obtain ⟨ad,cap,rows,rfl,hb,hc,_,h3,h4⟩:=open_rows_w (e:=86) (sz:=3) (by kernel_rfl) (by kernel_rfl) (by decide) h hw
 obtain ⟨ns,rfl,h5⟩:=map_of (f:=nmV) (q:=fun n=>In2 n.2) (vs:=rows) (fun u hu=>by
  obtain ⟨hlen,n,x,hx,_⟩:=h4 u hu
  obtain ⟨y0,y1,y2,n',_,_,g0,g1,g2⟩:=Deep.trod_struct3 (t:=86) Tryz.underlying86 hx
  obtain ⟨e0',e1',e2',rfl⟩:∃ c0 c1 c2,u=[c0,c1,c2]:=by
   match u,hlen with
   | [c0,c1,c2],_=>exact ⟨c0,c1,c2,rfl⟩
  obtain ⟨b,e0,_⟩:=DataW.trod_bool (by kernel_rfl) g0
  obtain ⟨x,e1,_,wa1⟩:=DataW.trod_int (k:=.u64) (by kernel_rfl) g1
  obtain ⟨y,e2,_,wa2⟩:=DataW.trod_int (k:=.u64) (by kernel_rfl) g2
  have q0:e0' = .bool b:=by simpa using (show ([e0',e1',e2'].drop 0).take 1=[.bool b] from e0)
  have q1:e1' = .int .u64 x:=by simpa using (show ([e0',e1',e2'].drop 1).take 1=[.int .u64 x] from e1)
  have q2:e2' = .int .u64 y:=by simpa using (show ([e0',e1',e2'].drop 2).take 1=[.int .u64 y] from e2)
  subst q0 q1 q2
  have b1:=bounds_u64 wa1
  have b2:=bounds_u64 wa2
  refine ⟨(b,x*18446744073709551616+y),?_,by show 0≤x*18446744073709551616+y;omega,by show x*18446744073709551616+y<_;omega⟩
  unfold nmV
  rw [show (b,x*18446744073709551616+y).2/18446744073709551616=x by show (x*18446744073709551616+y)/18446744073709551616=x;omega,show (b,x*18446744073709551616+y).2%18446744073709551616=y by show (x*18446744073709551616+y)%18446744073709551616=y;omega])
 exact ⟨ad,cap,ns,by rw [cT],by rw [cT] at hc;exact hc,by rw [cT,show Tryz.prog.bytesOf 86=24 by kernel_rfl,show reachBytes=140737488351232 by decide] at hb;omega,h3,h5⟩
theorem open_parts_w {fuel:Nat} {l:List Value} {x:DataW H×List MemPlace} (h:DataW.trod enc Tryz.prog w 0 (fun _=>true) true fuel 56 l=some x) (hw:Light Tryz.prog 56 x.1):
  ∃ (ad:Option Addr) (cap:Nat) (ps:List Pt),l=[.slice ad ps.length cap]∧ps.length≤cap∧ps.length≤4398046511104*4∧PartsC (fun b=>w.heap[b]?) ad ps∧∀ x∈ps,x.val.length≤4398046511104*4:=by
 obtain ⟨ad,cap,rows,rfl,hb,h1,_,h3,h4⟩:=open_rows_w (e:=59) (sz:=2) (by kernel_rfl) (by kernel_rfl) (by decide) h hw
 obtain ⟨ts,rfl,h5⟩:=map_of (f:=fun t:Pt×Option Addr×Nat=>[.int .i64 t.1.comp,.slice t.2.1 t.1.val.length t.2.2]) (q:=fun t=>(NumsIn (fun b=>w.heap[b]?) t.2.1 t.1.val∧t.1.val.length≤t.2.2∧t.1.val.length≤4398046511104*4)∧(-9223372036854775808≤t.1.comp∧t.1.comp<9223372036854775808)) (vs:=rows) (fun u hu=>by
  obtain ⟨hlen,n,x,hx,hxw⟩:=h4 u hu
  obtain ⟨y0,y1,n',ex,_,g0,g1⟩:=trod_struct2 (t:=59) Tryz.underlying59 hx
  rw [ex] at hxw
  have hF3:=(Light.struct2 Tryz.underlying59 hxw).2
  obtain ⟨e0',e1',rfl⟩:∃ c0 c1,u=[c0,c1]:=by
   match u,hlen with
   | [c0,c1],_=>exact ⟨c0,c1,rfl⟩
  obtain ⟨k,e0,_,wa1⟩:=DataW.trod_int (k:=.i64) (by kernel_rfl) g0
  obtain ⟨vad,vcap,ns,e1,hF1,hF2,hF⟩:=open_nums_w g1 hF3
  have q0:e0' = .int .i64 k:=by simpa using (show ([e0',e1'].drop 0).take 1=[.int .i64 k] from e0)
  have q1:e1' = .slice vad ns.length vcap:=by simpa using (show ([e0',e1'].drop 1).take 1=[.slice vad ns.length vcap] from e1)
  subst q0 q1
  have b1:=bounds_i64 wa1
  exact ⟨(⟨k,ns⟩,vad,vcap),O,⟨hF,hF1,hF2⟩,(show -9223372036854775808≤k∧k<9223372036854775808 by omega)⟩)
 refine ⟨ad,cap,ts.map (·.1),by rw [cT,cT],by rw [cT] at h1 ⊢;exact h1,by rw [cT,show Tryz.prog.bytesOf 59=32 by kernel_rfl,show reachBytes=140737488351232 by decide] at hb;rw [cT];omega,⟨fun i c hc => ?_,fun c hc => ?_⟩,fun c hc => ?_⟩
 ·rw [dI] at hc
  cases ht:ts[i]? with
  | none=>rw [ht] at hc;cases hc
  | some t =>
   rw [ht] at hc
   simp only [Option.map_some,Option.some.injEq] at hc
   subst hc
   obtain ⟨blk,off,arr,el,fr,g1,g2,g3,g4⟩:=h3 i _ (by rw [dI,ht];rfl)
   exact ⟨blk,off,arr,el,fr,t.2.1,t.2.2,g1,g2,g3,g4,(h5 t (cZ ht)).1.1,(h5 t (cZ ht)).1.2.1⟩
 ·obtain ⟨t,ht,rfl⟩:=List.mem_map.1 hc
  exact (h5 t ht).2
 ·obtain ⟨t,ht,rfl⟩:=List.mem_map.1 hc
  exact (h5 t ht).1.2.2
theorem open_parts_s {r:Reach} {b0:Nat} {v:Value} {d:DataW H} {p:List MemPlace} (hv:Value.okWide Tryz.prog w r b0 56 v) (h:DataW.Trod enc Tryz.prog w 0 (fun _=>true) true 56 v d p) (hw:Light Tryz.prog 56 d):
  ∃ (ad:Option Addr) (cap:Nat) (ns:List Pt),v = .slice ad ns.length cap∧ns.length≤cap∧ns.length≤4398046511104*4∧PartsC (fun b=>w.heap[b]?) ad ns∧∀ x∈ns,x.val.length≤4398046511104*4:=by
 obtain ⟨a,len,cap0,rfl⟩:=okWide_slice (e:=59) (by kernel_rfl) hv
 obtain ⟨fuel,hf⟩:=h
 obtain ⟨ad,cap,ns,e1,h1,h2,h3,h4⟩:=open_parts_w hf hw
 simp [Value.cells] at e1
 obtain ⟨rfl,rfl,rfl⟩:=e1
 exact ⟨_,_,ns,O,h1,h2,h3,h4⟩
end
end Go.Proofs.YtopiioklkkiedaaGreatDoor
end
section
namespace Go.Proofs.YtopiioklkkiedaaGreatDoor
open Go Go.Lg Go.Lg.Fml Go.Lg.Fld Go.Lg.Arith
set_option maxRecDepth 100000
def IntsI (X:Nat→Option Obj) (ad:Option Addr) (l:List Int):Prop:=Go.Lg.RowsIn X ad 1 (l.map fun n=>[.int .i64 n])
variable (X:Nat→Option Obj)
end Go.Proofs.YtopiioklkkiedaaGreatDoor
end
section
namespace Go.Proofs.YtopiioklkkiedaaGreatDoor
open Go Go.Lg Go.Lg.Fml Go.Lg.Fld Go.Lg.Arith
set_option maxRecDepth 100000
variable (X:Nat→Option Obj)
theorem lent_rl {S:Nat→Option (Option Box)} {Y:Nat→Option Obj} {k n:Nat} {rs:List Rl} {t e:TypeId} {cc:List CV} {u:Value} (hk:S k=some (some ⟨e,cc,.res (rlR t rs)⟩)) (hu:LentC S Y (.slc k 0 n 3) u):∃ (blk cap:Nat),u = .slice (some ⟨blk,0,none⟩) n cap∧RulesIn Y (some ⟨blk,0,none⟩) rs:=by
 obtain ⟨b,blk,cap2,m,hk',rfl,hc,hfit,hB⟩:=hu
 rw [hk] at hk'
 simp only [Option.some.injEq] at hk'
 subst hk'
 obtain ⟨H,hR,hHY⟩:=hB
 exact ⟨blk,cap2,O,hR.2.mono hHY⟩
end Go.Proofs.YtopiioklkkiedaaGreatDoor
end
section
namespace Go.Proofs.YtopiioklkkiedaaGreatDoor
open Go Go.Lg Go.Lg.Fml Go.Lg.Fld Go.Lg.Arith
set_option maxRecDepth 100000
variable (X:Nat→Option Obj)
set_option maxHeartbeats 6400000 in
theorem great14_spec (v1 v2 va vb:Int) (ad1 ad2 ad:Option Addr) (cap1 cap2 cap:Nat) (az bz:List Cp) (rs:List Rl) (h1:CompsIn X ad1 az) (h2:CompsIn X ad2 bz) (hin:RulesIn X ad rs) (hsz:sizeB rs)
  (hl1:az.length<4611686018427387904) (hl2:bz.length<4611686018427387904) (hbig:rs.length<4611686018427387904) (hf1:∀ c∈az,c.fs.length<9223372036854775808) (hf2:∀ c∈bz,c.fs.length<9223372036854775808) (r:Bool) (hr:grt13 az bz rs=r):
  PSpec Tryz.prog X 10 [Sx v1 ad1 az.length cap1,Sx v2 ad2 bz.length cap2,LPg va vb ad rs.length cap] (Lb r):=by
 subst hr
 refine cC Tryz.func10 rfl (by kernel_rfl) rfl rfl ?_
 intro C
 unfold grt13 grtN
 by_cases c1:30<az.length
 ·rw [cL c1]
  simp only [Bool.true_or]
  (refine aA<|rgN<|aL O O O dO<|aL O O O dO<|aL O O O dO<|kas O<|aB<|aA<|aA<|rgN<|kfa O O ?_;refine kl1 O O O<|aQ O bZ O dO ?_;refine aS O O (cL (by omega)) dO<|kmv O<|aC O O O<|aC O O O<|aC O O O<|aC O O O<|kpt O O<|kmv O<|aC O O O<|aC O O O<|aC O O O<|aC O O O<|kpt O O<|aB ?_;refine aE O ?_;refine aA<|rgN<|kas O<|aB<|aI ?_)
  exact ⟨[_],⟨O,trivial⟩,O⟩
 by_cases c2:30<bz.length
 ·rw [cL c2]
  simp only [Bool.true_or,Bool.or_true]
  (refine aA<|rgN<|aL O O O dO<|aL O O O dO<|aL O O O dO<|kas O<|aB<|aA<|aA<|rgN<|kfa O O ?_;refine kl1 O O O<|aQ O bZ O dO ?_;refine aS O O (cK (by omega)) dO<|kmv O<|aN O O (dP O O) ?_;refine aO O O O (dP O O) ?_;refine aQ O bZ O (dP O O) ?_;refine aS O O (cL (by omega)) (dP O O) ?_;refine kpf O O<|kmv O<|aC O O O<|aC O O O<|aC O O O<|aC O O O<|kpt O O<|aB<|aE O ?_;refine aA<|rgN<|kas O<|aB<|aI ?_)
  exact ⟨[_],⟨O,trivial⟩,O⟩
 by_cases c3:30<rs.length
 ·rw [cL c3]
  simp only [Bool.true_or,Bool.or_true]
  (refine aA<|rgN<|aL O O O dO<|aL O O O dO<|aL O O O dO<|kas O<|aB<|aA<|aA<|rgN<|kfa O O ?_;refine kl1 O O O<|aQ O bZ O dO ?_;refine aS O O (cK (by omega)) dO<|kmv O<|aN O O (dP O O) ?_;refine aO O O O (dP O O) ?_;refine aQ O bZ O (dP O O) ?_;refine aS O O (cK (by omega)) (dP O O) ?_;refine kpf O O<|kmv O<|aN O O (dP O O) ?_;refine aO O O O (dP O O) ?_;refine aQ O bZ O (dP O O) ?_;refine aS O O (cL (by omega)) (dP O O) ?_;refine kpf O O<|aB<|aE O ?_;refine aA<|rgN<|kas O<|aB<|aI ?_)
  exact ⟨[_],⟨O,trivial⟩,O⟩
 rw [cK c1,cK c2,cK c3]
 simp only [Bool.false_or]
 (refine aA<|rgN<|aL O O O dO<|aL O O O dO<|aL O O O dO<|kas O<|aB<|aA<|aA<|rgN<|kfa O O ?_;refine kl1 O O O<|aQ O bZ O dO ?_;refine aS O O (cK (by omega)) dO<|kmv O<|aN O O (dP O O) ?_;refine aO O O O (dP O O) ?_;refine aQ O bZ O (dP O O) ?_;refine aS O O (cK (by omega)) (dP O O) ?_;refine kpf O O<|kmv O<|aN O O (dP O O) ?_;refine aO O O O (dP O O) ?_;refine aQ O bZ O (dP O O) ?_;refine aS O O (cK (by omega)) (dP O O) ?_;refine kpf O O<|aB<|aF O ?_;refine aH ?_;refine aA<|aA<|rgN<|kas O<|aB<|aG ?_)
 refine cG (fun m σ=>∃ i:Nat,i≤az.length∧m=az.length-i∧(az.take i).any grtF=false∧σ=⟨[(3,Lp 3),(4,Lp 4),(5,Lp 5),(7,Ln .i64 (i:Nat))],[v3B 36 5 va vb ad rs.length cap,sxB 4 v2 ad2 bz.length cap2,sxB 3 v1 ad1 az.length cap1],X⟩) az.length
  ⟨_,Le.of (by exact ⟨rfl,rfl,rfl,rfl,trivial⟩) (by exact ⟨rfl,rfl,rfl,trivial⟩) (by exact rfl) (by exact rfl) (by repeat' (first|refine bS ?_ ?_|rfl|exact bU|exact bT|exact bV rfl)),0,by omega,by omega,rfl,rfl⟩ ?_
 rintro m σ ⟨i,hi,rfl,hany,rfl⟩
 by_cases hlt:i<az.length
 case pos =>
  obtain ⟨c,hc⟩:∃ c,az[i]? = some c:=⟨_,cU hlt⟩
  obtain ⟨blk,off,arr,el,fr,fad,fcap,rfl,hX,hsiz,hcs,g1,g2,g3,hF⟩:=h1.get hc
  have hio:off+Int.toNat (i:Int)*3=off+i*3:=by simp
  have hcl:=hf1 c (cZ hc)
  by_cases h12:12<c.fs.length
  ·rw [show az.any grtF=true from any_yes hc (cL h12)]
   simp only [Bool.true_or,Bool.or_true]
   (refine aA<|aA<|rgN<|kmv O<|kfa O O ?_;refine kl1 O O O<|aQ O bZ O dO ?_;refine klt O O (cL (by omega))<|aB<|aE O ?_;refine aH ?_;refine aA<|aG<|aA<|rgN<|kfa O O ?_;refine kl1 O O O<|kmv O<|aR O O bZ (by omega) hio dO<|bH O O dO ?_;refine aW O hX O g3 dO<|aQ O bZ O dO ?_;refine aS O O (cL (by omega)) dO<|aB<|aE O ?_;refine aA<|rgN<|kas O<|aB<|aI ?_)
   exact ⟨[_],⟨O,trivial⟩,O⟩
  ·have hadd:IntKind.i64.wrap ((i:Int)+1)=((i+1:Nat):Int):=by rw [cE (by omega)];omega
   (refine aA<|aA<|rgN<|kmv O<|kfa O O ?_;refine kl1 O O O<|aQ O bZ O dO ?_;refine klt O O (cL (by omega))<|aB<|aE O ?_;refine aH ?_;refine aA<|aG<|aA<|rgN<|kfa O O ?_;refine kl1 O O O<|kmv O<|aR O O bZ (by omega) hio dO<|bH O O dO ?_;refine aW O hX O g3 dO<|aQ O bZ O dO ?_;refine aS O O (cK (by omega)) dO<|aB<|aF O ?_;refine aH ?_;refine rgN<|kmv O<|kad O O hadd<|kas O<|aB ?_)
   exact ⟨_,_,by omega,Le.of (by exact ⟨O,O,O,O,trivial⟩) (by exact ⟨O,O,O,trivial⟩) (by exact O) (by exact O) (by repeat' (first|refine bS ?_ ?_|rfl|exact bU|exact bT|exact bV O)),i+1,by omega,O,any_next hc hany (cK h12),O⟩
 have e:i=az.length:=by omega
 subst e
 rw [dC] at hany
 rw [hany,Bool.false_or]
 clear hany hi hlt
 (refine aA<|aA<|rgN<|kmv O<|kfa O O ?_;refine kl1 O O O<|aQ O bZ O dO ?_;refine klt O O (cK (by omega))<|aB<|aF O ?_;refine aJ<|aA<|aA<|rgN<|kas O<|aB<|aG ?_)
 refine cG (fun m σ=>∃ i:Nat,i≤bz.length∧m=bz.length-i∧(bz.take i).any grtF=false∧σ=⟨[(3,Lp 3),(4,Lp 4),(5,Lp 5),(8,Ln .i64 (i:Nat))],[v3B 36 5 va vb ad rs.length cap,sxB 4 v2 ad2 bz.length cap2,sxB 3 v1 ad1 az.length cap1],X⟩) bz.length
  ⟨_,Le.of (by exact ⟨rfl,rfl,rfl,rfl,trivial⟩) (by exact ⟨rfl,rfl,rfl,trivial⟩) (by exact rfl) (by exact rfl) (by repeat' (first|refine bS ?_ ?_|rfl|exact bU|exact bT|exact bV rfl)),0,by omega,by omega,rfl,rfl⟩ ?_
 rintro m σ ⟨i,hi,rfl,hany,rfl⟩
 by_cases hlt:i<bz.length
 case pos =>
  obtain ⟨c,hc⟩:∃ c,bz[i]? = some c:=⟨_,cU hlt⟩
  obtain ⟨blk,off,arr,el,fr,fad,fcap,rfl,hX,hsiz,hcs,g1,g2,g3,hF⟩:=h2.get hc
  have hio:off+Int.toNat (i:Int)*3=off+i*3:=by simp
  have hcl:=hf2 c (cZ hc)
  by_cases h12:12<c.fs.length
  ·rw [show bz.any grtF=true from any_yes hc (cL h12)]
   simp only [Bool.true_or,Bool.or_true]
   (refine aA<|aA<|rgN<|kmv O<|kfa O O ?_;refine kl1 O O O<|aQ O bZ O dO ?_;refine klt O O (cL (by omega))<|aB<|aE O ?_;refine aH ?_;refine aA<|aG<|aA<|rgN<|kfa O O ?_;refine kl1 O O O<|kmv O<|aR O O bZ (by omega) hio dO<|bH O O dO ?_;refine aW O hX O g3 dO<|aQ O bZ O dO ?_;refine aS O O (cL (by omega)) dO<|aB<|aE O ?_;refine aA<|rgN<|kas O<|aB<|aI ?_)
   exact ⟨[_],⟨O,trivial⟩,O⟩
  ·have hadd:IntKind.i64.wrap ((i:Int)+1)=((i+1:Nat):Int):=by rw [cE (by omega)];omega
   (refine aA<|aA<|rgN<|kmv O<|kfa O O ?_;refine kl1 O O O<|aQ O bZ O dO ?_;refine klt O O (cL (by omega))<|aB<|aE O ?_;refine aH ?_;refine aA<|aG<|aA<|rgN<|kfa O O ?_;refine kl1 O O O<|kmv O<|aR O O bZ (by omega) hio dO<|bH O O dO ?_;refine aW O hX O g3 dO<|aQ O bZ O dO ?_;refine aS O O (cK (by omega)) dO<|aB<|aF O ?_;refine aH ?_;refine rgN<|kmv O<|kad O O hadd<|kas O<|aB ?_)
   exact ⟨_,_,by omega,Le.of (by exact ⟨O,O,O,O,trivial⟩) (by exact ⟨O,O,O,trivial⟩) (by exact O) (by exact O) (by repeat' (first|refine bS ?_ ?_|rfl|exact bU|exact bT|exact bV O)),i+1,by omega,O,any_next hc hany (cK h12),O⟩
 have e:i=bz.length:=by omega
 subst e
 rw [dC] at hany
 rw [hany,Bool.false_or]
 clear hany hi hlt
 (refine aA<|aA<|rgN<|kmv O<|kfa O O ?_;refine kl1 O O O<|aQ O bZ O dO ?_;refine klt O O (cK (by omega))<|aB<|aF O ?_;refine aJ<|aA<|aA<|rgN<|kas O<|aB<|aG ?_)
 refine cG (fun m σ=>∃ i:Nat,i≤rs.length∧m=rs.length-i∧(rs.take i).any grtR=false∧σ=⟨[(3,Lp 3),(4,Lp 4),(5,Lp 5),(9,Ln .i64 (i:Nat))],[v3B 36 5 va vb ad rs.length cap,sxB 4 v2 ad2 bz.length cap2,sxB 3 v1 ad1 az.length cap1],X⟩) rs.length
  ⟨_,Le.of (by exact ⟨rfl,rfl,rfl,rfl,trivial⟩) (by exact ⟨rfl,rfl,rfl,trivial⟩) (by exact rfl) (by exact rfl) (by repeat' (first|refine bS ?_ ?_|rfl|exact bU|exact bT|exact bV rfl)),0,by omega,by omega,rfl,rfl⟩ ?_
 rintro m σ ⟨i,hi,rfl,hany,rfl⟩
 by_cases hlt:i<rs.length
 case neg =>
  have e:i=rs.length:=by omega
  subst e
  rw [dC] at hany
  rw [hany]
  (refine aA<|aA<|rgN<|kmv O<|kfa O O ?_;refine kl1 O O O<|aQ O bZ O dO ?_;refine klt O O (cK (by omega))<|aB<|aF O ?_;refine aJ<|aA<|rgN<|kas O<|aB<|aI ?_)
  exact ⟨[_],⟨O,trivial⟩,O⟩
 obtain ⟨r,hr⟩:∃ r,rs[i]? = some r:=⟨_,cU hlt⟩
 obtain ⟨blk,off,arr,el,fr,ead,ecap,rfl,hX,hsiz,hcs,g1,g2,g3,hE⟩:=hin.get hr
 have hio:off+Int.toNat (i:Int)*3=off+i*3:=by simp
 obtain ⟨hel,hcl⟩:=hsz r (cZ hr)
 have hyes:grtR r=true→rs.any grtR=true:=any_yes hr
 by_cases h12:12<r.ex.length
 ·rw [hyes (by unfold grtR;rw [cL h12];rfl)]
  (refine aA<|aA<|rgN<|kmv O<|kfa O O ?_;refine kl1 O O O<|aQ O bZ O dO ?_;refine klt O O (cL (by omega))<|aB<|aE O ?_;refine aH ?_;refine aA<|aG<|aA<|aA<|rgN<|kfa O O ?_;refine kl1 O O O<|kmv O<|aR O O bZ (by omega) hio dO<|bH O O dO ?_;refine aW O hX O g3 dO<|aQ O bZ O dO ?_;refine aS O O (cL (by omega)) dO<|aB<|aE O ?_;refine aA<|rgN<|kas O<|aB<|aI ?_)
  exact ⟨[_],⟨O,trivial⟩,O⟩
 (refine aA<|aA<|rgN<|kmv O<|kfa O O ?_;refine kl1 O O O<|aQ O bZ O dO ?_;refine klt O O (cL (by omega))<|aB<|aE O ?_;refine aH ?_;refine aA<|aG<|aA<|aA<|rgN<|kfa O O ?_;refine kl1 O O O<|kmv O<|aR O O bZ (by omega) hio dO<|bH O O dO ?_;refine aW O hX O g3 dO<|aQ O bZ O dO ?_;refine aS O O (cK (by omega)) dO<|aB<|aF O ?_;refine aH ?_;refine aA<|rgN<|kas O<|aB<|aG ?_)
 refine cG (fun m σ=>∃ k:Nat,k≤r.ex.length∧m=r.ex.length-k∧(r.ex.take k).any (fun c=>decide (80<c.length))=false∧σ=⟨[(3,Lp 3),(4,Lp 4),(5,Lp 5),(9,Ln .i64 (i:Nat)),(10,Ln .i64 (k:Nat))],[v3B 36 5 va vb (some ⟨blk,off,none⟩) rs.length cap,sxB 4 v2 ad2 bz.length cap2,sxB 3 v1 ad1 az.length cap1],X⟩) r.ex.length
  ⟨_,Le.of (by exact ⟨rfl,rfl,rfl,rfl,rfl,trivial⟩) (by exact ⟨rfl,rfl,rfl,trivial⟩) (by exact rfl) (by exact rfl) (by repeat' (first|refine bS ?_ ?_|rfl|exact bU|exact bT|exact bV rfl)),0,by omega,by omega,rfl,rfl⟩ ?_
 rintro m σ ⟨k,hk,rfl,hany2,rfl⟩
 by_cases hkl:k<r.ex.length
 case neg =>
  have e:k=r.ex.length:=by omega
  subst e
  rw [dC] at hany2
  have hno:grtR r=false:=by unfold grtR;rw [cK h12,hany2];rfl
  have hadd:IntKind.i64.wrap ((i:Int)+1)=((i+1:Nat):Int):=by rw [cE (by omega)];omega
  (refine aA<|aA<|rgN<|kmv O<|kfa O O ?_;refine kl1 O O O<|kmv O<|aR O O bZ (by omega) hio dO<|bH O O dO ?_;refine aW O hX O g3 dO<|aQ O bZ O dO ?_;refine klt O O (cK (by omega))<|aB<|aF O ?_;refine aJ<|rgN<|kmv O<|kad O O hadd<|kas O<|aB ?_)
  exact ⟨_,⟨[(3,Lp 3),(4,Lp 4),(5,Lp 5),(9,Ln .i64 (i+1:Nat))],[v3B 36 5 va vb (some ⟨blk,off,none⟩) rs.length cap,sxB 4 v2 ad2 bz.length cap2,sxB 3 v1 ad1 az.length cap1],X⟩,by omega,Le.of (by exact ⟨O,O,O,O,trivial⟩) (by exact ⟨O,O,O,trivial⟩) (by exact O) (by exact O) (by repeat' (first|refine bS ?_ ?_|rfl|exact bU|exact bT|exact bV O)),i+1,by omega,O,any_next hr hany hno,O⟩
 obtain ⟨c,hc⟩:∃ c,r.ex[k]? = some c:=⟨_,cU hkl⟩
 obtain ⟨eb,eo,earr,eel,efr,vad,vcap,rfl,hEX,hec,hI⟩:=hE.get hc
 have hio3:eo+Int.toNat (k:Int)*1=eo+k*1:=by simp
 have hcc:=hcl c (cZ hc)
 by_cases h80:80<c.length
 ·rw [hyes (by unfold grtR;rw [cK h12,Bool.false_or];exact any_yes hc (cL h80))]
  (refine aA<|aA<|rgN<|kmv O<|kfa O O ?_;refine kl1 O O O<|kmv O<|aR O O bZ (by omega) hio dO<|bH O O dO ?_;refine aW O hX O g3 dO<|aQ O bZ O dO ?_;refine klt O O (cL (by omega))<|aB<|aE O ?_;refine aH ?_;refine aA<|aG<|aA<|rgN<|kfa O O ?_;refine kl1 O O O<|kmv O<|aR O O bZ (by omega) hio dO<|bH O O dO ?_;refine aW O hX O g3 dO<|kmv O<|aR O O bZ (by omega) hio3 dO<|aW O hEX O hec dO<|aQ O bZ O dO ?_;refine aS O O (cL (by omega)) dO<|aB<|aE O ?_;refine aA<|rgN<|kas O<|aB<|aI ?_)
  exact ⟨[_],⟨O,trivial⟩,O⟩
 ·have hadd:IntKind.i64.wrap ((k:Int)+1)=((k+1:Nat):Int):=by rw [cE (by omega)];omega
  (refine aA<|aA<|rgN<|kmv O<|kfa O O ?_;refine kl1 O O O<|kmv O<|aR O O bZ (by omega) hio dO<|bH O O dO ?_;refine aW O hX O g3 dO<|aQ O bZ O dO ?_;refine klt O O (cL (by omega))<|aB<|aE O ?_;refine aH ?_;refine aA<|aG<|aA<|rgN<|kfa O O ?_;refine kl1 O O O<|kmv O<|aR O O bZ (by omega) hio dO<|bH O O dO ?_;refine aW O hX O g3 dO<|kmv O<|aR O O bZ (by omega) hio3 dO<|aW O hEX O hec dO<|aQ O bZ O dO ?_;refine aS O O (cK (by omega)) dO<|aB<|aF O ?_;refine aH ?_;refine rgN<|kmv O<|kad O O hadd<|kas O<|aB ?_)
  exact ⟨_,_,by omega,Le.of (by exact ⟨O,O,O,O,O,trivial⟩) (by exact ⟨O,O,O,trivial⟩) (by exact O) (by exact O) (by repeat' (first|refine bS ?_ ?_|rfl|exact bU|exact bT|exact bV O)),k+1,by omega,O,any_next hc hany2 (cK h80),O⟩
end Go.Proofs.YtopiioklkkiedaaGreatDoor
end
section
namespace Go.Proofs.YtopiioklkkiedaaGreatDoor
open Go Go.Lg Go.Lg.Fml Go.Lg.Fld Go.Lg.Arith
set_option maxRecDepth 100000
variable (X:Nat→Option Obj)
theorem values14 (l m:List Nm) (ad ad2:Option Addr) (cap cap2:Nat) (ha:NumsIn X ad l) (hb:NumsIn X ad2 m) (hbig:l.length<4611686018427387904) (r:Bool) (hr:decide (l=m)=r):
  PSpec Tryz.prog X 14 [Lx ad l.length cap,Lx ad2 m.length cap2] (Lb r):=by
 subst hr
 refine cC Tryz.func14 rfl (by kernel_rfl) rfl rfl ?_
 intro C
 by_cases hl:l.length=m.length
 ·(refine aA<|rgN<|kas O<|aB<|aA<|aA<|rgN<|kmv O<|aQ O bZ O dO ?_;refine kmv O<|aQ O bZ O dO ?_;refine kne O O (r:=false) (by rw [hl];simp)<|aB<|aF O ?_;refine aH ?_;refine aA<|aA<|rgN<|kas O<|aB<|aG ?_)
  refine cG (fun q σ=>∃ i:Nat,i≤l.length∧q=l.length-i∧l.take i=m.take i∧σ=⟨[(0,Lx ad l.length cap),(1,Lx ad2 m.length cap2),(5,Ln .i64 (i:Nat))],[],X⟩) l.length
   ⟨_,Le.of (by exact ⟨rfl,rfl,rfl,trivial⟩) (by exact trivial) (by exact rfl) (by exact rfl) (by exact rfl),0,by omega,rfl,rfl,rfl⟩ ?_
  rintro q σ ⟨i,hi,rfl,hpre,rfl⟩
  by_cases hlt:i<l.length
  ·obtain ⟨⟨b1,N1⟩,hf⟩:∃ v,l[i]? = some v:=⟨_,cU hlt⟩
   obtain ⟨⟨b2,N2⟩,hf'⟩:∃ v,m[i]? = some v:=⟨_,cU (by omega)⟩
   obtain ⟨hN1,blk,off,arr,el,fr,rfl,hX,hsz,hcells⟩:=ha.at hf
   obtain ⟨hN2,blk',off',arr',el',fr',rfl,hX',hsz',hcells'⟩:=hb.at hf'
   have hio:off+Int.toNat (i:Int)*3=off+i*3:=by simp
   have hio':off'+Int.toNat (i:Int)*3=off'+i*3:=by simp
   have hadd:IntKind.i64.wrap (((i:Nat):Int)+1)=((i+1:Nat):Int):=by rw [cE (by omega)];omega
   have q:=eqI (b:=b1) (b':=b2) (h:=N1/18446744073709551616) (h':=N2/18446744073709551616) (l:=N1%18446744073709551616) (l':=N2%18446744073709551616) _ (eqN hN1 hN2)
   by_cases hq:((b1,N1):Nm)=(b2,N2)
   ·rw [cL hq] at q
    (refine aA<|aA<|rgN<|kmv O<|kmv O<|aQ O bZ O dO ?_;refine klt O O (cL (by omega))<|aB<|aE O ?_;refine aH ?_;refine aA<|aG<|aA<|rgD mixed<|kmv O<|kmv O<|aR O O bZ (by omega) hio dO<|aY O hX (by kernel_rfl) hsz hcells dO<|kmv O<|kmv O<|aR O O bZ (by omega) hio' dO<|aY O hX' (by kernel_rfl) hsz' hcells' dO<|bQ O O O O (by kernel_rfl) q (.inr ⟨O,O⟩) dO<|aB ?_;refine rgA ?_;refine aF O ?_;refine aH ?_;refine rgN<|kmv O<|kad O O hadd<|kas O<|aB ?_)
    exact ⟨_,_,by omega,Le.of (by exact ⟨rfl,rfl,rfl,trivial⟩) (by exact trivial) (by exact rfl) (by exact rfl) (by exact rfl),i+1,by omega,rfl,by rw [take_snoc hf,take_snoc hf',hpre,hq],rfl⟩
   ·rw [cK (show ¬l=m from fun e=>hq (by rw [e,hf'] at hf;exact (Option.some.inj hf).symm))]
    rw [cK hq] at q
    (refine aA<|aA<|rgN<|kmv O<|kmv O<|aQ O bZ O dO ?_;refine klt O O (cL (by omega))<|aB<|aE O ?_;refine aH ?_;refine aA<|aG<|aA<|rgD mixed<|kmv O<|kmv O<|aR O O bZ (by omega) hio dO<|aY O hX (by kernel_rfl) hsz hcells dO<|kmv O<|kmv O<|aR O O bZ (by omega) hio' dO<|aY O hX' (by kernel_rfl) hsz' hcells' dO<|bQ O O O O (by kernel_rfl) q (.inr ⟨O,O⟩) dO<|aB ?_;refine rgA ?_;refine aE O ?_;refine aA<|rgN<|kas O<|aB<|aI ?_)
    exact ⟨[_],⟨O,trivial⟩,O⟩
  ·have e:i=l.length:=by omega
   subst e
   rw [dC,List.take_of_length_le (by omega)] at hpre
   rw [cL hpre]
   (refine aA<|aA<|rgN<|kmv O<|kmv O<|aQ O bZ O dO ?_;refine klt O O (cK (by omega))<|aB<|aF O ?_;refine aJ<|aA<|rgN<|kas O<|aB<|aI ?_)
   exact ⟨[_],⟨O,trivial⟩,O⟩
 ·rw [cK (show ¬l=m from fun e=>hl (by rw [e]))]
  (refine aA<|rgN<|kas O<|aB<|aA<|aA<|rgN<|kmv O<|aQ O bZ O dO ?_;refine kmv O<|aQ O bZ O dO ?_;refine kne O O (r:=true) (by rw [bne_iff_ne];omega)<|aB<|aE O ?_;refine aA<|rgN<|kas O<|aB<|aI ?_)
  exact ⟨[_],⟨O,trivial⟩,O⟩
end Go.Proofs.YtopiioklkkiedaaGreatDoor
end
section
namespace Go.Proofs.YtopiioklkkiedaaGreatDoor
open Go Go.Lg Go.Lg.Fml Go.Lg.Fld Go.Lg.Arith
set_option maxRecDepth 100000
def fl14a:List Fl:=[⟨[120],2,1⟩]
def fl14b:List Fl:=[⟨[120],3,1⟩]
def c14a:Cp:=⟨1,[97],fl14a⟩
def c14b:Cp:=⟨1,[97],fl14b⟩
def code14:List Ins:=[⟨2,0,0,(false,0)⟩,⟨1,0,0,(false,2)⟩,⟨7,0,0,(false,0)⟩]
def r14:Rl:=⟨1,1,[code14]⟩
theorem va14:valE fl14a fl14b r14 [(false,100)]=0:=by decide +kernel
theorem vn14:valA fl14a fl14b r14 [(false,100)]=[(false,200)]:=by decide +kernel
theorem vb14:valE fl14a fl14a r14 [(false,100)]=3:=by decide +kernel
theorem vr14:rowE fl14a fl14b r14 [100]=0:=by decide +kernel
theorem vt14:rowN fl14a fl14b r14 [100]=[200,0]:=by decide +kernel
theorem vs14:sigN [⟨3,1,[]⟩,⟨4,0,[]⟩] 2=8:=by decide +kernel
theorem sm14a:∀ f∈fl14a,(-9223372036854775808≤f.kind∧f.kind<9223372036854775808)∧(-9223372036854775808≤f.count∧f.count<9223372036854775808):=by
 intro f hf
 simp only [fl14a,List.mem_cons,List.not_mem_nil,or_false] at hf
 subst hf;exact ⟨by decide,by decide⟩
theorem sm14b:∀ f∈fl14b,(-9223372036854775808≤f.kind∧f.kind<9223372036854775808)∧(-9223372036854775808≤f.count∧f.count<9223372036854775808):=by
 intro f hf
 simp only [fl14b,List.mem_cons,List.not_mem_nil,or_false] at hf
 subst hf;exact ⟨by decide,by decide⟩
theorem sm14c:∀ x∈code14,smallI x:=by
 intro x hx
 simp only [code14,List.mem_cons,List.not_mem_nil,or_false] at hx
 rcases hx with rfl|rfl|rfl<;>exact ⟨by decide,by decide,by decide,by show 0≤(_:Int)∧(_:Int)<_;decide⟩
theorem sz14:r14.ex.length≤12∧∀ c∈r14.ex,c.length≤80:=⟨by decide,fun c hc=>by
 simp only [r14,List.mem_cons,List.not_mem_nil,or_false] at hc
 subst hc;decide⟩
variable (X:Nat→Option Obj)
theorem val_lent {X:Nat→Option Obj} {a b:Cp} {r:Rl} {ns:List Nm} {aad bad ead:Option Addr} {acap bcap ecap:Nat} {row:Bool} (hN:∀ u∈ns,In2 u.2):∀ (Y:Nat→Option Obj) (us:List Value),(∀ b o,X b=some o→Y b=some o)→LentLs (stOf [nmsB 1000000 ns row]) Y [Cx a aad acap,Cx b bad bcap,LPg r.nw r.old ead r.ex.length ecap,.sv (.one (.slc 1000000 0 ns.length 3))] us →
  ∃ (vad:Option Addr) (vcap:Nat),us.map toLV=[Cx a aad acap,Cx b bad bcap,LPg r.nw r.old ead r.ex.length ecap,Lx vad ns.length vcap]∧NumsIn Y vad ns∧ns.length≤vcap:=by
 intro Y us hY hL
 obtain ⟨u1,us1,rfl,⟨av,rfl,a1,av1,rfl,g1,a2,av2,rfl,g2,a3,av3,rfl,g3,rfl⟩,u2,us2,rfl,⟨bv,rfl,b1,bv1,rfl,f1,b2,bv2,rfl,f2,b3,bv3,rfl,f3,rfl⟩,u3,us3,rfl,⟨cv,rfl,c1,cv1,rfl,d1,c2,cv2,rfl,d2,c3,cv3,rfl,d3,rfl⟩,u4,us4,rfl,h4,rfl⟩:=hL
 have g1:a1 = .int .i64 a.id:=g1
 have g2:a2 = .string ⟨a.nm.toArray⟩:=g2
 have g3:a3 = .slice aad a.fs.length acap:=g3
 have f1:b1 = .int .i64 b.id:=f1
 have f2:b2 = .string ⟨b.nm.toArray⟩:=f2
 have f3:b3 = .slice bad b.fs.length bcap:=f3
 have d1:c1 = .int .i64 r.nw:=d1
 have d2:c2 = .int .i64 r.old:=d2
 have d3:c3 = .slice ead r.ex.length ecap:=d3
 subst g1 g2 g3 f1 f2 f3 d1 d2 d3
 obtain ⟨bb,blk,cap2,m,hk',rfl,hc,hfit,hB'⟩:=h4
 have hk':some (some (⟨86,(nmsV ns).map .val,row⟩:Box))=some (some bb):=hk'
 simp only [Option.some.injEq] at hk'
 subst hk'
 obtain ⟨arr,fr,us',sp,hYb,hsz,harr,hv⟩:=hB'
 have:=hv (nmsV ns) rfl
 subst this
 exact ⟨some ⟨blk,0,none⟩,cap2,O,nms_in hYb hN ⟨sp,harr⟩,hc⟩
theorem eVal_nil_lent (a b:Cp) (r:Rl) (ns:List Nm) (aad bad ead:Option Addr) (acap bcap ecap:Nat) (row:Bool) (hA:FieldsIn X aad a.fs) (hac:a.fs.length≤acap) (hB:FieldsIn X bad b.fs) (hE:CodesIn X ead r.ex) (hN:∀ u∈ns,In2 u.2) (la:a.fs.length≤12) (lb:b.fs.length≤12) (lr:r.ex.length≤12∧∀ c∈r.ex,c.length≤80) (ln:ns.length<4611686018427387904) (h:vShape (valE a.fs b.fs r ns) (valA a.fs b.fs r ns)=false):
  MSpec Tryz.prog X 12 [Cx a aad acap,Cx b bad bcap,LPg r.nw r.old ead r.ex.length ecap,.sv (.one (.slc 1000000 0 ns.length 3))] [nmsB 1000000 ns row] (.tup [.one (.val (.slice none 0 0)),Sn .i64 (valE a.fs b.fs r ns)]) ([nmsB 1000000 ns row]++[]):=
 MSpec.lend (by kernel_rfl) rfl (by exact (by repeat' (first|refine bS ?_ ?_|rfl|exact bU|exact bT|exact bV rfl))) rfl rfl rfl fun Y us hY hL=>by
  obtain ⟨vad,vcap,e,h1,h2⟩:=val_lent hN Y us hY hL
  rw [e]
  exact eVal_nil Y a b r ns aad bad ead vad acap bcap ecap vcap (hA.mono hY) hac (hB.mono hY) (hE.mono hY) h1 h2 la lb lr ln h
theorem eVal_box_lent (a b:Cp) (r:Rl) (ns:List Nm) (aad bad ead:Option Addr) (acap bcap ecap:Nat) (row:Bool) (hA:FieldsIn X aad a.fs) (hac:a.fs.length≤acap) (hB:FieldsIn X bad b.fs) (hE:CodesIn X ead r.ex) (hN:∀ u∈ns,In2 u.2) (la:a.fs.length≤12) (lb:b.fs.length≤12) (lr:r.ex.length≤12∧∀ c∈r.ex,c.length≤80) (ln:ns.length<4611686018427387904) (h:vShape (valE a.fs b.fs r ns) (valA a.fs b.fs r ns)=true):
  MSpec Tryz.prog X 12 [Cx a aad acap,Cx b bad bcap,LPg r.nw r.old ead r.ex.length ecap,.sv (.one (.slc 1000000 0 ns.length 3))] [nmsB 1000000 ns row] (.tup [.one (.slc 1000001 0 (valA a.fs b.fs r ns).length 3),Sn .i64 (valE a.fs b.fs r ns)]) ([nmsB 1000000 ns row]++[nmsB 1000001 (valA a.fs b.fs r ns) (vRow (valA a.fs b.fs r ns))]):=
 MSpec.lend (by kernel_rfl) rfl (by exact (by repeat' (first|refine bS ?_ ?_|rfl|exact bU|exact bT|exact bV rfl))) (by exact (by repeat' (first|refine bS ?_ ?_|rfl|exact bU|exact bT|exact bV rfl))) rfl rfl fun Y us hY hL=>by
  obtain ⟨vad,vcap,e,h1,h2⟩:=val_lent hN Y us hY hL
  rw [e]
  exact eVal_box Y a b r ns aad bad ead vad acap bcap ecap vcap (hA.mono hY) hac (hB.mono hY) (hE.mono hY) h1 h2 la lb lr ln h
end Go.Proofs.YtopiioklkkiedaaGreatDoor
end
section
namespace Go.Proofs.YtopiioklkkiedaaGreatDoor
open Go Go.Lg Go.Lg.Fml Go.Lg.Fld Go.Lg.Arith
set_option maxRecDepth 100000
abbrev izs14:List Value:=[.int .i64 0,.int .i64 0,.int .i64 0,.bool false,.int .u64 0,.int .u64 0]
abbrev rzs14:List Value:=[.int .i64 0,.int .i64 0,.slice none 0 0]
variable (X:Nat→Option Obj)
theorem eSig_lent {S:Nat→Option (Option Box)} {k s n:Nat} {rs:List Rl} {ws:List Value} {e:TypeId} {row:Bool} {va vb:Int} (G:RulesH X ws rs) (hsm:∀ r∈rs,smallR r) (hl:rs.length<4611686018427387904) (hs:s<4294967296) (hk:S k=some (some ⟨e,(rwZ rs ws).map .val,row⟩)) (hn:sigN rs s=n):
  ∀ (Y:Nat→Option Obj) (us:List Value),(∀ b o,X b=some o→Y b=some o)→LentLs S Y [.sv (.agg [.val (.int .i64 va),.val (.int .i64 vb),.slc k 0 rs.length 3]),Ln .u32 (s:Nat)] us→PSpec Tryz.prog Y 20 (us.map toLV) (Ln .u32 (n:Nat)):=by
 subst hn
 intro Y us hY hL
 obtain ⟨u1,us1,rfl,⟨av,rfl,a1,av1,rfl,g1,a2,av2,rfl,g2,a3,av3,rfl,g3,rfl⟩,u2,us2,rfl,h2,rfl⟩:=hL
 have g1:a1 = .int .i64 va:=g1
 have g2:a2 = .int .i64 vb:=g2
 have h2:u2 = .int .u32 (s:Nat):=h2
 subst g1 g2 h2
 obtain ⟨bb,blk,cap2,m,hk',rfl,hc,hfit,hB⟩:=g3
 rw [hk] at hk'
 simp only [Option.some.injEq] at hk'
 subst hk'
 obtain ⟨arr,fr,us',sp,hYb,hsz,harr,hv⟩:=hB
 have:=hv (rwZ rs ws) rfl
 subst this
 exact eSig Y va vb rs (some ⟨blk,0,none⟩) cap2 s (rules_block hYb harr (G.mono hY) hsm) hl hs
set_option maxHeartbeats 25600000 in
theorem awake14_spec:PSpec Tryz.prog X 9 [] (Lb true):=by
 refine cC Tryz.func9 rfl (by kernel_rfl) rfl rfl ?_
 intro C
 (refine aA<|rgN<|kas O<|aB<|aA<|rgN<|aT O O (by exact O) (by exact nl3 O O O O) dO ?_;refine aZ (zs:=[Value.string ⟨#[]⟩,.int .i64 0,.int .i64 0]) (sz:=3) (e:=83) (cs':=(flV fl14a).map .val) (by kernel_rfl) O O O O O O dO<|aT O O (by exact O) (by exact nl3 O O O O) dO ?_;refine aP O dO ?_;refine aM O O O O O O dO ?_;refine aB<|aA ?_)
 refine LWP.le (σ':=⟨[(1,Lp 1)],[(1,some ⟨24,[.val (.int .i64 1),.val (.string ⟨#[97]⟩)] ++ .slc 11 0 1 3::[],false⟩),(11,some ⟨83,(flV fl14a).map .val,false⟩)],X⟩) (Le.of (by exact ⟨O,trivial⟩) (by exact ⟨O,O,trivial⟩) (by exact O) (by exact O) (by repeat' (first|refine bS ?_ ?_|rfl|exact bU|exact bT|exact bV O))) ?_
 refine LWP.freezeCell O O O O O O fun k1 cp1 arr1 fr1 hn1 _ hc1 _ hv1 => ?_
 have hFa:FieldsIn (withBlock X k1 (.cells arr1 83 fr1)) (some ⟨k1,0,none⟩) fl14a:=by
  obtain ⟨sp,hv⟩:=hv1
  exact fields_block (cJ _ _ _) hv sm14a
 clear hv1 hn1
 generalize withBlock X k1 (.cells arr1 83 fr1)=Y at *
 generalize (some ⟨k1,0,none⟩:Option Addr)=ad1 at *
 (refine rgN<|aT O O (by exact O) (by exact nl3 O O O O) dO ?_;refine aZ (zs:=[Value.string ⟨#[]⟩,.int .i64 0,.int .i64 0]) (sz:=3) (e:=83) (cs':=(flV fl14b).map .val) (by kernel_rfl) O O O O O O dO<|aT O O (by exact O) (by exact nl3 O O O O) dO ?_;refine aP O dO ?_;refine aM O O O O O O dO ?_;refine aB<|aA ?_)
 refine LWP.le (σ':=⟨[(1,Lp 1),(2,Lp 2)],[(2,some ⟨24,[.val (.int .i64 1),.val (.string ⟨#[97]⟩)] ++ .slc 14 0 1 3::[],false⟩),(14,some ⟨83,(flV fl14b).map .val,false⟩),cpB 1 c14a ad1 cp1],Y⟩) (Le.of (by exact ⟨O,O,trivial⟩) (by exact ⟨O,O,O,trivial⟩) (by exact O) (by exact O) (by repeat' (first|refine bS ?_ ?_|rfl|exact bU|exact bT|exact bV O))) ?_
 refine LWP.freezeCell O O O O O O fun k2 cp2 arr2 fr2 hn2 _ _ _ hv2 => ?_
 have hFb:FieldsIn (withBlock Y k2 (.cells arr2 83 fr2)) (some ⟨k2,0,none⟩) fl14b:=by
  obtain ⟨sp,hv⟩:=hv2
  exact fields_block (cJ _ _ _) hv sm14b
 replace hFa:=hFa.mono (cF (o:=.cells arr2 83 fr2) hn2)
 clear hv2 hn2
 generalize withBlock Y k2 (.cells arr2 83 fr2)=Y2 at *
 generalize (some ⟨k2,0,none⟩:Option Addr)=ad2 at *
 have o2:=Of_spec Y2 2 (by decide)
 (refine rgN<|aT O O (by exact O) (by exact nl6 O O O O O O O) dO ?_;refine kca O O o2<|aT O O (by exact O) (by exact nl6 O O O O O O O) dO ?_;refine aT O O (by exact O) (by exact nl6 O O O O O O O) dO ?_;refine aZ (zs:=(List.replicate 3 izs14).flatten) (sz:=6) (e:=88) (cs':=(inssV code14).map .val) (by kernel_rfl) O O O O O O dO<|aZ (zs:=[.slice none 0 0]) (sz:=1) (e:=90) (cs':=[.slc 20 0 3 6]) (by kernel_rfl) O O O O O O dO<|aT O O (by exact O) (by exact nl3 O O O O) dO ?_;refine aP O dO ?_;refine aM O O O O O O dO ?_;refine aB<|aA ?_)
 refine LWP.le (σ':=⟨[(1,Lp 1),(2,Lp 2),(3,Lp 3)],[(21,some ⟨90,[] ++ .slc 20 0 3 6::[],false⟩),(20,some ⟨88,(inssV code14).map .val,false⟩),(3,some ⟨27,[.val (.int .i64 1),.val (.int .i64 1),.slc 21 0 1 1],false⟩),cpB 1 c14a ad1 cp1,cpB 2 c14b ad2 cp2],Y2⟩) (Le.of (by exact ⟨O,O,O,trivial⟩) (by exact ⟨O,O,O,O,O,trivial⟩) (by exact O) (by exact O) (by repeat' (first|refine bS ?_ ?_|rfl|exact bU|exact bT|exact bV O))) ?_
 refine LWP.freezeCell O O O O O O fun k3 cp3 arr3 fr3 hn3 _ _ _ hv3 => ?_
 have hI:InsIn (withBlock Y2 k3 (.cells arr3 88 fr3)) (some ⟨k3,0,none⟩) code14:=ins_in (cJ _ _ _) sm14c hv3
 have h3:=cF (o:=.cells arr3 88 fr3) hn3
 replace hFa:=hFa.mono h3
 replace hFb:=hFb.mono h3
 clear hv3 hn3 o2 h3
 generalize withBlock Y2 k3 (.cells arr3 88 fr3)=Y3 at *
 generalize (some ⟨k3,0,none⟩:Option Addr)=ad3 at *
 refine LWP.le (σ':=⟨[(1,Lp 1),(2,Lp 2),(3,Lp 3)],[(3,some ⟨27,[.val (.int .i64 1),.val (.int .i64 1)] ++ .slc 21 0 1 1::[],false⟩),(21,some ⟨90,[Value.slice ad3 3 cp3].map .val,false⟩),cpB 1 c14a ad1 cp1,cpB 2 c14b ad2 cp2],Y3⟩) (Le.of (by exact ⟨O,O,O,trivial⟩) (by exact ⟨O,O,O,O,trivial⟩) (by exact O) (by exact O) (by repeat' (first|refine bS ?_ ?_|rfl|exact bU|exact bT|exact bV O))) ?_
 refine LWP.freezeCell O O O O O O fun k4 ec arr4 fr4 hn4 _ _ _ hv4 => ?_
 have hE:CodesIn (withBlock Y3 k4 (.cells arr4 90 fr4)) (some ⟨k4,0,none⟩) r14.ex:=by
  obtain ⟨sp,e⟩:=hv4
  exact forms_block (cJ _ _ _) e (FormsH.nil.push ⟨_,_,O,hI.mono (cF hn4)⟩)
 have h4:=cF (o:=.cells arr4 90 fr4) hn4
 replace hFa:=hFa.mono h4
 replace hFb:=hFb.mono h4
 clear hv4 hn4 h4 hI
 generalize withBlock Y3 k4 (.cells arr4 90 fr4)=Z at *
 generalize (some ⟨k4,0,none⟩:Option Addr)=ead at *
 have hin2:∀ u∈[((false,100):Nm)],In2 u.2:=fun u hu=>by rw [List.mem_singleton.1 hu];show 0≤(100:Int)∧(100:Int)<_;decide
 have o100:=Of_spec Z 100 (by decide)
 have hs1:vShape (valE c14a.fs c14b.fs r14 [(false,100)]) (valA c14a.fs c14b.fs r14 [(false,100)])=true:=by
  cases h:vShape (valE c14a.fs c14b.fs r14 [(false,100)]) (valA c14a.fs c14b.fs r14 [(false,100)]) with
  | true=>rfl
  | false=>have:=vShape_nil h;rw [show valA c14a.fs c14b.fs r14 [(false,100)]=[(false,200)] from vn14] at this;cases this
 have hV:=eVal_box_lent Z c14a c14b r14 [(false,100)] ad1 ad2 ead cp1 cp2 ec false hFa hc1 hFb hE hin2 (by decide) (by decide) sz14 (by decide) hs1
 rw [show valA c14a.fs c14b.fs r14 [(false,100)]=[(false,200)] from vn14,show valE c14a.fs c14b.fs r14 [(false,100)]=0 from va14] at hV
 (refine rgD mixed<|aK O O O dO ?_;refine aK O O O dO ?_;refine aK O O O dO ?_;refine kca O O o100<|aZ (zs:=[Value.bool false,.int .u64 0,.int .u64 0]) (sz:=3) (e:=86) (cs':=(nmsV [(false,100)]).map .val) (by kernel_rfl) O O O O O O dO<|bE [(1000000,28),(1000001,601)] (.tup [.one (.slc 601 0 1 3),Sn .i64 0]) [nmsB 28 [(false,100)] false,nmsB 601 [(false,200)] (vRow [(false,200)])] (hV) O O (by exact (cM ⟨_,O,O⟩ trivial)) (by exact (bS (bS O (bS O (bS O O))) O)) O O O O (by exact (.box O O (.box O O .nil))) dO<|kmv O<|kex O O<|kex O O<|kas O<|kas O<|aB<|rgA ?_;refine aA ?_)
 refine LWP.le (σ':=⟨[(4,.sv (.one (.slc 601 0 1 3))),(5,Ln .i64 0),(1,Lp 1),(2,Lp 2),(3,Lp 3)],[nmsB 601 [(false,200)] (vRow [(false,200)]),cpB 1 c14a ad1 cp1,cpB 2 c14b ad2 cp2,v3B 27 3 1 1 ead 1 ec],Z⟩) (Le.of (by exact ⟨O,O,O,O,O,trivial⟩) (by exact ⟨O,O,O,O,trivial⟩) (by exact O) (by exact O) (by repeat' (first|refine bS ?_ ?_|rfl|exact bU|exact bT|exact bV O))) ?_
 refine LWP.freeze O O O fun k5 vc arr5 fr5 hn5 _ hvc _ hv5 => ?_
 have hN:NumsIn (withBlock Z k5 (.cells arr5 86 fr5)) (some ⟨k5,0,none⟩) [(false,200)]:=nms_in (cJ _ _ _) (fun u hu=>by rw [List.mem_singleton.1 hu];show 0≤(200:Int)∧(200:Int)<_;decide) hv5
 have h5:=cF (o:=.cells arr5 86 fr5) hn5
 replace hFa:=hFa.mono h5
 replace hFb:=hFb.mono h5
 replace hE:=hE.mono h5
 clear hv5 hn5 h5 hV o100
 generalize withBlock Z k5 (.cells arr5 86 fr5)=W at *
 generalize (some ⟨k5,0,none⟩:Option Addr)=vad at *
 have o100:=Of_spec W 100 (by decide)
 repeat refine aA ?_
 refine LWP.meetL (fun σ=>σ=⟨[(4,Lx vad 1 vc),(5,Ln .i64 0),(7,Ln .i64 3),(1,Lp 1),(2,Lp 2),(3,Lp 3)],[cpB 1 c14a ad1 cp1,cpB 2 c14b ad2 cp2,v3B 27 3 1 1 ead 1 ec],W⟩) ?_ ?_
 ·have hve:valE c14a.fs c14a.fs r14 [(false,100)]=3:=vb14
  have hva:valA c14a.fs c14a.fs r14 [(false,100)]=[]:=if_neg (by rw [hve];decide)
  cases hs2:vShape (valE c14a.fs c14a.fs r14 [(false,100)]) (valA c14a.fs c14a.fs r14 [(false,100)]) with
  | false =>
   have hV:=eVal_nil_lent W c14a c14a r14 [(false,100)] ad1 ad1 ead cp1 cp1 ec false hFa hc1 hFa hE hin2 (by decide) (by decide) sz14 (by decide) hs2
   rw [hve] at hV
   (refine rgD mixed<|aK O O O dO ?_;refine aK O O O dO ?_;refine aK O O O dO ?_;refine kca O O o100<|aZ (zs:=[Value.bool false,.int .u64 0,.int .u64 0]) (sz:=3) (e:=86) (cs':=(nmsV [(false,100)]).map .val) (by kernel_rfl) O O O O O O dO<|aU [(1000000,37)] [nmsB 37 [(false,100)] false] (hV) O O (by exact (cM ⟨_,O,O⟩ trivial)) (by exact (bS (bS O (bS O (bS O O))) O)) O O O O (by exact (.box O O .nil)) dO<|kmv O<|kex O O<|kex O O<|kas O<|kas O<|aB<|rgA ?_)
   exact Leads.here (σ':=⟨[(4,Lx vad 1 vc),(5,Ln .i64 0),(7,Ln .i64 3),(1,Lp 1),(2,Lp 2),(3,Lp 3)],[cpB 1 c14a ad1 cp1,cpB 2 c14b ad2 cp2,v3B 27 3 1 1 ead 1 ec],W⟩) (Le.of (by exact ⟨O,O,O,O,O,O,trivial⟩) (by exact ⟨O,O,O,trivial⟩) (by exact O) (by exact O) (by repeat' (first|refine bS ?_ ?_|rfl|exact bU|exact bT|exact bV O))) O
  | true =>
   have hV:=eVal_box_lent W c14a c14a r14 [(false,100)] ad1 ad1 ead cp1 cp1 ec false hFa hc1 hFa hE hin2 (by decide) (by decide) sz14 (by decide) hs2
   rw [hva,hve] at hV
   (refine rgD mixed<|aK O O O dO ?_;refine aK O O O dO ?_;refine aK O O O dO ?_;refine kca O O o100<|aZ (zs:=[Value.bool false,.int .u64 0,.int .u64 0]) (sz:=3) (e:=86) (cs':=(nmsV [(false,100)]).map .val) (by kernel_rfl) O O O O O O dO<|bE [(1000000,37),(1000001,601)] (.tup [.one (.slc 601 0 0 3),Sn .i64 3]) [nmsB 37 [(false,100)] false,nmsB 601 [] (vRow [])] (hV) O O (by exact (cM ⟨_,O,O⟩ trivial)) (by exact (bS (bS O (bS O (bS O O))) O)) O O O O (by exact (.box O O (.box O O .nil))) dO<|kmv O<|kex O O<|kex O O<|kas O<|kas O<|aB<|rgA ?_)
   exact Leads.here (σ':=⟨[(4,Lx vad 1 vc),(5,Ln .i64 0),(7,Ln .i64 3),(1,Lp 1),(2,Lp 2),(3,Lp 3)],[cpB 1 c14a ad1 cp1,cpB 2 c14b ad2 cp2,v3B 27 3 1 1 ead 1 ec],W⟩) (Le.of (by exact ⟨O,O,O,O,O,O,trivial⟩) (by exact ⟨O,O,O,trivial⟩) (by exact O) (by exact O) (by repeat' (first|refine bS ?_ ?_|rfl|exact bU|exact bT|exact bV O))) O
 rintro σ rfl
 have hR:=eRow W c14a c14b r14 [100] ad1 ad2 ead cp1 cp2 ec hFa hc1 hFb hE (by decide) (by decide) sz14 (by decide)
 rw [show rowN c14a.fs c14b.fs r14 [100]=[200,0] from vt14,show rowE c14a.fs c14b.fs r14 [100]=0 from vr14] at hR
 (refine aA<|rgN<|aK O O O dO ?_;refine aK O O O dO ?_;refine aK O O O dO ?_;refine kca O O hR<|kmv O<|kex O O<|kex O O<|kas O<|kas O<|aB<|aA ?_)
 have o200:=Of_spec W 200 (by decide)
 obtain ⟨_,blk,off,arr,el,fr,rfl,hX,hsz,hcs⟩:=hN.at (i:=0) (b:=false) (N:=200) rfl
 have hio:off+Int.toNat 0*3=off+0*3:=by simp
 have q:=eqI (b:=false) (b':=false) (h:=200/18446744073709551616) (h':=200/18446744073709551616) (l:=200%18446744073709551616) (l':=200%18446744073709551616) true (by decide)
 have hS:=fun (S:Nat→Option (Option Box)) h=>eSig_lent W (S:=S) (k:=77) (s:=2) (n:=8) (rs:=[⟨3,1,[]⟩,⟨4,0,[]⟩]) (ws:=[.slice none 0 0,.slice none 0 0]) (e:=27) (row:=false) (va:=0) (vb:=0) ((RulesH.nil.push CodesIn.nilIn).push CodesIn.nilIn) (fun r hr=>by
  simp only [List.mem_cons,List.not_mem_nil,or_false] at hr
  rcases hr with rfl|rfl<;>exact ⟨by decide,by decide⟩) (by decide) (by decide) h vs14
 (refine rgD mixed<|kmv O<|keq O O (r:=true) O<|kmv O<|gmv O O O<|aQ O bZ O (dP O O) ?_;refine bC O O (r:=true) O (dP O O) ?_;refine kpt O O<|kmv O<|gmv O O O<|aR O O bZ (by decide) hio (dP O O) ?_;refine aY O hX (by kernel_rfl) hsz hcs (dP O O) ?_;refine gca O O o200 O O<|bQ O O O O (by kernel_rfl) q (.inl ⟨O,O⟩) (dP O O) ?_;refine kpt O O<|kmv O<|gmv O O O<|bC O O (r:=true) O (dP O O) ?_;refine kpt O O<|kmv O<|gmv O O O<|bC O O (r:=true) O (dP O O) ?_;refine kpt O O<|kmv O<|gmv O O O<|K.strEq O O (strs_eq (r:=true) O) (dP O O) ?_;refine kpt O O<|kmv O<|aT O O (by exact O) (by exact nl3 O O O O) (dP O O) ?_;refine aT O O (by exact O) (by exact nl3 O O O O) (dP O O) ?_;refine aZ (zs:=(List.replicate 2 rzs14).flatten) (sz:=3) (e:=27) (cs':=(rwZ [⟨3,1,[]⟩,⟨4,0,[]⟩] [.slice none 0 0,.slice none 0 0]).map .val) (by kernel_rfl) O O O O O O (dP O O) ?_;refine aT O O (by exact O) (by exact nl3 O O O O) (dP O O) ?_;refine K.callL [77] O O O (hS _ O) (dP O O) ?_;refine bC O O (r:=true) O (dP O O) ?_;refine kpt O O<|kas O<|aB<|rgA ?_;refine aI ?_)
 exact ⟨[_],⟨O,trivial⟩,O⟩
end Go.Proofs.YtopiioklkkiedaaGreatDoor
end
section
namespace Go.Lg
open Go
theorem Leads.fixRes {n:Nat} {C:Ctx} {X:Nat→Option Obj} {Mid:St→Prop} {s:List (Nat×LV)} {bx:List (Nat×Option Box)} {d k off len sz:Nat} {e:TypeId} {cs:List CV} {R:Rsc}
  (hs:s.all (fun p=>p.2.inUse bx)=true) (hb:bx.all (fun p=>match p.2 with|some b=>b.cells.all (CV.inUse bx)|none=>true)=true) (hk:look k bx=none)
  (h:∀ (ρ:Nat×Nat) (H:Nat→Option Obj) (cap:Nat),R.holds ρ H→OwnedM C X H→len≤cap→off+cap*sz≤ρ.2→Leads n C Mid ⟨(d,.sv (.one (.val (.slice (some ⟨ρ.1,off,none⟩) len cap))))::s,bx,joinM X H⟩):
  Leads n C Mid ⟨(d,.sv (.one (.slc k off len sz)))::s,(k,some ⟨e,cs,.res R⟩)::bx,X⟩:=⟨fun ι a w hr=>by
 obtain ⟨ρ,H,cap,h1,h2,h3,h4,h5⟩:=hr.fixRes hs hb hk
 exact (h ρ H cap h1 h2 h3 h4).out ι a w h5⟩
end Go.Lg
namespace Go.Proofs.YtopiioklkkiedaaGreatDoor
open Go Go.Lg Go.Lg.Fml Go.Lg.Fld Go.Lg.Arith
set_option maxRecDepth 100000
theorem prts_mono {X Y:Nat→Option Obj} (hXY:∀ b o,X b=some o→Y b=some o) {ad:Option Addr} {ps:List Pt} (h:PartsIn X ad ps):PartsIn Y ad ps:=⟨fun i p hp=>by
 obtain ⟨blk,off,arr,el,fr,vad,vcap,h1,h2,h3,h4,h5⟩:=h.at_ i p hp
 exact ⟨blk,off,arr,el,fr,vad,vcap,h1,hXY _ _ h2,h3,h4,⟨h5.rows.mono hXY,h5.in2⟩⟩,h.small⟩
theorem prts_nil {X:Nat→Option Obj} {ad:Option Addr}:PartsIn X ad []:=⟨fun i p hp=>by simp at hp,fun p hp=>by cases hp⟩
theorem psV_len {a b:Sc} {p:Pg} {ps:List Pt} (h:psE a b p ps=0):∀ x∈psV a b p ps,x.val.length≤64:=fun x hx=>by
 obtain ⟨c,hc,hf⟩:=(prt_facts (whole_fit h)).2 x hx
 obtain ⟨hl,hn,_⟩:=fit_all hf
 obtain ⟨h8,ho,_⟩:=layErr_facts hl
 have:=sum_le c.fs ho
 omega
theorem psA_len {a b:Sc} {p:Pg} {ps:List Pt}:∀ x∈psA a b p ps,x.val.length≤64:=fun x hx=>by
 unfold psA at hx
 split at hx
 ·rename_i h;exact psV_len h x hx
 ·cases hx
def foundB (L:List Pt) (m:Pt):Bool:=L.any fun y=>decide (y.comp=m.comp)&&decide (y.val=m.val)
theorem found_snoc {L:List Pt} {m y:Pt} {j:Nat} (h:L[j]? = some y):foundB (L.take (j+1)) m=(foundB (L.take j) m||(decide (y.comp=m.comp)&&decide (y.val=m.val))):=by
 unfold foundB
 rw [take_snoc h,List.any_append]
 simp
theorem found_mem {L:List Pt} {m:Pt} (h:m∈L):foundB L m=true:=List.any_eq_true.2 ⟨m,h,by simp⟩
end Go.Proofs.YtopiioklkkiedaaGreatDoor
end
section
namespace Go.Proofs.YtopiioklkkiedaaGreatDoor
open Go Go.Lg Go.Lg.Fml Go.Lg.Fld Go.Lg.Arith
set_option maxRecDepth 100000
theorem plainR_ex (a:Sc) (c:Cp):(plainR a c).ex.length≤c.fs.length∧∀ q∈(plainR a c).ex,q.length=1:=by
 unfold plainR
 split
 ·exact ⟨Nat.zero_le _,fun q hq=>by cases hq⟩
 ·refine ⟨by simp,fun q hq => ?_⟩
  obtain ⟨f,_,rfl⟩:=List.mem_map.1 hq
  rfl
theorem plain_sizes {a b:Sc} {m:Nat} (h:∀ c∈b.cs,c.fs.length≤m):∀ r∈(plainP a b).rs,r.ex.length≤m∧∀ q∈r.ex,q.length=1:=fun r hr=>by
 obtain ⟨c,hc,rfl⟩:=List.mem_map.1 hr
 obtain ⟨h1,h2⟩:=plainR_ex a c
 exact ⟨Nat.le_trans h1 (h c hc),h2⟩
theorem plain_len (a b:Sc):(plainP a b).rs.length=b.cs.length:=by unfold plainP;rw [cT]
variable (X:Nat→Option Obj)
end Go.Proofs.YtopiioklkkiedaaGreatDoor
end
section
namespace Go.Proofs.YtopiioklkkiedaaGreatDoor
open Go Go.Lg Go.Lg.Fml Go.Lg.Fld Go.Lg.Arith
set_option maxRecDepth 100000
variable (X:Nat→Option Obj)
set_option maxHeartbeats 6400000 in
theorem pCloneAny (ver:Int) (ad:Option Addr) (cap:Nat) (cs:List Cp) (hin:CompsIn X ad cs) (hn:cs.length≤4398046511104) (hfb0:∀ c∈cs,c.fs.length≤4398046511104):MSpec Tryz.prog X 24 [Sx ver ad cs.length cap] [] (.sv (.agg [.val (.int .i64 ver),.slc 1000001 0 cs.length 3])) [scB 1000001 cs]:=by
 refine cD Tryz.func24 rfl (by kernel_rfl) rfl rfl (by exact (by repeat' (first|refine bS ?_ ?_|rfl|exact bU|exact bT|exact bV rfl))) rfl rfl ?_
 intro C
 have hInb:InB cs:=fun c hc=>by
  obtain ⟨i,hi⟩:=List.mem_iff_getElem?.1 hc
  obtain ⟨_,_,_,_,_,_,_,_,_,_,_,_,_,_,hF⟩:=hin.get hi
  exact ⟨hin.small c hc,hF.small⟩
 have hmk:MadeOf Tryz.prog 31 24 3 48 [Value.int .i64 0,Value.string ⟨#[]⟩,Value.slice none 0 0]:=⟨by kernel_rfl,by kernel_rfl,rfl⟩
 refine LWP.ends ?_
 (refine aA<|rgN<|aL O O O dO<|aP O dO ?_;refine aB<|aA<|rgN<|kfa O O ?_;refine kl1 O O O<|aQ O bZ O dO ?_;refine K.makeBig (m:=cs.length) (bytes:=48) O O hmk (by omega) O O dO ?_;refine kas O<|aB<|aA<|aA<|rgN<|kfa O O ?_;refine kl1 O O O<|aQ O bZ O dO ?_;refine kmv O<|aB<|aG ?_)
 refine cH (fun m σ=>∃ (i:Nat) (cells:List Value) (H:Nat→Option Obj),i≤cs.length∧m=cs.length-i∧OwnedM C X H∧Twigs H 83 3 [] cells ((cs.take i).map fun c=>flV c.fs)∧σ=kcSt ver ad cs.length cap i (rowsZ (cs.take i) cells++zer (cs.length-i)) (joinM X H)) cs.length
  (cB (σ':=kcSt ver ad cs.length cap 0 (rowsZ (cs.take 0) []++zer (cs.length-0)) X) ?_ (cA ⟨0,[],fun _=>none,by omega,by omega,OwnedM.nil _ _,Twigs.nil _ _ _ _,rfl⟩)) ?_
 ·unfold kcSt zer;exact Le.of (by exact ⟨rfl,rfl,rfl,rfl,rfl,rfl,trivial⟩) (by exact ⟨rfl,rfl,rfl,trivial⟩) (by exact rfl) (by exact rfl) (by repeat' (first|refine bS ?_ ?_|rfl|exact bU|exact bT|exact bV rfl))
 rintro m σ ⟨i,cells,H,hi,rfl,hO,G,rfl⟩
 have hcl:cells.length=i:=by rw [G.len,cT,cW];omega
 by_cases hlt:i<cs.length
 ·obtain ⟨c,hc⟩:∃ c,cs[i]? = some c:=⟨_,cU hlt⟩
  obtain ⟨blk,off,arr,el,fr,fad,fcap,rfl,hX,hsz,hcs,_,_,_,hF⟩:=hin.get hc
  have hio:off+Int.toNat (i:Int)*3=off+i*3:=by simp
  have hix:0+Int.toNat (i:Int)*3=i*3:=by rw [dD];omega
  have hX1:joinM X H blk=some (.cells arr el fr):=joinM_has hO hX
  have hpl:(rowsZ (cs.take i) cells).length=i*3:=by rw [rowsZ_len (by rw [hcl,cW];omega),cW,Nat.min_eq_left (by omega)]
  have hFY:=hF.mono (Y:=joinM X H) fun b o h=>joinM_has hO h
  have hfb:=hfb0 c (cZ hc)
  have hroom:i*3+3≤((rowsZ (cs.take i) cells++zer (cs.length-i)).map CV.val).length:=by rw [cT,cS,hpl,zer_len];omega
  have hspl:∀ cv:CV,splice ((rowsZ (cs.take i) cells++zer (cs.length-i)).map CV.val) (i*3) [.val (.int .i64 c.id),.val (.string ⟨c.nm.toArray⟩),cv]=(rowsZ (cs.take i) cells++[Value.int .i64 c.id,Value.string ⟨c.nm.toArray⟩]).map CV.val++cv::(zer (cs.length-(i+1))).map .val:=fun cv=>by
   unfold splice
   rw [show cs.length-i=(cs.length-(i+1))+1 by omega,zer_succ]
   simp only [dE,dJ]
   have hml:((rowsZ (cs.take i) cells).map CV.val).length=i*3:=by rw [cT,hpl]
   generalize (rowsZ (cs.take i) cells).map CV.val=R at *
   rw [← hml,List.take_left,List.drop_length_add_append]
   simp
  cases fad with
  | none =>
   have hf0:=hF.none
   have hq:=cclone_nil (joinM X H) c fcap hf0
   have hl0:c.fs.length=0:=by rw [hf0];rfl
   have hm0:rowsZ (cs.take (i+1)) (cells++[.slice none 0 0])=rowsZ (cs.take i) cells++[.int .i64 c.id,.string ⟨c.nm.toArray⟩,.slice none 0 0]:=rowsZ_snoc hcl hc
   (refine aA<|rgN<|klt O O (cL (by omega))<|aB<|aA<|aE O ?_;refine aH ?_;refine aA<|aG<|aA<|rgN<|kmv O<|aR O O bZ (by omega) hio dO<|aY O hX1 (by kernel_rfl) hsz hcs dO<|aP O dO ?_;refine kas O<|aM O O O O O O dO ?_;refine aB<|rgN<|kmv O<|kmv O<|aK O O O dO ?_;refine kca O O hq<|K.indexSlc O O (by omega) hix dO ?_;refine K.store O O O O (by kernel_rfl) hroom (hspl (.val (.slice none c.fs.length 0))) dO<|aB<|rgN<|kad O O (cE (by omega))<|kmv O<|aB ?_)
   refine cB (σ':=kcSt ver (some ⟨blk,off,none⟩) cs.length cap (i+1) (rowsZ (cs.take (i+1)) (cells++[.slice none 0 0])++zer (cs.length-(i+1))) (joinM X H)) ?_ (cA ⟨cs.length-(i+1),by omega,i+1,cells++[.slice none 0 0],H,by omega,O,hO,?_,O⟩)
   ·have hcell:(rowsZ (cs.take i) cells++[Value.int .i64 c.id,Value.string ⟨c.nm.toArray⟩]).map CV.val ++ .val (.slice none c.fs.length 0)::(zer (cs.length-(i+1))).map .val=(rowsZ (cs.take (i+1)) (cells++[.slice none 0 0])++zer (cs.length-(i+1))).map .val:=by rw [hm0,hl0];simp
    rw [hcell]
    exact Le.of (by exact ⟨O,O,O,O,O,O,trivial⟩) (by exact ⟨O,O,O,trivial⟩) (by exact O) (by exact O) (by repeat' (first|refine bS ?_ ?_|rfl|exact bU|exact bT|exact bV O))
   ·have G2:=G.pushZ none 0
    rw [take_snoc hc,dE,List.map_cons,List.map_nil,show flV c.fs=[] by rw [hf0];rfl]
    exact G2
  | some fa =>
   have hq:=cclone_some (joinM X H) c fa fcap hFY hfb
   (refine aA<|rgN<|klt O O (cL (by omega))<|aB<|aA<|aE O ?_;refine aH ?_;refine aA<|aG<|aA<|rgN<|kmv O<|aR O O bZ (by omega) hio dO<|aY O hX1 (by kernel_rfl) hsz hcs dO<|aP O dO ?_;refine kas O<|aM O O O O O O dO ?_;refine aB<|rgN<|kmv O<|kmv O<|aK O O O dO ?_;refine bE [(1000001,20)] (.sv (SCs c 20)) [fdB 20 c.fs] (hq) O O (by exact trivial) O O O O O (by exact (.box O (bX _ _ _ _) .nil)) dO<|K.indexSlc O O (by omega) hix dO ?_;refine K.store O O O O (by kernel_rfl) hroom (hspl (.slc 20 0 c.fs.length 3)) dO<|aB<|rgN<|kad O O (cE (by omega))<|kmv O<|aB ?_)
   refine cB (σ':=⟨[(1,Lp 1),(2,Lp 2),(3,.sv (.one (.slc 9 0 cs.length 3))),(11,Lx (some ⟨blk,off,none⟩) cs.length cap),(12,Ln .i64 (cs.length:Nat)),(13,Ln .i64 (i+1:Nat))],[(9,some ⟨24,(rowsZ (cs.take i) cells++[Value.int .i64 c.id,Value.string ⟨c.nm.toArray⟩]).map .val ++ .slc 20 0 c.fs.length 3::(zer (cs.length-(i+1))).map .val,false⟩),(20,some ⟨83,(flV c.fs).map .val,true⟩),sxB 1 ver (some ⟨blk,off,none⟩) cs.length cap,(2,some ⟨33,[.val (.int .i64 0),.val (.slice none 0 0)],false⟩)],joinM X H⟩) (Le.of (by exact ⟨O,O,O,O,O,O,trivial⟩) (by exact ⟨O,O,O,O,trivial⟩) (by exact O) (by exact O) (by repeat' (first|refine bS ?_ ?_|rfl|exact bU|exact bT|exact bV O))) ?_
   refine Leads.closeCell hO (flV_len _) O bT bT O O O fun b o v g1 _ hO3 hv=>cA ⟨cs.length-(i+1),by omega,i+1,cells++[v],withBlock H b o,by omega,O,hO3,?_,?_⟩
   ·rw [take_snoc hc,dE,List.map_cons,List.map_nil]
    by_cases hf0:flV c.fs=[]
    ·rw [hf0] at hv ⊢
     obtain ⟨len,cap',arr,fr,rfl,h2,_⟩:=hv
     have e0:len=0:=by rw [dL] at h2;omega
     subst e0
     exact (G.more g1).pushZ _ _
    ·exact G.push g1 hv hf0
   ·rw [rowsZ_snoc hcl hc]
    unfold kcSt
    simp
 ·have e:i=cs.length:=by omega
  subst e
  rw [dC] at *
  (refine aA<|rgN<|klt O O (cK (by omega))<|aB<|aA<|aF O ?_;refine aJ<|aA<|rgN<|kfa O O ?_;refine kl1 O O O<|kmv O<|aT O O (by exact O) (by exact nl2 O O O) dO ?_;refine aM O O O O O O dO ?_;refine aB<|aI ?_)
  refine cB (σ':=⟨[(2,Lp 2)],[(9,some ⟨24,(rowsZ cs cells++[]).map .val,false⟩),(2,some ⟨33,[.val (.int .i64 ver),.slc 9 0 cs.length 3],false⟩)],joinM X H⟩) (by rw [Nat.sub_self];exact Le.of (by exact ⟨rfl,trivial⟩) (by exact ⟨rfl,rfl,trivial⟩) (by exact rfl) (by exact rfl) (by repeat' (first|refine bS ?_ ?_|rfl|exact bU|exact bT|exact bV rfl))) ?_
  refine sc_shut hO G hInb (cA ?_)
  exact ⟨[(1000001,9)],⟨[_],⟨⟨_,_,rfl,rfl,rfl,.inl ⟨AggT.h,rfl⟩⟩,trivial⟩,rfl⟩,(by repeat' (first|exact trivial|refine cM ⟨_,rfl,?_⟩ ?_|refine cM ⟨_,rfl⟩ ?_|rfl|exact bW _ _ _ _|exact bX _ _ _ _|exact bY rfl)),rfl,rfl⟩
theorem eParts_nil_lent (a b:Sc) (p:Pg) (ps:List Pt) (ad1 ad2 pad:Option Addr) (cap1 cap2 pcap:Nat) (ha:CompsIn X ad1 a.cs) (hb:CompsIn X ad2 b.cs) (hP:PartsC X pad ps) (hpc:ps.length≤pcap) (na:NamesIn a.cs) (nb:NamesIn b.cs) (sa:scOk a.cs) (sb:scOk b.cs) (sp:p.rs.length≤30∧∀ r∈p.rs,r.ex.length≤12∧∀ c∈r.ex,c.length≤80) (sl:ps.length≤12∧∀ x∈ps,x.val.length<4611686018427387904) (h:pShape (psE a b p ps) (psA a b p ps)=false):
  MSpec Tryz.prog X 18 [Sx a.ver ad1 a.cs.length cap1,Sx b.ver ad2 b.cs.length cap2,.sv (.agg [.val (.int .i64 p.va),.val (.int .i64 p.vb),.slc 1000000 0 p.rs.length 3]),Lx pad ps.length pcap] [rlB 27 1000000 p.rs] (.tup [.one (.val (.slice none 0 0)),Sn .i64 (psE a b p ps)]) ([rlB 27 1000000 p.rs]++[]):=by
 refine MSpec.lend (by kernel_rfl) O (by exact (by repeat' (first|refine bS ?_ ?_|rfl|exact bU|exact bT|exact bV O))) O O O fun Y us hY hL => ?_
 obtain ⟨u1,us1,rfl,⟨av,rfl,a1,av1,rfl,g1,a2,av2,rfl,g2,rfl⟩,u2,us2,rfl,⟨bv,rfl,b1,bv1,rfl,f1,b2,bv2,rfl,f2,rfl⟩,u3,us3,rfl,⟨cv,rfl,c1,cv1,rfl,d1,c2,cv2,rfl,d2,c3,cv3,rfl,d3,rfl⟩,u4,us4,rfl,h4,rfl⟩:=hL
 have g1:a1 = .int .i64 a.ver:=g1
 have g2:a2 = .slice ad1 a.cs.length cap1:=g2
 have f1:b1 = .int .i64 b.ver:=f1
 have f2:b2 = .slice ad2 b.cs.length cap2:=f2
 have d1:c1 = .int .i64 p.va:=d1
 have d2:c2 = .int .i64 p.vb:=d2
 have h4:u4 = .slice pad ps.length pcap:=h4
 subst g1 g2 f1 f2 d1 d2 h4
 obtain ⟨blk,cap3,rfl,hin⟩:=lent_rl (S:=stOf [rlB 27 1000000 p.rs]) (k:=1000000) rfl d3
 exact eParts_nil Y a b p ps ad1 ad2 (some ⟨blk,0,none⟩) pad cap1 cap2 cap3 pcap (ha.mono hY) (hb.mono hY) hin (hP.mono hY) hpc na nb sa sb sp sl h
theorem eParts_box_lent (a b:Sc) (p:Pg) (ps:List Pt) (ad1 ad2 pad:Option Addr) (cap1 cap2 pcap:Nat) (ha:CompsIn X ad1 a.cs) (hb:CompsIn X ad2 b.cs) (hP:PartsC X pad ps) (hpc:ps.length≤pcap) (na:NamesIn a.cs) (nb:NamesIn b.cs) (sa:scOk a.cs) (sb:scOk b.cs) (sp:p.rs.length≤30∧∀ r∈p.rs,r.ex.length≤12∧∀ c∈r.ex,c.length≤80) (sl:ps.length≤12∧∀ x∈ps,x.val.length<4611686018427387904) (h:pShape (psE a b p ps) (psA a b p ps)=true):
  MSpec Tryz.prog X 18 [Sx a.ver ad1 a.cs.length cap1,Sx b.ver ad2 b.cs.length cap2,.sv (.agg [.val (.int .i64 p.va),.val (.int .i64 p.vb),.slc 1000000 0 p.rs.length 3]),Lx pad ps.length pcap] [rlB 27 1000000 p.rs] (.tup [.one (.slc 1000001 0 (psA a b p ps).length 2),Sn .i64 (psE a b p ps)]) ([rlB 27 1000000 p.rs]++[prtB 1000001 (psA a b p ps)]):=by
 refine MSpec.lend (by kernel_rfl) O (by exact (by repeat' (first|refine bS ?_ ?_|rfl|exact bU|exact bT|exact bV O))) (by exact (by repeat' (first|refine bS ?_ ?_|rfl|exact bU|exact bT|exact bV O))) O O fun Y us hY hL => ?_
 obtain ⟨u1,us1,rfl,⟨av,rfl,a1,av1,rfl,g1,a2,av2,rfl,g2,rfl⟩,u2,us2,rfl,⟨bv,rfl,b1,bv1,rfl,f1,b2,bv2,rfl,f2,rfl⟩,u3,us3,rfl,⟨cv,rfl,c1,cv1,rfl,d1,c2,cv2,rfl,d2,c3,cv3,rfl,d3,rfl⟩,u4,us4,rfl,h4,rfl⟩:=hL
 have g1:a1 = .int .i64 a.ver:=g1
 have g2:a2 = .slice ad1 a.cs.length cap1:=g2
 have f1:b1 = .int .i64 b.ver:=f1
 have f2:b2 = .slice ad2 b.cs.length cap2:=f2
 have d1:c1 = .int .i64 p.va:=d1
 have d2:c2 = .int .i64 p.vb:=d2
 have h4:u4 = .slice pad ps.length pcap:=h4
 subst g1 g2 f1 f2 d1 d2 h4
 obtain ⟨blk,cap3,rfl,hin⟩:=lent_rl (S:=stOf [rlB 27 1000000 p.rs]) (k:=1000000) rfl d3
 exact eParts_box Y a b p ps ad1 ad2 (some ⟨blk,0,none⟩) pad cap1 cap2 cap3 pcap (ha.mono hY) (hb.mono hY) hin (hP.mono hY) hpc na nb sa sb sp sl h
end Go.Proofs.YtopiioklkkiedaaGreatDoor
end
section
namespace Go.Proofs.YtopiioklkkiedaaGreatDoor
open Go Go.Lg Go.Lg.Fml Go.Lg.Fld Go.Lg.Arith
set_option maxRecDepth 100000
theorem wrap_ver {v m:Int} (hv:1≤v∧v≤1073741824):IntKind.i64.wrap (IntKind.i64.wrap (v+1)+IntKind.i64.wrap ((IntKind.u64.wrap m).tmod 100))>v:=by
 have h0:0≤IntKind.u64.wrap m:=(by unfold IntKind.wrap;first|decide|(simp only [IntKind.signed,IntKind.bits];omega)|exact Int.emod_nonneg _ (by decide))
 have h1:0≤(IntKind.u64.wrap m).tmod 100∧(IntKind.u64.wrap m).tmod 100<100:=by
  rw [Int.tmod_eq_emod_of_nonneg h0];omega
 generalize (IntKind.u64.wrap m).tmod 100=z at *
 rw [cE (n:=v+1) (by omega),cE (n:=z) (by omega),cE (by omega)]
 omega
variable (X:Nat→Option Obj)
set_option maxHeartbeats 25600000 in
theorem evalPlain_law (a:Sc) (more:Int) (ps:List Pt) (ad1 pad:Option Addr) (cap1 pcap:Nat) (ha:CompsIn X ad1 a.cs) (hP:PartsC X pad ps) (hpc:ps.length≤pcap) (na:NamesIn a.cs) (sa:scBig a.cs) (hpl:ps.length<4611686018427387904) (hvl:∀ x∈ps,x.val.length<4611686018427387904):
  PSpec Tryz.prog X 7 [Sx a.ver ad1 a.cs.length cap1,Ln .i64 more,Lx pad ps.length pcap] (Lb true):=by
 have hW:=awake14_spec X
 have hCl:=pCloneAny X a.ver ad1 cap1 a.cs ha sa.1 sa.2
 refine cC Tryz.func7 rfl (by kernel_rfl) rfl rfl ?_
 intro C
 (refine aA<|rgN<|aL O O O dO<|kas O<|aB<|aA<|aA<|rgN<|kca O O (hW)<|aV O O dO<|aB<|aF O ?_;refine aH ?_;refine aA<|rgN<|aK O O O dO ?_;refine bE [(1000001,601)] (.sv (.agg [.val (.int .i64 a.ver),.slc 601 0 a.cs.length 3])) [scB 601 a.cs] (hCl) O O (by exact trivial) O O O O O (by exact (.box O O .nil)) dO<|aP O dO ?_;refine aM O O O O O O dO ?_;refine aB<|aA ?_)
 refine LWP.le (σ':=⟨[(1,Ln .i64 more),(2,Lx pad ps.length pcap),(3,Lp 3),(7,Lp 7)],[(7,some ⟨33,[.val (.int .i64 a.ver)] ++ .slc 601 0 a.cs.length 3::[],false⟩),scB 601 a.cs,sxB 3 a.ver ad1 a.cs.length cap1],X⟩) (Le.of (by exact ⟨O,O,O,O,trivial⟩) (by exact ⟨O,O,O,trivial⟩) (by exact O) (by exact O) (by repeat' (first|refine bS ?_ ?_|rfl|exact bU|exact bT|exact bV O))) ?_
 refine LWP.fixCell O O O O O O fun ρ H bc hR hO _ _ => ?_
 have hb0:CompsIn (joinM X H) (some ⟨ρ.1,0,none⟩) a.cs:=scR_in (m:=ρ.2) hR fun b o h=>joinM_in h
 have haY:=ha.mono (Y:=joinM X H) fun b o h=>joinM_has hO h
 replace hP:=hP.mono (Y:=joinM X H) fun b o h=>joinM_has hO h
 generalize (some ⟨ρ.1,0,none⟩:Option Addr)=bad at *
 generalize joinM X H=Y at *
 clear hCl hW hR hO ha
 obtain ⟨b,hbe⟩:∃ b:Sc,b=⟨IntKind.i64.wrap (IntKind.i64.wrap (a.ver+1)+IntKind.i64.wrap ((IntKind.u64.wrap more).tmod 100)),a.cs⟩:=⟨_,rfl⟩
 have hbc:b.cs=a.cs:=by rw [hbe]
 have hbv:b.ver=IntKind.i64.wrap (IntKind.i64.wrap (a.ver+1)+IntKind.i64.wrap ((IntKind.u64.wrap more).tmod 100)):=by rw [hbe]
 (refine rgN<|kfa O O ?_;refine kl1 O O O<|kad O O O<|kmv O<|kcv O (by rfl) ?_;refine K.rem O O (by omega) O dO<|kcv O (by rfl) ?_;refine kad O O hbv.symm<|kfa O O ?_;refine bG O O O O O (nl2 O O O) dO<|aB<|aA<|aA ?_)
 refine LWP.le (σ':=⟨[(2,Lx pad ps.length pcap),(3,Lp 3),(7,Lp 7)],[sxB 7 b.ver bad a.cs.length bc,sxB 3 a.ver ad1 a.cs.length cap1],Y⟩) (Le.of (by exact ⟨O,O,O,trivial⟩) (by exact ⟨O,O,trivial⟩) (by exact O) (by exact O) (by repeat' (first|refine bS ?_ ?_|rfl|exact bU|exact bT|exact bV O))) ?_
 have hb:CompsIn Y bad b.cs:=by rw [hbc];exact hb0
 have hG:=fun z hz=>great14_spec Y a.ver b.ver 0 0 ad1 bad none cap1 bc 0 a.cs a.cs [] haY hb0 RulesIn.nil (fun r hr=>by cases hr) (by have:=sa.1;omega) (by have:=sa.1;omega) (by decide) (fun c hc=>by have:=sa.2 c hc;omega) (fun c hc=>by have:=sa.2 c hc;omega) z hz
 cases hg:grt13 a.cs a.cs [] with
 | true =>
  replace hG:=hG true hg
  (refine rgN<|aK O O O dO ?_;refine aK O O O dO ?_;refine aT O O (by exact O) (by exact nl3 O O O O) dO ?_;refine kca O O hG<|kmv O<|aC O O O<|aC O O O<|aC O O O<|kpt O O<|kmv O<|aC O O O<|aC O O O<|aC O O O<|kpt O O<|kmv O<|aC O O O<|aC O O O ?_;refine aC O O O<|kpt O O<|kmv O<|aC O O O<|aC O O O<|aC O O O<|aC O O O<|kpt O O<|aB<|aE O ?_;refine aA<|rgN<|kas O<|aB<|aI ?_)
  exact ⟨[_],⟨O,trivial⟩,O⟩
 | false =>
 replace hG:=hG false hg
 by_cases h12:12<ps.length
 ·(refine rgN<|aK O O O dO ?_;refine aK O O O dO ?_;refine aT O O (by exact O) (by exact nl3 O O O O) dO ?_;refine kca O O hG<|kmv O<|gmv O O O<|aQ O bZ O (dP O O) ?_;refine aS O O (cL (by omega)) (dP O O) ?_;refine kpf O O<|kmv O<|aC O O O<|aC O O O<|aC O O O<|kpt O O<|kmv O<|aC O O O<|aC O O O<|aC O O O<|kpt O O<|kmv O<|aC O O O<|aC O O O ?_;refine aC O O O<|aC O O O<|kpt O O<|aB<|aE O ?_;refine aA<|rgN<|kas O<|aB<|aI ?_)
  exact ⟨[_],⟨O,trivial⟩,O⟩
 obtain ⟨o1,_,_⟩:=grt13_false hg
 have oa:scOk a.cs:=o1
 have hA:=pCheckBig Y a ad1 cap1 haY (by have:=sa.1;omega) (oa.names na) _ rfl
 have hB:=pCheckBig Y b bad bc hb (by rw [hbc];have:=sa.1;omega) (by rw [hbc];exact oa.names na) _ rfl
 have hQ:=pPartsBig Y a.ver ad1 pad cap1 pcap a.cs ps haY (by have:=sa.1;omega) (fun c hc=>by have:=o1.2 c hc;omega) hP.parts hpl _ rfl
 rw [hbc] at hB
 by_cases ea:chkE a=0
 case neg =>
  generalize chkE a=e at *
  (refine rgN<|aK O O O dO ?_;refine aK O O O dO ?_;refine aT O O (by exact O) (by exact nl3 O O O O) dO ?_;refine kca O O hG<|kmv O<|gmv O O O<|aQ O bZ O (dP O O) ?_;refine aS O O (cK (by omega)) (dP O O) ?_;refine kpf O O<|kmv O<|aK O O O (dP O O) ?_;refine gca O O hA O O<|aX O O (r:=true) (cP ea) (dP O O) ?_;refine kpf O O<|kmv O<|aC O O O<|aC O O O<|aC O O O<|kpt O O<|kmv O<|aC O O O<|aC O O O<|aC O O O<|aC O O O<|kpt O O<|aB<|aE O ?_;refine aA<|rgN<|kas O<|aB<|aI ?_)
  exact ⟨[_],⟨O,trivial⟩,O⟩
 rw [ea] at hA
 by_cases eb:chkE b=0
 case neg =>
  generalize chkE b=e at *
  (refine rgN<|aK O O O dO ?_;refine aK O O O dO ?_;refine aT O O (by exact O) (by exact nl3 O O O O) dO ?_;refine kca O O hG<|kmv O<|gmv O O O<|aQ O bZ O (dP O O) ?_;refine aS O O (cK (by omega)) (dP O O) ?_;refine kpf O O<|kmv O<|aK O O O (dP O O) ?_;refine gca O O hA O O<|aX O O (r:=false) O (dP O O) ?_;refine kpf O O<|kmv O<|aK O O O (dP O O) ?_;refine gca O O hB O O<|aX O O (r:=true) (cP eb) (dP O O) ?_;refine kpf O O<|kmv O<|aC O O O<|aC O O O<|aC O O O<|aC O O O<|kpt O O<|aB<|aE O ?_;refine aA<|rgN<|kas O<|aB<|aI ?_)
  exact ⟨[_],⟨O,trivial⟩,O⟩
 rw [eb] at hB
 by_cases eq:partsE a.cs ps=0
 case neg =>
  generalize partsE a.cs ps=e at *
  (refine rgN<|aK O O O dO ?_;refine aK O O O dO ?_;refine aT O O (by exact O) (by exact nl3 O O O O) dO ?_;refine kca O O hG<|kmv O<|gmv O O O<|aQ O bZ O (dP O O) ?_;refine aS O O (cK (by omega)) (dP O O) ?_;refine kpf O O<|kmv O<|aK O O O (dP O O) ?_;refine gca O O hA O O<|aX O O (r:=false) O (dP O O) ?_;refine kpf O O<|kmv O<|aK O O O (dP O O) ?_;refine gca O O hB O O<|aX O O (r:=false) O (dP O O) ?_;refine kpf O O<|kmv O<|aK O O O (dP O O) ?_;refine gmv O O O<|gca O O hQ O O<|aX O O (r:=true) (cP eq) (dP O O) ?_;refine kpf O O<|aB<|aE O ?_;refine aA<|rgN<|kas O<|aB<|aI ?_)
  exact ⟨[_],⟨O,trivial⟩,O⟩
 rw [eq] at hQ
 have hlt:a.ver<b.ver:=by
  have:=wrap_ver (m:=more) (chkE_good ea).1
  rw [← hbv] at this
  omega
 have kE:=keep_psE hbc ea eb hlt eq
 have kin:=fun x (hx:x∈ps)=>keep_in hbc ea eq hx
 have klen:=keep_len hbc ea eb hlt eq
 have ob:scOk b.cs:=by rw [hbc];exact oa
 have nb:NamesIn b.cs:=by rw [hbc];exact na
 have hpn:=plain_len a b
 have hpz:=plain_sizes (a:=a) (b:=b) (m:=12) ob.2
 have hsp:(plainP a b).rs.length≤30∧∀ r∈(plainP a b).rs,r.ex.length≤12∧∀ c∈r.ex,c.length≤80:=⟨by rw [hpn];exact ob.1,fun r hr=>⟨(hpz r hr).1,fun c hc=>by rw [(hpz r hr).2 c hc];decide⟩⟩
 have hPl:=yPlain Y a b ad1 bad cap1 bc haY hb sa (by rw [hbc];exact sa)
 have hVn:=fun h=>eParts_nil_lent Y a b (plainP a b) ps ad1 bad pad cap1 bc pcap haY hb hP hpc na nb oa ob hsp ⟨by omega,hvl⟩ h
 have hVb:=fun h=>eParts_box_lent Y a b (plainP a b) ps ad1 bad pad cap1 bc pcap haY hb hP hpc na nb oa ob hsp ⟨by omega,hvl⟩ h
 have hzn:=fun (h:pShape (psE a b (plainP a b) ps) (psA a b (plainP a b) ps)=false)=>pShape_nil h
 have l64:=psA_len (a:=a) (b:=b) (p:=plainP a b) (ps:=ps)
 rw [show psA a b (plainP a b) ps=psV a b (plainP a b) ps from if_pos kE] at hVn hVb hzn l64
 rw [kE] at hVn hVb hzn
 rw [hpn] at hVn hVb
 rw [show (plainP a b).va=a.ver from rfl,show (plainP a b).vb=b.ver from rfl] at hVn hVb
 rw [hbc] at hVn hVb hPl
 generalize psV a b (plainP a b) ps=L at *
 (refine rgN<|aK O O O dO ?_;refine aK O O O dO ?_;refine aT O O (by exact O) (by exact nl3 O O O O) dO ?_;refine kca O O hG<|kmv O<|gmv O O O<|aQ O bZ O (dP O O) ?_;refine aS O O (cK (by omega)) (dP O O) ?_;refine kpf O O<|kmv O<|aK O O O (dP O O) ?_;refine gca O O hA O O<|aX O O (r:=false) O (dP O O) ?_;refine kpf O O<|kmv O<|aK O O O (dP O O) ?_;refine gca O O hB O O<|aX O O (r:=false) O (dP O O) ?_;refine kpf O O<|kmv O<|aK O O O (dP O O) ?_;refine gmv O O O<|gca O O hQ O O<|aX O O (r:=false) O (dP O O) ?_;refine kpf O O<|aB<|aF O ?_;refine aH ?_;refine aA ?_)
 clear hA hB hQ hG
 repeat refine aA ?_
 refine LWP.meetL (fun σ=>∃ (Z:Nat→Option Obj) (lad:Option Addr) (lc:Nat),(∀ b o,Y b=some o→Z b=some o)∧PartsIn Z lad L∧σ=⟨[(8,Lx lad L.length lc),(2,Lx pad ps.length pcap),(9,Ln .i64 0)],[],Z⟩) ?_ ?_
 ·cases hsh:pShape 0 L with
  | false =>
   have hV:=hVn hsh
   rw [hzn hsh]
   (refine rgD mixed<|aK O O O dO ?_;refine aK O O O dO ?_;refine aK O O O dO ?_;refine aK O O O dO ?_;refine bE [(1000001,601)] (.sv (.agg [.val (.int .i64 a.ver),.val (.int .i64 b.ver),.slc 601 0 a.cs.length 3])) [rlB 27 601 (plainP a b).rs] (hPl) O O (by exact trivial) O O O O O (by exact (.box O O .nil)) dO<|kmv O<|aU [(1000000,601)] [rlB 27 601 (plainP a b).rs] (hV) O O (by exact (cM ⟨_,O,O⟩ trivial)) (by exact (bS O O)) O O O O (by exact (.box O O .nil)) dO<|kmv O<|kex O O<|kex O O<|kas O<|kas O<|aB<|rgA ?_)
   exact Leads.here (σ':=⟨[(8,Lx none 0 0),(2,Lx pad ps.length pcap),(9,Ln .i64 0)],[],Y⟩) (Le.of (by exact ⟨O,O,O,trivial⟩) (by exact trivial) (by exact O) (by exact O) (by repeat' (first|refine bS ?_ ?_|rfl|exact bU|exact bT|exact bV O))) ⟨Y,none,0,fun _ _ h=>h,prts_nil,O⟩
  | true =>
   have hV:=hVb hsh
   (refine rgD mixed<|aK O O O dO ?_;refine aK O O O dO ?_;refine aK O O O dO ?_;refine aK O O O dO ?_;refine bE [(1000001,601)] (.sv (.agg [.val (.int .i64 a.ver),.val (.int .i64 b.ver),.slc 601 0 a.cs.length 3])) [rlB 27 601 (plainP a b).rs] (hPl) O O (by exact trivial) O O O O O (by exact (.box O O .nil)) dO<|kmv O<|bE [(1000000,601),(1000001,701)] (.tup [.one (.slc 701 0 L.length 2),Sn .i64 0]) [rlB 27 601 (plainP a b).rs,prtB 701 L] (hV) O O (by exact (cM ⟨_,O,O⟩ trivial)) (by exact (bS O O)) O O O O (by exact (.box O O (.box O O .nil))) dO<|kmv O<|kex O O<|kex O O<|kas O<|kas O<|aB<|rgA ?_)
   refine cB (σ':=⟨[(8,.sv (.one (.slc 701 0 L.length 2))),(2,Lx pad ps.length pcap),(9,Ln .i64 0)],[prtB 701 L],Y⟩) (Le.of (by exact ⟨O,O,O,trivial⟩) (by exact ⟨O,trivial⟩) (by exact O) (by exact O) (by repeat' (first|refine bS ?_ ?_|rfl|exact bU|exact bT|exact bV O))) ?_
   refine Leads.fixRes O O O fun ρ H lc hR hO _ _ => ?_
   exact cA ⟨joinM Y H,some ⟨ρ.1,0,none⟩,lc,fun _ _ h=>joinM_has hO h,prts_mono (fun b o h=>joinM_in h) hR.2,O⟩
 rintro σ ⟨Z,lad,lc,hZ,hL,rfl⟩
 clear hVn hVb hzn hPl
 have hPZ:=hP.mono hZ
 (refine aA<|aA<|rgN<|kmv O<|kne O O (r:=false) O<|kmv O<|gmv O O O<|aQ O bZ O (dP O O) ?_;refine gmv O O O<|aQ O bZ O (dP O O) ?_;refine aX O O (r:=false) (by rw [klen];simp) (dP O O) ?_;refine kpf O O<|aB<|aF O ?_;refine aH ?_;refine aA<|aA<|rgN<|kas O<|aB<|aG ?_)
 refine cG (fun m σ=>∃ i:Nat,i≤ps.length∧m=ps.length-i∧σ=⟨[(8,Lx lad L.length lc),(2,Lx pad ps.length pcap),(10,Ln .i64 (i:Nat))],[],Z⟩) ps.length
  ⟨_,Le.of (by exact ⟨rfl,rfl,rfl,trivial⟩) (by exact trivial) (by exact rfl) (by exact rfl) (by repeat' (first|refine bS ?_ ?_|rfl|exact bU|exact bT|exact bV rfl)),0,by omega,by omega,rfl⟩ ?_
 rintro m σ ⟨i,hi,rfl,rfl⟩
 by_cases hil:i<ps.length
 case neg =>
  (refine aA<|aA<|rgN<|kmv O<|kmv O<|aQ O bZ O dO ?_;refine klt O O (cK (by omega))<|aB<|aF O ?_;refine aJ<|aA<|rgN<|kas O<|aB<|aI ?_)
  exact ⟨[_],⟨O,trivial⟩,O⟩
 obtain ⟨q,hq⟩:∃ q,ps[i]? = some q:=⟨_,cU hil⟩
 have hqL:=found_mem (kin q (cZ hq))
 have hadk:IntKind.i64.wrap ((i:Int)+1)=((i+1:Nat):Int):=by rw [cE (by omega)];omega
 obtain ⟨bk2,of2,ar2,el2,fr2,vd2,vc2,rfl,hX2,hz2,_,g21,g22,hN2,_⟩:=hPZ.get hq
 have hio2:of2+Int.toNat (i:Int)*2=of2+i*2:=by simp
 (refine aA<|aA<|rgN<|kmv O<|kmv O<|aQ O bZ O dO ?_;refine klt O O (cL (by omega))<|aB<|aE O ?_;refine aH ?_;refine aA<|aG<|aA<|rgN<|kas O<|aB<|aA<|aA<|rgN<|kas O<|aB<|aG ?_)
 refine cG (fun m σ=>∃ (j:Nat) (f:Bool),j≤L.length∧m=L.length-j∧foundB (L.take j) q=f∧σ=⟨[(8,Lx lad L.length lc),(2,Lx (some ⟨bk2,of2,none⟩) ps.length pcap),(10,Ln .i64 (i:Nat)),(11,Lb f),(12,Ln .i64 (j:Nat))],[],Z⟩) L.length
  ⟨_,Le.of (by exact ⟨rfl,rfl,rfl,rfl,rfl,trivial⟩) (by exact trivial) (by exact rfl) (by exact rfl) (by repeat' (first|refine bS ?_ ?_|rfl|exact bU|exact bT|exact bV rfl)),0,false,by omega,by omega,rfl,rfl⟩ ?_
 rintro m σ ⟨j,f,hj,rfl,hf,rfl⟩
 by_cases hjl:j<L.length
 case neg =>
  have e:j=L.length:=by omega
  subst e
  rw [dC,hqL] at hf
  subst hf
  (refine aA<|aA<|rgN<|kmv O<|kmv O<|aQ O bZ O dO ?_;refine klt O O (cK (by omega))<|aB<|aF O ?_;refine aJ<|aA<|rgN<|kmv O<|aV O O dO<|aB<|aF O ?_;refine aH ?_;refine rgN<|kmv O<|kad O O hadk<|kas O<|aB ?_)
  exact ⟨_,_,by omega,Le.of (by exact ⟨O,O,O,trivial⟩) (by exact trivial) (by exact O) (by exact O) (by repeat' (first|refine bS ?_ ?_|rfl|exact bU|exact bT|exact bV O)),i+1,by omega,O,O⟩
 obtain ⟨y,hy⟩:∃ y,L[j]? = some y:=⟨_,cU hjl⟩
 have hsn:=found_snoc (m:=q) hy
 have hadj:IntKind.i64.wrap ((j:Int)+1)=((j+1:Nat):Int):=by rw [cE (by omega)];omega
 cases f with
 | true =>
  (refine aA<|aA<|rgN<|kmv O<|kmv O<|aQ O bZ O dO ?_;refine klt O O (cL (by omega))<|aB<|aE O ?_;refine aH ?_;refine aA<|aG<|rgD mixed<|kmv O<|kmv O<|aC O O O<|aC O O O<|aC O O O<|aC O O O<|aC O O O<|aC O O O<|aC O O O<|aC O O O<|aC O O O ?_;refine aC O O O<|aC O O O<|aC O O O<|aD O O<|aD O O<|aD O O<|aD O O<|aD O O<|aD O O<|aD O O<|aD O O<|aD O O<|aD O O<|aD O O ?_;refine aC O O O<|kpt O O<|kas O<|aB<|rgA ?_;refine rgN<|kmv O<|kad O O hadj<|kas O<|aB ?_)
  exact ⟨_,_,by omega,Le.of (by exact ⟨rfl,rfl,rfl,rfl,rfl,trivial⟩) (by exact trivial) (by exact rfl) (by exact rfl) (by repeat' (first|refine bS ?_ ?_|rfl|exact bU|exact bT|exact bV rfl)),j+1,true,by omega,rfl,by rw [hsn,hf];rfl,rfl⟩
 | false =>
 have hyl:=l64 y (cZ hy)
 obtain ⟨bk1,of1,ar1,el1,fr1,vd1,vc1,rfl,hX1,hz1',_,g11,g12,hN1⟩:=hL.get hy
 have hio1:of1+Int.toNat (j:Int)*2=of1+j*2:=by simp
 by_cases hc:y.comp=q.comp
 case neg =>
  (refine aA<|aA<|rgN<|kmv O<|kmv O<|aQ O bZ O dO ?_;refine klt O O (cL (by omega))<|aB<|aE O ?_;refine aH ?_;refine aA<|aG<|rgD mixed<|kmv O<|kmv O<|gmv O O O<|gmv O O O<|aR O O bZ (by omega) hio1 (dP O O) ?_;refine bH O O (dP O O) ?_;refine aW O hX1 O g11 (dP O O) ?_;refine gmv O O O<|gmv O O O<|aR O O bZ (by omega) hio2 (dP O O) ?_;refine bH O O (dP O O) ?_;refine aW O hX2 O g21 (dP O O) ?_;refine bC O O (r:=false) (cN hc) (dP O O) ?_;refine gmv O O O<|aC O O O<|aC O O O<|aC O O O<|aC O O O<|aC O O O<|aC O O O<|aC O O O<|aC O O O<|aC O O O<|aC O O O<|aC O O O<|bO O O (dP O O) ?_;refine kpf O O<|kas O<|aB<|rgA ?_;refine rgN<|kmv O<|kad O O hadj<|kas O<|aB ?_)
  exact ⟨_,_,by omega,Le.of (by exact ⟨rfl,rfl,rfl,rfl,rfl,trivial⟩) (by exact trivial) (by exact rfl) (by exact rfl) (by repeat' (first|refine bS ?_ ?_|rfl|exact bU|exact bT|exact bV rfl)),j+1,false,by omega,rfl,by rw [hsn,hf,cK hc];rfl,rfl⟩
 have hS:=values14 Z y.val q.val vd1 vd2 vc1 vc2 hN1 hN2 (by omega) _ rfl
 rw [hf,cL hc,Bool.false_or,Bool.true_and] at hsn
 generalize decide (y.val=q.val)=rr at *
 (refine aA<|aA<|rgN<|kmv O<|kmv O<|aQ O bZ O dO ?_;refine klt O O (cL (by omega))<|aB<|aE O ?_;refine aH ?_;refine aA<|aG<|rgD mixed<|kmv O<|kmv O<|gmv O O O<|gmv O O O<|aR O O bZ (by omega) hio1 (dP O O) ?_;refine bH O O (dP O O) ?_;refine aW O hX1 O g11 (dP O O) ?_;refine gmv O O O<|gmv O O O<|aR O O bZ (by omega) hio2 (dP O O) ?_;refine bH O O (dP O O) ?_;refine aW O hX2 O g21 (dP O O) ?_;refine bC O O (r:=true) (cR hc) (dP O O) ?_;refine gmv O O O<|gmv O O O<|gmv O O O<|aR O O bZ (by omega) hio1 (dP O O) ?_;refine bH O O (dP O O) ?_;refine aW O hX1 O g12 (dP O O) ?_;refine gmv O O O<|gmv O O O<|aR O O bZ (by omega) hio2 (dP O O) ?_;refine bH O O (dP O O) ?_;refine aW O hX2 O g22 (dP O O) ?_;refine gca O O hS O O<|bF O O (dP O O) ?_;refine kpf O O<|kas O<|aB<|rgA ?_;refine rgN<|kmv O<|kad O O hadj<|kas O<|aB ?_)
 exact ⟨_,_,by omega,Le.of (by exact ⟨O,O,O,O,O,trivial⟩) (by exact trivial) (by exact O) (by exact O) (by repeat' (first|refine bS ?_ ?_|rfl|exact bU|exact bT|exact bV O)),j+1,rr,by omega,O,hsn,O⟩
end Go.Proofs.YtopiioklkkiedaaGreatDoor
end
