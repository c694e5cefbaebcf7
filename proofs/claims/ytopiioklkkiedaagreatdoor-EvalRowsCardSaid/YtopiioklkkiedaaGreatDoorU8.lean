/- A piece of a proof over this program: contracts of its functions, and a logic to prove them by. -/
import Derived.Test.YtopiioklkkiedaaGreatDoorU3
import Derived.Test.YtopiioklkkiedaaGreatDoorU4
import Derived.Test.YtopiioklkkiedaaGreatDoorU5
import Derived.Test.YtopiioklkkiedaaGreatDoorU6
import Derived.Test.YtopiioklkkiedaaGreatDoorU7
section
set_option maxHeartbeats 12800000
set_option maxRecDepth 100000
namespace Go.Proofs.YtopiioklkkiedaaGreatDoor
open Go Go.Lg Go.Lg.Fml Go.Lg.Fld Go.Lg.Arith
set_option maxRecDepth 100000
variable (X:Nat→Option Obj)
theorem eVal_nil (a b:Cp) (r:Rl) (ns:List Nm) (aad bad ead vad:Option Addr) (acap bcap ecap vcap:Nat) (hA:FieldsIn X aad a.fs) (hac:a.fs.length≤acap) (hB:FieldsIn X bad b.fs) (hE:CodesIn X ead r.ex) (hN:NumsIn X vad ns) (hvc:ns.length≤vcap) (la:a.fs.length≤12) (lb:b.fs.length≤12) (lr:r.ex.length≤12∧∀ c∈r.ex,c.length≤80) (ln:ns.length<4611686018427387904) (h:vShape (valE a.fs b.fs r ns) (valA a.fs b.fs r ns)=false):
  MSpec Tryz.prog X 12 [Cx a aad acap,Cx b bad bcap,LPg r.nw r.old ead r.ex.length ecap,Lx vad ns.length vcap] [] (.tup [.one (.val (.slice none 0 0)),Sn .i64 (valE a.fs b.fs r ns)]) []:=
 eVal_nil' X a b r ns aad bad ead vad acap bcap ecap vcap hA hac hB hE hN hvc la lb lr ln fun e=>by
  unfold vShape at h
  rw [e] at h
  cases h
theorem eVal_box (a b:Cp) (r:Rl) (ns:List Nm) (aad bad ead vad:Option Addr) (acap bcap ecap vcap:Nat) (hA:FieldsIn X aad a.fs) (hac:a.fs.length≤acap) (hB:FieldsIn X bad b.fs) (hE:CodesIn X ead r.ex) (hN:NumsIn X vad ns) (hvc:ns.length≤vcap) (la:a.fs.length≤12) (lb:b.fs.length≤12) (lr:r.ex.length≤12∧∀ c∈r.ex,c.length≤80) (ln:ns.length<4611686018427387904) (h:vShape (valE a.fs b.fs r ns) (valA a.fs b.fs r ns)=true):
  MSpec Tryz.prog X 12 [Cx a aad acap,Cx b bad bcap,LPg r.nw r.old ead r.ex.length ecap,Lx vad ns.length vcap] [] (.tup [.one (.slc 1000001 0 (valA a.fs b.fs r ns).length 3),Sn .i64 (valE a.fs b.fs r ns)]) [nmsB 1000001 (valA a.fs b.fs r ns) (vRow (valA a.fs b.fs r ns))]:=by
 have e:valE a.fs b.fs r ns=0:=by
  unfold vShape at h
  exact beq_iff_eq.1 h
 rw [show valA a.fs b.fs r ns=valN a.fs b.fs r ns from if_pos e,e]
 exact eVal_box' X a b r ns aad bad ead vad acap bcap ecap vcap hA hac hB hE hN hvc la lb lr ln e
theorem eRow (a b:Cp) (r:Rl) (s:List UInt8) (aad bad ead:Option Addr) (acap bcap ecap:Nat) (hA:FieldsIn X aad a.fs) (hac:a.fs.length≤acap) (hB:FieldsIn X bad b.fs) (hE:CodesIn X ead r.ex) (la:a.fs.length≤12) (lb:b.fs.length≤12) (lr:r.ex.length≤12∧∀ c∈r.ex,c.length≤80) (ls:s.length≤1000):
  PSpec Tryz.prog X 15 [Cx a aad acap,Cx b bad bcap,LPg r.nw r.old ead r.ex.length ecap,Ls s] (.tup [Ss (rowN a.fs b.fs r s),Sn .i64 (rowE a.fs b.fs r s)]):=
 eRow' X a b r s aad bad ead acap bcap ecap hA hac hB hE la lb lr
theorem eSig (va vb:Int) (rs:List Rl) (ad:Option Addr) (cap s:Nat) (hp:RulesIn X ad rs) (hl:rs.length<4611686018427387904) (hs:s<4294967296):
  PSpec Tryz.prog X 20 [LPg va vb ad rs.length cap,Ln .u32 (s:Nat)] (Ln .u32 (sigN rs s:Nat)):=
 eSig' X va vb rs ad cap s hp hl hs
end Go.Proofs.YtopiioklkkiedaaGreatDoor
end
section
set_option maxHeartbeats 12800000
set_option maxRecDepth 100000
namespace Go.Lg.Fld
open Go Go.Lg
theorem comps_lit {Y:Nat→Option Obj} {blk:Nat} {arr:Array Value} {el:TypeId} {fr:Nat×Nat} {cs:List Cp} {cells sp:List Value} (hY:Y blk=some (.cells arr el fr)) (ha:arr.toList=rowsZ cs cells++sp) (hl:cells.length=cs.length) (hb:∀ c∈cs,-9223372036854775808≤c.id∧c.id<9223372036854775808)
  (hf:∀ (i:Nat) (c:Cp) (v:Value),cs[i]? = some c→cells[i]? = some v→∃ fad fcap,v = .slice fad c.fs.length fcap∧FieldsIn Y fad c.fs):CompsIn Y (some ⟨blk,0,none⟩) cs:=by
 refine ⟨fun i c hc => ?_,hb⟩
 have hi:=(wl hc)
 obtain ⟨v,hv⟩:∃ v,cells[i]? = some v:=wg y3
 obtain ⟨fad,fcap,rfl,hF⟩:=hf i c v hc hv
 have hpre:(rowsZ (cs.take i) (cells.take i)).length=i*3:=by rw [rowsZ_len (by rw [cW,cW,hl]),cW,Nat.min_eq_left y3]
 refine ⟨blk,0,arr,el,fr,fad,fcap,O,hY,?_,?_,hF⟩
 ·rw [← Array.length_toList,ha,cS,rowsZ_len hl];omega
 ·rw [ha,rowsZ_split hc hv,Nat.zero_add,dJ,← hpre,List.drop_left];rfl
end Go.Lg.Fld
namespace Go.Proofs.YtopiioklkkiedaaGreatDoor
open Go Go.Lg Go.Lg.Fml Go.Lg.Fld Go.Lg.Arith
set_option maxRecDepth 100000
variable (X:Nat→Option Obj)
end Go.Proofs.YtopiioklkkiedaaGreatDoor
end
section
set_option maxHeartbeats 12800000
set_option maxRecDepth 100000
namespace Go.Proofs.YtopiioklkkiedaaGreatDoor
open Go Go.Lg Go.Lg.Fml Go.Lg.Fld Go.Lg.Arith
set_option maxRecDepth 100000
def IntsI (X:Nat→Option Obj) (ad:Option Addr) (l:List Int):Prop:=Go.Lg.RowsIn X ad 1 (l.map fun n=>[.int .i64 n])
variable (X:Nat→Option Obj)
end Go.Proofs.YtopiioklkkiedaaGreatDoor
end
section
set_option maxHeartbeats 12800000
set_option maxRecDepth 100000
namespace Go.Proofs.YtopiioklkkiedaaGreatDoor
open Go Go.Lg Go.Lg.Fml Go.Lg.Fld Go.Lg.Arith
set_option maxRecDepth 100000
theorem cd_shut2 {n:Nat} {C:Ctx} {X:Nat→Option Obj} {s:List (Nat×LV)} {bx:List (Nat×Option Box)} {k:Nat} {Mid:St→Prop} {t:TypeId} {cs:List (List Ins)} {H:Nat→Option Obj} {vs sp:List Value} (hO:OwnedM C X H) (G:FormsH H vs cs)
  (h:Leads n C Mid ⟨s,(k,some ⟨0,[],.res (cdR t cs)⟩)::bx,X⟩):Leads n C Mid ⟨s,(k,some ⟨t,(vs++sp).map .val,false⟩)::bx,joinM X H⟩:=by
 refine Leads.closeRes (vals:=vs++sp) hO (fun ρ fr h1 h2 h3 => ?_) h
 refine ⟨⟨_,fr,cJ _ _ _,by rw [h3];simp⟩,?_⟩
 exact forms_block (sp:=sp) (cJ _ _ _) y21 (G.mono (cF h1))
variable (X:Nat→Option Obj)
end Go.Proofs.YtopiioklkkiedaaGreatDoor
end
section
set_option maxHeartbeats 12800000
set_option maxRecDepth 100000
namespace Go.Proofs.YtopiioklkkiedaaGreatDoor
open Go Go.Lg Go.Lg.Fml Go.Lg.Fld Go.Lg.Arith
set_option maxRecDepth 100000
variable (X:Nat→Option Obj)
set_option maxHeartbeats 6400000 in
theorem great14_spec (v1 v2 va vb:Int) (ad1 ad2 ad:Option Addr) (cap1 cap2 cap:Nat) (az bz:List Cp) (rs:List Rl) (h1:CompsIn X ad1 az) (h2:CompsIn X ad2 bz) (hin:RulesIn X ad rs) (hsz:sizeB rs)
  (hl1:az.length<4611686018427387904) (hl2:bz.length<4611686018427387904) (hbig:rs.length<4611686018427387904) (hf1:∀ c∈az,c.fs.length<9223372036854775808) (hf2:∀ c∈bz,c.fs.length<9223372036854775808) (r:Bool) (hr:grt13 az bz rs=r):
  PSpec Tryz.prog X 10 [Sx v1 ad1 az.length cap1,Sx v2 ad2 bz.length cap2,LPg va vb ad rs.length cap] (Lb r):=by
 subst hr
 refine cC Tryz.func10 rfl y5 rfl rfl ?_
 intro C
 unfold grt13 grtN
 by_cases c1:30<az.length
 ·rw [cL c1]
  simp only [Bool.true_or]
  (refine aA<|rgN<|aL O O O dO<|aL O O O dO<|aL O O O dO<|kas O<|aB<|aA<|aA<|rgN<|kfa O O ?_;refine kl1 O O O<|aQ O bZ O dO ?_;refine aS O O (cL y3) dO<|kmv O<|aC O O O<|aC O O O<|aC O O O<|aC O O O<|kpt O O<|kmv O<|aC O O O<|aC O O O<|aC O O O<|aC O O O<|kpt O O<|aB ?_;refine aE O ?_;refine aA<|rgN<|kas O<|aB<|aI ?_)
  exact y6
 by_cases c2:30<bz.length
 ·rw [cL c2]
  simp only [Bool.true_or,Bool.or_true]
  (refine aA<|rgN<|aL O O O dO<|aL O O O dO<|aL O O O dO<|kas O<|aB<|aA<|aA<|rgN<|kfa O O ?_;refine kl1 O O O<|aQ O bZ O dO ?_;refine aS O O (cK y3) dO<|kmv O<|aN O O (dP O O) ?_;refine aO O O O (dP O O) ?_;refine aQ O bZ O (dP O O) ?_;refine aS O O (cL y3) (dP O O) ?_;refine kpf O O<|kmv O<|aC O O O<|aC O O O<|aC O O O<|aC O O O<|kpt O O<|aB<|aE O ?_;refine aA<|rgN<|kas O<|aB<|aI ?_)
  exact y6
 by_cases c3:30<rs.length
 ·rw [cL c3]
  simp only [Bool.true_or,Bool.or_true]
  (refine aA<|rgN<|aL O O O dO<|aL O O O dO<|aL O O O dO<|kas O<|aB<|aA<|aA<|rgN<|kfa O O ?_;refine kl1 O O O<|aQ O bZ O dO ?_;refine aS O O (cK y3) dO<|kmv O<|aN O O (dP O O) ?_;refine aO O O O (dP O O) ?_;refine aQ O bZ O (dP O O) ?_;refine aS O O (cK y3) (dP O O) ?_;refine kpf O O<|kmv O<|aN O O (dP O O) ?_;refine aO O O O (dP O O) ?_;refine aQ O bZ O (dP O O) ?_;refine aS O O (cL y3) (dP O O) ?_;refine kpf O O<|aB<|aE O ?_;refine aA<|rgN<|kas O<|aB<|aI ?_)
  exact y6
 rw [cK c1,cK c2,cK c3]
 simp only [Bool.false_or]
 (refine aA<|rgN<|aL O O O dO<|aL O O O dO<|aL O O O dO<|kas O<|aB<|aA<|aA<|rgN<|kfa O O ?_;refine kl1 O O O<|aQ O bZ O dO ?_;refine aS O O (cK y3) dO<|kmv O<|aN O O (dP O O) ?_;refine aO O O O (dP O O) ?_;refine aQ O bZ O (dP O O) ?_;refine aS O O (cK y3) (dP O O) ?_;refine kpf O O<|kmv O<|aN O O (dP O O) ?_;refine aO O O O (dP O O) ?_;refine aQ O bZ O (dP O O) ?_;refine aS O O (cK y3) (dP O O) ?_;refine kpf O O<|aB<|aF O ?_;refine aH ?_;refine aA<|aA<|rgN<|kas O<|aB<|aG ?_)
 refine cG (fun m σ=>∃ i:Nat,i≤az.length∧m=az.length-i∧(az.take i).any grtF=false∧σ=⟨[(3,Lp 3),(4,Lp 4),(5,Lp 5),(7,Ln .i64 (i:Nat))],[v3B 36 5 va vb ad rs.length cap,sxB 4 v2 ad2 bz.length cap2,sxB 3 v1 ad1 az.length cap1],X⟩) az.length
  ⟨_,Le.of y8 y9 y2 y2 y0,0,by omega,by omega,rfl,rfl⟩ ?_
 rintro m σ ⟨i,hi,rfl,hany,rfl⟩
 by_cases hlt:i<az.length
 case pos =>
  obtain ⟨c,hc⟩:=wg hlt
  obtain ⟨blk,off,arr,el,fr,fad,fcap,rfl,hX,hsiz,hcs,g1,g2,g3,hF⟩:=h1.get hc
  have hio:=wo off i 3
  have hcl:=hf1 c (cZ hc)
  by_cases h12:12<c.fs.length
  ·rw [show az.any grtF=true from any_yes hc (cL h12)]
   simp only [Bool.true_or,Bool.or_true]
   (refine aA<|aA<|rgN<|kmv O<|kfa O O ?_;refine kl1 O O O<|aQ O bZ O dO ?_;refine klt O O (cL y3)<|aB<|aE O ?_;refine aH ?_;refine aA<|aG<|aA<|rgN<|kfa O O ?_;refine kl1 O O O<|kmv O<|aR O O bZ y3 hio dO<|bH O O dO ?_;refine aW O hX O g3 dO<|aQ O bZ O dO ?_;refine aS O O (cL y3) dO<|aB<|aE O ?_;refine aA<|rgN<|kas O<|aB<|aI ?_)
   exact y6
  ·have hadd:IntKind.i64.wrap ((i:Int)+1)=((i+1:Nat):Int):=by rw [cE y3];omega
   (refine aA<|aA<|rgN<|kmv O<|kfa O O ?_;refine kl1 O O O<|aQ O bZ O dO ?_;refine klt O O (cL y3)<|aB<|aE O ?_;refine aH ?_;refine aA<|aG<|aA<|rgN<|kfa O O ?_;refine kl1 O O O<|kmv O<|aR O O bZ y3 hio dO<|bH O O dO ?_;refine aW O hX O g3 dO<|aQ O bZ O dO ?_;refine aS O O (cK y3) dO<|aB<|aF O ?_;refine aH ?_;refine rgN<|kmv O<|kad O O hadd<|kas O<|aB ?_)
   exact ⟨_,_,by omega,Le.of y8 y9 y2 y2 y0,i+1,by omega,O,any_next hc hany (cK h12),O⟩
 have e:i=az.length:=by omega
 subst e
 rw [dC] at hany
 rw [hany,Bool.false_or]
 clear hany hi hlt
 (refine aA<|aA<|rgN<|kmv O<|kfa O O ?_;refine kl1 O O O<|aQ O bZ O dO ?_;refine klt O O (cK y3)<|aB<|aF O ?_;refine aJ<|aA<|aA<|rgN<|kas O<|aB<|aG ?_)
 refine cG (fun m σ=>∃ i:Nat,i≤bz.length∧m=bz.length-i∧(bz.take i).any grtF=false∧σ=⟨[(3,Lp 3),(4,Lp 4),(5,Lp 5),(8,Ln .i64 (i:Nat))],[v3B 36 5 va vb ad rs.length cap,sxB 4 v2 ad2 bz.length cap2,sxB 3 v1 ad1 az.length cap1],X⟩) bz.length
  ⟨_,Le.of y8 y9 y2 y2 y0,0,by omega,by omega,rfl,rfl⟩ ?_
 rintro m σ ⟨i,hi,rfl,hany,rfl⟩
 by_cases hlt:i<bz.length
 case pos =>
  obtain ⟨c,hc⟩:=wg hlt
  obtain ⟨blk,off,arr,el,fr,fad,fcap,rfl,hX,hsiz,hcs,g1,g2,g3,hF⟩:=h2.get hc
  have hio:=wo off i 3
  have hcl:=hf2 c (cZ hc)
  by_cases h12:12<c.fs.length
  ·rw [show bz.any grtF=true from any_yes hc (cL h12)]
   simp only [Bool.true_or,Bool.or_true]
   (refine aA<|aA<|rgN<|kmv O<|kfa O O ?_;refine kl1 O O O<|aQ O bZ O dO ?_;refine klt O O (cL y3)<|aB<|aE O ?_;refine aH ?_;refine aA<|aG<|aA<|rgN<|kfa O O ?_;refine kl1 O O O<|kmv O<|aR O O bZ y3 hio dO<|bH O O dO ?_;refine aW O hX O g3 dO<|aQ O bZ O dO ?_;refine aS O O (cL y3) dO<|aB<|aE O ?_;refine aA<|rgN<|kas O<|aB<|aI ?_)
   exact y6
  ·have hadd:IntKind.i64.wrap ((i:Int)+1)=((i+1:Nat):Int):=by rw [cE y3];omega
   (refine aA<|aA<|rgN<|kmv O<|kfa O O ?_;refine kl1 O O O<|aQ O bZ O dO ?_;refine klt O O (cL y3)<|aB<|aE O ?_;refine aH ?_;refine aA<|aG<|aA<|rgN<|kfa O O ?_;refine kl1 O O O<|kmv O<|aR O O bZ y3 hio dO<|bH O O dO ?_;refine aW O hX O g3 dO<|aQ O bZ O dO ?_;refine aS O O (cK y3) dO<|aB<|aF O ?_;refine aH ?_;refine rgN<|kmv O<|kad O O hadd<|kas O<|aB ?_)
   exact ⟨_,_,by omega,Le.of y8 y9 y2 y2 y0,i+1,by omega,O,any_next hc hany (cK h12),O⟩
 have e:i=bz.length:=by omega
 subst e
 rw [dC] at hany
 rw [hany,Bool.false_or]
 clear hany hi hlt
 (refine aA<|aA<|rgN<|kmv O<|kfa O O ?_;refine kl1 O O O<|aQ O bZ O dO ?_;refine klt O O (cK y3)<|aB<|aF O ?_;refine aJ<|aA<|aA<|rgN<|kas O<|aB<|aG ?_)
 refine cG (fun m σ=>∃ i:Nat,i≤rs.length∧m=rs.length-i∧(rs.take i).any grtR=false∧σ=⟨[(3,Lp 3),(4,Lp 4),(5,Lp 5),(9,Ln .i64 (i:Nat))],[v3B 36 5 va vb ad rs.length cap,sxB 4 v2 ad2 bz.length cap2,sxB 3 v1 ad1 az.length cap1],X⟩) rs.length
  ⟨_,Le.of y8 y9 y2 y2 y0,0,by omega,by omega,rfl,rfl⟩ ?_
 rintro m σ ⟨i,hi,rfl,hany,rfl⟩
 by_cases hlt:i<rs.length
 case neg =>
  have e:i=rs.length:=by omega
  subst e
  rw [dC] at hany
  rw [hany]
  (refine aA<|aA<|rgN<|kmv O<|kfa O O ?_;refine kl1 O O O<|aQ O bZ O dO ?_;refine klt O O (cK y3)<|aB<|aF O ?_;refine aJ<|aA<|rgN<|kas O<|aB<|aI ?_)
  exact y6
 obtain ⟨r,hr⟩:=wg hlt
 obtain ⟨blk,off,arr,el,fr,ead,ecap,rfl,hX,hsiz,hcs,g1,g2,g3,hE⟩:=hin.get hr
 have hio:=wo off i 3
 obtain ⟨hel,hcl⟩:=hsz r (cZ hr)
 have hyes:grtR r=true→rs.any grtR=true:=any_yes hr
 by_cases h12:12<r.ex.length
 ·rw [hyes (by unfold grtR;rw [cL h12];rfl)]
  (refine aA<|aA<|rgN<|kmv O<|kfa O O ?_;refine kl1 O O O<|aQ O bZ O dO ?_;refine klt O O (cL y3)<|aB<|aE O ?_;refine aH ?_;refine aA<|aG<|aA<|aA<|rgN<|kfa O O ?_;refine kl1 O O O<|kmv O<|aR O O bZ y3 hio dO<|bH O O dO ?_;refine aW O hX O g3 dO<|aQ O bZ O dO ?_;refine aS O O (cL y3) dO<|aB<|aE O ?_;refine aA<|rgN<|kas O<|aB<|aI ?_)
  exact y6
 (refine aA<|aA<|rgN<|kmv O<|kfa O O ?_;refine kl1 O O O<|aQ O bZ O dO ?_;refine klt O O (cL y3)<|aB<|aE O ?_;refine aH ?_;refine aA<|aG<|aA<|aA<|rgN<|kfa O O ?_;refine kl1 O O O<|kmv O<|aR O O bZ y3 hio dO<|bH O O dO ?_;refine aW O hX O g3 dO<|aQ O bZ O dO ?_;refine aS O O (cK y3) dO<|aB<|aF O ?_;refine aH ?_;refine aA<|rgN<|kas O<|aB<|aG ?_)
 refine cG (fun m σ=>∃ k:Nat,k≤r.ex.length∧m=r.ex.length-k∧(r.ex.take k).any (fun c=>decide (80<c.length))=false∧σ=⟨[(3,Lp 3),(4,Lp 4),(5,Lp 5),(9,Ln .i64 (i:Nat)),(10,Ln .i64 (k:Nat))],[v3B 36 5 va vb (some ⟨blk,off,none⟩) rs.length cap,sxB 4 v2 ad2 bz.length cap2,sxB 3 v1 ad1 az.length cap1],X⟩) r.ex.length
  ⟨_,Le.of y10 y9 y2 y2 y0,0,by omega,by omega,rfl,rfl⟩ ?_
 rintro m σ ⟨k,hk,rfl,hany2,rfl⟩
 by_cases hkl:k<r.ex.length
 case neg =>
  have e:k=r.ex.length:=by omega
  subst e
  rw [dC] at hany2
  have hno:grtR r=false:=by unfold grtR;rw [cK h12,hany2];rfl
  have hadd:IntKind.i64.wrap ((i:Int)+1)=((i+1:Nat):Int):=by rw [cE y3];omega
  (refine aA<|aA<|rgN<|kmv O<|kfa O O ?_;refine kl1 O O O<|kmv O<|aR O O bZ y3 hio dO<|bH O O dO ?_;refine aW O hX O g3 dO<|aQ O bZ O dO ?_;refine klt O O (cK y3)<|aB<|aF O ?_;refine aJ<|rgN<|kmv O<|kad O O hadd<|kas O<|aB ?_)
  exact ⟨_,⟨[(3,Lp 3),(4,Lp 4),(5,Lp 5),(9,Ln .i64 (i+1:Nat))],[v3B 36 5 va vb (some ⟨blk,off,none⟩) rs.length cap,sxB 4 v2 ad2 bz.length cap2,sxB 3 v1 ad1 az.length cap1],X⟩,by omega,Le.of y8 y9 y2 y2 y0,i+1,by omega,O,any_next hr hany hno,O⟩
 obtain ⟨c,hc⟩:=wg hkl
 obtain ⟨eb,eo,earr,eel,efr,vad,vcap,rfl,hEX,hec,hI⟩:=hE.get hc
 have hio3:=wo eo k 1
 have hcc:=hcl c (cZ hc)
 by_cases h80:80<c.length
 ·rw [hyes (by unfold grtR;rw [cK h12,Bool.false_or];exact any_yes hc (cL h80))]
  (refine aA<|aA<|rgN<|kmv O<|kfa O O ?_;refine kl1 O O O<|kmv O<|aR O O bZ y3 hio dO<|bH O O dO ?_;refine aW O hX O g3 dO<|aQ O bZ O dO ?_;refine klt O O (cL y3)<|aB<|aE O ?_;refine aH ?_;refine aA<|aG<|aA<|rgN<|kfa O O ?_;refine kl1 O O O<|kmv O<|aR O O bZ y3 hio dO<|bH O O dO ?_;refine aW O hX O g3 dO<|kmv O<|aR O O bZ y3 hio3 dO<|aW O hEX O hec dO<|aQ O bZ O dO ?_;refine aS O O (cL y3) dO<|aB<|aE O ?_;refine aA<|rgN<|kas O<|aB<|aI ?_)
  exact y6
 ·have hadd:IntKind.i64.wrap ((k:Int)+1)=((k+1:Nat):Int):=by rw [cE y3];omega
  (refine aA<|aA<|rgN<|kmv O<|kfa O O ?_;refine kl1 O O O<|kmv O<|aR O O bZ y3 hio dO<|bH O O dO ?_;refine aW O hX O g3 dO<|aQ O bZ O dO ?_;refine klt O O (cL y3)<|aB<|aE O ?_;refine aH ?_;refine aA<|aG<|aA<|rgN<|kfa O O ?_;refine kl1 O O O<|kmv O<|aR O O bZ y3 hio dO<|bH O O dO ?_;refine aW O hX O g3 dO<|kmv O<|aR O O bZ y3 hio3 dO<|aW O hEX O hec dO<|aQ O bZ O dO ?_;refine aS O O (cK y3) dO<|aB<|aF O ?_;refine aH ?_;refine rgN<|kmv O<|kad O O hadd<|kas O<|aB ?_)
  exact ⟨_,_,by omega,Le.of y10 y9 y2 y2 y0,k+1,by omega,O,any_next hc hany2 (cK h80),O⟩
set_option maxHeartbeats 25600000 in
theorem form14_u0 (va vb:Int) (r:Rl) (ad:Option Addr) (cap:Nat) (hin:RulesIn X ad [r]) (h12:r.ex.length≤12∧∀ c∈r.ex,c.length≤80) (h0:r.ex.length=0):
  MSpec Tryz.prog X 11 [LPg va vb ad 1 cap] [] (.sv (.agg [.val (.int .i64 va),.val (.int .i64 vb),.slc 1000001 0 1 3])) [(1000001,some ⟨39,[.val (.int .i64 r.nw),.val (.int .i64 r.old),.val (.slice none 0 0)],true⟩)]:=by
 refine cD Tryz.func11 rfl y5 rfl y7 y7 rfl rfl ?_
 intro C
 refine LWP.ends ?_
 obtain ⟨blk,off,arr,el,fr,ead,ecap,rfl,hX,hsiz,hcs,g1,g2,g3,hE⟩:=hin.get (i:=0) (r:=r) rfl
 have hio:off+Int.toNat 0*3=off+0*3:=by simp
 (refine aA<|rgN<|aL O O O dO<|aP O dO ?_;refine aB<|aA<|rgN<|kfa O O ?_;refine kl1 O O O<|kfa O O ?_;refine kl1 O O O<|aT O O y2 y28 dO ?_;refine aP O dO ?_;refine aM O O O O O O dO ?_;refine aB<|aA<|aA<|rgN<|kas O<|aB<|aG ?_)
 refine cH (fun m σ=>(m=1∧σ=⟨[(1,Lp 1),(2,Lp 2),(3,Lp 3),(4,Ln .i64 (0:Nat))],[v3B 42 3 va vb none 0 0,v3B 42 2 0 0 none 0 0,v3B 36 1 va vb (some ⟨blk,off,none⟩) 1 cap],X⟩)∨(m=0∧∃ (vs:List Value) (H:Nat→Option Obj),OwnedM C X H∧FormsH H vs r.ex∧((r.ex.length=0∧H=(fun _=>none)∧σ=⟨[(1,Lp 1),(2,Lp 2),(3,Lp 3),(4,Ln .i64 (1:Nat))],[(600,some ⟨39,[.val (.int .i64 r.nw),.val (.int .i64 r.old),.val (.slice none 0 0)],true⟩),(3,some ⟨42,[.val (.int .i64 va),.val (.int .i64 vb),.slc 600 0 (1) 3],false⟩),v3B 42 2 0 0 none 0 0,v3B 36 1 va vb (some ⟨blk,off,none⟩) 1 cap],joinM X H⟩)∨(0<r.ex.length∧σ=⟨[(1,Lp 1),(2,Lp 2),(3,Lp 3),(4,Ln .i64 (1:Nat))],[(600,some ⟨39,[.val (.int .i64 r.nw),.val (.int .i64 r.old),.slc 601 0 r.ex.length 1],true⟩),(601,some ⟨91,vs.map .val,true⟩),(3,some ⟨42,[.val (.int .i64 va),.val (.int .i64 vb),.slc 600 0 (1) 3],false⟩),v3B 42 2 0 0 none 0 0,v3B 36 1 va vb (some ⟨blk,off,none⟩) 1 cap],joinM X H⟩)))) 1
  (cB (σ':=⟨[(1,Lp 1),(2,Lp 2),(3,Lp 3),(4,Ln .i64 (0:Nat))],[v3B 42 3 va vb none 0 0,v3B 42 2 0 0 none 0 0,v3B 36 1 va vb (some ⟨blk,off,none⟩) 1 cap],X⟩) (Le.of y8 y9 y2 y2 y0) (cA (.inl ⟨rfl,rfl⟩))) ?_
 rintro m σ (⟨rfl,rfl⟩|⟨rfl,vs,H,hO,GF,hst⟩)
 case inr =>
  rcases hst with ⟨_,hH,rfl⟩|⟨hbad,_⟩
  case inr=>exact absurd h0 y3
  (refine aA<|aA<|rgN<|kmv O<|kfa O O ?_;refine kl1 O O O<|aQ O bZ O dO ?_;refine klt O O (r:=false) O<|aB<|aF O ?_;refine aJ<|aA<|rgN<|aK O O O dO ?_;refine aM O O O O O O dO ?_;refine aB<|aI ?_)
  subst hH
  rw [joinM_nil]
  refine cB (σ':=⟨[(2,Lp 2)],[(600,some ⟨39,[.val (.int .i64 r.nw),.val (.int .i64 r.old),.val (.slice none 0 0)],true⟩),(2,some ⟨42,[.val (.int .i64 va),.val (.int .i64 vb),.slc 600 0 1 3],false⟩)],X⟩) (Le.of y13 yE y2 y2 y0) (cA ?_)
  exact ⟨[(1000001,600)],⟨[_],⟨⟨_,_,O,O,O,.inl ⟨AggT.h,O⟩⟩,trivial⟩,O⟩,y1,O,O⟩
 (refine aA<|aA<|rgN<|kmv O<|kfa O O ?_;refine kl1 O O O<|aQ O bZ O dO ?_;refine klt O O (r:=true) O<|aB<|aE O ?_;refine aH ?_;refine aA<|aG<|aA<|rgD mixed<|kfa O O ?_;refine kl1 O O O<|kmv O<|aR O O bZ y3 hio dO<|bH O O dO ?_;refine aW O hX O g1 dO<|kfa O O ?_;refine kl1 O O O<|kmv O<|aR O O bZ y3 hio dO<|bH O O dO ?_;refine aW O hX O g2 dO<|aT O O y2 y28 dO ?_;refine aP O dO ?_;refine aM O O O O O O dO ?_;refine aB<|rgA ?_;refine aA<|aA<|rgN<|kas O<|aB<|aG ?_)
 refine cH (fun m σ=>∃ (k:Nat) (vs:List Value) (H:Nat→Option Obj),k≤r.ex.length∧m=r.ex.length-k∧OwnedM C X H∧FormsH H vs (r.ex.take k)∧((k=0∧H=(fun _=>none)∧σ=⟨[(1,Lp 1),(2,Lp 2),(3,Lp 3),(4,Ln .i64 (0:Nat)),(5,Lp 5),(6,Ln .i64 (k:Nat))],[v3B 39 5 r.nw r.old none 0 0,v3B 42 3 va vb none 0 0,v3B 42 2 0 0 none 0 0,v3B 36 1 va vb (some ⟨blk,off,none⟩) 1 cap],joinM X H⟩)∨(0<k∧σ=⟨[(1,Lp 1),(2,Lp 2),(3,Lp 3),(4,Ln .i64 (0:Nat)),(5,Lp 5),(6,Ln .i64 (k:Nat))],[(601,some ⟨91,(vs).map .val,true⟩),(5,some ⟨39,[.val (.int .i64 r.nw),.val (.int .i64 r.old),.slc 601 0 (k) 1],false⟩),v3B 42 3 va vb none 0 0,v3B 42 2 0 0 none 0 0,v3B 36 1 va vb (some ⟨blk,off,none⟩) 1 cap],joinM X H⟩))) r.ex.length
  (cB (σ':=⟨[(1,Lp 1),(2,Lp 2),(3,Lp 3),(4,Ln .i64 (0:Nat)),(5,Lp 5),(6,Ln .i64 (0:Nat))],[v3B 39 5 r.nw r.old none 0 0,v3B 42 3 va vb none 0 0,v3B 42 2 0 0 none 0 0,v3B 36 1 va vb (some ⟨blk,off,none⟩) 1 cap],X⟩) (Le.of y11 y8 y2 y2 y0) (cA ⟨0,[],fun _=>none,by omega,by omega,OwnedM.nil C X,FormsH.nil,.inl ⟨rfl,rfl,by rw [joinM_nil]⟩⟩)) ?_
 rintro m σ ⟨k,vs,H,hk,rfl,hO,GF,hst⟩
 have hXJ:=joinM_has hO hX
 rcases hst with ⟨hk0,hH,rfl⟩|⟨hk0,rfl⟩
 ·as_aux_lemma =>
   by_cases hkl:k<r.ex.length
   case neg =>
    have hke:k=r.ex.length:=by omega
    subst hke
    rw [dC] at GF
    have hadd:IntKind.i64.wrap (((0:Nat):Int)+1)=((1:Nat):Int):=rfl
    (refine aA<|aA<|rgN<|kmv O<|kfa O O ?_;refine kl1 O O O<|kmv O<|aR O O bZ y3 hio dO<|bH O O dO ?_;refine aW O hXJ O g3 dO<|aQ O bZ O dO ?_;refine klt O O (cK y3)<|aB<|aF O ?_;refine aJ<|rgN<|kfa O O ?_;refine kl1 O O O<|aK O O O dO ?_;refine aZ (zs:=[.int .i64 0,.int .i64 0,.slice none 0 0]) (sz:=3) (e:=39) (cs':=[.val (.int .i64 r.nw),.val (.int .i64 r.old),.val (.slice none 0 0)]) y5 O O O O O O dO<|K.appendNil (by_:=40) (e:=39) (e2:=39) (l2:=[.val (.int .i64 r.nw),.val (.int .i64 r.old),.val (.slice none 0 0)]) O O O (dK _) O O yA y5 y5 y3 y3 O dO ?_;refine kfa O O ?_;refine bG O O O O O (nl3 O O O O) dO<|aB<|rgN<|kmv O<|kad O O hadd<|kas O<|aB ?_)
    exact cB (σ':=⟨[(1,Lp 1),(2,Lp 2),(3,Lp 3),(4,Ln .i64 (1:Nat))],[(600,some ⟨39,[.val (.int .i64 r.nw),.val (.int .i64 r.old),.val (.slice none 0 0)],true⟩),(3,some ⟨42,[.val (.int .i64 va),.val (.int .i64 vb),.slc 600 0 (1) 3],false⟩),v3B 42 2 0 0 none 0 0,v3B 36 1 va vb (some ⟨blk,off,none⟩) 1 cap],joinM X H⟩) (Le.ofR [(600,95)] y8 y1 y2 y2 y0 y2 y2) (cA ⟨0,by omega,.inr ⟨O,vs,H,hO,GF,.inl ⟨by omega,hH,O⟩⟩⟩)
   obtain ⟨c,hc⟩:=wg hkl
   obtain ⟨eb,eo,earr,eel,efr,vad,vcap,rfl,hEX,hec,hI⟩:=hE.get hc
   have hEJ:=joinM_has hO hEX
   have hio3:=wo eo k 1
   have h80:=h12.2 c (cZ hc)
   have hvk:=GF.len
   rw [cW] at hvk
   have hvl:(vs.map CV.val).length=k*1:=by rw [cT];omega
   subst hk0
   (refine aA<|aA<|rgN<|kmv O<|kfa O O ?_;refine kl1 O O O<|kmv O<|aR O O bZ y3 hio dO<|bH O O dO ?_;refine aW O hXJ O g3 dO<|aQ O bZ O dO ?_;refine klt O O (cL y3)<|aB<|aE O ?_;refine aH ?_;refine aA<|aG<|aA<|rgN<|aZ (zs:=[]) (sz:=6) (e:=92) y5 O O O O O O dO<|kas O<|aB<|aA<|aA<|rgN<|kas O<|aB<|aG ?_)
   refine cG (fun m σ=>∃ n:Nat,n≤c.length∧m=c.length-n∧σ=⟨[(1,Lp 1),(2,Lp 2),(3,Lp 3),(4,Ln .i64 (0:Nat)),(5,Lp 5),(6,Ln .i64 (0:Nat)),(7,.sv (.one (.slc 500 0 (n) 6))),(8,Ln .i64 (n:Nat))],[(500,some ⟨92,(inssV (c.take (n))).map .val,Nat.blt 0 (n)⟩),v3B 39 5 r.nw r.old none 0 0,v3B 42 3 va vb none 0 0,v3B 42 2 0 0 none 0 0,v3B 36 1 va vb (some ⟨blk,off,none⟩) 1 cap],joinM X H⟩) c.length
    ⟨⟨[(1,Lp 1),(2,Lp 2),(3,Lp 3),(4,Ln .i64 (0:Nat)),(5,Lp 5),(6,Ln .i64 (0:Nat)),(7,.sv (.one (.slc 500 0 (0) 6))),(8,Ln .i64 (0:Nat))],[(500,some ⟨92,(inssV (c.take (0))).map .val,Nat.blt 0 (0)⟩),v3B 39 5 r.nw r.old none 0 0,v3B 42 3 va vb none 0 0,v3B 42 2 0 0 none 0 0,v3B 36 1 va vb (some ⟨blk,off,none⟩) 1 cap],joinM X H⟩,Le.ofR [(500,46)] y15 y1 y2 y2 y0 y2 y2,0,by omega,by omega,rfl⟩ ?_
   rintro m σ ⟨n,hn,rfl,rfl⟩
   by_cases hnl:n<c.length
   case neg =>
    have e:n=c.length:=by omega
    subst e
    have hadd:IntKind.i64.wrap (((0:Nat):Int)+1)=((0+1:Nat):Int):=rfl
    (refine aA<|aA<|rgN<|kmv O<|kfa O O ?_;refine kl1 O O O<|kmv O<|aR O O bZ y3 hio dO<|bH O O dO ?_;refine aW O hXJ O g3 dO<|kmv O<|aR O O bZ y3 hio3 dO<|aW O hEJ O hec dO<|aQ O bZ O dO ?_;refine klt O O (cK y3)<|aB<|aF O ?_;refine aJ<|rgN<|kfa O O ?_;refine kl1 O O O<|kmv O<|aZ (zs:=[.slice none 0 0]) (sz:=1) (e:=91) (cs':=[.slc 500 0 c.length 6]) y5 O O O O O O dO<|K.appendNil (by_:=24) (e:=91) (e2:=91) (l2:=[.slc 500 0 c.length 6]) O O O (dK _) O O yA y5 y5 y3 y3 O dO ?_;refine kfa O O ?_;refine bG O O O O O (nl3 O O O O) dO<|aB<|rgN<|kmv O<|kad O O hadd<|kas O<|aB ?_)
    refine cB (σ':=⟨[(1,Lp 1),(2,Lp 2),(3,Lp 3),(4,Ln .i64 (0:Nat)),(5,Lp 5),(6,Ln .i64 (0+1:Nat))],[(601,some ⟨91,vs.map .val ++ .slc 500 0 c.length 6::([]:List Value).map .val,true⟩),(500,some ⟨92,(inssV c).map .val,Nat.blt 0 c.length⟩),(5,some ⟨39,[.val (.int .i64 r.nw),.val (.int .i64 r.old),.slc 601 0 (0+1) 1],false⟩),v3B 42 3 va vb none 0 0,v3B 42 2 0 0 none 0 0,v3B 36 1 va vb (some ⟨blk,off,none⟩) 1 cap],joinM X H⟩) ?_ ?_
    ·rw [dC]
     rw [show vs=[] from List.eq_nil_of_length_eq_zero (by omega)]
     exact Le.ofR [(601,89)] y11 y1 y2 y2 y0 y2 y2
    refine Leads.closeCell hO (by have:=inssV_len c;rw [cT] at this;exact this) rfl bT rfl y1F rfl rfl fun b o v g1 _ hO3 hv=>cA ⟨r.ex.length-(0+1),by omega,0+1,vs++[v],withBlock H b o,by omega,rfl,hO3,?_,.inr ⟨by omega,?_⟩⟩
    ·rw [take_snoc hc]
     exact (GF.mono (cF g1)).push (ins_leads hv hI.small)
    ·rw [dE]
     rfl
   obtain ⟨x,hx⟩:=wg hnl
   obtain ⟨xb,xo,xarr,xel,xfr,rfl,hxX,hxz,hxc,_⟩:=hI.at hx
   have hxJ:=joinM_has hO hxX
   have hxo:=wo xo n 6
   have hadd:IntKind.i64.wrap ((n:Int)+1)=((n+1:Nat):Int):=by rw [cE y3];omega
   have hcl:=inssV_len (c.take n)
   rw [cW,Nat.min_eq_left hn] at hcl
   have hnc:=inssV_snoc (c.take n) x (cs:=[.val (.int .i64 x.op),.val (.int .i64 x.a),.val (.int .i64 x.b),.val (.bool x.k.1),.val (.int .u64 (x.k.2/18446744073709551616)),.val (.int .u64 (x.k.2%18446744073709551616))]) rfl
   rw [← take_snoc hx] at hnc
   (refine aA<|aA<|rgN<|kmv O<|kfa O O ?_;refine kl1 O O O<|kmv O<|aR O O bZ y3 hio dO<|bH O O dO ?_;refine aW O hXJ O g3 dO<|kmv O<|aR O O bZ y3 hio3 dO<|aW O hEJ O hec dO<|aQ O bZ O dO ?_;refine klt O O (cL y3)<|aB<|aE O ?_;refine aH ?_;refine aA<|aG<|aA<|rgN<|kfa O O ?_;refine kl1 O O O<|kmv O<|aR O O bZ y3 hio dO<|bH O O dO ?_;refine aW O hXJ O g3 dO<|kmv O<|aR O O bZ y3 hio3 dO<|aW O hEJ O hec dO<|kmv O<|aR O O bZ y3 hxo dO<|aY O hxJ y5 hxz hxc dO<|aP O dO ?_;refine aM O O O O O O dO ?_;refine aB<|rgN<|kmv O<|kfa O O ?_;refine kl1 O O O<|kfa O O ?_;refine kl1 O O O<|kfa O O ?_;refine kl1 O O O<|kfa O O ?_;refine bJ O O O y28 dO ?_;refine aT O O y2 y35 dO ?_;refine aZ (zs:=[.int .i64 0,.int .i64 0,.int .i64 0,.bool false,.int .u64 0,.int .u64 0]) (sz:=6) (e:=92) (cs':=[.val (.int .i64 x.op),.val (.int .i64 x.a),.val (.int .i64 x.b),.val (.bool x.k.1),.val (.int .u64 (x.k.2/18446744073709551616)),.val (.int .u64 (x.k.2%18446744073709551616))]) y5 O O O O O O dO<|bP (by_:=48) (e2:=92) (l2:=[.val (.int .i64 x.op),.val (.int .i64 x.a),.val (.int .i64 x.b),.val (.bool x.k.1),.val (.int .u64 (x.k.2/18446744073709551616)),.val (.int .u64 (x.k.2%18446744073709551616))]) (nl:=n+1) (nc:=(inssV (c.take (n+1))).map .val) O O hcl O O (dK _) O O y5 y5 y3 y3 O O hnc dO<|kas O<|aB<|rgN<|kmv O<|kad O O hadd<|kas O<|aB ?_)
   exact ⟨_,⟨[(1,Lp 1),(2,Lp 2),(3,Lp 3),(4,Ln .i64 (0:Nat)),(5,Lp 5),(6,Ln .i64 (0:Nat)),(7,.sv (.one (.slc 500 0 (n+1) 6))),(8,Ln .i64 (n+1:Nat))],[(500,some ⟨92,(inssV (c.take (n+1))).map .val,Nat.blt 0 (n+1)⟩),v3B 39 5 r.nw r.old none 0 0,v3B 42 3 va vb none 0 0,v3B 42 2 0 0 none 0 0,v3B 36 1 va vb (some ⟨blk,off,none⟩) 1 cap],joinM X H⟩,by omega,Le.ofR [(500,84)] y15 y1 y2 y2 y0 y2 y2,n+1,by omega,O,O⟩
 ·as_aux_lemma =>
   by_cases hkl:k<r.ex.length
   case neg =>
    have hke:k=r.ex.length:=by omega
    subst hke
    rw [dC] at GF
    have hadd:IntKind.i64.wrap (((0:Nat):Int)+1)=((1:Nat):Int):=rfl
    (refine aA<|aA<|rgN<|kmv O<|kfa O O ?_;refine kl1 O O O<|kmv O<|aR O O bZ y3 hio dO<|bH O O dO ?_;refine aW O hXJ O g3 dO<|aQ O bZ O dO ?_;refine klt O O (cK y3)<|aB<|aF O ?_;refine aJ<|rgN<|kfa O O ?_;refine kl1 O O O<|aK O O O dO ?_;refine aZ (zs:=[.int .i64 0,.int .i64 0,.slice none 0 0]) (sz:=3) (e:=39) (cs':=[.val (.int .i64 r.nw),.val (.int .i64 r.old),.slc 601 0 r.ex.length 1]) y5 O O O O O O dO<|K.appendNil (by_:=40) (e:=39) (e2:=39) (l2:=[.val (.int .i64 r.nw),.val (.int .i64 r.old),.slc 601 0 r.ex.length 1]) O O O (dK _) O O yA y5 y5 y3 y3 O dO ?_;refine kfa O O ?_;refine bG O O O O O (nl3 O O O O) dO<|aB<|rgN<|kmv O<|kad O O hadd<|kas O<|aB ?_)
    exact cB (σ':=⟨[(1,Lp 1),(2,Lp 2),(3,Lp 3),(4,Ln .i64 (1:Nat))],[(600,some ⟨39,[.val (.int .i64 r.nw),.val (.int .i64 r.old),.slc 601 0 r.ex.length 1],true⟩),(601,some ⟨91,vs.map .val,true⟩),(3,some ⟨42,[.val (.int .i64 va),.val (.int .i64 vb),.slc 600 0 (1) 3],false⟩),v3B 42 2 0 0 none 0 0,v3B 36 1 va vb (some ⟨blk,off,none⟩) 1 cap],joinM X H⟩) (Le.ofR [(600,95)] y8 y1 y2 y2 y0 y2 y2) (cA ⟨0,by omega,.inr ⟨O,vs,H,hO,GF,.inr ⟨by omega,O⟩⟩⟩)
   obtain ⟨c,hc⟩:=wg hkl
   obtain ⟨eb,eo,earr,eel,efr,vad,vcap,rfl,hEX,hec,hI⟩:=hE.get hc
   have hEJ:=joinM_has hO hEX
   have hio3:=wo eo k 1
   have h80:=h12.2 c (cZ hc)
   have hvk:=GF.len
   rw [cW] at hvk
   have hvl:(vs.map CV.val).length=k*1:=by rw [cT];omega
   (refine aA<|aA<|rgN<|kmv O<|kfa O O ?_;refine kl1 O O O<|kmv O<|aR O O bZ y3 hio dO<|bH O O dO ?_;refine aW O hXJ O g3 dO<|aQ O bZ O dO ?_;refine klt O O (cL y3)<|aB<|aE O ?_;refine aH ?_;refine aA<|aG<|aA<|rgN<|aZ (zs:=[]) (sz:=6) (e:=92) y5 O O O O O O dO<|kas O<|aB<|aA<|aA<|rgN<|kas O<|aB<|aG ?_)
   refine cG (fun m σ=>∃ n:Nat,n≤c.length∧m=c.length-n∧σ=⟨[(1,Lp 1),(2,Lp 2),(3,Lp 3),(4,Ln .i64 (0:Nat)),(5,Lp 5),(6,Ln .i64 (k:Nat)),(7,.sv (.one (.slc 500 0 (n) 6))),(8,Ln .i64 (n:Nat))],[(500,some ⟨92,(inssV (c.take (n))).map .val,Nat.blt 0 (n)⟩),(601,some ⟨91,(vs).map .val,true⟩),(5,some ⟨39,[.val (.int .i64 r.nw),.val (.int .i64 r.old),.slc 601 0 (k) 1],false⟩),v3B 42 3 va vb none 0 0,v3B 42 2 0 0 none 0 0,v3B 36 1 va vb (some ⟨blk,off,none⟩) 1 cap],joinM X H⟩) c.length
    ⟨⟨[(1,Lp 1),(2,Lp 2),(3,Lp 3),(4,Ln .i64 (0:Nat)),(5,Lp 5),(6,Ln .i64 (k:Nat)),(7,.sv (.one (.slc 500 0 (0) 6))),(8,Ln .i64 (0:Nat))],[(500,some ⟨92,(inssV (c.take (0))).map .val,Nat.blt 0 (0)⟩),(601,some ⟨91,(vs).map .val,true⟩),(5,some ⟨39,[.val (.int .i64 r.nw),.val (.int .i64 r.old),.slc 601 0 (k) 1],false⟩),v3B 42 3 va vb none 0 0,v3B 42 2 0 0 none 0 0,v3B 36 1 va vb (some ⟨blk,off,none⟩) 1 cap],joinM X H⟩,Le.ofR [(500,46)] y15 y1 y2 y2 y0 y2 y2,0,by omega,by omega,rfl⟩ ?_
   rintro m σ ⟨n,hn,rfl,rfl⟩
   by_cases hnl:n<c.length
   case neg =>
    have e:n=c.length:=by omega
    subst e
    have hadd:IntKind.i64.wrap ((k:Int)+1)=((k+1:Nat):Int):=by rw [cE y3];omega
    (refine aA<|aA<|rgN<|kmv O<|kfa O O ?_;refine kl1 O O O<|kmv O<|aR O O bZ y3 hio dO<|bH O O dO ?_;refine aW O hXJ O g3 dO<|kmv O<|aR O O bZ y3 hio3 dO<|aW O hEJ O hec dO<|aQ O bZ O dO ?_;refine klt O O (cK y3)<|aB<|aF O ?_;refine aJ<|rgN<|kfa O O ?_;refine kl1 O O O<|kmv O<|aZ (zs:=[.slice none 0 0]) (sz:=1) (e:=91) (cs':=[.slc 500 0 c.length 6]) y5 O O O O O O dO<|bP (by_:=24) (e2:=91) (l2:=[.slc 500 0 c.length 6]) (nl:=k+1) (nc:=vs.map .val++[.slc 500 0 c.length 6]) O O hvl O O (dK _) O O y5 y5 y3 y3 O O O dO<|kfa O O ?_;refine bG O O O O O (nl3 O O O O) dO<|aB<|rgN<|kmv O<|kad O O hadd<|kas O<|aB ?_)
    refine cB (σ':=⟨[(1,Lp 1),(2,Lp 2),(3,Lp 3),(4,Ln .i64 (0:Nat)),(5,Lp 5),(6,Ln .i64 (k+1:Nat))],[(601,some ⟨91,vs.map .val ++ .slc 500 0 c.length 6::([]:List Value).map .val,true⟩),(500,some ⟨92,(inssV c).map .val,Nat.blt 0 c.length⟩),(5,some ⟨39,[.val (.int .i64 r.nw),.val (.int .i64 r.old),.slc 601 0 (k+1) 1],false⟩),v3B 42 3 va vb none 0 0,v3B 42 2 0 0 none 0 0,v3B 36 1 va vb (some ⟨blk,off,none⟩) 1 cap],joinM X H⟩) ?_ ?_
    ·rw [dC]
     exact Le.ofR [(601,89)] y11 y1 y2 y2 y0 y2 y2
    refine Leads.closeCell hO (by have:=inssV_len c;rw [cT] at this;exact this) rfl bT rfl y1F rfl rfl fun b o v g1 _ hO3 hv=>cA ⟨r.ex.length-(k+1),by omega,k+1,vs++[v],withBlock H b o,by omega,rfl,hO3,?_,.inr ⟨by omega,?_⟩⟩
    ·rw [take_snoc hc]
     exact (GF.mono (cF g1)).push (ins_leads hv hI.small)
    ·rw [dE]
     rfl
   obtain ⟨x,hx⟩:=wg hnl
   obtain ⟨xb,xo,xarr,xel,xfr,rfl,hxX,hxz,hxc,_⟩:=hI.at hx
   have hxJ:=joinM_has hO hxX
   have hxo:=wo xo n 6
   have hadd:IntKind.i64.wrap ((n:Int)+1)=((n+1:Nat):Int):=by rw [cE y3];omega
   have hcl:=inssV_len (c.take n)
   rw [cW,Nat.min_eq_left hn] at hcl
   have hnc:=inssV_snoc (c.take n) x (cs:=[.val (.int .i64 x.op),.val (.int .i64 x.a),.val (.int .i64 x.b),.val (.bool x.k.1),.val (.int .u64 (x.k.2/18446744073709551616)),.val (.int .u64 (x.k.2%18446744073709551616))]) rfl
   rw [← take_snoc hx] at hnc
   (refine aA<|aA<|rgN<|kmv O<|kfa O O ?_;refine kl1 O O O<|kmv O<|aR O O bZ y3 hio dO<|bH O O dO ?_;refine aW O hXJ O g3 dO<|kmv O<|aR O O bZ y3 hio3 dO<|aW O hEJ O hec dO<|aQ O bZ O dO ?_;refine klt O O (cL y3)<|aB<|aE O ?_;refine aH ?_;refine aA<|aG<|aA<|rgN<|kfa O O ?_;refine kl1 O O O<|kmv O<|aR O O bZ y3 hio dO<|bH O O dO ?_;refine aW O hXJ O g3 dO<|kmv O<|aR O O bZ y3 hio3 dO<|aW O hEJ O hec dO<|kmv O<|aR O O bZ y3 hxo dO<|aY O hxJ y5 hxz hxc dO<|aP O dO ?_;refine aM O O O O O O dO ?_;refine aB<|rgN<|kmv O<|kfa O O ?_;refine kl1 O O O<|kfa O O ?_;refine kl1 O O O<|kfa O O ?_;refine kl1 O O O<|kfa O O ?_;refine bJ O O O y28 dO ?_;refine aT O O y2 y35 dO ?_;refine aZ (zs:=[.int .i64 0,.int .i64 0,.int .i64 0,.bool false,.int .u64 0,.int .u64 0]) (sz:=6) (e:=92) (cs':=[.val (.int .i64 x.op),.val (.int .i64 x.a),.val (.int .i64 x.b),.val (.bool x.k.1),.val (.int .u64 (x.k.2/18446744073709551616)),.val (.int .u64 (x.k.2%18446744073709551616))]) y5 O O O O O O dO<|bP (by_:=48) (e2:=92) (l2:=[.val (.int .i64 x.op),.val (.int .i64 x.a),.val (.int .i64 x.b),.val (.bool x.k.1),.val (.int .u64 (x.k.2/18446744073709551616)),.val (.int .u64 (x.k.2%18446744073709551616))]) (nl:=n+1) (nc:=(inssV (c.take (n+1))).map .val) O O hcl O O (dK _) O O y5 y5 y3 y3 O O hnc dO<|kas O<|aB<|rgN<|kmv O<|kad O O hadd<|kas O<|aB ?_)
   exact ⟨_,⟨[(1,Lp 1),(2,Lp 2),(3,Lp 3),(4,Ln .i64 (0:Nat)),(5,Lp 5),(6,Ln .i64 (k:Nat)),(7,.sv (.one (.slc 500 0 (n+1) 6))),(8,Ln .i64 (n+1:Nat))],[(500,some ⟨92,(inssV (c.take (n+1))).map .val,Nat.blt 0 (n+1)⟩),(601,some ⟨91,(vs).map .val,true⟩),(5,some ⟨39,[.val (.int .i64 r.nw),.val (.int .i64 r.old),.slc 601 0 (k) 1],false⟩),v3B 42 3 va vb none 0 0,v3B 42 2 0 0 none 0 0,v3B 36 1 va vb (some ⟨blk,off,none⟩) 1 cap],joinM X H⟩,by omega,Le.ofR [(500,84)] y15 y1 y2 y2 y0 y2 y2,n+1,by omega,O,O⟩
set_option maxHeartbeats 25600000 in
theorem form14_u1 (va vb:Int) (r:Rl) (ad:Option Addr) (cap:Nat) (hin:RulesIn X ad [r]) (h12:r.ex.length≤12∧∀ c∈r.ex,c.length≤80) (h0:0<r.ex.length):
  MSpec Tryz.prog X 11 [LPg va vb ad 1 cap] [] (.sv (.agg [.val (.int .i64 va),.val (.int .i64 vb),.slc 1000001 0 1 3])) [(1000001,some ⟨39,[.val (.int .i64 r.nw),.val (.int .i64 r.old),.slc 1000002 0 r.ex.length 1],true⟩),(1000002,some ⟨0,[],.res (cdR 91 r.ex)⟩)]:=by
 refine cD Tryz.func11 rfl y5 rfl y7 y7 rfl rfl ?_
 intro C
 refine LWP.ends ?_
 obtain ⟨blk,off,arr,el,fr,ead,ecap,rfl,hX,hsiz,hcs,g1,g2,g3,hE⟩:=hin.get (i:=0) (r:=r) rfl
 have hio:off+Int.toNat 0*3=off+0*3:=by simp
 (refine aA<|rgN<|aL O O O dO<|aP O dO ?_;refine aB<|aA<|rgN<|kfa O O ?_;refine kl1 O O O<|kfa O O ?_;refine kl1 O O O<|aT O O y2 y28 dO ?_;refine aP O dO ?_;refine aM O O O O O O dO ?_;refine aB<|aA<|aA<|rgN<|kas O<|aB<|aG ?_)
 refine cH (fun m σ=>(m=1∧σ=⟨[(1,Lp 1),(2,Lp 2),(3,Lp 3),(4,Ln .i64 (0:Nat))],[v3B 42 3 va vb none 0 0,v3B 42 2 0 0 none 0 0,v3B 36 1 va vb (some ⟨blk,off,none⟩) 1 cap],X⟩)∨(m=0∧∃ (vs:List Value) (H:Nat→Option Obj),OwnedM C X H∧FormsH H vs r.ex∧((r.ex.length=0∧H=(fun _=>none)∧σ=⟨[(1,Lp 1),(2,Lp 2),(3,Lp 3),(4,Ln .i64 (1:Nat))],[(600,some ⟨39,[.val (.int .i64 r.nw),.val (.int .i64 r.old),.val (.slice none 0 0)],true⟩),(3,some ⟨42,[.val (.int .i64 va),.val (.int .i64 vb),.slc 600 0 (1) 3],false⟩),v3B 42 2 0 0 none 0 0,v3B 36 1 va vb (some ⟨blk,off,none⟩) 1 cap],joinM X H⟩)∨(0<r.ex.length∧σ=⟨[(1,Lp 1),(2,Lp 2),(3,Lp 3),(4,Ln .i64 (1:Nat))],[(600,some ⟨39,[.val (.int .i64 r.nw),.val (.int .i64 r.old),.slc 601 0 r.ex.length 1],true⟩),(601,some ⟨91,vs.map .val,true⟩),(3,some ⟨42,[.val (.int .i64 va),.val (.int .i64 vb),.slc 600 0 (1) 3],false⟩),v3B 42 2 0 0 none 0 0,v3B 36 1 va vb (some ⟨blk,off,none⟩) 1 cap],joinM X H⟩)))) 1
  (cB (σ':=⟨[(1,Lp 1),(2,Lp 2),(3,Lp 3),(4,Ln .i64 (0:Nat))],[v3B 42 3 va vb none 0 0,v3B 42 2 0 0 none 0 0,v3B 36 1 va vb (some ⟨blk,off,none⟩) 1 cap],X⟩) (Le.of y8 y9 y2 y2 y0) (cA (.inl ⟨rfl,rfl⟩))) ?_
 rintro m σ (⟨rfl,rfl⟩|⟨rfl,vs,H,hO,GF,hst⟩)
 case inr =>
  rcases hst with ⟨hbad,_⟩|⟨_,rfl⟩
  case inl=>exact absurd h0 y3
  (refine aA<|aA<|rgN<|kmv O<|kfa O O ?_;refine kl1 O O O<|aQ O bZ O dO ?_;refine klt O O (r:=false) O<|aB<|aF O ?_;refine aJ<|aA<|rgN<|aK O O O dO ?_;refine aM O O O O O O dO ?_;refine aB<|aI ?_)
  refine cB (σ':=⟨[(2,Lp 2)],[(601,some ⟨91,vs.map .val,true⟩),(600,some ⟨39,[.val (.int .i64 r.nw),.val (.int .i64 r.old),.slc 601 0 r.ex.length 1],true⟩),(2,some ⟨42,[.val (.int .i64 va),.val (.int .i64 vb),.slc 600 0 1 3],false⟩)],joinM X H⟩) (Le.of y13 y9 y2 y2 y0) ?_
  refine Leads.spare fun sp=>cd_shut2 (sp:=sp) hO GF (cA ?_)
  exact ⟨[(1000001,600),(1000002,601)],⟨[_],⟨⟨_,_,O,O,O,.inl ⟨AggT.h,O⟩⟩,trivial⟩,O⟩,y1,O,O⟩
 (refine aA<|aA<|rgN<|kmv O<|kfa O O ?_;refine kl1 O O O<|aQ O bZ O dO ?_;refine klt O O (r:=true) O<|aB<|aE O ?_;refine aH ?_;refine aA<|aG<|aA<|rgD mixed<|kfa O O ?_;refine kl1 O O O<|kmv O<|aR O O bZ y3 hio dO<|bH O O dO ?_;refine aW O hX O g1 dO<|kfa O O ?_;refine kl1 O O O<|kmv O<|aR O O bZ y3 hio dO<|bH O O dO ?_;refine aW O hX O g2 dO<|aT O O y2 y28 dO ?_;refine aP O dO ?_;refine aM O O O O O O dO ?_;refine aB<|rgA ?_;refine aA<|aA<|rgN<|kas O<|aB<|aG ?_)
 refine cH (fun m σ=>∃ (k:Nat) (vs:List Value) (H:Nat→Option Obj),k≤r.ex.length∧m=r.ex.length-k∧OwnedM C X H∧FormsH H vs (r.ex.take k)∧((k=0∧H=(fun _=>none)∧σ=⟨[(1,Lp 1),(2,Lp 2),(3,Lp 3),(4,Ln .i64 (0:Nat)),(5,Lp 5),(6,Ln .i64 (k:Nat))],[v3B 39 5 r.nw r.old none 0 0,v3B 42 3 va vb none 0 0,v3B 42 2 0 0 none 0 0,v3B 36 1 va vb (some ⟨blk,off,none⟩) 1 cap],joinM X H⟩)∨(0<k∧σ=⟨[(1,Lp 1),(2,Lp 2),(3,Lp 3),(4,Ln .i64 (0:Nat)),(5,Lp 5),(6,Ln .i64 (k:Nat))],[(601,some ⟨91,(vs).map .val,true⟩),(5,some ⟨39,[.val (.int .i64 r.nw),.val (.int .i64 r.old),.slc 601 0 (k) 1],false⟩),v3B 42 3 va vb none 0 0,v3B 42 2 0 0 none 0 0,v3B 36 1 va vb (some ⟨blk,off,none⟩) 1 cap],joinM X H⟩))) r.ex.length
  (cB (σ':=⟨[(1,Lp 1),(2,Lp 2),(3,Lp 3),(4,Ln .i64 (0:Nat)),(5,Lp 5),(6,Ln .i64 (0:Nat))],[v3B 39 5 r.nw r.old none 0 0,v3B 42 3 va vb none 0 0,v3B 42 2 0 0 none 0 0,v3B 36 1 va vb (some ⟨blk,off,none⟩) 1 cap],X⟩) (Le.of y11 y8 y2 y2 y0) (cA ⟨0,[],fun _=>none,by omega,by omega,OwnedM.nil C X,FormsH.nil,.inl ⟨rfl,rfl,by rw [joinM_nil]⟩⟩)) ?_
 rintro m σ ⟨k,vs,H,hk,rfl,hO,GF,hst⟩
 have hXJ:=joinM_has hO hX
 rcases hst with ⟨hk0,hH,rfl⟩|⟨hk0,rfl⟩
 ·as_aux_lemma =>
   by_cases hkl:k<r.ex.length
   case neg =>
    have hke:k=r.ex.length:=by omega
    subst hke
    rw [dC] at GF
    have hadd:IntKind.i64.wrap (((0:Nat):Int)+1)=((1:Nat):Int):=rfl
    (refine aA<|aA<|rgN<|kmv O<|kfa O O ?_;refine kl1 O O O<|kmv O<|aR O O bZ y3 hio dO<|bH O O dO ?_;refine aW O hXJ O g3 dO<|aQ O bZ O dO ?_;refine klt O O (cK y3)<|aB<|aF O ?_;refine aJ<|rgN<|kfa O O ?_;refine kl1 O O O<|aK O O O dO ?_;refine aZ (zs:=[.int .i64 0,.int .i64 0,.slice none 0 0]) (sz:=3) (e:=39) (cs':=[.val (.int .i64 r.nw),.val (.int .i64 r.old),.val (.slice none 0 0)]) y5 O O O O O O dO<|K.appendNil (by_:=40) (e:=39) (e2:=39) (l2:=[.val (.int .i64 r.nw),.val (.int .i64 r.old),.val (.slice none 0 0)]) O O O (dK _) O O yA y5 y5 y3 y3 O dO ?_;refine kfa O O ?_;refine bG O O O O O (nl3 O O O O) dO<|aB<|rgN<|kmv O<|kad O O hadd<|kas O<|aB ?_)
    exact cB (σ':=⟨[(1,Lp 1),(2,Lp 2),(3,Lp 3),(4,Ln .i64 (1:Nat))],[(600,some ⟨39,[.val (.int .i64 r.nw),.val (.int .i64 r.old),.val (.slice none 0 0)],true⟩),(3,some ⟨42,[.val (.int .i64 va),.val (.int .i64 vb),.slc 600 0 (1) 3],false⟩),v3B 42 2 0 0 none 0 0,v3B 36 1 va vb (some ⟨blk,off,none⟩) 1 cap],joinM X H⟩) (Le.ofR [(600,95)] y8 y1 y2 y2 y0 y2 y2) (cA ⟨0,by omega,.inr ⟨O,vs,H,hO,GF,.inl ⟨by omega,hH,O⟩⟩⟩)
   obtain ⟨c,hc⟩:=wg hkl
   obtain ⟨eb,eo,earr,eel,efr,vad,vcap,rfl,hEX,hec,hI⟩:=hE.get hc
   have hEJ:=joinM_has hO hEX
   have hio3:=wo eo k 1
   have h80:=h12.2 c (cZ hc)
   have hvk:=GF.len
   rw [cW] at hvk
   have hvl:(vs.map CV.val).length=k*1:=by rw [cT];omega
   subst hk0
   (refine aA<|aA<|rgN<|kmv O<|kfa O O ?_;refine kl1 O O O<|kmv O<|aR O O bZ y3 hio dO<|bH O O dO ?_;refine aW O hXJ O g3 dO<|aQ O bZ O dO ?_;refine klt O O (cL y3)<|aB<|aE O ?_;refine aH ?_;refine aA<|aG<|aA<|rgN<|aZ (zs:=[]) (sz:=6) (e:=92) y5 O O O O O O dO<|kas O<|aB<|aA<|aA<|rgN<|kas O<|aB<|aG ?_)
   refine cG (fun m σ=>∃ n:Nat,n≤c.length∧m=c.length-n∧σ=⟨[(1,Lp 1),(2,Lp 2),(3,Lp 3),(4,Ln .i64 (0:Nat)),(5,Lp 5),(6,Ln .i64 (0:Nat)),(7,.sv (.one (.slc 500 0 (n) 6))),(8,Ln .i64 (n:Nat))],[(500,some ⟨92,(inssV (c.take (n))).map .val,Nat.blt 0 (n)⟩),v3B 39 5 r.nw r.old none 0 0,v3B 42 3 va vb none 0 0,v3B 42 2 0 0 none 0 0,v3B 36 1 va vb (some ⟨blk,off,none⟩) 1 cap],joinM X H⟩) c.length
    ⟨⟨[(1,Lp 1),(2,Lp 2),(3,Lp 3),(4,Ln .i64 (0:Nat)),(5,Lp 5),(6,Ln .i64 (0:Nat)),(7,.sv (.one (.slc 500 0 (0) 6))),(8,Ln .i64 (0:Nat))],[(500,some ⟨92,(inssV (c.take (0))).map .val,Nat.blt 0 (0)⟩),v3B 39 5 r.nw r.old none 0 0,v3B 42 3 va vb none 0 0,v3B 42 2 0 0 none 0 0,v3B 36 1 va vb (some ⟨blk,off,none⟩) 1 cap],joinM X H⟩,Le.ofR [(500,46)] y15 y1 y2 y2 y0 y2 y2,0,by omega,by omega,rfl⟩ ?_
   rintro m σ ⟨n,hn,rfl,rfl⟩
   by_cases hnl:n<c.length
   case neg =>
    have e:n=c.length:=by omega
    subst e
    have hadd:IntKind.i64.wrap (((0:Nat):Int)+1)=((0+1:Nat):Int):=rfl
    (refine aA<|aA<|rgN<|kmv O<|kfa O O ?_;refine kl1 O O O<|kmv O<|aR O O bZ y3 hio dO<|bH O O dO ?_;refine aW O hXJ O g3 dO<|kmv O<|aR O O bZ y3 hio3 dO<|aW O hEJ O hec dO<|aQ O bZ O dO ?_;refine klt O O (cK y3)<|aB<|aF O ?_;refine aJ<|rgN<|kfa O O ?_;refine kl1 O O O<|kmv O<|aZ (zs:=[.slice none 0 0]) (sz:=1) (e:=91) (cs':=[.slc 500 0 c.length 6]) y5 O O O O O O dO<|K.appendNil (by_:=24) (e:=91) (e2:=91) (l2:=[.slc 500 0 c.length 6]) O O O (dK _) O O yA y5 y5 y3 y3 O dO ?_;refine kfa O O ?_;refine bG O O O O O (nl3 O O O O) dO<|aB<|rgN<|kmv O<|kad O O hadd<|kas O<|aB ?_)
    refine cB (σ':=⟨[(1,Lp 1),(2,Lp 2),(3,Lp 3),(4,Ln .i64 (0:Nat)),(5,Lp 5),(6,Ln .i64 (0+1:Nat))],[(601,some ⟨91,vs.map .val ++ .slc 500 0 c.length 6::([]:List Value).map .val,true⟩),(500,some ⟨92,(inssV c).map .val,Nat.blt 0 c.length⟩),(5,some ⟨39,[.val (.int .i64 r.nw),.val (.int .i64 r.old),.slc 601 0 (0+1) 1],false⟩),v3B 42 3 va vb none 0 0,v3B 42 2 0 0 none 0 0,v3B 36 1 va vb (some ⟨blk,off,none⟩) 1 cap],joinM X H⟩) ?_ ?_
    ·rw [dC]
     rw [show vs=[] from List.eq_nil_of_length_eq_zero (by omega)]
     exact Le.ofR [(601,89)] y11 y1 y2 y2 y0 y2 y2
    refine Leads.closeCell hO (by have:=inssV_len c;rw [cT] at this;exact this) rfl bT rfl y1F rfl rfl fun b o v g1 _ hO3 hv=>cA ⟨r.ex.length-(0+1),by omega,0+1,vs++[v],withBlock H b o,by omega,rfl,hO3,?_,.inr ⟨by omega,?_⟩⟩
    ·rw [take_snoc hc]
     exact (GF.mono (cF g1)).push (ins_leads hv hI.small)
    ·rw [dE]
     rfl
   obtain ⟨x,hx⟩:=wg hnl
   obtain ⟨xb,xo,xarr,xel,xfr,rfl,hxX,hxz,hxc,_⟩:=hI.at hx
   have hxJ:=joinM_has hO hxX
   have hxo:=wo xo n 6
   have hadd:IntKind.i64.wrap ((n:Int)+1)=((n+1:Nat):Int):=by rw [cE y3];omega
   have hcl:=inssV_len (c.take n)
   rw [cW,Nat.min_eq_left hn] at hcl
   have hnc:=inssV_snoc (c.take n) x (cs:=[.val (.int .i64 x.op),.val (.int .i64 x.a),.val (.int .i64 x.b),.val (.bool x.k.1),.val (.int .u64 (x.k.2/18446744073709551616)),.val (.int .u64 (x.k.2%18446744073709551616))]) rfl
   rw [← take_snoc hx] at hnc
   (refine aA<|aA<|rgN<|kmv O<|kfa O O ?_;refine kl1 O O O<|kmv O<|aR O O bZ y3 hio dO<|bH O O dO ?_;refine aW O hXJ O g3 dO<|kmv O<|aR O O bZ y3 hio3 dO<|aW O hEJ O hec dO<|aQ O bZ O dO ?_;refine klt O O (cL y3)<|aB<|aE O ?_;refine aH ?_;refine aA<|aG<|aA<|rgN<|kfa O O ?_;refine kl1 O O O<|kmv O<|aR O O bZ y3 hio dO<|bH O O dO ?_;refine aW O hXJ O g3 dO<|kmv O<|aR O O bZ y3 hio3 dO<|aW O hEJ O hec dO<|kmv O<|aR O O bZ y3 hxo dO<|aY O hxJ y5 hxz hxc dO<|aP O dO ?_;refine aM O O O O O O dO ?_;refine aB<|rgN<|kmv O<|kfa O O ?_;refine kl1 O O O<|kfa O O ?_;refine kl1 O O O<|kfa O O ?_;refine kl1 O O O<|kfa O O ?_;refine bJ O O O y28 dO ?_;refine aT O O y2 y35 dO ?_;refine aZ (zs:=[.int .i64 0,.int .i64 0,.int .i64 0,.bool false,.int .u64 0,.int .u64 0]) (sz:=6) (e:=92) (cs':=[.val (.int .i64 x.op),.val (.int .i64 x.a),.val (.int .i64 x.b),.val (.bool x.k.1),.val (.int .u64 (x.k.2/18446744073709551616)),.val (.int .u64 (x.k.2%18446744073709551616))]) y5 O O O O O O dO<|bP (by_:=48) (e2:=92) (l2:=[.val (.int .i64 x.op),.val (.int .i64 x.a),.val (.int .i64 x.b),.val (.bool x.k.1),.val (.int .u64 (x.k.2/18446744073709551616)),.val (.int .u64 (x.k.2%18446744073709551616))]) (nl:=n+1) (nc:=(inssV (c.take (n+1))).map .val) O O hcl O O (dK _) O O y5 y5 y3 y3 O O hnc dO<|kas O<|aB<|rgN<|kmv O<|kad O O hadd<|kas O<|aB ?_)
   exact ⟨_,⟨[(1,Lp 1),(2,Lp 2),(3,Lp 3),(4,Ln .i64 (0:Nat)),(5,Lp 5),(6,Ln .i64 (0:Nat)),(7,.sv (.one (.slc 500 0 (n+1) 6))),(8,Ln .i64 (n+1:Nat))],[(500,some ⟨92,(inssV (c.take (n+1))).map .val,Nat.blt 0 (n+1)⟩),v3B 39 5 r.nw r.old none 0 0,v3B 42 3 va vb none 0 0,v3B 42 2 0 0 none 0 0,v3B 36 1 va vb (some ⟨blk,off,none⟩) 1 cap],joinM X H⟩,by omega,Le.ofR [(500,84)] y15 y1 y2 y2 y0 y2 y2,n+1,by omega,O,O⟩
 ·as_aux_lemma =>
   by_cases hkl:k<r.ex.length
   case neg =>
    have hke:k=r.ex.length:=by omega
    subst hke
    rw [dC] at GF
    have hadd:IntKind.i64.wrap (((0:Nat):Int)+1)=((1:Nat):Int):=rfl
    (refine aA<|aA<|rgN<|kmv O<|kfa O O ?_;refine kl1 O O O<|kmv O<|aR O O bZ y3 hio dO<|bH O O dO ?_;refine aW O hXJ O g3 dO<|aQ O bZ O dO ?_;refine klt O O (cK y3)<|aB<|aF O ?_;refine aJ<|rgN<|kfa O O ?_;refine kl1 O O O<|aK O O O dO ?_;refine aZ (zs:=[.int .i64 0,.int .i64 0,.slice none 0 0]) (sz:=3) (e:=39) (cs':=[.val (.int .i64 r.nw),.val (.int .i64 r.old),.slc 601 0 r.ex.length 1]) y5 O O O O O O dO<|K.appendNil (by_:=40) (e:=39) (e2:=39) (l2:=[.val (.int .i64 r.nw),.val (.int .i64 r.old),.slc 601 0 r.ex.length 1]) O O O (dK _) O O yA y5 y5 y3 y3 O dO ?_;refine kfa O O ?_;refine bG O O O O O (nl3 O O O O) dO<|aB<|rgN<|kmv O<|kad O O hadd<|kas O<|aB ?_)
    exact cB (σ':=⟨[(1,Lp 1),(2,Lp 2),(3,Lp 3),(4,Ln .i64 (1:Nat))],[(600,some ⟨39,[.val (.int .i64 r.nw),.val (.int .i64 r.old),.slc 601 0 r.ex.length 1],true⟩),(601,some ⟨91,vs.map .val,true⟩),(3,some ⟨42,[.val (.int .i64 va),.val (.int .i64 vb),.slc 600 0 (1) 3],false⟩),v3B 42 2 0 0 none 0 0,v3B 36 1 va vb (some ⟨blk,off,none⟩) 1 cap],joinM X H⟩) (Le.ofR [(600,95)] y8 y1 y2 y2 y0 y2 y2) (cA ⟨0,by omega,.inr ⟨O,vs,H,hO,GF,.inr ⟨by omega,O⟩⟩⟩)
   obtain ⟨c,hc⟩:=wg hkl
   obtain ⟨eb,eo,earr,eel,efr,vad,vcap,rfl,hEX,hec,hI⟩:=hE.get hc
   have hEJ:=joinM_has hO hEX
   have hio3:=wo eo k 1
   have h80:=h12.2 c (cZ hc)
   have hvk:=GF.len
   rw [cW] at hvk
   have hvl:(vs.map CV.val).length=k*1:=by rw [cT];omega
   (refine aA<|aA<|rgN<|kmv O<|kfa O O ?_;refine kl1 O O O<|kmv O<|aR O O bZ y3 hio dO<|bH O O dO ?_;refine aW O hXJ O g3 dO<|aQ O bZ O dO ?_;refine klt O O (cL y3)<|aB<|aE O ?_;refine aH ?_;refine aA<|aG<|aA<|rgN<|aZ (zs:=[]) (sz:=6) (e:=92) y5 O O O O O O dO<|kas O<|aB<|aA<|aA<|rgN<|kas O<|aB<|aG ?_)
   refine cG (fun m σ=>∃ n:Nat,n≤c.length∧m=c.length-n∧σ=⟨[(1,Lp 1),(2,Lp 2),(3,Lp 3),(4,Ln .i64 (0:Nat)),(5,Lp 5),(6,Ln .i64 (k:Nat)),(7,.sv (.one (.slc 500 0 (n) 6))),(8,Ln .i64 (n:Nat))],[(500,some ⟨92,(inssV (c.take (n))).map .val,Nat.blt 0 (n)⟩),(601,some ⟨91,(vs).map .val,true⟩),(5,some ⟨39,[.val (.int .i64 r.nw),.val (.int .i64 r.old),.slc 601 0 (k) 1],false⟩),v3B 42 3 va vb none 0 0,v3B 42 2 0 0 none 0 0,v3B 36 1 va vb (some ⟨blk,off,none⟩) 1 cap],joinM X H⟩) c.length
    ⟨⟨[(1,Lp 1),(2,Lp 2),(3,Lp 3),(4,Ln .i64 (0:Nat)),(5,Lp 5),(6,Ln .i64 (k:Nat)),(7,.sv (.one (.slc 500 0 (0) 6))),(8,Ln .i64 (0:Nat))],[(500,some ⟨92,(inssV (c.take (0))).map .val,Nat.blt 0 (0)⟩),(601,some ⟨91,(vs).map .val,true⟩),(5,some ⟨39,[.val (.int .i64 r.nw),.val (.int .i64 r.old),.slc 601 0 (k) 1],false⟩),v3B 42 3 va vb none 0 0,v3B 42 2 0 0 none 0 0,v3B 36 1 va vb (some ⟨blk,off,none⟩) 1 cap],joinM X H⟩,Le.ofR [(500,46)] y15 y1 y2 y2 y0 y2 y2,0,by omega,by omega,rfl⟩ ?_
   rintro m σ ⟨n,hn,rfl,rfl⟩
   by_cases hnl:n<c.length
   case neg =>
    have e:n=c.length:=by omega
    subst e
    have hadd:IntKind.i64.wrap ((k:Int)+1)=((k+1:Nat):Int):=by rw [cE y3];omega
    (refine aA<|aA<|rgN<|kmv O<|kfa O O ?_;refine kl1 O O O<|kmv O<|aR O O bZ y3 hio dO<|bH O O dO ?_;refine aW O hXJ O g3 dO<|kmv O<|aR O O bZ y3 hio3 dO<|aW O hEJ O hec dO<|aQ O bZ O dO ?_;refine klt O O (cK y3)<|aB<|aF O ?_;refine aJ<|rgN<|kfa O O ?_;refine kl1 O O O<|kmv O<|aZ (zs:=[.slice none 0 0]) (sz:=1) (e:=91) (cs':=[.slc 500 0 c.length 6]) y5 O O O O O O dO<|bP (by_:=24) (e2:=91) (l2:=[.slc 500 0 c.length 6]) (nl:=k+1) (nc:=vs.map .val++[.slc 500 0 c.length 6]) O O hvl O O (dK _) O O y5 y5 y3 y3 O O O dO<|kfa O O ?_;refine bG O O O O O (nl3 O O O O) dO<|aB<|rgN<|kmv O<|kad O O hadd<|kas O<|aB ?_)
    refine cB (σ':=⟨[(1,Lp 1),(2,Lp 2),(3,Lp 3),(4,Ln .i64 (0:Nat)),(5,Lp 5),(6,Ln .i64 (k+1:Nat))],[(601,some ⟨91,vs.map .val ++ .slc 500 0 c.length 6::([]:List Value).map .val,true⟩),(500,some ⟨92,(inssV c).map .val,Nat.blt 0 c.length⟩),(5,some ⟨39,[.val (.int .i64 r.nw),.val (.int .i64 r.old),.slc 601 0 (k+1) 1],false⟩),v3B 42 3 va vb none 0 0,v3B 42 2 0 0 none 0 0,v3B 36 1 va vb (some ⟨blk,off,none⟩) 1 cap],joinM X H⟩) ?_ ?_
    ·rw [dC]
     exact Le.ofR [(601,89)] y11 y1 y2 y2 y0 y2 y2
    refine Leads.closeCell hO (by have:=inssV_len c;rw [cT] at this;exact this) rfl bT rfl y1F rfl rfl fun b o v g1 _ hO3 hv=>cA ⟨r.ex.length-(k+1),by omega,k+1,vs++[v],withBlock H b o,by omega,rfl,hO3,?_,.inr ⟨by omega,?_⟩⟩
    ·rw [take_snoc hc]
     exact (GF.mono (cF g1)).push (ins_leads hv hI.small)
    ·rw [dE]
     rfl
   obtain ⟨x,hx⟩:=wg hnl
   obtain ⟨xb,xo,xarr,xel,xfr,rfl,hxX,hxz,hxc,_⟩:=hI.at hx
   have hxJ:=joinM_has hO hxX
   have hxo:=wo xo n 6
   have hadd:IntKind.i64.wrap ((n:Int)+1)=((n+1:Nat):Int):=by rw [cE y3];omega
   have hcl:=inssV_len (c.take n)
   rw [cW,Nat.min_eq_left hn] at hcl
   have hnc:=inssV_snoc (c.take n) x (cs:=[.val (.int .i64 x.op),.val (.int .i64 x.a),.val (.int .i64 x.b),.val (.bool x.k.1),.val (.int .u64 (x.k.2/18446744073709551616)),.val (.int .u64 (x.k.2%18446744073709551616))]) rfl
   rw [← take_snoc hx] at hnc
   (refine aA<|aA<|rgN<|kmv O<|kfa O O ?_;refine kl1 O O O<|kmv O<|aR O O bZ y3 hio dO<|bH O O dO ?_;refine aW O hXJ O g3 dO<|kmv O<|aR O O bZ y3 hio3 dO<|aW O hEJ O hec dO<|aQ O bZ O dO ?_;refine klt O O (cL y3)<|aB<|aE O ?_;refine aH ?_;refine aA<|aG<|aA<|rgN<|kfa O O ?_;refine kl1 O O O<|kmv O<|aR O O bZ y3 hio dO<|bH O O dO ?_;refine aW O hXJ O g3 dO<|kmv O<|aR O O bZ y3 hio3 dO<|aW O hEJ O hec dO<|kmv O<|aR O O bZ y3 hxo dO<|aY O hxJ y5 hxz hxc dO<|aP O dO ?_;refine aM O O O O O O dO ?_;refine aB<|rgN<|kmv O<|kfa O O ?_;refine kl1 O O O<|kfa O O ?_;refine kl1 O O O<|kfa O O ?_;refine kl1 O O O<|kfa O O ?_;refine bJ O O O y28 dO ?_;refine aT O O y2 y35 dO ?_;refine aZ (zs:=[.int .i64 0,.int .i64 0,.int .i64 0,.bool false,.int .u64 0,.int .u64 0]) (sz:=6) (e:=92) (cs':=[.val (.int .i64 x.op),.val (.int .i64 x.a),.val (.int .i64 x.b),.val (.bool x.k.1),.val (.int .u64 (x.k.2/18446744073709551616)),.val (.int .u64 (x.k.2%18446744073709551616))]) y5 O O O O O O dO<|bP (by_:=48) (e2:=92) (l2:=[.val (.int .i64 x.op),.val (.int .i64 x.a),.val (.int .i64 x.b),.val (.bool x.k.1),.val (.int .u64 (x.k.2/18446744073709551616)),.val (.int .u64 (x.k.2%18446744073709551616))]) (nl:=n+1) (nc:=(inssV (c.take (n+1))).map .val) O O hcl O O (dK _) O O y5 y5 y3 y3 O O hnc dO<|kas O<|aB<|rgN<|kmv O<|kad O O hadd<|kas O<|aB ?_)
   exact ⟨_,⟨[(1,Lp 1),(2,Lp 2),(3,Lp 3),(4,Ln .i64 (0:Nat)),(5,Lp 5),(6,Ln .i64 (k:Nat)),(7,.sv (.one (.slc 500 0 (n+1) 6))),(8,Ln .i64 (n+1:Nat))],[(500,some ⟨92,(inssV (c.take (n+1))).map .val,Nat.blt 0 (n+1)⟩),(601,some ⟨91,(vs).map .val,true⟩),(5,some ⟨39,[.val (.int .i64 r.nw),.val (.int .i64 r.old),.slc 601 0 (k) 1],false⟩),v3B 42 3 va vb none 0 0,v3B 42 2 0 0 none 0 0,v3B 36 1 va vb (some ⟨blk,off,none⟩) 1 cap],joinM X H⟩,by omega,Le.ofR [(500,84)] y15 y1 y2 y2 y0 y2 y2,n+1,by omega,O,O⟩
end Go.Proofs.YtopiioklkkiedaaGreatDoor
end
section
set_option maxHeartbeats 12800000
set_option maxRecDepth 100000
namespace Go.Proofs.YtopiioklkkiedaaGreatDoor
open Go Go.Lg Go.Lg.Fml Go.Lg.Fld Go.Lg.Arith
set_option maxRecDepth 100000
variable (X:Nat→Option Obj)
set_option maxHeartbeats 25600000 in
theorem rVal14 (a b:Cp) (r:Rl) (ns:List Nm) (aad bad ead vad:Option Addr) (acap bcap ecap vcap:Nat) (hA:FieldsIn X aad a.fs) (hB:FieldsIn X bad b.fs) (hE:CodesIn X ead r.ex) (hN:NumsIn X vad ns) (hvc:ns.length≤vcap) (la:a.fs.length≤12) (lb:b.fs.length≤12) (lr:r.ex.length≤12∧∀ c∈r.ex,c.length≤80) (ln:ns.length≤1000):
  MSpec Tryz.prog X 13 [Cx a aad acap,Cx b bad bcap,LPg r.nw r.old ead r.ex.length ecap,Lx vad ns.length vcap] [] (vR14 (valE a.fs b.fs r ns) (valN a.fs b.fs r ns)) (vBx14 (valE a.fs b.fs r ns) (valN a.fs b.fs r ns)):=by
 have hF0:=refFit_spec X aad vad acap vcap a.fs ns hA y3 hN y3
 have hR:=rRule13 X a b r aad bad ead acap bcap ecap hA hB hE y3 y3 (fun c hc=>by have:=lr.2 c hc;omega)
 refine cD Tryz.func13 rfl y5 rfl (by unfold vR14 vBx14;split<;>rfl) (by unfold vBx14;split<;>exact y0) rfl rfl ?_
 intro C
 by_cases z1:fitErr a.fs ns=0
 case neg =>
  rw [show valE a.fs b.fs r ns=fitErr a.fs ns by unfold valE;rw [if_neg z1]]
  unfold vR14 vBx14
  rw [if_neg z1,if_neg z1]
  generalize fitErr a.fs ns=e at *
  (refine aA<|rgN<|aL O O O dO<|aL O O O dO<|aL O O O dO<|kas O<|kas O<|aB<|aA<|aA<|rgN<|kfa O O ?_;refine kl1 O O O<|kmv O<|kca O O hF0<|kas O<|aB<|aA<|rgN<|kmv O<|kne O O (r:=true) (cP z1)<|aB<|aE O ?_;refine aA<|rgN<|kmv O<|kas O<|kas O<|aB<|aI ?_)
  exact y1C
 rw [z1] at hF0
 by_cases z2:layErr b.fs=0
 case neg =>
  have hL:=Lay_no X bad bcap b.fs hB y3 z2
  rw [show valE a.fs b.fs r ns=layErr b.fs by unfold valE;rw [if_pos z1,if_neg z2]]
  unfold vR14 vBx14
  rw [if_neg z2,if_neg z2]
  generalize layErr b.fs=e at *
  (refine aA<|rgN<|aL O O O dO<|aL O O O dO<|aL O O O dO<|kas O<|kas O<|aB<|aA<|aA<|rgN<|kfa O O ?_;refine kl1 O O O<|kmv O<|kca O O hF0<|kas O<|aB<|aA<|rgN<|kmv O<|kne O O (r:=false) O<|aB<|aF O ?_;refine aH ?_;refine aA<|aA<|rgN<|kfa O O ?_;refine kl1 O O O<|aU [] [] (hL) O O yC O O O O O y2B dO<|kmv O<|kex O O<|kex O O<|kex O O<|kex O O<|kas O<|kas O<|kas O<|kas O<|aB<|aA<|rgN ?_;refine kmv O<|kne O O (r:=true) (cP z2)<|aB<|aE O ?_;refine aA<|rgN<|kmv O<|kas O<|kas O<|aB<|aI ?_)
  exact y1C
 have hL:=Lay_ok X bad bcap b.fs hB y3 z2
 obtain ⟨_,hokb,_⟩:=layErr_facts z2
 generalize elemsAt 0 b.fs=E at hL
 generalize startsAt 0 b.fs=S at hL
 generalize rowSize b.fs=T at hL
 by_cases z3:r.old=0
 ·rw [show valE a.fs b.fs r ns=7 by unfold valE;rw [if_pos z1,if_pos z2,if_pos z3]]
  unfold vR14 vBx14
  rw [if_neg (by decide),if_neg (by decide)]
  (refine aA<|rgN<|aL O O O dO<|aL O O O dO<|aL O O O dO<|kas O<|kas O<|aB<|aA<|aA<|rgN<|kfa O O ?_;refine kl1 O O O<|kmv O<|kca O O hF0<|kas O<|aB<|aA<|rgN<|kmv O<|kne O O (r:=false) O<|aB<|aF O ?_;refine aH ?_;refine aA<|aA<|rgN<|kfa O O ?_;refine kl1 O O O<|bE [(1000001,501),(1000002,502)] (.tup [.one (.slc 501 0 E.length 2),Sn .i64 (T:Nat),.one (.slc 502 0 b.fs.length 1),Sn .i64 0]) [(501,some ⟨114,(elVs E).map .val,Nat.blt 0 E.length⟩),(502,some ⟨3,(ntV S).map .val,Nat.blt 0 b.fs.length⟩)] (hL) O O yC O O O O O y1D dO<|kmv O<|kex O O<|kex O O<|kex O O<|kex O O<|kas O<|kas O<|kas O<|kas O<|aB<|aA<|rgN ?_;refine kmv O<|kne O O (r:=false) O<|aB<|aF O ?_;refine aH ?_;refine aA<|aA<|rgN<|kfa O O ?_;refine kl1 O O O<|keq O O (r:=true) (cR z3)<|aB<|aE O ?_;refine aA<|rgN<|kas O<|kas O<|aB<|aI ?_)
  exact y1C
 by_cases z4:ruE a.fs b.fs r=0
 case neg =>
  rw [show valE a.fs b.fs r ns=ruE a.fs b.fs r by unfold valE;rw [if_pos z1,if_pos z2,if_neg z3,if_neg z4]]
  unfold vR14 vBx14
  rw [if_neg z4,if_neg z4]
  generalize ruE a.fs b.fs r=e at *
  (refine aA<|rgN<|aL O O O dO<|aL O O O dO<|aL O O O dO<|kas O<|kas O<|aB<|aA<|aA<|rgN<|kfa O O ?_;refine kl1 O O O<|kmv O<|kca O O hF0<|kas O<|aB<|aA<|rgN<|kmv O<|kne O O (r:=false) O<|aB<|aF O ?_;refine aH ?_;refine aA<|aA<|rgN<|kfa O O ?_;refine kl1 O O O<|bE [(1000001,501),(1000002,502)] (.tup [.one (.slc 501 0 E.length 2),Sn .i64 (T:Nat),.one (.slc 502 0 b.fs.length 1),Sn .i64 0]) [(501,some ⟨114,(elVs E).map .val,Nat.blt 0 E.length⟩),(502,some ⟨3,(ntV S).map .val,Nat.blt 0 b.fs.length⟩)] (hL) O O yC O O O O O y1D dO<|kmv O<|kex O O<|kex O O<|kex O O<|kex O O<|kas O<|kas O<|kas O<|kas O<|aB<|aA<|rgN ?_;refine kmv O<|kne O O (r:=false) O<|aB<|aF O ?_;refine aH ?_;refine aA<|aA<|rgN<|kfa O O ?_;refine kl1 O O O<|keq O O (r:=false) (cN z3)<|aB<|aF O ?_;refine aH ?_;refine aA<|aA<|rgN<|aK O O O dO ?_;refine aK O O O dO ?_;refine aK O O O dO ?_;refine kca O O hR<|kas O<|aB<|aA<|rgN<|kmv O<|kne O O (r:=true) (cP z4)<|aB<|aE O ?_;refine aA<|rgN<|kmv O<|kas O<|kas O<|aB<|aI ?_)
  exact y1C
 rw [z4] at hR
 have hel:=ruE_len z4 z3
 obtain ⟨z5,hns,_⟩:=fit_all z1
 obtain ⟨_,hoka,_⟩:=layErr_facts z5
 rw [show valE a.fs b.fs r ns=seqE (stepE (cutN a.fs ns)) (stepsN b.fs r.ex) by unfold valE;rw [if_pos z1,if_pos z2,if_neg z3,if_pos z4]]
 unfold valN
 (refine aA<|rgN<|aL O O O dO<|aL O O O dO<|aL O O O dO<|kas O<|kas O<|aB<|aA<|aA<|rgN<|kfa O O ?_;refine kl1 O O O<|kmv O<|kca O O hF0<|kas O<|aB<|aA<|rgN<|kmv O<|kne O O (r:=false) O<|aB<|aF O ?_;refine aH ?_;refine aA<|aA<|rgN<|kfa O O ?_;refine kl1 O O O<|bE [(1000001,501),(1000002,502)] (.tup [.one (.slc 501 0 E.length 2),Sn .i64 (T:Nat),.one (.slc 502 0 b.fs.length 1),Sn .i64 0]) [(501,some ⟨114,(elVs E).map .val,Nat.blt 0 E.length⟩),(502,some ⟨3,(ntV S).map .val,Nat.blt 0 b.fs.length⟩)] (hL) O O yC O O O O O y1D dO<|kmv O<|kex O O<|kex O O<|kex O O<|kex O O<|kas O<|kas O<|kas O<|kas O<|aB<|aA<|rgN ?_;refine kmv O<|kne O O (r:=false) O<|aB<|aF O ?_;refine aH ?_;refine aA<|aA<|rgN<|kfa O O ?_;refine kl1 O O O<|keq O O (r:=false) (cN z3)<|aB<|aF O ?_;refine aH ?_;refine aA<|aA<|rgN<|aK O O O dO ?_;refine aK O O O dO ?_;refine aK O O O dO ?_;refine kca O O hR<|kas O<|aB<|aA<|rgN<|kmv O<|kne O O (r:=false) O<|aB<|aF O ?_;refine aH ?_;refine aA<|rgN<|aZ (zs:=[]) (sz:=1) (e:=28) y5 O O O O O O dO<|kas O<|aB<|aA<|rgN<|kas O<|aB<|aA<|aA<|rgN<|kas O<|aB ?_;refine aG ?_)
 clear hF0 hL hR
 repeat refine aA ?_
 refine LWP.meetB (fun σ=>σ=⟨[(3,Lx vad ns.length vcap),(4,Lp 4),(5,Lp 5),(6,Lp 6),(16,.sv (.one (.slc 500 0 (a.fs.length) 1))),(17,Ln .i64 ((sumC a.fs):Nat)),(18,Ln .i64 (a.fs.length:Nat))],[(500,some ⟨28,(subV vad vcap 0 (a.fs)).map .val,Nat.blt 0 (a.fs.length)⟩),cpB 4 a aad acap,cpB 5 b bad bcap,v3B 39 6 r.nw r.old ead r.ex.length ecap],X⟩) ?_ ?_
 ·refine cH (fun m σ=>∃ i:Nat,i≤a.fs.length∧m=a.fs.length-i∧σ=⟨[(3,Lx vad ns.length vcap),(4,Lp 4),(5,Lp 5),(6,Lp 6),(16,.sv (.one (.slc 500 0 (i) 1))),(17,Ln .i64 ((sumC (a.fs.take i)):Nat)),(18,Ln .i64 (i:Nat))],[(500,some ⟨28,(subV vad vcap 0 (a.fs.take (i))).map .val,Nat.blt 0 (i)⟩),cpB 4 a aad acap,cpB 5 b bad bcap,v3B 39 6 r.nw r.old ead r.ex.length ecap],X⟩) a.fs.length
   (cB (σ':=⟨[(3,Lx vad ns.length vcap),(4,Lp 4),(5,Lp 5),(6,Lp 6),(16,.sv (.one (.slc 500 0 (0) 1))),(17,Ln .i64 (0:Nat)),(18,Ln .i64 (0:Nat))],[(500,some ⟨28,(subV vad vcap 0 (a.fs.take (0))).map .val,Nat.blt 0 (0)⟩),cpB 4 a aad acap,cpB 5 b bad bcap,v3B 39 6 r.nw r.old ead r.ex.length ecap],X⟩) (Le.ofR [(500,52)] y14 y1 y2 y2 y0 y2 y2) (cA ⟨0,by omega,by omega,rfl⟩)) ?_
  rintro m σ ⟨i,hi,rfl,rfl⟩
  by_cases hlt:i<a.fs.length
  case neg =>
   have e:i=a.fs.length:=by omega
   subst e
   rw [dC]
   (refine aA<|aA<|rgN<|kmv O<|kfa O O ?_;refine kl1 O O O<|aQ O bZ O dO ?_;refine klt O O (cK y3)<|aB<|aF O ?_;refine aJ ?_)
   exact cB (σ':=⟨[(3,Lx vad ns.length vcap),(4,Lp 4),(5,Lp 5),(6,Lp 6),(16,.sv (.one (.slc 500 0 (a.fs.length) 1))),(17,Ln .i64 ((sumC a.fs):Nat)),(18,Ln .i64 (a.fs.length:Nat))],[(500,some ⟨28,(subV vad vcap 0 (a.fs)).map .val,Nat.blt 0 (a.fs.length)⟩),cpB 4 a aad acap,cpB 5 b bad bcap,v3B 39 6 r.nw r.old ead r.ex.length ecap],X⟩) (Le.of y14 y8 y2 y2 y0) (cA O)
  obtain ⟨f,hf⟩:=wg hlt
  obtain ⟨fb,fo,farr,fel,ffr,rfl,hFX,hFz,hFc,_,_,g2⟩:=hA.cells hf
  have hio:=wo fo i 3
  obtain ⟨hn1,hn8,hnc⟩:=sum_pos hoka hf
  have hst:=sum_take hf
  obtain ⟨u,hu⟩:∃ u,ns[0]? = some u:=wg y3
  obtain ⟨vb,vo,varr,vel,vfr,rfl,_⟩:=hN.rows 0 (nmV u) (by rw [dI,hu];rfl)
  have hs1:sumC (a.fs.take (i+1))=sumC (a.fs.take i)+f.n:=by rw [take_snoc hf,sum_snoc]
  have hadd1:IntKind.i64.wrap (((sumC (a.fs.take i):Nat):Int)+f.count)=((sumC (a.fs.take i)+f.n:Nat):Int):=by rw [cE y3];omega
  have hadd2:IntKind.i64.wrap (((sumC (a.fs.take i):Nat):Int)+f.count)=((sumC (a.fs.take (i+1)):Nat):Int):=by rw [hs1];exact hadd1
  have hadd:=wi i y3
  have hcl:((subV (some ⟨vb,vo,none⟩) vcap 0 (a.fs.take i)).map CV.val).length=i*1:=by rw [cT,subV_len,cW];omega
  have hnw:(subV (some ⟨vb,vo,none⟩) vcap 0 (a.fs.take i)).map CV.val++[.val (.slice (some ⟨vb,vo+sumC (a.fs.take i)*3,none⟩) f.n (vcap-sumC (a.fs.take i)))]=(subV (some ⟨vb,vo,none⟩) vcap 0 (a.fs.take (i+1))).map .val:=by
   rw [take_snoc hf,subV_snoc,dE,Nat.zero_add];rfl
  (refine aA<|aA<|rgN<|kmv O<|kfa O O ?_;refine kl1 O O O<|aQ O bZ O dO ?_;refine klt O O (cL y3)<|aB<|aE O ?_;refine aH ?_;refine aA<|aG<|aA<|rgN<|kmv O<|kmv O<|kmv O<|kmv O<|kfa O O ?_;refine kl1 O O O<|kmv O<|aR O O bZ y3 hio dO<|bH O O dO ?_;refine aW O hFX O g2 dO<|kad O O hadd1<|K.cut2X (sz:=3) O O O bZ y3 y3 (.inl y3) hvc O (Nat.add_sub_cancel_left ..) O dO ?_;refine aZ (zs:=[.slice none 0 0]) (sz:=1) (e:=28) (cs':=[.val (.slice (some ⟨vb,vo+sumC (a.fs.take i)*3,none⟩) f.n (vcap-sumC (a.fs.take i)))]) y5 O O O O O O dO<|bP (by_:=24) (e2:=28) (l2:=[.val (.slice (some ⟨vb,vo+sumC (a.fs.take i)*3,none⟩) f.n (vcap-sumC (a.fs.take i)))]) (nl:=i+1) (nc:=(subV (some ⟨vb,vo,none⟩) vcap 0 (a.fs.take (i+1))).map .val) O O hcl O O (dK _) O O y5 y5 y3 y3 O O hnw dO<|kas O<|aB<|rgN<|kmv O<|kfa O O ?_;refine kl1 O O O<|kmv O<|aR O O bZ y3 hio dO<|bH O O dO ?_;refine aW O hFX O g2 dO<|kad O O hadd2<|kas O<|aB<|rgN<|kmv O<|kad O O hadd<|kas O<|aB ?_)
  exact cB (σ':=⟨[(3,Lx (some ⟨vb,vo,none⟩) ns.length vcap),(4,Lp 4),(5,Lp 5),(6,Lp 6),(16,.sv (.one (.slc 500 0 (i+1) 1))),(17,Ln .i64 ((sumC (a.fs.take (i+1))):Nat)),(18,Ln .i64 (i+1:Nat))],[(500,some ⟨28,(subV (some ⟨vb,vo,none⟩) vcap 0 (a.fs.take (i+1))).map .val,Nat.blt 0 (i+1)⟩),cpB 4 a (some ⟨fb,fo,none⟩) acap,cpB 5 b bad bcap,v3B 39 6 r.nw r.old ead r.ex.length ecap],X⟩) (Le.ofR [(500,73)] y14 y1 y2 y2 y0 y2 y2) (cA ⟨a.fs.length-(i+1),by omega,i+1,by omega,O,O⟩)
 rintro σ rfl
 (refine aA<|rgN<|aZ (zs:=[]) (sz:=3) (e:=86) y5 O O O O O O dO<|kas O<|aB<|aA<|aA<|rgN<|kas O<|aB<|aG ?_)
 refine LWP.le (σ':=⟨[(16,.sv (.one (.slc 500 0 a.fs.length 1))),(5,Lp 5),(6,Lp 6),(19,.sv (.one (.slc 501 0 0 3))),(20,Ln .i64 (0:Nat))],[(500,some ⟨28,(subV vad vcap 0 a.fs).map .val,Nat.blt 0 a.fs.length⟩),nmsB 501 [] false,cpB 5 b bad bcap,v3B 39 6 r.nw r.old ead r.ex.length ecap],X⟩) (Le.ofR [(500,500),(501,82)] y10 y1 y2 y2 y0 y2 y2) ?_
 refine LWP.freeze O O O fun fb0 fc fa0 ff0 hn0 _ hfc _ hsp => ?_
 have hXY:=cF (o:=.cells fa0 28 ff0) hn0
 have hFs:=fss_block (cJ X fb0 (.cells fa0 28 ff0)) hsp ⟨hN.rows.mono hXY,hN.in2⟩ hns
 have hf2:∀ l∈cutN a.fs ns,∀ u∈l,In2 u.2:=fun l hl u hu=>hN.in2 u (cut_mem hl u hu)
 have hrl:∀ l∈cutN a.fs ns,l.length≤1000:=fun l hl=>by
  obtain ⟨i,hi⟩:=List.mem_iff_getElem?.1 hl
  have hil:=(wl hi)
  rw [cutN_len] at hil
  rw [cut_at (cU hil)] at hi
  cases hi
  rw [cW,cX];omega
 replace hB:=hB.mono hXY
 replace hE:=hE.mono hXY
 have hfl:a.fs.length=(cutN a.fs ns).length:=cutN_len.symm
 have hcl12:(cutN a.fs ns).length≤12:=by rw [cutN_len];exact la
 clear hA hN hsp hn0 hXY
 generalize withBlock X fb0 (.cells fa0 28 ff0)=Y at *
 generalize (some ⟨fb0,0,none⟩:Option Addr)=fad at *
 rw [hfl]
 generalize cutN a.fs ns=G at *
 refine cH (fun m σ=>∃ (i:Nat) (L:List Nm),i≤b.fs.length∧m=b.fs.length-i∧L=(stepsN (b.fs.take i) (r.ex.take i)).map (stepV G)∧seqE (stepE G) (stepsN (b.fs.take i) (r.ex.take i))=0∧σ=⟨[(5,Lp 5),(6,Lp 6),(16,Lx fad G.length fc),(19,.sv (.one (.slc 501 0 L.length 3))),(20,Ln .i64 (i:Nat))],[nmsB 501 (L) (Nat.blt 0 L.length),cpB 5 b bad bcap,v3B 39 6 r.nw r.old ead r.ex.length ecap],Y⟩) b.fs.length
  (cB (σ':=⟨[(5,Lp 5),(6,Lp 6),(16,Lx fad G.length fc),(19,.sv (.one (.slc 501 0 0 3))),(20,Ln .i64 (0:Nat))],[nmsB 501 ([]) false,cpB 5 b bad bcap,v3B 39 6 r.nw r.old ead r.ex.length ecap],Y⟩) (Le.ofR [(501,501)] y10 y1 y2 y2 y0 y2 y2) (cA ⟨0,[],by omega,by omega,rfl,rfl,rfl⟩)) ?_
 rintro m σ ⟨i,L,hi,rfl,hL,hpre,rfl⟩
 by_cases hlt:i<b.fs.length
 case neg =>
  have e:i=b.fs.length:=by omega
  subst e
  rw [dC,← hel,dC] at hL hpre
  rw [hpre]
  unfold vR14 vBx14
  rw [if_pos rfl,if_pos rfl,← hL]
  (refine aA<|aA<|rgN<|kmv O<|kfa O O ?_;refine kl1 O O O<|aQ O bZ O dO ?_;refine klt O O (cK y3)<|aB<|aF O ?_;refine aJ<|aA<|rgN<|kmv O<|kas O<|kas O<|aB<|aI ?_)
  exact ⟨[(1000001,501)],⟨[_,_],⟨O,O,trivial⟩,O⟩,y1,O,O⟩
 obtain ⟨f,hf⟩:=wg hlt
 obtain ⟨c,hc⟩:∃ c,r.ex[i]? = some c:=wg y3
 obtain ⟨fb,fo,farr,fel,ffr,rfl,hFX,hFz,hFc,_,g1,g2⟩:=hB.cells hf
 obtain ⟨eb,eo,earr,eel,efr,cad,ccap,rfl,hEX,hec,hI⟩:=hE.get hc
 have hio:=wo fo i 3
 have hio1:=wo eo i 1
 obtain ⟨hn1,hn8,hnc⟩:=sum_pos hokb hf
 have hadd:=wi i y3
 have hc80:=lr.2 c (cZ hc)
 have hsl:(stepsN (b.fs.take i) (r.ex.take i)).length≤96:=by
  have h1:=steps_len (b:=b.fs.take i) (ex:=r.ex.take i) (by rw [cW,cW];omega)
  rw [h1,elems_sum]
  have h2:=sum_le (b.fs.take i) (Fld.take_ok hokb i)
  rw [cW] at h2
  omega
 (refine aA<|aA<|rgN<|kmv O<|kfa O O ?_;refine kl1 O O O<|aQ O bZ O dO ?_;refine klt O O (cL y3)<|aB<|aE O ?_;refine aH ?_;refine aA<|aG<|aA<|rgN<|kas O<|aB<|aG ?_)
 refine cH (fun m σ=>∃ (k:Nat) (L:List Nm),k≤f.n∧m=f.n-k∧L=(stepsN (b.fs.take i) (r.ex.take i)++fldS f c k).map (stepV G)∧seqE (stepE G) (stepsN (b.fs.take i) (r.ex.take i)++fldS f c k)=0∧σ=⟨[(5,Lp 5),(6,Lp 6),(16,Lx fad G.length fc),(19,.sv (.one (.slc 501 0 L.length 3))),(20,Ln .i64 (i:Nat)),(21,Ln .i64 (k:Nat))],[nmsB 501 (L) (Nat.blt 0 L.length),cpB 5 b (some ⟨fb,fo,none⟩) bcap,v3B 39 6 r.nw r.old (some ⟨eb,eo,none⟩) r.ex.length ecap],Y⟩) f.n
  (cB (σ':=⟨[(5,Lp 5),(6,Lp 6),(16,Lx fad G.length fc),(19,.sv (.one (.slc 501 0 L.length 3))),(20,Ln .i64 (i:Nat)),(21,Ln .i64 (0:Nat))],[nmsB 501 (L) (Nat.blt 0 L.length),cpB 5 b (some ⟨fb,fo,none⟩) bcap,v3B 39 6 r.nw r.old (some ⟨eb,eo,none⟩) r.ex.length ecap],Y⟩) (Le.ofR [(501,501)] y11 y1 y2 y2 y0 y2 y2) (cA ⟨0,L,by omega,by omega,by rw [fldS_zero,dG];exact hL,by rw [fldS_zero,dG];exact hpre,rfl⟩)) ?_
 clear hpre hL
 clear L
 rintro m σ ⟨k,L,hk,rfl,hL,hpre,rfl⟩
 have hLl:L.length≤104:=by rw [hL,cT,cS,fldS_len];omega
 by_cases hkl:k<f.n
 case neg =>
  have e:k=f.n:=by omega
  subst e
  (refine aA<|aA<|rgN<|kmv O<|kfa O O ?_;refine kl1 O O O<|kmv O<|aR O O bZ y3 hio dO<|bH O O dO ?_;refine aW O hFX O g2 dO<|klt O O (cK y3)<|aB<|aF O ?_;refine aJ<|rgN<|kmv O<|kad O O hadd<|kas O<|aB ?_)
  exact cB (σ':=⟨[(5,Lp 5),(6,Lp 6),(16,Lx fad G.length fc),(19,.sv (.one (.slc 501 0 L.length 3))),(20,Ln .i64 (i+1:Nat))],[nmsB 501 (L) (Nat.blt 0 L.length),cpB 5 b (some ⟨fb,fo,none⟩) bcap,v3B 39 6 r.nw r.old (some ⟨eb,eo,none⟩) r.ex.length ecap],Y⟩) (Le.ofR [(501,501)] y10 y1 y2 y2 y0 y2 y2) (cA ⟨b.fs.length-(i+1),by omega,i+1,L,by omega,rfl,by rw [steps_snoc hf hc];exact hL,by rw [steps_snoc hf hc];exact hpre,rfl⟩)
 obtain ⟨post,hpost⟩:=steps_at hf hc hkl
 have hEv:=rEval_spec Y c cad ccap hI y3 fad fc G hFs y3 (fun l hl=>by have:=hrl l hl;omega) hf2 (k:Nat) y3
 have haddk:=wi k y3
 cases hev:evX c G (k:Nat) with
 | error e =>
  have hne:=evX_err hev
  have hse:stepE G (f,c,k)=e:=by
   unfold stepE
   rw [hev,show erV (Except.error e:Except Int Nm)=e from rfl,if_neg hne]
  rw [seqE_hit hpost hpre (by rw [hse];exact hne),hse]
  unfold vR14 vBx14
  rw [if_neg hne,if_neg hne]
  rw [hev] at hEv
  (refine aA<|aA<|rgN<|kmv O<|kfa O O ?_;refine kl1 O O O<|kmv O<|aR O O bZ y3 hio dO<|bH O O dO ?_;refine aW O hFX O g2 dO<|klt O O (cL y3)<|aB<|aE O ?_;refine aH ?_;refine aA<|aG<|aA<|rgN<|kfa O O ?_;refine kl1 O O O<|kmv O<|aR O O bZ y3 hio1 dO<|aW O hEX O hec dO<|kmv O<|kmv O<|kca O O hEv<|kmv O<|kex O O<|kex O O<|aP O dO ?_;refine aM O O O O O O dO ?_;refine kas O<|aB<|aA<|aA<|rgN<|kmv O<|kne O O (r:=true) (cP hne)<|aB<|aE O ?_;refine aA<|rgN<|kmv O<|kas O<|kas O<|aB<|aI ?_)
  exact y1C
 | ok v =>
 rw [hev] at hEv
 have hv2:In2 v.2:=evX_two (fun x hx=>(hI.small x hx).2.2.2) hf2 y3 hev
 have hsv:stepV G (f,c,k)=v:=by unfold stepV;rw [hev];rfl
 have hFt:=fun q h=>refFits_spec Y f.kind v.1 v.2 hv2 q h
 cases hq:fitB f.kind v.1 v.2 with
 | false =>
  have hFt:=hFt false hq
  have hse:stepE G (f,c,k)=3:=by
   unfold stepE
   rw [hev,show erV (Except.ok v:Except Int Nm)=0 from rfl,if_pos rfl,hsv]
   exact if_neg (by rw [hq];decide)
  rw [seqE_hit hpost hpre (by rw [hse];decide),hse]
  unfold vR14 vBx14
  rw [if_neg (by decide),if_neg (by decide)]
  (refine aA<|aA<|rgN<|kmv O<|kfa O O ?_;refine kl1 O O O<|kmv O<|aR O O bZ y3 hio dO<|bH O O dO ?_;refine aW O hFX O g2 dO<|klt O O (cL y3)<|aB<|aE O ?_;refine aH ?_;refine aA<|aG<|aA<|rgN<|kfa O O ?_;refine kl1 O O O<|kmv O<|aR O O bZ y3 hio1 dO<|aW O hEX O hec dO<|kmv O<|kmv O<|kca O O hEv<|kmv O<|kex O O<|kex O O<|aP O dO ?_;refine aM O O O O O O dO ?_;refine kas O<|aB<|aA<|aA<|rgN<|kmv O<|kne O O (r:=false) O<|aB<|aF O ?_;refine aH ?_;refine aA<|aA<|rgD mixed<|kfa O O ?_;refine kl1 O O O<|kmv O<|aR O O bZ y3 hio dO<|bH O O dO ?_;refine aW O hFX O g1 dO<|aK O O O dO ?_;refine kca O O hFt<|aV O O dO<|aB<|rgA ?_;refine aE O ?_;refine aA<|rgN<|kas O<|kas O<|aB<|aI ?_)
  exact y1C
 | true =>
  have hFt:=hFt true hq
  have hse:stepE G (f,c,k)=0:=by
   unfold stepE
   rw [hev,show erV (Except.ok v:Except Int Nm)=0 from rfl,if_pos rfl,hsv]
   exact if_pos hq
  have hcl:=nmsV_len L
  have hnc2:=nmsV_snoc L v
  have hrow:Nat.blt 0 (L++[v]).length=true:=by rw [cS];simp
  have hL2:L++[v]=(stepsN (b.fs.take i) (r.ex.take i)++fldS f c (k+1)).map (stepV G):=by
   rw [fldS_succ,← dJ,dE,← hL,List.map_cons,List.map_nil,hsv]
  have hpre2:seqE (stepE G) (stepsN (b.fs.take i) (r.ex.take i)++fldS f c (k+1))=0:=by
   rw [fldS_succ,← dJ];exact seqE_snoc hpre hse
  have hnl:L.length+1=(L++[v]).length:=by rw [cS];rfl
  (refine aA<|aA<|rgN<|kmv O<|kfa O O ?_;refine kl1 O O O<|kmv O<|aR O O bZ y3 hio dO<|bH O O dO ?_;refine aW O hFX O g2 dO<|klt O O (cL y3)<|aB<|aE O ?_;refine aH ?_;refine aA<|aG<|aA<|rgN<|kfa O O ?_;refine kl1 O O O<|kmv O<|aR O O bZ y3 hio1 dO<|aW O hEX O hec dO<|kmv O<|kmv O<|kca O O hEv<|kmv O<|kex O O<|kex O O<|aP O dO ?_;refine aM O O O O O O dO ?_;refine kas O<|aB<|aA<|aA<|rgN<|kmv O<|kne O O (r:=false) O<|aB<|aF O ?_;refine aH ?_;refine aA<|aA<|rgD mixed<|kfa O O ?_;refine kl1 O O O<|kmv O<|aR O O bZ y3 hio dO<|bH O O dO ?_;refine aW O hFX O g1 dO<|aK O O O dO ?_;refine kca O O hFt<|aV O O dO<|aB<|rgA ?_;refine aF O ?_;refine aH ?_;refine rgN<|kmv O<|aK O O O dO ?_;refine aZ (zs:=[.bool false,.int .u64 0,.int .u64 0]) (sz:=3) (e:=86) (cs':=cI v.1 v.2) y5 O O O O O O dO<|bP (by_:=24) (e2:=86) (l2:=cI v.1 v.2) (nl:=(L++[v]).length) (nc:=(nmsV (L++[v])).map .val) O O hcl O O (dK _) O O y5 y5 y3 y3 O hnl hnc2 dO<|kas O<|aB<|rgN<|kmv O<|kad O O haddk<|kas O<|aB ?_)
  exact cB (σ':=⟨[(5,Lp 5),(6,Lp 6),(16,Lx fad G.length fc),(19,.sv (.one (.slc 501 0 (L++[v]).length 3))),(20,Ln .i64 (i:Nat)),(21,Ln .i64 (k+1:Nat))],[nmsB 501 (L++[v]) true,cpB 5 b (some ⟨fb,fo,none⟩) bcap,v3B 39 6 r.nw r.old (some ⟨eb,eo,none⟩) r.ex.length ecap],Y⟩) (Le.ofR [(501,126)] y11 y1 y2 y2 y0 y2 y2) (cA ⟨f.n-(k+1),by omega,k+1,L++[v],by omega,rfl,hL2,hpre2,by rw [hrow]⟩)
end Go.Proofs.YtopiioklkkiedaaGreatDoor
end
section
set_option maxHeartbeats 12800000
set_option maxRecDepth 100000
namespace Go.Proofs.YtopiioklkkiedaaGreatDoor
open Go Go.Lg Go.Lg.Fml Go.Lg.Fld Go.Lg.Arith
set_option maxRecDepth 100000
def fl14a:List Fl:=[⟨[120],2,1⟩]
def fl14b:List Fl:=[⟨[120],3,1⟩]
def c14a:Cp:=⟨1,[97],fl14a⟩
def c14b:Cp:=⟨1,[97],fl14b⟩
def code14:List Ins:=[⟨2,0,0,(false,0)⟩,⟨1,0,0,(false,2)⟩,⟨7,0,0,(false,0)⟩]
def r14:Rl:=⟨1,1,[code14]⟩
theorem va14:valE fl14a fl14b r14 [(false,100)]=0:=by decide +kernel
theorem vn14:valA fl14a fl14b r14 [(false,100)]=[(false,200)]:=by decide +kernel
theorem vb14:valE fl14a fl14a r14 [(false,100)]=3:=by decide +kernel
theorem vr14:rowE fl14a fl14b r14 [100]=0:=by decide +kernel
theorem vt14:rowN fl14a fl14b r14 [100]=[200,0]:=by decide +kernel
theorem vs14:sigN [⟨3,1,[]⟩,⟨4,0,[]⟩] 2=8:=by decide +kernel
theorem sm14a:∀ f∈fl14a,(-9223372036854775808≤f.kind∧f.kind<9223372036854775808)∧(-9223372036854775808≤f.count∧f.count<9223372036854775808):=by
 intro f hf
 simp only [fl14a,List.mem_cons,List.not_mem_nil,or_false] at hf
 subst hf;exact ⟨by decide,by decide⟩
theorem sm14b:∀ f∈fl14b,(-9223372036854775808≤f.kind∧f.kind<9223372036854775808)∧(-9223372036854775808≤f.count∧f.count<9223372036854775808):=by
 intro f hf
 simp only [fl14b,List.mem_cons,List.not_mem_nil,or_false] at hf
 subst hf;exact ⟨by decide,by decide⟩
theorem sm14c:∀ x∈code14,smallI x:=by
 intro x hx
 simp only [code14,List.mem_cons,List.not_mem_nil,or_false] at hx
 rcases hx with rfl|rfl|rfl<;>exact ⟨by decide,by decide,by decide,by show 0≤(_:Int)∧(_:Int)<_;decide⟩
theorem sz14:r14.ex.length≤12∧∀ c∈r14.ex,c.length≤80:=⟨by decide,fun c hc=>by
 simp only [r14,List.mem_cons,List.not_mem_nil,or_false] at hc
 subst hc;decide⟩
variable (X:Nat→Option Obj)
theorem val_lent {X:Nat→Option Obj} {a b:Cp} {r:Rl} {ns:List Nm} {aad bad ead:Option Addr} {acap bcap ecap:Nat} {row:Bool} (hN:∀ u∈ns,In2 u.2):∀ (Y:Nat→Option Obj) (us:List Value),(∀ b o,X b=some o→Y b=some o)→LentLs (stOf [nmsB 1000000 ns row]) Y [Cx a aad acap,Cx b bad bcap,LPg r.nw r.old ead r.ex.length ecap,.sv (.one (.slc 1000000 0 ns.length 3))] us →
  ∃ (vad:Option Addr) (vcap:Nat),us.map toLV=[Cx a aad acap,Cx b bad bcap,LPg r.nw r.old ead r.ex.length ecap,Lx vad ns.length vcap]∧NumsIn Y vad ns∧ns.length≤vcap:=by
 intro Y us hY hL
 obtain ⟨u1,us1,rfl,⟨av,rfl,a1,av1,rfl,g1,a2,av2,rfl,g2,a3,av3,rfl,g3,rfl⟩,u2,us2,rfl,⟨bv,rfl,b1,bv1,rfl,f1,b2,bv2,rfl,f2,b3,bv3,rfl,f3,rfl⟩,u3,us3,rfl,⟨cv,rfl,c1,cv1,rfl,d1,c2,cv2,rfl,d2,c3,cv3,rfl,d3,rfl⟩,u4,us4,rfl,h4,rfl⟩:=hL
 have g1:a1 = .int .i64 a.id:=g1
 have g2:a2 = .string ⟨a.nm.toArray⟩:=g2
 have g3:a3 = .slice aad a.fs.length acap:=g3
 have f1:b1 = .int .i64 b.id:=f1
 have f2:b2 = .string ⟨b.nm.toArray⟩:=f2
 have f3:b3 = .slice bad b.fs.length bcap:=f3
 have d1:c1 = .int .i64 r.nw:=d1
 have d2:c2 = .int .i64 r.old:=d2
 have d3:c3 = .slice ead r.ex.length ecap:=d3
 subst g1 g2 g3 f1 f2 f3 d1 d2 d3
 obtain ⟨bb,blk,cap2,m,hk',rfl,hc,hfit,hB'⟩:=h4
 have hk':some (some (⟨86,(nmsV ns).map .val,row⟩:Box))=some (some bb):=hk'
 simp only [Option.some.injEq] at hk'
 subst hk'
 obtain ⟨arr,fr,us',sp,hYb,hsz,harr,hv⟩:=hB'
 have:=hv (nmsV ns) rfl
 subst this
 exact ⟨some ⟨blk,0,none⟩,cap2,O,nms_in hYb hN ⟨sp,harr⟩,hc⟩
theorem eVal_nil_lent (a b:Cp) (r:Rl) (ns:List Nm) (aad bad ead:Option Addr) (acap bcap ecap:Nat) (row:Bool) (hA:FieldsIn X aad a.fs) (hac:a.fs.length≤acap) (hB:FieldsIn X bad b.fs) (hE:CodesIn X ead r.ex) (hN:∀ u∈ns,In2 u.2) (la:a.fs.length≤12) (lb:b.fs.length≤12) (lr:r.ex.length≤12∧∀ c∈r.ex,c.length≤80) (ln:ns.length<4611686018427387904) (h:vShape (valE a.fs b.fs r ns) (valA a.fs b.fs r ns)=false):
  MSpec Tryz.prog X 12 [Cx a aad acap,Cx b bad bcap,LPg r.nw r.old ead r.ex.length ecap,.sv (.one (.slc 1000000 0 ns.length 3))] [nmsB 1000000 ns row] (.tup [.one (.val (.slice none 0 0)),Sn .i64 (valE a.fs b.fs r ns)]) ([nmsB 1000000 ns row]++[]):=
 MSpec.lend y5 rfl y7 rfl rfl rfl fun Y us hY hL=>by
  obtain ⟨vad,vcap,e,h1,h2⟩:=val_lent hN Y us hY hL
  rw [e]
  exact eVal_nil Y a b r ns aad bad ead vad acap bcap ecap vcap (hA.mono hY) hac (hB.mono hY) (hE.mono hY) h1 h2 la lb lr ln h
theorem eVal_box_lent (a b:Cp) (r:Rl) (ns:List Nm) (aad bad ead:Option Addr) (acap bcap ecap:Nat) (row:Bool) (hA:FieldsIn X aad a.fs) (hac:a.fs.length≤acap) (hB:FieldsIn X bad b.fs) (hE:CodesIn X ead r.ex) (hN:∀ u∈ns,In2 u.2) (la:a.fs.length≤12) (lb:b.fs.length≤12) (lr:r.ex.length≤12∧∀ c∈r.ex,c.length≤80) (ln:ns.length<4611686018427387904) (h:vShape (valE a.fs b.fs r ns) (valA a.fs b.fs r ns)=true):
  MSpec Tryz.prog X 12 [Cx a aad acap,Cx b bad bcap,LPg r.nw r.old ead r.ex.length ecap,.sv (.one (.slc 1000000 0 ns.length 3))] [nmsB 1000000 ns row] (.tup [.one (.slc 1000001 0 (valA a.fs b.fs r ns).length 3),Sn .i64 (valE a.fs b.fs r ns)]) ([nmsB 1000000 ns row]++[nmsB 1000001 (valA a.fs b.fs r ns) (vRow (valA a.fs b.fs r ns))]):=
 MSpec.lend y5 rfl y7 y7 rfl rfl fun Y us hY hL=>by
  obtain ⟨vad,vcap,e,h1,h2⟩:=val_lent hN Y us hY hL
  rw [e]
  exact eVal_box Y a b r ns aad bad ead vad acap bcap ecap vcap (hA.mono hY) hac (hB.mono hY) (hE.mono hY) h1 h2 la lb lr ln h
end Go.Proofs.YtopiioklkkiedaaGreatDoor
end
section
set_option maxHeartbeats 12800000
set_option maxRecDepth 100000
namespace Go.Proofs.YtopiioklkkiedaaGreatDoor
open Go Go.Lg Go.Lg.Fml Go.Lg.Fld Go.Lg.Arith
set_option maxRecDepth 100000
abbrev izs14:List Value:=[.int .i64 0,.int .i64 0,.int .i64 0,.bool false,.int .u64 0,.int .u64 0]
abbrev rzs14:List Value:=[.int .i64 0,.int .i64 0,.slice none 0 0]
variable (X:Nat→Option Obj)
theorem eSig_lent {S:Nat→Option (Option Box)} {k s n:Nat} {rs:List Rl} {ws:List Value} {e:TypeId} {row:Bool} {va vb:Int} (G:RulesH X ws rs) (hsm:∀ r∈rs,smallR r) (hl:rs.length<4611686018427387904) (hs:s<4294967296) (hk:S k=some (some ⟨e,(rwZ rs ws).map .val,row⟩)) (hn:sigN rs s=n):
  ∀ (Y:Nat→Option Obj) (us:List Value),(∀ b o,X b=some o→Y b=some o)→LentLs S Y [.sv (.agg [.val (.int .i64 va),.val (.int .i64 vb),.slc k 0 rs.length 3]),Ln .u32 (s:Nat)] us→PSpec Tryz.prog Y 20 (us.map toLV) (Ln .u32 (n:Nat)):=by
 subst hn
 intro Y us hY hL
 obtain ⟨u1,us1,rfl,⟨av,rfl,a1,av1,rfl,g1,a2,av2,rfl,g2,a3,av3,rfl,g3,rfl⟩,u2,us2,rfl,h2,rfl⟩:=hL
 have g1:a1 = .int .i64 va:=g1
 have g2:a2 = .int .i64 vb:=g2
 have h2:u2 = .int .u32 (s:Nat):=h2
 subst g1 g2 h2
 obtain ⟨bb,blk,cap2,m,hk',rfl,hc,hfit,hB⟩:=g3
 rw [hk] at hk'
 simp only [Option.some.injEq] at hk'
 subst hk'
 obtain ⟨arr,fr,us',sp,hYb,hsz,harr,hv⟩:=hB
 have:=hv (rwZ rs ws) rfl
 subst this
 exact eSig Y va vb rs (some ⟨blk,0,none⟩) cap2 s (rules_block hYb harr (G.mono hY) hsm) hl hs
set_option maxHeartbeats 25600000 in
theorem awake14_spec:PSpec Tryz.prog X 9 [] (Lb true):=by
 refine cC Tryz.func9 rfl y5 rfl rfl ?_
 intro C
 (refine aA<|rgN<|kas O<|aB<|aA<|rgN<|aT O O y2 y28 dO ?_;refine aZ (zs:=[Value.string ⟨#[]⟩,.int .i64 0,.int .i64 0]) (sz:=3) (e:=83) (cs':=(flV fl14a).map .val) y5 O O O O O O dO<|aT O O y2 y28 dO ?_;refine aP O dO ?_;refine aM O O O O O O dO ?_;refine aB<|aA ?_)
 refine LWP.le (σ':=⟨[(1,Lp 1)],[(1,some ⟨24,[.val (.int .i64 1),.val (.string ⟨#[97]⟩)] ++ .slc 11 0 1 3::[],false⟩),(11,some ⟨83,(flV fl14a).map .val,false⟩)],X⟩) (Le.of y13 yE y2 y2 y0) ?_
 refine LWP.freezeCell O O O O O O fun k1 cp1 arr1 fr1 hn1 _ hc1 _ hv1 => ?_
 have hFa:FieldsIn (withBlock X k1 (.cells arr1 83 fr1)) (some ⟨k1,0,none⟩) fl14a:=by
  obtain ⟨sp,hv⟩:=hv1
  exact fields_block (cJ _ _ _) hv sm14a
 clear hv1 hn1
 generalize withBlock X k1 (.cells arr1 83 fr1)=Y at *
 generalize (some ⟨k1,0,none⟩:Option Addr)=ad1 at *
 (refine rgN<|aT O O y2 y28 dO ?_;refine aZ (zs:=[Value.string ⟨#[]⟩,.int .i64 0,.int .i64 0]) (sz:=3) (e:=83) (cs':=(flV fl14b).map .val) y5 O O O O O O dO<|aT O O y2 y28 dO ?_;refine aP O dO ?_;refine aM O O O O O O dO ?_;refine aB<|aA ?_)
 refine LWP.le (σ':=⟨[(1,Lp 1),(2,Lp 2)],[(2,some ⟨24,[.val (.int .i64 1),.val (.string ⟨#[97]⟩)] ++ .slc 14 0 1 3::[],false⟩),(14,some ⟨83,(flV fl14b).map .val,false⟩),cpB 1 c14a ad1 cp1],Y⟩) (Le.of yE y9 y2 y2 y0) ?_
 refine LWP.freezeCell O O O O O O fun k2 cp2 arr2 fr2 hn2 _ _ _ hv2 => ?_
 have hFb:FieldsIn (withBlock Y k2 (.cells arr2 83 fr2)) (some ⟨k2,0,none⟩) fl14b:=by
  obtain ⟨sp,hv⟩:=hv2
  exact fields_block (cJ _ _ _) hv sm14b
 replace hFa:=hFa.mono (cF (o:=.cells arr2 83 fr2) hn2)
 clear hv2 hn2
 generalize withBlock Y k2 (.cells arr2 83 fr2)=Y2 at *
 generalize (some ⟨k2,0,none⟩:Option Addr)=ad2 at *
 have o2:=Of_spec Y2 2 yA
 (refine rgN<|aT O O y2 y35 dO ?_;refine kca O O o2<|aT O O y2 y35 dO ?_;refine aT O O y2 y35 dO ?_;refine aZ (zs:=(List.replicate 3 izs14).flatten) (sz:=6) (e:=88) (cs':=(inssV code14).map .val) y5 O O O O O O dO<|aZ (zs:=[.slice none 0 0]) (sz:=1) (e:=90) (cs':=[.slc 20 0 3 6]) y5 O O O O O O dO<|aT O O y2 y28 dO ?_;refine aP O dO ?_;refine aM O O O O O O dO ?_;refine aB<|aA ?_)
 refine LWP.le (σ':=⟨[(1,Lp 1),(2,Lp 2),(3,Lp 3)],[(21,some ⟨90,[] ++ .slc 20 0 3 6::[],false⟩),(20,some ⟨88,(inssV code14).map .val,false⟩),(3,some ⟨27,[.val (.int .i64 1),.val (.int .i64 1),.slc 21 0 1 1],false⟩),cpB 1 c14a ad1 cp1,cpB 2 c14b ad2 cp2],Y2⟩) (Le.of y9 y10 y2 y2 y0) ?_
 refine LWP.freezeCell O O O O O O fun k3 cp3 arr3 fr3 hn3 _ _ _ hv3 => ?_
 have hI:InsIn (withBlock Y2 k3 (.cells arr3 88 fr3)) (some ⟨k3,0,none⟩) code14:=ins_in (cJ _ _ _) sm14c hv3
 have h3:=cF (o:=.cells arr3 88 fr3) hn3
 replace hFa:=hFa.mono h3
 replace hFb:=hFb.mono h3
 clear hv3 hn3 o2 h3
 generalize withBlock Y2 k3 (.cells arr3 88 fr3)=Y3 at *
 generalize (some ⟨k3,0,none⟩:Option Addr)=ad3 at *
 refine LWP.le (σ':=⟨[(1,Lp 1),(2,Lp 2),(3,Lp 3)],[(3,some ⟨27,[.val (.int .i64 1),.val (.int .i64 1)] ++ .slc 21 0 1 1::[],false⟩),(21,some ⟨90,[Value.slice ad3 3 cp3].map .val,false⟩),cpB 1 c14a ad1 cp1,cpB 2 c14b ad2 cp2],Y3⟩) (Le.of y9 y8 y2 y2 y0) ?_
 refine LWP.freezeCell O O O O O O fun k4 ec arr4 fr4 hn4 _ _ _ hv4 => ?_
 have hE:CodesIn (withBlock Y3 k4 (.cells arr4 90 fr4)) (some ⟨k4,0,none⟩) r14.ex:=by
  obtain ⟨sp,e⟩:=hv4
  exact forms_block (cJ _ _ _) e (FormsH.nil.push ⟨_,_,O,hI.mono (cF hn4)⟩)
 have h4:=cF (o:=.cells arr4 90 fr4) hn4
 replace hFa:=hFa.mono h4
 replace hFb:=hFb.mono h4
 clear hv4 hn4 h4 hI
 generalize withBlock Y3 k4 (.cells arr4 90 fr4)=Z at *
 generalize (some ⟨k4,0,none⟩:Option Addr)=ead at *
 have hin2:∀ u∈[((false,100):Nm)],In2 u.2:=fun u hu=>by rw [List.mem_singleton.1 hu];show 0≤(100:Int)∧(100:Int)<_;decide
 have o100:=Of_spec Z 100 yA
 have hs1:vShape (valE c14a.fs c14b.fs r14 [(false,100)]) (valA c14a.fs c14b.fs r14 [(false,100)])=true:=by
  cases h:vShape (valE c14a.fs c14b.fs r14 [(false,100)]) (valA c14a.fs c14b.fs r14 [(false,100)]) with
  | true=>rfl
  | false=>have:=vShape_nil h;rw [show valA c14a.fs c14b.fs r14 [(false,100)]=[(false,200)] from vn14] at this;cases this
 have hV:=eVal_box_lent Z c14a c14b r14 [(false,100)] ad1 ad2 ead cp1 cp2 ec false hFa hc1 hFb hE hin2 yA yA sz14 yA hs1
 rw [show valA c14a.fs c14b.fs r14 [(false,100)]=[(false,200)] from vn14,show valE c14a.fs c14b.fs r14 [(false,100)]=0 from va14] at hV
 (refine rgD mixed<|aK O O O dO ?_;refine aK O O O dO ?_;refine aK O O O dO ?_;refine kca O O o100<|aZ (zs:=[Value.bool false,.int .u64 0,.int .u64 0]) (sz:=3) (e:=86) (cs':=(nmsV [(false,100)]).map .val) y5 O O O O O O dO<|bE [(1000000,28),(1000001,601)] (.tup [.one (.slc 601 0 1 3),Sn .i64 0]) [nmsB 28 [(false,100)] false,nmsB 601 [(false,200)] (vRow [(false,200)])] (hV) O O y17 (by exact (bS (bS O (bS O (bS O O))) O)) O O O O y27 dO<|kmv O<|kex O O<|kex O O<|kas O<|kas O<|aB<|rgA ?_;refine aA ?_)
 refine LWP.le (σ':=⟨[(4,.sv (.one (.slc 601 0 1 3))),(5,Ln .i64 0),(1,Lp 1),(2,Lp 2),(3,Lp 3)],[nmsB 601 [(false,200)] (vRow [(false,200)]),cpB 1 c14a ad1 cp1,cpB 2 c14b ad2 cp2,v3B 27 3 1 1 ead 1 ec],Z⟩) (Le.of y10 y8 y2 y2 y0) ?_
 refine LWP.freeze O O O fun k5 vc arr5 fr5 hn5 _ hvc _ hv5 => ?_
 have hN:NumsIn (withBlock Z k5 (.cells arr5 86 fr5)) (some ⟨k5,0,none⟩) [(false,200)]:=nms_in (cJ _ _ _) (fun u hu=>by rw [List.mem_singleton.1 hu];show 0≤(200:Int)∧(200:Int)<_;decide) hv5
 have h5:=cF (o:=.cells arr5 86 fr5) hn5
 replace hFa:=hFa.mono h5
 replace hFb:=hFb.mono h5
 replace hE:=hE.mono h5
 clear hv5 hn5 h5 hV o100
 generalize withBlock Z k5 (.cells arr5 86 fr5)=W at *
 generalize (some ⟨k5,0,none⟩:Option Addr)=vad at *
 have o100:=Of_spec W 100 yA
 repeat refine aA ?_
 refine LWP.meetL (fun σ=>σ=⟨[(4,Lx vad 1 vc),(5,Ln .i64 0),(7,Ln .i64 3),(1,Lp 1),(2,Lp 2),(3,Lp 3)],[cpB 1 c14a ad1 cp1,cpB 2 c14b ad2 cp2,v3B 27 3 1 1 ead 1 ec],W⟩) ?_ ?_
 ·have hve:valE c14a.fs c14a.fs r14 [(false,100)]=3:=vb14
  have hva:valA c14a.fs c14a.fs r14 [(false,100)]=[]:=if_neg (by rw [hve];decide)
  cases hs2:vShape (valE c14a.fs c14a.fs r14 [(false,100)]) (valA c14a.fs c14a.fs r14 [(false,100)]) with
  | false =>
   have hV:=eVal_nil_lent W c14a c14a r14 [(false,100)] ad1 ad1 ead cp1 cp1 ec false hFa hc1 hFa hE hin2 yA yA sz14 yA hs2
   rw [hve] at hV
   (refine rgD mixed<|aK O O O dO ?_;refine aK O O O dO ?_;refine aK O O O dO ?_;refine kca O O o100<|aZ (zs:=[Value.bool false,.int .u64 0,.int .u64 0]) (sz:=3) (e:=86) (cs':=(nmsV [(false,100)]).map .val) y5 O O O O O O dO<|aU [(1000000,37)] [nmsB 37 [(false,100)] false] (hV) O O y17 (by exact (bS (bS O (bS O (bS O O))) O)) O O O O y19 dO<|kmv O<|kex O O<|kex O O<|kas O<|kas O<|aB<|rgA ?_)
   exact Leads.here (σ':=⟨[(4,Lx vad 1 vc),(5,Ln .i64 0),(7,Ln .i64 3),(1,Lp 1),(2,Lp 2),(3,Lp 3)],[cpB 1 c14a ad1 cp1,cpB 2 c14b ad2 cp2,v3B 27 3 1 1 ead 1 ec],W⟩) (Le.of y11 y9 y2 y2 y0) O
  | true =>
   have hV:=eVal_box_lent W c14a c14a r14 [(false,100)] ad1 ad1 ead cp1 cp1 ec false hFa hc1 hFa hE hin2 yA yA sz14 yA hs2
   rw [hva,hve] at hV
   (refine rgD mixed<|aK O O O dO ?_;refine aK O O O dO ?_;refine aK O O O dO ?_;refine kca O O o100<|aZ (zs:=[Value.bool false,.int .u64 0,.int .u64 0]) (sz:=3) (e:=86) (cs':=(nmsV [(false,100)]).map .val) y5 O O O O O O dO<|bE [(1000000,37),(1000001,601)] (.tup [.one (.slc 601 0 0 3),Sn .i64 3]) [nmsB 37 [(false,100)] false,nmsB 601 [] (vRow [])] (hV) O O y17 (by exact (bS (bS O (bS O (bS O O))) O)) O O O O y27 dO<|kmv O<|kex O O<|kex O O<|kas O<|kas O<|aB<|rgA ?_)
   exact Leads.here (σ':=⟨[(4,Lx vad 1 vc),(5,Ln .i64 0),(7,Ln .i64 3),(1,Lp 1),(2,Lp 2),(3,Lp 3)],[cpB 1 c14a ad1 cp1,cpB 2 c14b ad2 cp2,v3B 27 3 1 1 ead 1 ec],W⟩) (Le.of y11 y9 y2 y2 y0) O
 rintro σ rfl
 have hR:=eRow W c14a c14b r14 [100] ad1 ad2 ead cp1 cp2 ec hFa hc1 hFb hE yA yA sz14 yA
 rw [show rowN c14a.fs c14b.fs r14 [100]=[200,0] from vt14,show rowE c14a.fs c14b.fs r14 [100]=0 from vr14] at hR
 (refine aA<|rgN<|aK O O O dO ?_;refine aK O O O dO ?_;refine aK O O O dO ?_;refine kca O O hR<|kmv O<|kex O O<|kex O O<|kas O<|kas O<|aB<|aA ?_)
 have o200:=Of_spec W 200 yA
 obtain ⟨_,blk,off,arr,el,fr,rfl,hX,hsz,hcs⟩:=hN.at (i:=0) (b:=false) (N:=200) rfl
 have hio:off+Int.toNat 0*3=off+0*3:=by simp
 have q:=eqI (b:=false) (b':=false) (h:=200/18446744073709551616) (h':=200/18446744073709551616) (l:=200%18446744073709551616) (l':=200%18446744073709551616) true yA
 have hS:=fun (S:Nat→Option (Option Box)) h=>eSig_lent W (S:=S) (k:=77) (s:=2) (n:=8) (rs:=[⟨3,1,[]⟩,⟨4,0,[]⟩]) (ws:=[.slice none 0 0,.slice none 0 0]) (e:=27) (row:=false) (va:=0) (vb:=0) ((RulesH.nil.push CodesIn.nilIn).push CodesIn.nilIn) (fun r hr=>by
  simp only [List.mem_cons,List.not_mem_nil,or_false] at hr
  rcases hr with rfl|rfl<;>exact ⟨by decide,by decide⟩) yA yA h vs14
 (refine rgD mixed<|kmv O<|keq O O (r:=true) O<|kmv O<|gmv O O O<|aQ O bZ O (dP O O) ?_;refine bC O O (r:=true) O (dP O O) ?_;refine kpt O O<|kmv O<|gmv O O O<|aR O O bZ yA hio (dP O O) ?_;refine aY O hX y5 hsz hcs (dP O O) ?_;refine gca O O o200 O O<|bQ O O O O y5 q (.inl ⟨O,O⟩) (dP O O) ?_;refine kpt O O<|kmv O<|gmv O O O<|bC O O (r:=true) O (dP O O) ?_;refine kpt O O<|kmv O<|gmv O O O<|bC O O (r:=true) O (dP O O) ?_;refine kpt O O<|kmv O<|gmv O O O<|K.strEq O O (strs_eq (r:=true) O) (dP O O) ?_;refine kpt O O<|kmv O<|aT O O y2 y28 (dP O O) ?_;refine aT O O y2 y28 (dP O O) ?_;refine aZ (zs:=(List.replicate 2 rzs14).flatten) (sz:=3) (e:=27) (cs':=(rwZ [⟨3,1,[]⟩,⟨4,0,[]⟩] [.slice none 0 0,.slice none 0 0]).map .val) y5 O O O O O O (dP O O) ?_;refine aT O O y2 y28 (dP O O) ?_;refine K.callL [77] O O O (hS _ O) (dP O O) ?_;refine bC O O (r:=true) O (dP O O) ?_;refine kpt O O<|kas O<|aB<|rgA ?_;refine aI ?_)
 exact y6
end Go.Proofs.YtopiioklkkiedaaGreatDoor
end
section
set_option maxHeartbeats 12800000
set_option maxRecDepth 100000
namespace Go.Proofs.YtopiioklkkiedaaGreatDoor
open Go Go.Lg Go.Lg.Fml Go.Lg.Fld Go.Lg.Arith
set_option maxRecDepth 100000
variable (X:Nat→Option Obj)
theorem great14_lent {S:Nat→Option (Option Box)} {a b:Cp} {r:Rl} {aad bad ead:Option Addr} {acap bcap ecap k1 k2 k3:Nat} {z row1 row2 row3:Bool} {e1 e2 e3:TypeId} (hA:FieldsIn X aad a.fs) (hB:FieldsIn X bad b.fs) (hE:CodesIn X ead r.ex) (ia : -9223372036854775808≤a.id∧a.id<9223372036854775808) (ib : -9223372036854775808≤b.id∧b.id<9223372036854775808) (hs:smallR r)
  (ha:a.fs.length<9223372036854775808) (hb:b.fs.length<9223372036854775808) (he:r.ex.length<9223372036854775808) (hc:∀ c∈r.ex,c.length<9223372036854775808) (hz:grt13 [a] [b] [r]=z)
  (hk1:S k1=some (some ⟨e1,[.val (.int .i64 a.id),.val (.string ⟨a.nm.toArray⟩),.val (.slice aad a.fs.length acap)],row1⟩)) (hk2:S k2=some (some ⟨e2,[.val (.int .i64 b.id),.val (.string ⟨b.nm.toArray⟩),.val (.slice bad b.fs.length bcap)],row2⟩)) (hk3:S k3=some (some ⟨e3,[.val (.int .i64 r.nw),.val (.int .i64 r.old),.val (.slice ead r.ex.length ecap)],row3⟩)):
  ∀ (Y:Nat→Option Obj) (us:List Value),(∀ b o,X b=some o→Y b=some o)→LentLs S Y [.sv (.agg [.val (.int .i64 0),.slc k1 0 1 3]),.sv (.agg [.val (.int .i64 0),.slc k2 0 1 3]),.sv (.agg [.val (.int .i64 0),.val (.int .i64 0),.slc k3 0 1 3])] us→PSpec Tryz.prog Y 10 (us.map toLV) (Lb z):=by
 intro Y us hY hL
 obtain ⟨u1,us1,rfl,⟨av,rfl,a1,av1,rfl,g1,a2,av2,rfl,g2,rfl⟩,u2,us2,rfl,⟨bv,rfl,b1,bv1,rfl,f1,b2,bv2,rfl,f2,rfl⟩,u3,us3,rfl,⟨cv,rfl,c1,cv1,rfl,d1,c2,cv2,rfl,d2,c3,cv3,rfl,d3,rfl⟩,rfl⟩:=hL
 have g1:a1 = .int .i64 0:=g1
 have f1:b1 = .int .i64 0:=f1
 have d1:c1 = .int .i64 0:=d1
 have d2:c2 = .int .i64 0:=d2
 subst g1 f1 d1 d2
 obtain ⟨x1,blk1,cp1,m1,hq1,rfl,_,_,hB1⟩:=g2
 obtain ⟨x2,blk2,cp2,m2,hq2,rfl,_,_,hB2⟩:=f2
 obtain ⟨x3,blk3,cp3,m3,hq3,rfl,_,_,hB3⟩:=d3
 rw [hk1] at hq1
 rw [hk2] at hq2
 rw [hk3] at hq3
 simp only [Option.some.injEq] at hq1 hq2 hq3
 subst hq1 hq2 hq3
 obtain ⟨arr1,fr1,us1',sp1,hY1,_,harr1,hv1⟩:=hB1
 obtain ⟨arr2,fr2,us2',sp2,hY2,_,harr2,hv2⟩:=hB2
 obtain ⟨arr3,fr3,us3',sp3,hY3,_,harr3,hv3⟩:=hB3
 have:=hv1 [.int .i64 a.id,.string ⟨a.nm.toArray⟩,.slice aad a.fs.length acap] rfl
 subst this
 have:=hv2 [.int .i64 b.id,.string ⟨b.nm.toArray⟩,.slice bad b.fs.length bcap] rfl
 subst this
 have:=hv3 [.int .i64 r.nw,.int .i64 r.old,.slice ead r.ex.length ecap] rfl
 subst this
 have one:∀ {α:Type} {p:α→Prop} {x:α},p x→∀ y∈[x],p y:=fun h y hy=>by rw [List.mem_singleton.1 hy];exact h
 have q1:CompsIn Y (some ⟨blk1,0,none⟩) [a]:=comps_lit (cells:=[.slice aad a.fs.length acap]) hY1 harr1 rfl (one ia) fun i c v hc hvv=>by
  match i,hc,hvv with
  | 0,hc,hvv =>
   simp only [List.getElem?_cons_zero,Option.some.injEq] at hc hvv
   subst hc hvv
   exact ⟨aad,acap,O,hA.mono hY⟩
 have q2:CompsIn Y (some ⟨blk2,0,none⟩) [b]:=comps_lit (cells:=[.slice bad b.fs.length bcap]) hY2 harr2 rfl (one ib) fun i c v hc hvv=>by
  match i,hc,hvv with
  | 0,hc,hvv =>
   simp only [List.getElem?_cons_zero,Option.some.injEq] at hc hvv
   subst hc hvv
   exact ⟨bad,bcap,O,hB.mono hY⟩
 have q3:RulesIn Y (some ⟨blk3,0,none⟩) [r]:=rules_block (rs:=[r]) (ws:=[.slice ead r.ex.length ecap]) hY3 harr3 (RulesH.nil.push ⟨ead,ecap,rfl,hE.mono hY⟩) (one hs)
 exact great14_spec Y 0 0 0 0 _ _ _ cp1 cp2 cp3 [a] [b] [r] q1 q2 q3 (one ⟨he,hc⟩) (by show 1<_;decide) (by show 1<_;decide) (by show 1<_;decide) (one ha) (one hb) z hz
abbrev q14B (k:Nat) (q:Rl) (qd:Option Addr) (qc:Nat):Nat×Option Box:=(k,some ⟨27,[.val (.int .i64 q.nw),.val (.int .i64 q.old),.val (.slice qd q.ex.length qc)],false⟩)
theorem form14_l0 (r:Rl) (ead:Option Addr) (ecap:Nat) (hE:CodesIn X ead r.ex) (hs:smallR r) (h12:r.ex.length≤12∧∀ c∈r.ex,c.length≤80) (h0:r.ex.length=0):
  MSpec Tryz.prog X 11 [.sv (.agg [.val (.int .i64 0),.val (.int .i64 0),.slc 1000000 0 1 3])] [q14B 1000000 r ead ecap] (.sv (.agg [.val (.int .i64 0),.val (.int .i64 0),.slc 1000001 0 1 3])) ([q14B 1000000 r ead ecap]++[(1000001,some ⟨39,[.val (.int .i64 r.nw),.val (.int .i64 r.old),.val (.slice none 0 0)],true⟩)]):=by
 refine MSpec.lend y5 O O O O O fun Y us hY hL => ?_
 obtain ⟨u1,us1,rfl,⟨av,rfl,a1,av1,rfl,g1,a2,av2,rfl,g2,a3,av3,rfl,g3,rfl⟩,rfl⟩:=hL
 have g1:a1 = .int .i64 0:=g1
 have g2:a2 = .int .i64 0:=g2
 subst g1 g2
 obtain ⟨b,blk,cap2,m,hk',rfl,hc,hfit,hB⟩:=g3
 have hk':some (some (⟨27,[.val (.int .i64 r.nw),.val (.int .i64 r.old),.val (.slice ead r.ex.length ecap)],false⟩:Box))=some (some b):=hk'
 simp only [Option.some.injEq] at hk'
 subst hk'
 obtain ⟨arr,fr,us',sp,hYb,hsz,harr,hv⟩:=hB
 have:=hv [.int .i64 r.nw,.int .i64 r.old,.slice ead r.ex.length ecap] rfl
 subst this
 have hin:RulesIn Y (some ⟨blk,0,none⟩) [r]:=rules_block (rs:=[r]) (ws:=[.slice ead r.ex.length ecap]) hYb harr (RulesH.nil.push ⟨ead,ecap,rfl,hE.mono hY⟩) (fun q hq=>by rw [List.mem_singleton.1 hq];exact hs)
 exact form14_u0 Y 0 0 r (some ⟨blk,0,none⟩) cap2 hin h12 h0
theorem form14_l1 (r:Rl) (ead:Option Addr) (ecap:Nat) (hE:CodesIn X ead r.ex) (hs:smallR r) (h12:r.ex.length≤12∧∀ c∈r.ex,c.length≤80) (h0:0<r.ex.length):
  MSpec Tryz.prog X 11 [.sv (.agg [.val (.int .i64 0),.val (.int .i64 0),.slc 1000000 0 1 3])] [q14B 1000000 r ead ecap] (.sv (.agg [.val (.int .i64 0),.val (.int .i64 0),.slc 1000001 0 1 3])) ([q14B 1000000 r ead ecap]++[(1000001,some ⟨39,[.val (.int .i64 r.nw),.val (.int .i64 r.old),.slc 1000002 0 r.ex.length 1],true⟩),(1000002,some ⟨0,[],.res (cdR 91 r.ex)⟩)]):=by
 refine MSpec.lend y5 O O O O O fun Y us hY hL => ?_
 obtain ⟨u1,us1,rfl,⟨av,rfl,a1,av1,rfl,g1,a2,av2,rfl,g2,a3,av3,rfl,g3,rfl⟩,rfl⟩:=hL
 have g1:a1 = .int .i64 0:=g1
 have g2:a2 = .int .i64 0:=g2
 subst g1 g2
 obtain ⟨b,blk,cap2,m,hk',rfl,hc,hfit,hB⟩:=g3
 have hk':some (some (⟨27,[.val (.int .i64 r.nw),.val (.int .i64 r.old),.val (.slice ead r.ex.length ecap)],false⟩:Box))=some (some b):=hk'
 simp only [Option.some.injEq] at hk'
 subst hk'
 obtain ⟨arr,fr,us',sp,hYb,hsz,harr,hv⟩:=hB
 have:=hv [.int .i64 r.nw,.int .i64 r.old,.slice ead r.ex.length ecap] rfl
 subst this
 have hin:RulesIn Y (some ⟨blk,0,none⟩) [r]:=rules_block (rs:=[r]) (ws:=[.slice ead r.ex.length ecap]) hYb harr (RulesH.nil.push ⟨ead,ecap,rfl,hE.mono hY⟩) (fun q hq=>by rw [List.mem_singleton.1 hq];exact hs)
 exact form14_u1 Y 0 0 r (some ⟨blk,0,none⟩) cap2 hin h12 h0
end Go.Proofs.YtopiioklkkiedaaGreatDoor
end
section
set_option maxHeartbeats 12800000
set_option maxRecDepth 100000
namespace Go.Proofs.YtopiioklkkiedaaGreatDoor
open Go Go.Lg Go.Lg.Fml Go.Lg.Fld Go.Lg.Arith
set_option maxRecDepth 100000
variable (X:Nat→Option Obj)
set_option maxHeartbeats 12800000 in
theorem evalRows_law (a b:Cp) (r:Rl) (s:List UInt8) (aad bad ead:Option Addr) (acap bcap ecap:Nat) (hA:FieldsIn X aad a.fs) (hac:a.fs.length≤acap) (hB:FieldsIn X bad b.fs) (hE:CodesIn X ead r.ex)  (ia : -9223372036854775808≤a.id∧a.id<9223372036854775808) (ib : -9223372036854775808≤b.id∧b.id<9223372036854775808) (hs:smallR r)
  (ha:a.fs.length<9223372036854775808) (hb:b.fs.length<9223372036854775808) (he:r.ex.length<9223372036854775808) (hc:∀ c∈r.ex,c.length<9223372036854775808):
  PSpec Tryz.prog X 4 [Cx a aad acap,Cx b bad bcap,.sv (.agg [.val (.int .i64 r.nw),.val (.int .i64 r.old),.val (.slice ead r.ex.length ecap)]),Ls s] (Lb true):=by
 have hW:=awake14_spec X
 have hzs:(⟨s.toArray⟩:ByteArray).size=s.length:=rfl
 refine cC Tryz.func4 rfl y5 rfl rfl ?_
 intro C
 have hG:=fun (z:Bool) (hg:grt13 [a] [b] [r]=z) (S:Nat→Option (Option Box)) (k1:S 19=some (some ⟨24,[.val (.int .i64 a.id),.val (.string ⟨a.nm.toArray⟩),.val (.slice aad a.fs.length acap)],false⟩)) (k2:S 22=some (some ⟨24,[.val (.int .i64 b.id),.val (.string ⟨b.nm.toArray⟩),.val (.slice bad b.fs.length bcap)],false⟩)) (k3:S 25=some (some ⟨27,[.val (.int .i64 r.nw),.val (.int .i64 r.old),.val (.slice ead r.ex.length ecap)],false⟩))=>great14_lent X (S:=S) hA hB hE ia ib hs ha hb he hc hg k1 k2 k3
 cases hg:grt13 [a] [b] [r] with
 | true =>
  replace hG:=hG true hg
  (refine aA<|rgN<|aL O O O dO<|aL O O O dO<|aL O O O dO<|kas O<|aB<|aA<|aA<|rgN<|kca O O (hW)<|aV O O dO<|aB<|aF O ?_;refine aH ?_;refine aA<|aA<|rgN<|aK O O O dO ?_;refine aZ (zs:=[.int .i64 0,.string ⟨#[]⟩,.slice none 0 0]) (sz:=3) (e:=24) (cs':=[.val (.int .i64 a.id),.val (.string ⟨a.nm.toArray⟩),.val (.slice aad a.fs.length acap)]) y5 O O O O O O dO<|aT O O y2 y36 dO ?_;refine aK O O O dO ?_;refine aZ (zs:=[.int .i64 0,.string ⟨#[]⟩,.slice none 0 0]) (sz:=3) (e:=24) (cs':=[.val (.int .i64 b.id),.val (.string ⟨b.nm.toArray⟩),.val (.slice bad b.fs.length bcap)]) y5 O O O O O O dO<|aT O O y2 y36 dO ?_;refine aK O O O dO ?_;refine aZ (zs:=[.int .i64 0,.int .i64 0,.slice none 0 0]) (sz:=3) (e:=27) (cs':=[.val (.int .i64 r.nw),.val (.int .i64 r.old),.val (.slice ead r.ex.length ecap)]) y5 O O O O O O dO<|aT O O y2 y28 dO ?_;refine K.callL [19,22,25] O O O (hG _ O O O) dO ?_;refine kmv O<|aC O O O<|aC O O O<|aC O O O<|kpt O O<|aB<|aE O ?_;refine aA<|rgN<|kas O<|aB<|aI ?_)
  exact y6
 | false =>
 replace hG:=hG false hg
 by_cases hbig:300<s.length
 ·(refine aA<|rgN<|aL O O O dO<|aL O O O dO<|aL O O O dO<|kas O<|aB<|aA<|aA<|rgN<|kca O O (hW)<|aV O O dO<|aB<|aF O ?_;refine aH ?_;refine aA<|aA<|rgN<|aK O O O dO ?_;refine aZ (zs:=[.int .i64 0,.string ⟨#[]⟩,.slice none 0 0]) (sz:=3) (e:=24) (cs':=[.val (.int .i64 a.id),.val (.string ⟨a.nm.toArray⟩),.val (.slice aad a.fs.length acap)]) y5 O O O O O O dO<|aT O O y2 y36 dO ?_;refine aK O O O dO ?_;refine aZ (zs:=[.int .i64 0,.string ⟨#[]⟩,.slice none 0 0]) (sz:=3) (e:=24) (cs':=[.val (.int .i64 b.id),.val (.string ⟨b.nm.toArray⟩),.val (.slice bad b.fs.length bcap)]) y5 O O O O O O dO<|aT O O y2 y36 dO ?_;refine aK O O O dO ?_;refine aZ (zs:=[.int .i64 0,.int .i64 0,.slice none 0 0]) (sz:=3) (e:=27) (cs':=[.val (.int .i64 r.nw),.val (.int .i64 r.old),.val (.slice ead r.ex.length ecap)]) y5 O O O O O O dO<|aT O O y2 y28 dO ?_;refine K.callL [19,22,25] O O O (hG _ O O O) dO ?_;refine kmv O<|gmv O O O<|K.lenStr O (dP O O) ?_;refine aS O O (cL y3) (dP O O) ?_;refine kpf O O<|aB<|aE O ?_;refine aA<|rgN<|kas O<|aB<|aI ?_)
  exact y6
 obtain ⟨o1,o2,o3⟩:=grt13_false hg
 have la:=o1.2 a (List.mem_singleton.2 rfl)
 have lb:=o2.2 b (List.mem_singleton.2 rfl)
 have lr:=o3.2 r (List.mem_singleton.2 rfl)
 (refine aA<|rgN<|aL O O O dO<|aL O O O dO<|aL O O O dO<|kas O<|aB<|aA<|aA<|rgN<|kca O O (hW)<|aV O O dO<|aB<|aF O ?_;refine aH ?_;refine aA<|aA<|rgN<|aK O O O dO ?_;refine aZ (zs:=[.int .i64 0,.string ⟨#[]⟩,.slice none 0 0]) (sz:=3) (e:=24) (cs':=[.val (.int .i64 a.id),.val (.string ⟨a.nm.toArray⟩),.val (.slice aad a.fs.length acap)]) y5 O O O O O O dO<|aT O O y2 y36 dO ?_;refine aK O O O dO ?_;refine aZ (zs:=[.int .i64 0,.string ⟨#[]⟩,.slice none 0 0]) (sz:=3) (e:=24) (cs':=[.val (.int .i64 b.id),.val (.string ⟨b.nm.toArray⟩),.val (.slice bad b.fs.length bcap)]) y5 O O O O O O dO<|aT O O y2 y36 dO ?_;refine aK O O O dO ?_;refine aZ (zs:=[.int .i64 0,.int .i64 0,.slice none 0 0]) (sz:=3) (e:=27) (cs':=[.val (.int .i64 r.nw),.val (.int .i64 r.old),.val (.slice ead r.ex.length ecap)]) y5 O O O O O O dO<|aT O O y2 y28 dO ?_;refine K.callL [19,22,25] O O O (hG _ O O O) dO ?_;refine kmv O<|gmv O O O<|K.lenStr O (dP O O) ?_;refine aS O O (cK y3) (dP O O) ?_;refine kpf O O<|aB<|aF O ?_;refine aH ?_;refine aA ?_)
 refine LWP.le (σ':=⟨[(3,Ls s),(4,Lp 4),(5,Lp 5),(6,Lp 6)],[v3B 27 6 r.nw r.old ead r.ex.length ecap,cpB 5 b bad bcap,cpB 4 a aad acap],X⟩) (Le.of y8 y9 y2 y2 y0) ?_
 clear hG hW
 repeat refine aA ?_
 refine LWP.meetL (fun σ=>∃ (Y:Nat→Option Obj) (ud:Option Addr) (uc:Nat),(∀ b o,X b=some o→Y b=some o)∧CodesIn Y ud r.ex∧σ=⟨[(3,Ls s),(4,Lp 4),(5,Lp 5),(6,Lp 6),(9,Lp 9)],[v3B 39 9 r.nw r.old ud r.ex.length uc,v3B 27 6 r.nw r.old ead r.ex.length ecap,cpB 5 b bad bcap,cpB 4 a aad acap],Y⟩) ?_ ?_
 ·by_cases h0:r.ex.length=0
  ·have hF:=form14_l0 X r ead ecap hE hs lr h0
   (refine rgN<|aK O O O dO ?_;refine aZ (zs:=[.int .i64 0,.int .i64 0,.slice none 0 0]) (sz:=3) (e:=27) (cs':=[.val (.int .i64 r.nw),.val (.int .i64 r.old),.val (.slice ead r.ex.length ecap)]) y5 O O O O O O dO<|aT O O y2 y28 dO ?_;refine bE [(1000000,34),(1000001,601)] (.sv (.agg [.val (.int .i64 0),.val (.int .i64 0),.slc 601 0 1 3])) [q14B 34 r ead ecap,(601,some ⟨39,[.val (.int .i64 r.nw),.val (.int .i64 r.old),.val (.slice none 0 0)],true⟩)] (hF) O O y17 (by exact (bS (bS O (bS O (bS O O))) O)) O O O O y27 dO<|K.fieldOne O Tryz.underlying42 O y5 O dO<|K.indexSlc O O yA O dO ?_;refine bJ O O O y28 dO ?_;refine aP O dO ?_;refine aM O O O O O O dO ?_;refine aB ?_)
   refine Leads.here (σ':=⟨[(3,Ls s),(4,Lp 4),(5,Lp 5),(6,Lp 6),(9,Lp 9)],[v3B 39 9 r.nw r.old none 0 0,v3B 27 6 r.nw r.old ead r.ex.length ecap,cpB 5 b bad bcap,cpB 4 a aad acap],X⟩) (Le.of y10 y8 y2 y2 y0) ⟨X,none,0,fun _ _ h=>h,?_,by rw [h0]⟩
   rw [show r.ex=[] from List.eq_nil_of_length_eq_zero h0]
   exact CodesIn.nil
  ·have hF:=form14_l1 X r ead ecap hE hs lr y3
   (refine rgN<|aK O O O dO ?_;refine aZ (zs:=[.int .i64 0,.int .i64 0,.slice none 0 0]) (sz:=3) (e:=27) (cs':=[.val (.int .i64 r.nw),.val (.int .i64 r.old),.val (.slice ead r.ex.length ecap)]) y5 O O O O O O dO<|aT O O y2 y28 dO ?_;refine bE [(1000000,34),(1000001,601),(1000002,602)] (.sv (.agg [.val (.int .i64 0),.val (.int .i64 0),.slc 601 0 1 3])) [q14B 34 r ead ecap,(601,some ⟨39,[.val (.int .i64 r.nw),.val (.int .i64 r.old),.slc 602 0 r.ex.length 1],true⟩),(602,some ⟨0,[],.res (cdR 91 r.ex)⟩)] (hF) O O y17 (by exact (bS (bS O (bS O (bS O O))) O)) O O O O y23 dO<|K.fieldOne O Tryz.underlying42 O y5 O dO<|K.indexSlc O O yA O dO ?_;refine bJ O O O y28 dO ?_;refine aP O dO ?_;refine aM O O O O O O dO ?_;refine aB ?_)
   refine cB (σ':=⟨[(3,Ls s),(4,Lp 4),(5,Lp 5),(6,Lp 6),(9,Lp 9)],[(9,some ⟨39,[.val (.int .i64 r.nw),.val (.int .i64 r.old)] ++ .slc 602 0 r.ex.length 1::[],false⟩),(602,some ⟨0,[],.res (cdR 91 r.ex)⟩),v3B 27 6 r.nw r.old ead r.ex.length ecap,cpB 5 b bad bcap,cpB 4 a aad acap],X⟩) (Le.of y10 y10 y2 y2 y0) ?_
   refine Leads.fixCell O O O O O O fun ρ H uc hR hO _ _ => ?_
   exact cB (Le.of y10 y8 y2 y2 y0) (cA ⟨joinM X H,some ⟨ρ.1,0,none⟩,uc,fun _ _ h=>joinM_has hO h,hR.2.mono fun b o h=>joinM_in h,O⟩)
 rintro σ ⟨Y,ud,uc,hY,hU,rfl⟩
 replace hA:=hA.mono hY
 replace hB:=hB.mono hY
 replace hE:=hE.mono hY
 have hR:=eRow Y a b r s aad bad ead acap bcap ecap hA hac hB hE la lb lr y3
 by_cases hu:unpErr a.fs s=0
 case neg =>
  have e1:rowE a.fs b.fs r s=unpErr a.fs s:=if_neg hu
  rw [show rowN a.fs b.fs r s=[] from if_neg (by rw [e1];exact hu),e1] at hR
  have hU2:=refUnp_no Y aad acap a.fs s hA y3 hu
  generalize unpErr a.fs s=e at *
  (refine aA<|rgN<|aK O O O dO ?_;refine aK O O O dO ?_;refine aK O O O dO ?_;refine kmv O<|kca O O hR<|kmv O<|kex O O<|kex O O<|kas O<|kas O<|aB<|aA<|rgN<|kfa O O ?_;refine kl1 O O O<|kmv O<|aU [] [] (hU2) O O yC O O O O O y2B dO<|kmv O<|kex O O<|kex O O<|kas O<|kas O<|aB<|aA<|aA<|rgN<|kmv O<|kne O O (r:=true) (cP hu) ?_;refine aB<|aE O ?_;refine aA<|rgN<|kmv O<|kmv O<|keq O O (r:=true) (cR O)<|kmv O<|gmv O O O<|K.strEq O O (strs_eq (r:=true) O) (dP O O) ?_;refine kpt O O<|kas O<|aB<|aI ?_)
  exact y6
 have e1:rowE a.fs b.fs r s=valE a.fs b.fs r ((unpZ a.fs s).map qn):=if_pos hu
 have hU2:=refUnp_ok Y aad acap a.fs s hA y3 hu
 have hRz:=unp_R hu
 have hl64:=unpZ_len hu
 have e2:rowN a.fs b.fs r s=if rowE a.fs b.fs r s=0 then packB b.fs (valN a.fs b.fs r ((unpZ a.fs s).map qn)) else []:=rfl
 rw [e1] at e2 hR
 (refine aA<|rgN<|aK O O O dO ?_;refine aK O O O dO ?_;refine aK O O O dO ?_;refine kmv O<|kca O O hR<|kmv O<|kex O O<|kex O O<|kas O<|kas O<|aB<|aA<|rgN<|kfa O O ?_;refine kl1 O O O<|kmv O<|bE [(1000001,501)] (.tup [.one (.slc 501 0 (unpZ a.fs s).length 3),Sn .i64 0]) [(501,some ⟨86,(nsV (unpZ a.fs s)).map .val,true⟩)] (hU2) O O yC O O O O O y18 dO<|kmv O<|kex O O<|kex O O<|kas O<|kas O<|aB<|aA<|aA ?_)
 refine LWP.le (σ':=⟨[(12,.sv (.one (.slc 501 0 (unpZ a.fs s).length 3))),(10,Ls (rowN a.fs b.fs r s)),(11,Ln .i64 (valE a.fs b.fs r ((unpZ a.fs s).map qn))),(13,Ln .i64 0),(4,Lp 4),(5,Lp 5),(9,Lp 9)],[(501,some ⟨86,(nsV (unpZ a.fs s)).map .val,true⟩),v3B 39 9 r.nw r.old ud r.ex.length uc,cpB 5 b bad bcap,cpB 4 a aad acap],Y⟩) (Le.of y14 y8 y2 y2 y0) ?_
 refine LWP.freeze O O O fun blk zc arr fr hn _ hzc _ hsp => ?_
 have hN:=nums_in (cJ Y blk (.cells arr 86 fr)) hRz hsp
 have hZ:=cF (o:=.cells arr 86 fr) hn
 replace hA:=hA.mono hZ
 replace hB:=hB.mono hZ
 replace hU:=hU.mono hZ
 clear hsp hn hZ hR hU2 hE
 generalize withBlock Y blk (.cells arr 86 fr)=Z at *
 generalize (some ⟨blk,0,none⟩:Option Addr)=zad at *
 have hV:=rVal14 Z a b r ((unpZ a.fs s).map qn) aad bad ud zad acap bcap uc zc hA hB hU hN (by rw [cT];exact hzc) la lb lr y29
 have htwo:∀ u∈(valN a.fs b.fs r ((unpZ a.fs s).map qn)),In2 u.2:=valN_two (fun q hq y hy=>by
  obtain ⟨w,hw⟩:=List.mem_iff_getElem?.1 hq
  obtain ⟨_,_,_,_,_,_,_,_,_,_,hI⟩:=hU.get hw
  exact (hI.small y hy).2.2.2) hN.in2 (fun f hf=>(hB.small f hf).2.2)
 unfold vR14 vBx14 at hV
 rw [cT] at hV
 by_cases h0:valE a.fs b.fs r ((unpZ a.fs s).map qn)=0
 case neg =>
  rw [if_neg h0,if_neg h0] at hV
  rw [if_neg h0] at e2
  rw [e2]
  generalize valE a.fs b.fs r ((unpZ a.fs s).map qn)=e at *
  (refine rgN<|kmv O<|kne O O (r:=false) O<|aB<|aF O ?_;refine aH ?_;refine aA<|rgN<|aK O O O dO ?_;refine aK O O O dO ?_;refine aK O O O dO ?_;refine kmv O<|aU [] [] (hV) O O yC O O O O O y2B dO<|kmv O<|kex O O<|kex O O<|kas O<|kas O<|aB<|aA<|aA<|rgN<|kmv O<|kne O O (r:=true) (cP h0)<|aB ?_;refine aE O ?_;refine aA<|rgN<|kmv O<|kmv O<|keq O O (r:=true) (cR O)<|kmv O<|gmv O O O<|K.strEq O O (strs_eq (r:=true) O) (dP O O) ?_;refine kpt O O<|kas O<|aB<|aI ?_)
  exact y6
 have hfit:=valN_fit h0
 rw [if_pos h0,if_pos h0] at hV
 rw [if_pos h0] at e2
 rw [e2,h0]
 clear e1 e2
 generalize valN a.fs b.fs r ((unpZ a.fs s).map qn)=L at *
 (refine rgN<|kmv O<|kne O O (r:=false) O<|aB<|aF O ?_;refine aH ?_;refine aA<|rgN<|aK O O O dO ?_;refine aK O O O dO ?_;refine aK O O O dO ?_;refine kmv O<|bE [(1000001,701)] (.tup [.one (.slc 701 0 L.length 3),Sn .i64 0]) [nmsB 701 L (Nat.blt 0 L.length)] (hV) O O yC O O O O O y18 dO<|kmv O<|kex O O<|kex O O<|kas O<|kas O<|aB<|aA<|aA ?_)
 refine LWP.le (σ':=⟨[(14,.sv (.one (.slc 701 0 L.length 3))),(10,Ls (packB b.fs L)),(11,Ln .i64 0),(15,Ln .i64 0),(5,Lp 5)],[nmsB 701 L (Nat.blt 0 L.length),cpB 5 b bad bcap],Z⟩) (Le.of y10 yE y2 y2 y0) ?_
 refine LWP.freeze O O O fun b2 c2 arr2 fr2 hn2 _ _ _ hsp2 => ?_
 have hP:=refPack_spec (withBlock Z b2 (.cells arr2 86 fr2)) bad (some ⟨b2,0,none⟩) bcap c2 b.fs L (hB.mono (cF hn2)) y3 (nms_in (cJ _ _ _) htwo hsp2) hfit
 generalize packB b.fs L=B at *
 (refine rgN<|kmv O<|kne O O (r:=false) O<|aB<|aF O ?_;refine aH ?_;refine aA<|rgN<|kmv O<|keq O O (r:=true) O<|kmv O<|gmv O O O<|aN O O (dP O O) ?_;refine aO O O O (dP O O) ?_;refine gmv O O O<|gca O O hP O O<|K.strEq O O (strs_eq (r:=true) y21) (dP O O) ?_;refine kpt O O<|kas O<|aB<|aI ?_)
 exact y6
end Go.Proofs.YtopiioklkkiedaaGreatDoor
end
