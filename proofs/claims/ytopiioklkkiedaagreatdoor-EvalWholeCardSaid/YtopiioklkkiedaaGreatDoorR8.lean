/- A piece of a proof over this program: contracts of its functions, and a logic to prove them by. -/
import Derived.Test.YtopiioklkkiedaaGreatDoorR3
import Derived.Test.YtopiioklkkiedaaGreatDoorR4
import Derived.Test.YtopiioklkkiedaaGreatDoorR5
import Derived.Test.YtopiioklkkiedaaGreatDoorR6
import Derived.Test.YtopiioklkkiedaaGreatDoorR7
section
namespace Go.Proofs.YtopiioklkkiedaaGreatDoor
open Go Go.Lg Go.Lg.Fml Go.Lg.Fld Go.Lg.Arith
set_option maxRecDepth 100000
def IntsI (X:Nat→Option Obj) (ad:Option Addr) (l:List Int):Prop:=Go.Lg.RowsIn X ad 1 (l.map fun n=>[.int .i64 n])
variable (X:Nat→Option Obj)
end Go.Proofs.YtopiioklkkiedaaGreatDoor
end
section
namespace Go.Proofs.YtopiioklkkiedaaGreatDoor
open Go Go.Lg Go.Lg.Fml Go.Lg.Fld Go.Lg.Arith
set_option maxRecDepth 100000
variable (X:Nat→Option Obj)
set_option maxHeartbeats 6400000 in
theorem great14_spec (v1 v2 va vb:Int) (ad1 ad2 ad:Option Addr) (cap1 cap2 cap:Nat) (az bz:List Cp) (rs:List Rl) (h1:CompsIn X ad1 az) (h2:CompsIn X ad2 bz) (hin:RulesIn X ad rs) (hsz:sizeB rs)
  (hl1:az.length<4611686018427387904) (hl2:bz.length<4611686018427387904) (hbig:rs.length<4611686018427387904) (hf1:∀ c∈az,c.fs.length<9223372036854775808) (hf2:∀ c∈bz,c.fs.length<9223372036854775808) (r:Bool) (hr:grt13 az bz rs=r):
  PSpec Tryz.prog X 10 [Sx v1 ad1 az.length cap1,Sx v2 ad2 bz.length cap2,LPg va vb ad rs.length cap] (Lb r):=by
 subst hr
 refine cC Tryz.func10 rfl (by kernel_rfl) rfl rfl ?_
 intro C
 unfold grt13 grtN
 by_cases c1:30<az.length
 ·rw [cL c1]
  simp only [Bool.true_or]
  (refine aA<|rgN<|aL O O O dO<|aL O O O dO<|aL O O O dO<|kas O<|aB<|aA<|aA<|rgN<|kfa O O ?_;refine kl1 O O O<|aQ O bZ O dO ?_;refine aS O O (cL (by omega)) dO<|kmv O<|aC O O O<|aC O O O<|aC O O O<|aC O O O<|kpt O O<|kmv O<|aC O O O<|aC O O O<|aC O O O<|aC O O O<|kpt O O<|aB ?_;refine aE O ?_;refine aA<|rgN<|kas O<|aB<|aI ?_)
  exact ⟨[_],⟨O,trivial⟩,O⟩
 by_cases c2:30<bz.length
 ·rw [cL c2]
  simp only [Bool.true_or,Bool.or_true]
  (refine aA<|rgN<|aL O O O dO<|aL O O O dO<|aL O O O dO<|kas O<|aB<|aA<|aA<|rgN<|kfa O O ?_;refine kl1 O O O<|aQ O bZ O dO ?_;refine aS O O (cK (by omega)) dO<|kmv O<|aN O O (dP O O) ?_;refine aO O O O (dP O O) ?_;refine aQ O bZ O (dP O O) ?_;refine aS O O (cL (by omega)) (dP O O) ?_;refine kpf O O<|kmv O<|aC O O O<|aC O O O<|aC O O O<|aC O O O<|kpt O O<|aB<|aE O ?_;refine aA<|rgN<|kas O<|aB<|aI ?_)
  exact ⟨[_],⟨O,trivial⟩,O⟩
 by_cases c3:30<rs.length
 ·rw [cL c3]
  simp only [Bool.true_or,Bool.or_true]
  (refine aA<|rgN<|aL O O O dO<|aL O O O dO<|aL O O O dO<|kas O<|aB<|aA<|aA<|rgN<|kfa O O ?_;refine kl1 O O O<|aQ O bZ O dO ?_;refine aS O O (cK (by omega)) dO<|kmv O<|aN O O (dP O O) ?_;refine aO O O O (dP O O) ?_;refine aQ O bZ O (dP O O) ?_;refine aS O O (cK (by omega)) (dP O O) ?_;refine kpf O O<|kmv O<|aN O O (dP O O) ?_;refine aO O O O (dP O O) ?_;refine aQ O bZ O (dP O O) ?_;refine aS O O (cL (by omega)) (dP O O) ?_;refine kpf O O<|aB<|aE O ?_;refine aA<|rgN<|kas O<|aB<|aI ?_)
  exact ⟨[_],⟨O,trivial⟩,O⟩
 rw [cK c1,cK c2,cK c3]
 simp only [Bool.false_or]
 (refine aA<|rgN<|aL O O O dO<|aL O O O dO<|aL O O O dO<|kas O<|aB<|aA<|aA<|rgN<|kfa O O ?_;refine kl1 O O O<|aQ O bZ O dO ?_;refine aS O O (cK (by omega)) dO<|kmv O<|aN O O (dP O O) ?_;refine aO O O O (dP O O) ?_;refine aQ O bZ O (dP O O) ?_;refine aS O O (cK (by omega)) (dP O O) ?_;refine kpf O O<|kmv O<|aN O O (dP O O) ?_;refine aO O O O (dP O O) ?_;refine aQ O bZ O (dP O O) ?_;refine aS O O (cK (by omega)) (dP O O) ?_;refine kpf O O<|aB<|aF O ?_;refine aH ?_;refine aA<|aA<|rgN<|kas O<|aB<|aG ?_)
 refine cG (fun m σ=>∃ i:Nat,i≤az.length∧m=az.length-i∧(az.take i).any grtF=false∧σ=⟨[(3,Lp 3),(4,Lp 4),(5,Lp 5),(7,Ln .i64 (i:Nat))],[v3B 36 5 va vb ad rs.length cap,sxB 4 v2 ad2 bz.length cap2,sxB 3 v1 ad1 az.length cap1],X⟩) az.length
  ⟨_,Le.of (by exact ⟨rfl,rfl,rfl,rfl,trivial⟩) (by exact ⟨rfl,rfl,rfl,trivial⟩) (by exact rfl) (by exact rfl) (by repeat' (first|refine bS ?_ ?_|rfl|exact bU|exact bT|exact bV rfl)),0,by omega,by omega,rfl,rfl⟩ ?_
 rintro m σ ⟨i,hi,rfl,hany,rfl⟩
 by_cases hlt:i<az.length
 case pos =>
  obtain ⟨c,hc⟩:∃ c,az[i]? = some c:=⟨_,cU hlt⟩
  obtain ⟨blk,off,arr,el,fr,fad,fcap,rfl,hX,hsiz,hcs,g1,g2,g3,hF⟩:=h1.get hc
  have hio:off+Int.toNat (i:Int)*3=off+i*3:=by simp
  have hcl:=hf1 c (cZ hc)
  by_cases h12:12<c.fs.length
  ·rw [show az.any grtF=true from any_yes hc (cL h12)]
   simp only [Bool.true_or,Bool.or_true]
   (refine aA<|aA<|rgN<|kmv O<|kfa O O ?_;refine kl1 O O O<|aQ O bZ O dO ?_;refine klt O O (cL (by omega))<|aB<|aE O ?_;refine aH ?_;refine aA<|aG<|aA<|rgN<|kfa O O ?_;refine kl1 O O O<|kmv O<|aR O O bZ (by omega) hio dO<|bH O O dO ?_;refine aW O hX O g3 dO<|aQ O bZ O dO ?_;refine aS O O (cL (by omega)) dO<|aB<|aE O ?_;refine aA<|rgN<|kas O<|aB<|aI ?_)
   exact ⟨[_],⟨O,trivial⟩,O⟩
  ·have hadd:IntKind.i64.wrap ((i:Int)+1)=((i+1:Nat):Int):=by rw [cE (by omega)];omega
   (refine aA<|aA<|rgN<|kmv O<|kfa O O ?_;refine kl1 O O O<|aQ O bZ O dO ?_;refine klt O O (cL (by omega))<|aB<|aE O ?_;refine aH ?_;refine aA<|aG<|aA<|rgN<|kfa O O ?_;refine kl1 O O O<|kmv O<|aR O O bZ (by omega) hio dO<|bH O O dO ?_;refine aW O hX O g3 dO<|aQ O bZ O dO ?_;refine aS O O (cK (by omega)) dO<|aB<|aF O ?_;refine aH ?_;refine rgN<|kmv O<|kad O O hadd<|kas O<|aB ?_)
   exact ⟨_,_,by omega,Le.of (by exact ⟨O,O,O,O,trivial⟩) (by exact ⟨O,O,O,trivial⟩) (by exact O) (by exact O) (by repeat' (first|refine bS ?_ ?_|rfl|exact bU|exact bT|exact bV O)),i+1,by omega,O,any_next hc hany (cK h12),O⟩
 have e:i=az.length:=by omega
 subst e
 rw [dC] at hany
 rw [hany,Bool.false_or]
 clear hany hi hlt
 (refine aA<|aA<|rgN<|kmv O<|kfa O O ?_;refine kl1 O O O<|aQ O bZ O dO ?_;refine klt O O (cK (by omega))<|aB<|aF O ?_;refine aJ<|aA<|aA<|rgN<|kas O<|aB<|aG ?_)
 refine cG (fun m σ=>∃ i:Nat,i≤bz.length∧m=bz.length-i∧(bz.take i).any grtF=false∧σ=⟨[(3,Lp 3),(4,Lp 4),(5,Lp 5),(8,Ln .i64 (i:Nat))],[v3B 36 5 va vb ad rs.length cap,sxB 4 v2 ad2 bz.length cap2,sxB 3 v1 ad1 az.length cap1],X⟩) bz.length
  ⟨_,Le.of (by exact ⟨rfl,rfl,rfl,rfl,trivial⟩) (by exact ⟨rfl,rfl,rfl,trivial⟩) (by exact rfl) (by exact rfl) (by repeat' (first|refine bS ?_ ?_|rfl|exact bU|exact bT|exact bV rfl)),0,by omega,by omega,rfl,rfl⟩ ?_
 rintro m σ ⟨i,hi,rfl,hany,rfl⟩
 by_cases hlt:i<bz.length
 case pos =>
  obtain ⟨c,hc⟩:∃ c,bz[i]? = some c:=⟨_,cU hlt⟩
  obtain ⟨blk,off,arr,el,fr,fad,fcap,rfl,hX,hsiz,hcs,g1,g2,g3,hF⟩:=h2.get hc
  have hio:off+Int.toNat (i:Int)*3=off+i*3:=by simp
  have hcl:=hf2 c (cZ hc)
  by_cases h12:12<c.fs.length
  ·rw [show bz.any grtF=true from any_yes hc (cL h12)]
   simp only [Bool.true_or,Bool.or_true]
   (refine aA<|aA<|rgN<|kmv O<|kfa O O ?_;refine kl1 O O O<|aQ O bZ O dO ?_;refine klt O O (cL (by omega))<|aB<|aE O ?_;refine aH ?_;refine aA<|aG<|aA<|rgN<|kfa O O ?_;refine kl1 O O O<|kmv O<|aR O O bZ (by omega) hio dO<|bH O O dO ?_;refine aW O hX O g3 dO<|aQ O bZ O dO ?_;refine aS O O (cL (by omega)) dO<|aB<|aE O ?_;refine aA<|rgN<|kas O<|aB<|aI ?_)
   exact ⟨[_],⟨O,trivial⟩,O⟩
  ·have hadd:IntKind.i64.wrap ((i:Int)+1)=((i+1:Nat):Int):=by rw [cE (by omega)];omega
   (refine aA<|aA<|rgN<|kmv O<|kfa O O ?_;refine kl1 O O O<|aQ O bZ O dO ?_;refine klt O O (cL (by omega))<|aB<|aE O ?_;refine aH ?_;refine aA<|aG<|aA<|rgN<|kfa O O ?_;refine kl1 O O O<|kmv O<|aR O O bZ (by omega) hio dO<|bH O O dO ?_;refine aW O hX O g3 dO<|aQ O bZ O dO ?_;refine aS O O (cK (by omega)) dO<|aB<|aF O ?_;refine aH ?_;refine rgN<|kmv O<|kad O O hadd<|kas O<|aB ?_)
   exact ⟨_,_,by omega,Le.of (by exact ⟨O,O,O,O,trivial⟩) (by exact ⟨O,O,O,trivial⟩) (by exact O) (by exact O) (by repeat' (first|refine bS ?_ ?_|rfl|exact bU|exact bT|exact bV O)),i+1,by omega,O,any_next hc hany (cK h12),O⟩
 have e:i=bz.length:=by omega
 subst e
 rw [dC] at hany
 rw [hany,Bool.false_or]
 clear hany hi hlt
 (refine aA<|aA<|rgN<|kmv O<|kfa O O ?_;refine kl1 O O O<|aQ O bZ O dO ?_;refine klt O O (cK (by omega))<|aB<|aF O ?_;refine aJ<|aA<|aA<|rgN<|kas O<|aB<|aG ?_)
 refine cG (fun m σ=>∃ i:Nat,i≤rs.length∧m=rs.length-i∧(rs.take i).any grtR=false∧σ=⟨[(3,Lp 3),(4,Lp 4),(5,Lp 5),(9,Ln .i64 (i:Nat))],[v3B 36 5 va vb ad rs.length cap,sxB 4 v2 ad2 bz.length cap2,sxB 3 v1 ad1 az.length cap1],X⟩) rs.length
  ⟨_,Le.of (by exact ⟨rfl,rfl,rfl,rfl,trivial⟩) (by exact ⟨rfl,rfl,rfl,trivial⟩) (by exact rfl) (by exact rfl) (by repeat' (first|refine bS ?_ ?_|rfl|exact bU|exact bT|exact bV rfl)),0,by omega,by omega,rfl,rfl⟩ ?_
 rintro m σ ⟨i,hi,rfl,hany,rfl⟩
 by_cases hlt:i<rs.length
 case neg =>
  have e:i=rs.length:=by omega
  subst e
  rw [dC] at hany
  rw [hany]
  (refine aA<|aA<|rgN<|kmv O<|kfa O O ?_;refine kl1 O O O<|aQ O bZ O dO ?_;refine klt O O (cK (by omega))<|aB<|aF O ?_;refine aJ<|aA<|rgN<|kas O<|aB<|aI ?_)
  exact ⟨[_],⟨O,trivial⟩,O⟩
 obtain ⟨r,hr⟩:∃ r,rs[i]? = some r:=⟨_,cU hlt⟩
 obtain ⟨blk,off,arr,el,fr,ead,ecap,rfl,hX,hsiz,hcs,g1,g2,g3,hE⟩:=hin.get hr
 have hio:off+Int.toNat (i:Int)*3=off+i*3:=by simp
 obtain ⟨hel,hcl⟩:=hsz r (cZ hr)
 have hyes:grtR r=true→rs.any grtR=true:=any_yes hr
 by_cases h12:12<r.ex.length
 ·rw [hyes (by unfold grtR;rw [cL h12];rfl)]
  (refine aA<|aA<|rgN<|kmv O<|kfa O O ?_;refine kl1 O O O<|aQ O bZ O dO ?_;refine klt O O (cL (by omega))<|aB<|aE O ?_;refine aH ?_;refine aA<|aG<|aA<|aA<|rgN<|kfa O O ?_;refine kl1 O O O<|kmv O<|aR O O bZ (by omega) hio dO<|bH O O dO ?_;refine aW O hX O g3 dO<|aQ O bZ O dO ?_;refine aS O O (cL (by omega)) dO<|aB<|aE O ?_;refine aA<|rgN<|kas O<|aB<|aI ?_)
  exact ⟨[_],⟨O,trivial⟩,O⟩
 (refine aA<|aA<|rgN<|kmv O<|kfa O O ?_;refine kl1 O O O<|aQ O bZ O dO ?_;refine klt O O (cL (by omega))<|aB<|aE O ?_;refine aH ?_;refine aA<|aG<|aA<|aA<|rgN<|kfa O O ?_;refine kl1 O O O<|kmv O<|aR O O bZ (by omega) hio dO<|bH O O dO ?_;refine aW O hX O g3 dO<|aQ O bZ O dO ?_;refine aS O O (cK (by omega)) dO<|aB<|aF O ?_;refine aH ?_;refine aA<|rgN<|kas O<|aB<|aG ?_)
 refine cG (fun m σ=>∃ k:Nat,k≤r.ex.length∧m=r.ex.length-k∧(r.ex.take k).any (fun c=>decide (80<c.length))=false∧σ=⟨[(3,Lp 3),(4,Lp 4),(5,Lp 5),(9,Ln .i64 (i:Nat)),(10,Ln .i64 (k:Nat))],[v3B 36 5 va vb (some ⟨blk,off,none⟩) rs.length cap,sxB 4 v2 ad2 bz.length cap2,sxB 3 v1 ad1 az.length cap1],X⟩) r.ex.length
  ⟨_,Le.of (by exact ⟨rfl,rfl,rfl,rfl,rfl,trivial⟩) (by exact ⟨rfl,rfl,rfl,trivial⟩) (by exact rfl) (by exact rfl) (by repeat' (first|refine bS ?_ ?_|rfl|exact bU|exact bT|exact bV rfl)),0,by omega,by omega,rfl,rfl⟩ ?_
 rintro m σ ⟨k,hk,rfl,hany2,rfl⟩
 by_cases hkl:k<r.ex.length
 case neg =>
  have e:k=r.ex.length:=by omega
  subst e
  rw [dC] at hany2
  have hno:grtR r=false:=by unfold grtR;rw [cK h12,hany2];rfl
  have hadd:IntKind.i64.wrap ((i:Int)+1)=((i+1:Nat):Int):=by rw [cE (by omega)];omega
  (refine aA<|aA<|rgN<|kmv O<|kfa O O ?_;refine kl1 O O O<|kmv O<|aR O O bZ (by omega) hio dO<|bH O O dO ?_;refine aW O hX O g3 dO<|aQ O bZ O dO ?_;refine klt O O (cK (by omega))<|aB<|aF O ?_;refine aJ<|rgN<|kmv O<|kad O O hadd<|kas O<|aB ?_)
  exact ⟨_,⟨[(3,Lp 3),(4,Lp 4),(5,Lp 5),(9,Ln .i64 (i+1:Nat))],[v3B 36 5 va vb (some ⟨blk,off,none⟩) rs.length cap,sxB 4 v2 ad2 bz.length cap2,sxB 3 v1 ad1 az.length cap1],X⟩,by omega,Le.of (by exact ⟨O,O,O,O,trivial⟩) (by exact ⟨O,O,O,trivial⟩) (by exact O) (by exact O) (by repeat' (first|refine bS ?_ ?_|rfl|exact bU|exact bT|exact bV O)),i+1,by omega,O,any_next hr hany hno,O⟩
 obtain ⟨c,hc⟩:∃ c,r.ex[k]? = some c:=⟨_,cU hkl⟩
 obtain ⟨eb,eo,earr,eel,efr,vad,vcap,rfl,hEX,hec,hI⟩:=hE.get hc
 have hio3:eo+Int.toNat (k:Int)*1=eo+k*1:=by simp
 have hcc:=hcl c (cZ hc)
 by_cases h80:80<c.length
 ·rw [hyes (by unfold grtR;rw [cK h12,Bool.false_or];exact any_yes hc (cL h80))]
  (refine aA<|aA<|rgN<|kmv O<|kfa O O ?_;refine kl1 O O O<|kmv O<|aR O O bZ (by omega) hio dO<|bH O O dO ?_;refine aW O hX O g3 dO<|aQ O bZ O dO ?_;refine klt O O (cL (by omega))<|aB<|aE O ?_;refine aH ?_;refine aA<|aG<|aA<|rgN<|kfa O O ?_;refine kl1 O O O<|kmv O<|aR O O bZ (by omega) hio dO<|bH O O dO ?_;refine aW O hX O g3 dO<|kmv O<|aR O O bZ (by omega) hio3 dO<|aW O hEX O hec dO<|aQ O bZ O dO ?_;refine aS O O (cL (by omega)) dO<|aB<|aE O ?_;refine aA<|rgN<|kas O<|aB<|aI ?_)
  exact ⟨[_],⟨O,trivial⟩,O⟩
 ·have hadd:IntKind.i64.wrap ((k:Int)+1)=((k+1:Nat):Int):=by rw [cE (by omega)];omega
  (refine aA<|aA<|rgN<|kmv O<|kfa O O ?_;refine kl1 O O O<|kmv O<|aR O O bZ (by omega) hio dO<|bH O O dO ?_;refine aW O hX O g3 dO<|aQ O bZ O dO ?_;refine klt O O (cL (by omega))<|aB<|aE O ?_;refine aH ?_;refine aA<|aG<|aA<|rgN<|kfa O O ?_;refine kl1 O O O<|kmv O<|aR O O bZ (by omega) hio dO<|bH O O dO ?_;refine aW O hX O g3 dO<|kmv O<|aR O O bZ (by omega) hio3 dO<|aW O hEX O hec dO<|aQ O bZ O dO ?_;refine aS O O (cK (by omega)) dO<|aB<|aF O ?_;refine aH ?_;refine rgN<|kmv O<|kad O O hadd<|kas O<|aB ?_)
  exact ⟨_,_,by omega,Le.of (by exact ⟨O,O,O,O,O,trivial⟩) (by exact ⟨O,O,O,trivial⟩) (by exact O) (by exact O) (by repeat' (first|refine bS ?_ ?_|rfl|exact bU|exact bT|exact bV O)),k+1,by omega,O,any_next hc hany2 (cK h80),O⟩
end Go.Proofs.YtopiioklkkiedaaGreatDoor
end
section
namespace Go.Proofs.YtopiioklkkiedaaGreatDoor
open Go Go.Lg Go.Lg.Fml Go.Lg.Fld Go.Lg.Arith
set_option maxRecDepth 100000
variable (X:Nat→Option Obj)
theorem values14 (l m:List Nm) (ad ad2:Option Addr) (cap cap2:Nat) (ha:NumsIn X ad l) (hb:NumsIn X ad2 m) (hbig:l.length<4611686018427387904) (r:Bool) (hr:decide (l=m)=r):
  PSpec Tryz.prog X 14 [Lx ad l.length cap,Lx ad2 m.length cap2] (Lb r):=by
 subst hr
 refine cC Tryz.func14 rfl (by kernel_rfl) rfl rfl ?_
 intro C
 by_cases hl:l.length=m.length
 ·(refine aA<|rgN<|kas O<|aB<|aA<|aA<|rgN<|kmv O<|aQ O bZ O dO ?_;refine kmv O<|aQ O bZ O dO ?_;refine kne O O (r:=false) (by rw [hl];simp)<|aB<|aF O ?_;refine aH ?_;refine aA<|aA<|rgN<|kas O<|aB<|aG ?_)
  refine cG (fun q σ=>∃ i:Nat,i≤l.length∧q=l.length-i∧l.take i=m.take i∧σ=⟨[(0,Lx ad l.length cap),(1,Lx ad2 m.length cap2),(5,Ln .i64 (i:Nat))],[],X⟩) l.length
   ⟨_,Le.of (by exact ⟨rfl,rfl,rfl,trivial⟩) (by exact trivial) (by exact rfl) (by exact rfl) (by exact rfl),0,by omega,rfl,rfl,rfl⟩ ?_
  rintro q σ ⟨i,hi,rfl,hpre,rfl⟩
  by_cases hlt:i<l.length
  ·obtain ⟨⟨b1,N1⟩,hf⟩:∃ v,l[i]? = some v:=⟨_,cU hlt⟩
   obtain ⟨⟨b2,N2⟩,hf'⟩:∃ v,m[i]? = some v:=⟨_,cU (by omega)⟩
   obtain ⟨hN1,blk,off,arr,el,fr,rfl,hX,hsz,hcells⟩:=ha.at hf
   obtain ⟨hN2,blk',off',arr',el',fr',rfl,hX',hsz',hcells'⟩:=hb.at hf'
   have hio:off+Int.toNat (i:Int)*3=off+i*3:=by simp
   have hio':off'+Int.toNat (i:Int)*3=off'+i*3:=by simp
   have hadd:IntKind.i64.wrap (((i:Nat):Int)+1)=((i+1:Nat):Int):=by rw [cE (by omega)];omega
   have q:=eqI (b:=b1) (b':=b2) (h:=N1/18446744073709551616) (h':=N2/18446744073709551616) (l:=N1%18446744073709551616) (l':=N2%18446744073709551616) _ (eqN hN1 hN2)
   by_cases hq:((b1,N1):Nm)=(b2,N2)
   ·rw [cL hq] at q
    (refine aA<|aA<|rgN<|kmv O<|kmv O<|aQ O bZ O dO ?_;refine klt O O (cL (by omega))<|aB<|aE O ?_;refine aH ?_;refine aA<|aG<|aA<|rgD mixed<|kmv O<|kmv O<|aR O O bZ (by omega) hio dO<|aY O hX (by kernel_rfl) hsz hcells dO<|kmv O<|kmv O<|aR O O bZ (by omega) hio' dO<|aY O hX' (by kernel_rfl) hsz' hcells' dO<|bQ O O O O (by kernel_rfl) q (.inr ⟨O,O⟩) dO<|aB ?_;refine rgA ?_;refine aF O ?_;refine aH ?_;refine rgN<|kmv O<|kad O O hadd<|kas O<|aB ?_)
    exact ⟨_,_,by omega,Le.of (by exact ⟨rfl,rfl,rfl,trivial⟩) (by exact trivial) (by exact rfl) (by exact rfl) (by exact rfl),i+1,by omega,rfl,by rw [take_snoc hf,take_snoc hf',hpre,hq],rfl⟩
   ·rw [cK (show ¬l=m from fun e=>hq (by rw [e,hf'] at hf;exact (Option.some.inj hf).symm))]
    rw [cK hq] at q
    (refine aA<|aA<|rgN<|kmv O<|kmv O<|aQ O bZ O dO ?_;refine klt O O (cL (by omega))<|aB<|aE O ?_;refine aH ?_;refine aA<|aG<|aA<|rgD mixed<|kmv O<|kmv O<|aR O O bZ (by omega) hio dO<|aY O hX (by kernel_rfl) hsz hcells dO<|kmv O<|kmv O<|aR O O bZ (by omega) hio' dO<|aY O hX' (by kernel_rfl) hsz' hcells' dO<|bQ O O O O (by kernel_rfl) q (.inr ⟨O,O⟩) dO<|aB ?_;refine rgA ?_;refine aE O ?_;refine aA<|rgN<|kas O<|aB<|aI ?_)
    exact ⟨[_],⟨O,trivial⟩,O⟩
  ·have e:i=l.length:=by omega
   subst e
   rw [dC,List.take_of_length_le (by omega)] at hpre
   rw [cL hpre]
   (refine aA<|aA<|rgN<|kmv O<|kmv O<|aQ O bZ O dO ?_;refine klt O O (cK (by omega))<|aB<|aF O ?_;refine aJ<|aA<|rgN<|kas O<|aB<|aI ?_)
   exact ⟨[_],⟨O,trivial⟩,O⟩
 ·rw [cK (show ¬l=m from fun e=>hl (by rw [e]))]
  (refine aA<|rgN<|kas O<|aB<|aA<|aA<|rgN<|kmv O<|aQ O bZ O dO ?_;refine kmv O<|aQ O bZ O dO ?_;refine kne O O (r:=true) (by rw [bne_iff_ne];omega)<|aB<|aE O ?_;refine aA<|rgN<|kas O<|aB<|aI ?_)
  exact ⟨[_],⟨O,trivial⟩,O⟩
end Go.Proofs.YtopiioklkkiedaaGreatDoor
end
section
namespace Go.Proofs.YtopiioklkkiedaaGreatDoor
open Go Go.Lg Go.Lg.Fml Go.Lg.Fld Go.Lg.Arith
set_option maxRecDepth 100000
def fl14a:List Fl:=[⟨[120],2,1⟩]
def fl14b:List Fl:=[⟨[120],3,1⟩]
def c14a:Cp:=⟨1,[97],fl14a⟩
def c14b:Cp:=⟨1,[97],fl14b⟩
def code14:List Ins:=[⟨2,0,0,(false,0)⟩,⟨1,0,0,(false,2)⟩,⟨7,0,0,(false,0)⟩]
def r14:Rl:=⟨1,1,[code14]⟩
theorem va14:valE fl14a fl14b r14 [(false,100)]=0:=by decide +kernel
theorem vn14:valA fl14a fl14b r14 [(false,100)]=[(false,200)]:=by decide +kernel
theorem vb14:valE fl14a fl14a r14 [(false,100)]=3:=by decide +kernel
theorem vr14:rowE fl14a fl14b r14 [100]=0:=by decide +kernel
theorem vt14:rowN fl14a fl14b r14 [100]=[200,0]:=by decide +kernel
theorem vs14:sigN [⟨3,1,[]⟩,⟨4,0,[]⟩] 2=8:=by decide +kernel
theorem sm14a:∀ f∈fl14a,(-9223372036854775808≤f.kind∧f.kind<9223372036854775808)∧(-9223372036854775808≤f.count∧f.count<9223372036854775808):=by
 intro f hf
 simp only [fl14a,List.mem_cons,List.not_mem_nil,or_false] at hf
 subst hf;exact ⟨by decide,by decide⟩
theorem sm14b:∀ f∈fl14b,(-9223372036854775808≤f.kind∧f.kind<9223372036854775808)∧(-9223372036854775808≤f.count∧f.count<9223372036854775808):=by
 intro f hf
 simp only [fl14b,List.mem_cons,List.not_mem_nil,or_false] at hf
 subst hf;exact ⟨by decide,by decide⟩
theorem sm14c:∀ x∈code14,smallI x:=by
 intro x hx
 simp only [code14,List.mem_cons,List.not_mem_nil,or_false] at hx
 rcases hx with rfl|rfl|rfl<;>exact ⟨by decide,by decide,by decide,by show 0≤(_:Int)∧(_:Int)<_;decide⟩
theorem sz14:r14.ex.length≤12∧∀ c∈r14.ex,c.length≤80:=⟨by decide,fun c hc=>by
 simp only [r14,List.mem_cons,List.not_mem_nil,or_false] at hc
 subst hc;decide⟩
variable (X:Nat→Option Obj)
theorem val_lent {X:Nat→Option Obj} {a b:Cp} {r:Rl} {ns:List Nm} {aad bad ead:Option Addr} {acap bcap ecap:Nat} {row:Bool} (hN:∀ u∈ns,In2 u.2):∀ (Y:Nat→Option Obj) (us:List Value),(∀ b o,X b=some o→Y b=some o)→LentLs (stOf [nmsB 1000000 ns row]) Y [Cx a aad acap,Cx b bad bcap,LPg r.nw r.old ead r.ex.length ecap,.sv (.one (.slc 1000000 0 ns.length 3))] us →
  ∃ (vad:Option Addr) (vcap:Nat),us.map toLV=[Cx a aad acap,Cx b bad bcap,LPg r.nw r.old ead r.ex.length ecap,Lx vad ns.length vcap]∧NumsIn Y vad ns∧ns.length≤vcap:=by
 intro Y us hY hL
 obtain ⟨u1,us1,rfl,⟨av,rfl,a1,av1,rfl,g1,a2,av2,rfl,g2,a3,av3,rfl,g3,rfl⟩,u2,us2,rfl,⟨bv,rfl,b1,bv1,rfl,f1,b2,bv2,rfl,f2,b3,bv3,rfl,f3,rfl⟩,u3,us3,rfl,⟨cv,rfl,c1,cv1,rfl,d1,c2,cv2,rfl,d2,c3,cv3,rfl,d3,rfl⟩,u4,us4,rfl,h4,rfl⟩:=hL
 have g1:a1 = .int .i64 a.id:=g1
 have g2:a2 = .string ⟨a.nm.toArray⟩:=g2
 have g3:a3 = .slice aad a.fs.length acap:=g3
 have f1:b1 = .int .i64 b.id:=f1
 have f2:b2 = .string ⟨b.nm.toArray⟩:=f2
 have f3:b3 = .slice bad b.fs.length bcap:=f3
 have d1:c1 = .int .i64 r.nw:=d1
 have d2:c2 = .int .i64 r.old:=d2
 have d3:c3 = .slice ead r.ex.length ecap:=d3
 subst g1 g2 g3 f1 f2 f3 d1 d2 d3
 obtain ⟨bb,blk,cap2,m,hk',rfl,hc,hfit,hB'⟩:=h4
 have hk':some (some (⟨86,(nmsV ns).map .val,row⟩:Box))=some (some bb):=hk'
 simp only [Option.some.injEq] at hk'
 subst hk'
 obtain ⟨arr,fr,us',sp,hYb,hsz,harr,hv⟩:=hB'
 have:=hv (nmsV ns) rfl
 subst this
 exact ⟨some ⟨blk,0,none⟩,cap2,O,nms_in hYb hN ⟨sp,harr⟩,hc⟩
theorem eVal_nil_lent (a b:Cp) (r:Rl) (ns:List Nm) (aad bad ead:Option Addr) (acap bcap ecap:Nat) (row:Bool) (hA:FieldsIn X aad a.fs) (hac:a.fs.length≤acap) (hB:FieldsIn X bad b.fs) (hE:CodesIn X ead r.ex) (hN:∀ u∈ns,In2 u.2) (la:a.fs.length≤12) (lb:b.fs.length≤12) (lr:r.ex.length≤12∧∀ c∈r.ex,c.length≤80) (ln:ns.length<4611686018427387904) (h:vShape (valE a.fs b.fs r ns) (valA a.fs b.fs r ns)=false):
  MSpec Tryz.prog X 12 [Cx a aad acap,Cx b bad bcap,LPg r.nw r.old ead r.ex.length ecap,.sv (.one (.slc 1000000 0 ns.length 3))] [nmsB 1000000 ns row] (.tup [.one (.val (.slice none 0 0)),Sn .i64 (valE a.fs b.fs r ns)]) ([nmsB 1000000 ns row]++[]):=
 MSpec.lend (by kernel_rfl) rfl (by exact (by repeat' (first|refine bS ?_ ?_|rfl|exact bU|exact bT|exact bV rfl))) rfl rfl rfl fun Y us hY hL=>by
  obtain ⟨vad,vcap,e,h1,h2⟩:=val_lent hN Y us hY hL
  rw [e]
  exact eVal_nil Y a b r ns aad bad ead vad acap bcap ecap vcap (hA.mono hY) hac (hB.mono hY) (hE.mono hY) h1 h2 la lb lr ln h
theorem eVal_box_lent (a b:Cp) (r:Rl) (ns:List Nm) (aad bad ead:Option Addr) (acap bcap ecap:Nat) (row:Bool) (hA:FieldsIn X aad a.fs) (hac:a.fs.length≤acap) (hB:FieldsIn X bad b.fs) (hE:CodesIn X ead r.ex) (hN:∀ u∈ns,In2 u.2) (la:a.fs.length≤12) (lb:b.fs.length≤12) (lr:r.ex.length≤12∧∀ c∈r.ex,c.length≤80) (ln:ns.length<4611686018427387904) (h:vShape (valE a.fs b.fs r ns) (valA a.fs b.fs r ns)=true):
  MSpec Tryz.prog X 12 [Cx a aad acap,Cx b bad bcap,LPg r.nw r.old ead r.ex.length ecap,.sv (.one (.slc 1000000 0 ns.length 3))] [nmsB 1000000 ns row] (.tup [.one (.slc 1000001 0 (valA a.fs b.fs r ns).length 3),Sn .i64 (valE a.fs b.fs r ns)]) ([nmsB 1000000 ns row]++[nmsB 1000001 (valA a.fs b.fs r ns) (vRow (valA a.fs b.fs r ns))]):=
 MSpec.lend (by kernel_rfl) rfl (by exact (by repeat' (first|refine bS ?_ ?_|rfl|exact bU|exact bT|exact bV rfl))) (by exact (by repeat' (first|refine bS ?_ ?_|rfl|exact bU|exact bT|exact bV rfl))) rfl rfl fun Y us hY hL=>by
  obtain ⟨vad,vcap,e,h1,h2⟩:=val_lent hN Y us hY hL
  rw [e]
  exact eVal_box Y a b r ns aad bad ead vad acap bcap ecap vcap (hA.mono hY) hac (hB.mono hY) (hE.mono hY) h1 h2 la lb lr ln h
end Go.Proofs.YtopiioklkkiedaaGreatDoor
end
section
namespace Go.Proofs.YtopiioklkkiedaaGreatDoor
open Go Go.Lg Go.Lg.Fml Go.Lg.Fld Go.Lg.Arith
set_option maxRecDepth 100000
abbrev izs14:List Value:=[.int .i64 0,.int .i64 0,.int .i64 0,.bool false,.int .u64 0,.int .u64 0]
abbrev rzs14:List Value:=[.int .i64 0,.int .i64 0,.slice none 0 0]
variable (X:Nat→Option Obj)
theorem eSig_lent {S:Nat→Option (Option Box)} {k s n:Nat} {rs:List Rl} {ws:List Value} {e:TypeId} {row:Bool} {va vb:Int} (G:RulesH X ws rs) (hsm:∀ r∈rs,smallR r) (hl:rs.length<4611686018427387904) (hs:s<4294967296) (hk:S k=some (some ⟨e,(rwZ rs ws).map .val,row⟩)) (hn:sigN rs s=n):
  ∀ (Y:Nat→Option Obj) (us:List Value),(∀ b o,X b=some o→Y b=some o)→LentLs S Y [.sv (.agg [.val (.int .i64 va),.val (.int .i64 vb),.slc k 0 rs.length 3]),Ln .u32 (s:Nat)] us→PSpec Tryz.prog Y 20 (us.map toLV) (Ln .u32 (n:Nat)):=by
 subst hn
 intro Y us hY hL
 obtain ⟨u1,us1,rfl,⟨av,rfl,a1,av1,rfl,g1,a2,av2,rfl,g2,a3,av3,rfl,g3,rfl⟩,u2,us2,rfl,h2,rfl⟩:=hL
 have g1:a1 = .int .i64 va:=g1
 have g2:a2 = .int .i64 vb:=g2
 have h2:u2 = .int .u32 (s:Nat):=h2
 subst g1 g2 h2
 obtain ⟨bb,blk,cap2,m,hk',rfl,hc,hfit,hB⟩:=g3
 rw [hk] at hk'
 simp only [Option.some.injEq] at hk'
 subst hk'
 obtain ⟨arr,fr,us',sp,hYb,hsz,harr,hv⟩:=hB
 have:=hv (rwZ rs ws) rfl
 subst this
 exact eSig Y va vb rs (some ⟨blk,0,none⟩) cap2 s (rules_block hYb harr (G.mono hY) hsm) hl hs
set_option maxHeartbeats 25600000 in
theorem awake14_spec:PSpec Tryz.prog X 9 [] (Lb true):=by
 refine cC Tryz.func9 rfl (by kernel_rfl) rfl rfl ?_
 intro C
 (refine aA<|rgN<|kas O<|aB<|aA<|rgN<|aT O O (by exact O) (by exact nl3 O O O O) dO ?_;refine aZ (zs:=[Value.string ⟨#[]⟩,.int .i64 0,.int .i64 0]) (sz:=3) (e:=83) (cs':=(flV fl14a).map .val) (by kernel_rfl) O O O O O O dO<|aT O O (by exact O) (by exact nl3 O O O O) dO ?_;refine aP O dO ?_;refine aM O O O O O O dO ?_;refine aB<|aA ?_)
 refine LWP.le (σ':=⟨[(1,Lp 1)],[(1,some ⟨24,[.val (.int .i64 1),.val (.string ⟨#[97]⟩)] ++ .slc 11 0 1 3::[],false⟩),(11,some ⟨83,(flV fl14a).map .val,false⟩)],X⟩) (Le.of (by exact ⟨O,trivial⟩) (by exact ⟨O,O,trivial⟩) (by exact O) (by exact O) (by repeat' (first|refine bS ?_ ?_|rfl|exact bU|exact bT|exact bV O))) ?_
 refine LWP.freezeCell O O O O O O fun k1 cp1 arr1 fr1 hn1 _ hc1 _ hv1 => ?_
 have hFa:FieldsIn (withBlock X k1 (.cells arr1 83 fr1)) (some ⟨k1,0,none⟩) fl14a:=by
  obtain ⟨sp,hv⟩:=hv1
  exact fields_block (cJ _ _ _) hv sm14a
 clear hv1 hn1
 generalize withBlock X k1 (.cells arr1 83 fr1)=Y at *
 generalize (some ⟨k1,0,none⟩:Option Addr)=ad1 at *
 (refine rgN<|aT O O (by exact O) (by exact nl3 O O O O) dO ?_;refine aZ (zs:=[Value.string ⟨#[]⟩,.int .i64 0,.int .i64 0]) (sz:=3) (e:=83) (cs':=(flV fl14b).map .val) (by kernel_rfl) O O O O O O dO<|aT O O (by exact O) (by exact nl3 O O O O) dO ?_;refine aP O dO ?_;refine aM O O O O O O dO ?_;refine aB<|aA ?_)
 refine LWP.le (σ':=⟨[(1,Lp 1),(2,Lp 2)],[(2,some ⟨24,[.val (.int .i64 1),.val (.string ⟨#[97]⟩)] ++ .slc 14 0 1 3::[],false⟩),(14,some ⟨83,(flV fl14b).map .val,false⟩),cpB 1 c14a ad1 cp1],Y⟩) (Le.of (by exact ⟨O,O,trivial⟩) (by exact ⟨O,O,O,trivial⟩) (by exact O) (by exact O) (by repeat' (first|refine bS ?_ ?_|rfl|exact bU|exact bT|exact bV O))) ?_
 refine LWP.freezeCell O O O O O O fun k2 cp2 arr2 fr2 hn2 _ _ _ hv2 => ?_
 have hFb:FieldsIn (withBlock Y k2 (.cells arr2 83 fr2)) (some ⟨k2,0,none⟩) fl14b:=by
  obtain ⟨sp,hv⟩:=hv2
  exact fields_block (cJ _ _ _) hv sm14b
 replace hFa:=hFa.mono (cF (o:=.cells arr2 83 fr2) hn2)
 clear hv2 hn2
 generalize withBlock Y k2 (.cells arr2 83 fr2)=Y2 at *
 generalize (some ⟨k2,0,none⟩:Option Addr)=ad2 at *
 have o2:=Of_spec Y2 2 (by decide)
 (refine rgN<|aT O O (by exact O) (by exact nl6 O O O O O O O) dO ?_;refine kca O O o2<|aT O O (by exact O) (by exact nl6 O O O O O O O) dO ?_;refine aT O O (by exact O) (by exact nl6 O O O O O O O) dO ?_;refine aZ (zs:=(List.replicate 3 izs14).flatten) (sz:=6) (e:=88) (cs':=(inssV code14).map .val) (by kernel_rfl) O O O O O O dO<|aZ (zs:=[.slice none 0 0]) (sz:=1) (e:=90) (cs':=[.slc 20 0 3 6]) (by kernel_rfl) O O O O O O dO<|aT O O (by exact O) (by exact nl3 O O O O) dO ?_;refine aP O dO ?_;refine aM O O O O O O dO ?_;refine aB<|aA ?_)
 refine LWP.le (σ':=⟨[(1,Lp 1),(2,Lp 2),(3,Lp 3)],[(21,some ⟨90,[] ++ .slc 20 0 3 6::[],false⟩),(20,some ⟨88,(inssV code14).map .val,false⟩),(3,some ⟨27,[.val (.int .i64 1),.val (.int .i64 1),.slc 21 0 1 1],false⟩),cpB 1 c14a ad1 cp1,cpB 2 c14b ad2 cp2],Y2⟩) (Le.of (by exact ⟨O,O,O,trivial⟩) (by exact ⟨O,O,O,O,O,trivial⟩) (by exact O) (by exact O) (by repeat' (first|refine bS ?_ ?_|rfl|exact bU|exact bT|exact bV O))) ?_
 refine LWP.freezeCell O O O O O O fun k3 cp3 arr3 fr3 hn3 _ _ _ hv3 => ?_
 have hI:InsIn (withBlock Y2 k3 (.cells arr3 88 fr3)) (some ⟨k3,0,none⟩) code14:=ins_in (cJ _ _ _) sm14c hv3
 have h3:=cF (o:=.cells arr3 88 fr3) hn3
 replace hFa:=hFa.mono h3
 replace hFb:=hFb.mono h3
 clear hv3 hn3 o2 h3
 generalize withBlock Y2 k3 (.cells arr3 88 fr3)=Y3 at *
 generalize (some ⟨k3,0,none⟩:Option Addr)=ad3 at *
 refine LWP.le (σ':=⟨[(1,Lp 1),(2,Lp 2),(3,Lp 3)],[(3,some ⟨27,[.val (.int .i64 1),.val (.int .i64 1)] ++ .slc 21 0 1 1::[],false⟩),(21,some ⟨90,[Value.slice ad3 3 cp3].map .val,false⟩),cpB 1 c14a ad1 cp1,cpB 2 c14b ad2 cp2],Y3⟩) (Le.of (by exact ⟨O,O,O,trivial⟩) (by exact ⟨O,O,O,O,trivial⟩) (by exact O) (by exact O) (by repeat' (first|refine bS ?_ ?_|rfl|exact bU|exact bT|exact bV O))) ?_
 refine LWP.freezeCell O O O O O O fun k4 ec arr4 fr4 hn4 _ _ _ hv4 => ?_
 have hE:CodesIn (withBlock Y3 k4 (.cells arr4 90 fr4)) (some ⟨k4,0,none⟩) r14.ex:=by
  obtain ⟨sp,e⟩:=hv4
  exact forms_block (cJ _ _ _) e (FormsH.nil.push ⟨_,_,O,hI.mono (cF hn4)⟩)
 have h4:=cF (o:=.cells arr4 90 fr4) hn4
 replace hFa:=hFa.mono h4
 replace hFb:=hFb.mono h4
 clear hv4 hn4 h4 hI
 generalize withBlock Y3 k4 (.cells arr4 90 fr4)=Z at *
 generalize (some ⟨k4,0,none⟩:Option Addr)=ead at *
 have hin2:∀ u∈[((false,100):Nm)],In2 u.2:=fun u hu=>by rw [List.mem_singleton.1 hu];show 0≤(100:Int)∧(100:Int)<_;decide
 have o100:=Of_spec Z 100 (by decide)
 have hs1:vShape (valE c14a.fs c14b.fs r14 [(false,100)]) (valA c14a.fs c14b.fs r14 [(false,100)])=true:=by
  cases h:vShape (valE c14a.fs c14b.fs r14 [(false,100)]) (valA c14a.fs c14b.fs r14 [(false,100)]) with
  | true=>rfl
  | false=>have:=vShape_nil h;rw [show valA c14a.fs c14b.fs r14 [(false,100)]=[(false,200)] from vn14] at this;cases this
 have hV:=eVal_box_lent Z c14a c14b r14 [(false,100)] ad1 ad2 ead cp1 cp2 ec false hFa hc1 hFb hE hin2 (by decide) (by decide) sz14 (by decide) hs1
 rw [show valA c14a.fs c14b.fs r14 [(false,100)]=[(false,200)] from vn14,show valE c14a.fs c14b.fs r14 [(false,100)]=0 from va14] at hV
 (refine rgD mixed<|aK O O O dO ?_;refine aK O O O dO ?_;refine aK O O O dO ?_;refine kca O O o100<|aZ (zs:=[Value.bool false,.int .u64 0,.int .u64 0]) (sz:=3) (e:=86) (cs':=(nmsV [(false,100)]).map .val) (by kernel_rfl) O O O O O O dO<|bE [(1000000,28),(1000001,601)] (.tup [.one (.slc 601 0 1 3),Sn .i64 0]) [nmsB 28 [(false,100)] false,nmsB 601 [(false,200)] (vRow [(false,200)])] (hV) O O (by exact (cM ⟨_,O,O⟩ trivial)) (by exact (bS (bS O (bS O (bS O O))) O)) O O O O (by exact (.box O O (.box O O .nil))) dO<|kmv O<|kex O O<|kex O O<|kas O<|kas O<|aB<|rgA ?_;refine aA ?_)
 refine LWP.le (σ':=⟨[(4,.sv (.one (.slc 601 0 1 3))),(5,Ln .i64 0),(1,Lp 1),(2,Lp 2),(3,Lp 3)],[nmsB 601 [(false,200)] (vRow [(false,200)]),cpB 1 c14a ad1 cp1,cpB 2 c14b ad2 cp2,v3B 27 3 1 1 ead 1 ec],Z⟩) (Le.of (by exact ⟨O,O,O,O,O,trivial⟩) (by exact ⟨O,O,O,O,trivial⟩) (by exact O) (by exact O) (by repeat' (first|refine bS ?_ ?_|rfl|exact bU|exact bT|exact bV O))) ?_
 refine LWP.freeze O O O fun k5 vc arr5 fr5 hn5 _ hvc _ hv5 => ?_
 have hN:NumsIn (withBlock Z k5 (.cells arr5 86 fr5)) (some ⟨k5,0,none⟩) [(false,200)]:=nms_in (cJ _ _ _) (fun u hu=>by rw [List.mem_singleton.1 hu];show 0≤(200:Int)∧(200:Int)<_;decide) hv5
 have h5:=cF (o:=.cells arr5 86 fr5) hn5
 replace hFa:=hFa.mono h5
 replace hFb:=hFb.mono h5
 replace hE:=hE.mono h5
 clear hv5 hn5 h5 hV o100
 generalize withBlock Z k5 (.cells arr5 86 fr5)=W at *
 generalize (some ⟨k5,0,none⟩:Option Addr)=vad at *
 have o100:=Of_spec W 100 (by decide)
 repeat refine aA ?_
 refine LWP.meetL (fun σ=>σ=⟨[(4,Lx vad 1 vc),(5,Ln .i64 0),(7,Ln .i64 3),(1,Lp 1),(2,Lp 2),(3,Lp 3)],[cpB 1 c14a ad1 cp1,cpB 2 c14b ad2 cp2,v3B 27 3 1 1 ead 1 ec],W⟩) ?_ ?_
 ·have hve:valE c14a.fs c14a.fs r14 [(false,100)]=3:=vb14
  have hva:valA c14a.fs c14a.fs r14 [(false,100)]=[]:=if_neg (by rw [hve];decide)
  cases hs2:vShape (valE c14a.fs c14a.fs r14 [(false,100)]) (valA c14a.fs c14a.fs r14 [(false,100)]) with
  | false =>
   have hV:=eVal_nil_lent W c14a c14a r14 [(false,100)] ad1 ad1 ead cp1 cp1 ec false hFa hc1 hFa hE hin2 (by decide) (by decide) sz14 (by decide) hs2
   rw [hve] at hV
   (refine rgD mixed<|aK O O O dO ?_;refine aK O O O dO ?_;refine aK O O O dO ?_;refine kca O O o100<|aZ (zs:=[Value.bool false,.int .u64 0,.int .u64 0]) (sz:=3) (e:=86) (cs':=(nmsV [(false,100)]).map .val) (by kernel_rfl) O O O O O O dO<|aU [(1000000,37)] [nmsB 37 [(false,100)] false] (hV) O O (by exact (cM ⟨_,O,O⟩ trivial)) (by exact (bS (bS O (bS O (bS O O))) O)) O O O O (by exact (.box O O .nil)) dO<|kmv O<|kex O O<|kex O O<|kas O<|kas O<|aB<|rgA ?_)
   exact Leads.here (σ':=⟨[(4,Lx vad 1 vc),(5,Ln .i64 0),(7,Ln .i64 3),(1,Lp 1),(2,Lp 2),(3,Lp 3)],[cpB 1 c14a ad1 cp1,cpB 2 c14b ad2 cp2,v3B 27 3 1 1 ead 1 ec],W⟩) (Le.of (by exact ⟨O,O,O,O,O,O,trivial⟩) (by exact ⟨O,O,O,trivial⟩) (by exact O) (by exact O) (by repeat' (first|refine bS ?_ ?_|rfl|exact bU|exact bT|exact bV O))) O
  | true =>
   have hV:=eVal_box_lent W c14a c14a r14 [(false,100)] ad1 ad1 ead cp1 cp1 ec false hFa hc1 hFa hE hin2 (by decide) (by decide) sz14 (by decide) hs2
   rw [hva,hve] at hV
   (refine rgD mixed<|aK O O O dO ?_;refine aK O O O dO ?_;refine aK O O O dO ?_;refine kca O O o100<|aZ (zs:=[Value.bool false,.int .u64 0,.int .u64 0]) (sz:=3) (e:=86) (cs':=(nmsV [(false,100)]).map .val) (by kernel_rfl) O O O O O O dO<|bE [(1000000,37),(1000001,601)] (.tup [.one (.slc 601 0 0 3),Sn .i64 3]) [nmsB 37 [(false,100)] false,nmsB 601 [] (vRow [])] (hV) O O (by exact (cM ⟨_,O,O⟩ trivial)) (by exact (bS (bS O (bS O (bS O O))) O)) O O O O (by exact (.box O O (.box O O .nil))) dO<|kmv O<|kex O O<|kex O O<|kas O<|kas O<|aB<|rgA ?_)
   exact Leads.here (σ':=⟨[(4,Lx vad 1 vc),(5,Ln .i64 0),(7,Ln .i64 3),(1,Lp 1),(2,Lp 2),(3,Lp 3)],[cpB 1 c14a ad1 cp1,cpB 2 c14b ad2 cp2,v3B 27 3 1 1 ead 1 ec],W⟩) (Le.of (by exact ⟨O,O,O,O,O,O,trivial⟩) (by exact ⟨O,O,O,trivial⟩) (by exact O) (by exact O) (by repeat' (first|refine bS ?_ ?_|rfl|exact bU|exact bT|exact bV O))) O
 rintro σ rfl
 have hR:=eRow W c14a c14b r14 [100] ad1 ad2 ead cp1 cp2 ec hFa hc1 hFb hE (by decide) (by decide) sz14 (by decide)
 rw [show rowN c14a.fs c14b.fs r14 [100]=[200,0] from vt14,show rowE c14a.fs c14b.fs r14 [100]=0 from vr14] at hR
 (refine aA<|rgN<|aK O O O dO ?_;refine aK O O O dO ?_;refine aK O O O dO ?_;refine kca O O hR<|kmv O<|kex O O<|kex O O<|kas O<|kas O<|aB<|aA ?_)
 have o200:=Of_spec W 200 (by decide)
 obtain ⟨_,blk,off,arr,el,fr,rfl,hX,hsz,hcs⟩:=hN.at (i:=0) (b:=false) (N:=200) rfl
 have hio:off+Int.toNat 0*3=off+0*3:=by simp
 have q:=eqI (b:=false) (b':=false) (h:=200/18446744073709551616) (h':=200/18446744073709551616) (l:=200%18446744073709551616) (l':=200%18446744073709551616) true (by decide)
 have hS:=fun (S:Nat→Option (Option Box)) h=>eSig_lent W (S:=S) (k:=77) (s:=2) (n:=8) (rs:=[⟨3,1,[]⟩,⟨4,0,[]⟩]) (ws:=[.slice none 0 0,.slice none 0 0]) (e:=27) (row:=false) (va:=0) (vb:=0) ((RulesH.nil.push CodesIn.nilIn).push CodesIn.nilIn) (fun r hr=>by
  simp only [List.mem_cons,List.not_mem_nil,or_false] at hr
  rcases hr with rfl|rfl<;>exact ⟨by decide,by decide⟩) (by decide) (by decide) h vs14
 (refine rgD mixed<|kmv O<|keq O O (r:=true) O<|kmv O<|gmv O O O<|aQ O bZ O (dP O O) ?_;refine bC O O (r:=true) O (dP O O) ?_;refine kpt O O<|kmv O<|gmv O O O<|aR O O bZ (by decide) hio (dP O O) ?_;refine aY O hX (by kernel_rfl) hsz hcs (dP O O) ?_;refine gca O O o200 O O<|bQ O O O O (by kernel_rfl) q (.inl ⟨O,O⟩) (dP O O) ?_;refine kpt O O<|kmv O<|gmv O O O<|bC O O (r:=true) O (dP O O) ?_;refine kpt O O<|kmv O<|gmv O O O<|bC O O (r:=true) O (dP O O) ?_;refine kpt O O<|kmv O<|gmv O O O<|K.strEq O O (strs_eq (r:=true) O) (dP O O) ?_;refine kpt O O<|kmv O<|aT O O (by exact O) (by exact nl3 O O O O) (dP O O) ?_;refine aT O O (by exact O) (by exact nl3 O O O O) (dP O O) ?_;refine aZ (zs:=(List.replicate 2 rzs14).flatten) (sz:=3) (e:=27) (cs':=(rwZ [⟨3,1,[]⟩,⟨4,0,[]⟩] [.slice none 0 0,.slice none 0 0]).map .val) (by kernel_rfl) O O O O O O (dP O O) ?_;refine aT O O (by exact O) (by exact nl3 O O O O) (dP O O) ?_;refine K.callL [77] O O O (hS _ O) (dP O O) ?_;refine bC O O (r:=true) O (dP O O) ?_;refine kpt O O<|kas O<|aB<|rgA ?_;refine aI ?_)
 exact ⟨[_],⟨O,trivial⟩,O⟩
end Go.Proofs.YtopiioklkkiedaaGreatDoor
end
section
namespace Go.Lg
open Go
theorem Leads.fixRes {n:Nat} {C:Ctx} {X:Nat→Option Obj} {Mid:St→Prop} {s:List (Nat×LV)} {bx:List (Nat×Option Box)} {d k off len sz:Nat} {e:TypeId} {cs:List CV} {R:Rsc}
  (hs:s.all (fun p=>p.2.inUse bx)=true) (hb:bx.all (fun p=>match p.2 with|some b=>b.cells.all (CV.inUse bx)|none=>true)=true) (hk:look k bx=none)
  (h:∀ (ρ:Nat×Nat) (H:Nat→Option Obj) (cap:Nat),R.holds ρ H→OwnedM C X H→len≤cap→off+cap*sz≤ρ.2→Leads n C Mid ⟨(d,.sv (.one (.val (.slice (some ⟨ρ.1,off,none⟩) len cap))))::s,bx,joinM X H⟩):
  Leads n C Mid ⟨(d,.sv (.one (.slc k off len sz)))::s,(k,some ⟨e,cs,.res R⟩)::bx,X⟩:=⟨fun ι a w hr=>by
 obtain ⟨ρ,H,cap,h1,h2,h3,h4,h5⟩:=hr.fixRes hs hb hk
 exact (h ρ H cap h1 h2 h3 h4).out ι a w h5⟩
end Go.Lg
namespace Go.Proofs.YtopiioklkkiedaaGreatDoor
open Go Go.Lg Go.Lg.Fml Go.Lg.Fld Go.Lg.Arith
set_option maxRecDepth 100000
theorem prts_mono {X Y:Nat→Option Obj} (hXY:∀ b o,X b=some o→Y b=some o) {ad:Option Addr} {ps:List Pt} (h:PartsIn X ad ps):PartsIn Y ad ps:=⟨fun i p hp=>by
 obtain ⟨blk,off,arr,el,fr,vad,vcap,h1,h2,h3,h4,h5⟩:=h.at_ i p hp
 exact ⟨blk,off,arr,el,fr,vad,vcap,h1,hXY _ _ h2,h3,h4,⟨h5.rows.mono hXY,h5.in2⟩⟩,h.small⟩
theorem prts_nil {X:Nat→Option Obj} {ad:Option Addr}:PartsIn X ad []:=⟨fun i p hp=>by simp at hp,fun p hp=>by cases hp⟩
theorem psV_len {a b:Sc} {p:Pg} {ps:List Pt} (h:psE a b p ps=0):∀ x∈psV a b p ps,x.val.length≤64:=fun x hx=>by
 obtain ⟨c,hc,hf⟩:=(prt_facts (whole_fit h)).2 x hx
 obtain ⟨hl,hn,_⟩:=fit_all hf
 obtain ⟨h8,ho,_⟩:=layErr_facts hl
 have:=sum_le c.fs ho
 omega
theorem psA_len {a b:Sc} {p:Pg} {ps:List Pt}:∀ x∈psA a b p ps,x.val.length≤64:=fun x hx=>by
 unfold psA at hx
 split at hx
 ·rename_i h;exact psV_len h x hx
 ·cases hx
theorem prS_le {ps:List Pt} (h:ps.Pairwise (fun x y=>x.comp≠y.comp)) (rs:List Rl) (cs:List Cp):(prS rs cs ps).length≤rs.length:=by
 have:=(prS_sub (rs:=rs) (cs:=cs) h).length_le
 rwa [cT] at this
theorem psA_small {a b:Sc} {p:Pg} {ps:List Pt} (hp:p.rs.length≤30):(psA a b p ps).length≤30:=by
 unfold psA
 split
 ·rename_i h
  unfold psV
  rw [cT]
  exact Nat.le_trans (prS_le (prt_facts (psE_facts h).2.1).1 _ _) hp
 ·exact Nat.zero_le _
theorem prS_app_len:∀ (rs:List Rl) (cs:List Cp) (ps qs:List Pt),(prS rs cs (ps++qs)).length=(prS rs cs ps).length+(prS rs cs qs).length
 | [],_,_,_=>rfl
 | _::_,[],_,_=>rfl
 | r::rs,c::cs,ps,qs=>by
  simp only [prS,cS,prS_app_len rs cs]
  unfold partsOf
  simp only [List.filter_append,dE,cS]
  omega
theorem count_le {a b:Sc} {p:Pg} {ps:List Pt} (i:Nat):(psV a b p (ps.take i)).length≤(psV a b p ps).length:=by
 have:=prS_app_len p.rs b.cs (ps.take i) (ps.drop i)
 rw [List.take_append_drop] at this
 unfold psV
 rw [cT,cT]
 omega
theorem PartsC.one {X:Nat→Option Obj} {blk off:Nat} {ps:List Pt} (h:PartsC X (some ⟨blk,off,none⟩) ps) {i:Nat} {x:Pt} (hx:ps[i]? = some x):PartsC X (some ⟨blk,off+i*2,none⟩) [x]:=⟨fun j p hp=>by
 match j,hp with
 | 0,hp =>
  simp only [List.getElem?_cons_zero,Option.some.injEq] at hp
  subst hp
  obtain ⟨_,_,arr,el,fr,vad,vcap,h1,h2,h3,h4,h5,h6⟩:=h.at_ i x hx
  cases h1
  refine ⟨blk,off+i*2,arr,el,fr,vad,vcap,O,h2,by omega,?_,h5,h6⟩
  rw [show off+i*2+0*2=off+i*2 by omega]
  exact h4
 | j+1,hp=>simp at hp,fun p hp=>by rw [List.mem_singleton.1 hp];exact h.small x (cZ hx)⟩
theorem prE_zero {ps:List Pt} (hd:ps.Pairwise (fun x y=>x.comp≠y.comp)) (hi:∀ x∈ps,1≤x.comp∧x.comp≤24):Sg.prE (ps.map fun p=>p.comp)=0:=by
 have h1:Sg.okIds (ps.map fun p=>p.comp)=true:=by
  unfold Sg.okIds
  exact List.all_eq_true.2 fun id hid=>by
   obtain ⟨x,hx,rfl⟩:=List.mem_map.1 hid
   exact Sg.okI_iff.2 (hi x hx)
 have hm:(ps.map fun p=>p.comp).Pairwise (fun x y=>x≠y):=by rw [List.pairwise_map];exact hd
 generalize (ps.map fun p=>p.comp)=l at *
 have h2:Sg.twiceTo l l.length=false:=by
  unfold Sg.twiceTo
  rw [List.any_eq_false]
  intro k _
  cases hg:l[k]? with
  | none=>simp
  | some x =>
   have hp:=List.pairwise_iff_getElem.1 hm
   show ¬ (l.take k).any (fun y=>y==x)=true
   rw [Bool.not_eq_true,List.any_eq_false]
   intro y hy he
   obtain ⟨j,hj⟩:=List.mem_iff_getElem?.1 hy
   rw [List.getElem?_take] at hj
   split at hj
   ·obtain ⟨j1,j2⟩:=List.getElem?_eq_some_iff.1 hj
    obtain ⟨k1,k2⟩:=List.getElem?_eq_some_iff.1 hg
    have:=hp j k j1 k1 (by omega)
    rw [j2,k2] at this
    exact this (beq_iff_eq.1 he)
   ·cases hj
 unfold Sg.prE
 rw [if_pos h1,h2,if_neg (by decide)]
theorem prN_eq {ids:List Int} (h:Sg.prE ids=0):Sg.prN ids=Sg.ofN ids:=by unfold Sg.prN;rw [if_pos h]
def foundB (L:List Pt) (m:Pt):Bool:=L.any fun y=>decide (y.comp=m.comp)&&decide (y.val=m.val)
theorem found_snoc {L:List Pt} {m y:Pt} {j:Nat} (h:L[j]? = some y):foundB (L.take (j+1)) m=(foundB (L.take j) m||(decide (y.comp=m.comp)&&decide (y.val=m.val))):=by
 unfold foundB
 rw [take_snoc h,List.any_append]
 simp
theorem found_mem {L:List Pt} {m:Pt} (h:m∈L):foundB L m=true:=List.any_eq_true.2 ⟨m,h,by simp⟩
end Go.Proofs.YtopiioklkkiedaaGreatDoor
end
section
namespace Go.Proofs.YtopiioklkkiedaaGreatDoor
open Go Go.Lg Go.Lg.Fml Go.Lg.Fld Go.Lg.Arith
set_option maxRecDepth 100000
theorem ofN_small {ps:List Pt} (h:∀ x∈ps,1≤x.comp∧x.comp≤24):Sg.ofN (ps.map fun p=>p.comp)<4294967296:=by
 refine Nat.lt_of_lt_of_le (Nat.lt_pow_two_of_testBit (n:=25) _ fun j hj => ?_) (by decide)
 rw [Sg.ofN_bit,List.any_eq_false]
 intro id hid he
 obtain ⟨x,hx,rfl⟩:=List.mem_map.1 hid
 have:=h x hx
 have:=beq_iff_eq.1 he
 omega
variable (X:Nat→Option Obj)
set_option maxHeartbeats 25600000 in
theorem evalWhole_law (a b:Sc) (p:Pg) (ps:List Pt) (ad1 ad2 ad pad:Option Addr) (cap1 cap2 cap pcap:Nat) (ha:CompsIn X ad1 a.cs) (hb:CompsIn X ad2 b.cs) (hp:RulesIn X ad p.rs) (hP:PartsC X pad ps) (hpc:ps.length≤pcap) (na:NamesIn a.cs) (nb:NamesIn b.cs) (sa:scBig a.cs) (sb:scBig b.cs)
  (hrl:p.rs.length<4611686018427387904) (hsz:sizeB p.rs) (hpl:ps.length<4611686018427387904) (hvl:∀ x∈ps,x.val.length<4611686018427387904):
  PSpec Tryz.prog X 6 [Sx a.ver ad1 a.cs.length cap1,Sx b.ver ad2 b.cs.length cap2,LPg p.va p.vb ad p.rs.length cap,Lx pad ps.length pcap] (Lb true):=by
 have hW:=awake14_spec X
 have hG:=fun z hz=>great14_spec X a.ver b.ver p.va p.vb ad1 ad2 ad cap1 cap2 cap a.cs b.cs p.rs ha hb hp hsz (by have:=sa.1;omega) (by have:=sb.1;omega) hrl (fun c hc=>by have:=sa.2 c hc;omega) (fun c hc=>by have:=sb.2 c hc;omega) z hz
 refine cC Tryz.func6 rfl (by kernel_rfl) rfl rfl ?_
 intro C
 cases hg:grt13 a.cs b.cs p.rs with
 | true =>
  replace hG:=hG true hg
  (refine aA<|rgN<|aL O O O dO<|aL O O O dO<|aL O O O dO<|kas O<|aB<|aA<|aA<|rgN<|kca O O (hW)<|aV O O dO<|aB<|aF O ?_;refine aH ?_;refine aA<|aA<|rgN<|aK O O O dO ?_;refine aK O O O dO ?_;refine aK O O O dO ?_;refine kca O O hG<|kmv O<|aC O O O<|aC O O O<|aC O O O<|kpt O O<|aB<|aE O ?_;refine aA<|rgN<|kas O<|aB<|aI ?_)
  exact ⟨[_],⟨O,trivial⟩,O⟩
 | false =>
 replace hG:=hG false hg
 by_cases h12:12<ps.length
 ·(refine aA<|rgN<|aL O O O dO<|aL O O O dO<|aL O O O dO<|kas O<|aB<|aA<|aA<|rgN<|kca O O (hW)<|aV O O dO<|aB<|aF O ?_;refine aH ?_;refine aA<|aA<|rgN<|aK O O O dO ?_;refine aK O O O dO ?_;refine aK O O O dO ?_;refine kca O O hG<|kmv O<|gmv O O O<|aQ O bZ O (dP O O) ?_;refine aS O O (cL (by omega)) (dP O O) ?_;refine kpf O O<|aB<|aE O ?_;refine aA<|rgN<|kas O<|aB<|aI ?_)
  exact ⟨[_],⟨O,trivial⟩,O⟩
 obtain ⟨sa2,sb2,sp⟩:=grt13_false hg
 (refine aA<|rgN<|aL O O O dO<|aL O O O dO<|aL O O O dO<|kas O<|aB<|aA<|aA<|rgN<|kca O O (hW)<|aV O O dO<|aB<|aF O ?_;refine aH ?_;refine aA<|aA<|rgN<|aK O O O dO ?_;refine aK O O O dO ?_;refine aK O O O dO ?_;refine kca O O hG<|kmv O<|gmv O O O<|aQ O bZ O (dP O O) ?_;refine aS O O (cK (by omega)) (dP O O) ?_;refine kpf O O<|aB<|aF O ?_;refine aH ?_;refine aA ?_)
 clear hG hW
 repeat refine aA ?_
 refine LWP.meetL (fun σ=>∃ (Z:Nat→Option Obj) (lad:Option Addr) (lc:Nat),(∀ b o,X b=some o→Z b=some o)∧PartsIn Z lad (psA a b p ps)∧σ=⟨[(9,Lx lad (psA a b p ps).length lc),(3,Lx pad ps.length pcap),(4,Lp 4),(5,Lp 5),(6,Lp 6),(10,Ln .i64 (psE a b p ps))],[v3B 36 6 p.va p.vb ad p.rs.length cap,sxB 5 b.ver ad2 b.cs.length cap2,sxB 4 a.ver ad1 a.cs.length cap1],Z⟩) ?_ ?_
 ·cases hsh:pShape (psE a b p ps) (psA a b p ps) with
  | false =>
   have hV:=eParts_nil X a b p ps ad1 ad2 ad pad cap1 cap2 cap pcap ha hb hp hP hpc na nb sa2 sb2 sp ⟨by omega,hvl⟩ hsh
   have hz:=pShape_nil hsh
   rw [hz]
   generalize psE a b p ps=e at *
   (refine rgN<|aK O O O dO ?_;refine aK O O O dO ?_;refine aK O O O dO ?_;refine kmv O<|aU [] [] (hV) O O (by exact trivial) O O O O O (by exact .nil) dO<|kmv O<|kex O O<|kex O O<|kas O<|kas O<|aB ?_)
   exact Leads.here (σ':=⟨[(9,Lx none 0 0),(3,Lx pad ps.length pcap),(4,Lp 4),(5,Lp 5),(6,Lp 6),(10,Ln .i64 (e))],[v3B 36 6 p.va p.vb ad p.rs.length cap,sxB 5 b.ver ad2 b.cs.length cap2,sxB 4 a.ver ad1 a.cs.length cap1],X⟩) (Le.of (by exact ⟨O,O,O,O,O,O,trivial⟩) (by exact ⟨O,O,O,trivial⟩) (by exact O) (by exact O) (by repeat' (first|refine bS ?_ ?_|rfl|exact bU|exact bT|exact bV O))) ⟨X,none,0,fun _ _ h=>h,prts_nil,O⟩
  | true =>
   have hV:=eParts_box X a b p ps ad1 ad2 ad pad cap1 cap2 cap pcap ha hb hp hP hpc na nb sa2 sb2 sp ⟨by omega,hvl⟩ hsh
   generalize (psA a b p ps)=L at *
   generalize psE a b p ps=e at *
   (refine rgN<|aK O O O dO ?_;refine aK O O O dO ?_;refine aK O O O dO ?_;refine kmv O<|bE [(1000001,501)] (.tup [.one (.slc 501 0 L.length 2),Sn .i64 e]) [prtB 501 L] (hV) O O (by exact trivial) O O O O O (by exact (.box O O .nil)) dO<|kmv O<|kex O O<|kex O O<|kas O<|kas O<|aB ?_)
   refine cB (σ':=⟨[(9,.sv (.one (.slc 501 0 L.length 2))),(3,Lx pad ps.length pcap),(4,Lp 4),(5,Lp 5),(6,Lp 6),(10,Ln .i64 (e))],[prtB 501 L,v3B 36 6 p.va p.vb ad p.rs.length cap,sxB 5 b.ver ad2 b.cs.length cap2,sxB 4 a.ver ad1 a.cs.length cap1],X⟩) (Le.of (by exact ⟨O,O,O,O,O,O,trivial⟩) (by exact ⟨O,O,O,O,trivial⟩) (by exact O) (by exact O) (by repeat' (first|refine bS ?_ ?_|rfl|exact bU|exact bT|exact bV O))) ?_
   refine Leads.fixRes O O O fun ρ H lc hR hO _ _ => ?_
   exact cA ⟨joinM X H,some ⟨ρ.1,0,none⟩,lc,fun _ _ h=>joinM_has hO h,prts_mono (fun b o h=>joinM_in h) hR.2,O⟩
 rintro σ ⟨Z,lad,lc,hZ,hL,rfl⟩
 by_cases h0:psE a b p ps=0
 case neg =>
  rw [show (psA a b p ps)=[] from if_neg h0]
  generalize psE a b p ps=e at *
  (refine aA<|aA<|rgN<|kmv O<|kne O O (r:=true) (cP h0)<|aB<|aE O ?_;refine aA<|rgN<|kmv O<|aQ O bZ O dO ?_;refine keq O O (r:=true) O<|kas O<|aB<|aI ?_)
  exact ⟨[_],⟨O,trivial⟩,O⟩
 have l64:=psA_len (a:=a) (b:=b) (p:=p) (ps:=ps)
 have l30:=psA_small (a:=a) (b:=b) (ps:=ps) sp.1
 have hva:(psA a b p ps)=psV a b p ps:=if_pos h0
 rw [hva] at hL l64 l30 ⊢
 rw [h0]
 have win:=whole_in h0
 have wout:=whole_out h0
 have word:=whole_order h0
 have wfit:=whole_fit h0
 have wsig:=whole_sig h0
 have wone:=fun (x:Pt) (hx:x∈ps)=>whole_one h0 hx
 have wsub:=fun (x:Pt) (hx:x∈ps)=>one_sub (a:=a) (b:=b) (p:=p) hx
 have wcnt:=fun (i:Nat) (x:Pt) (hx:ps[i]? = some x)=>whole_count (a:=a) (b:=b) (p:=p) hx
 have wle:=fun (i:Nat)=>count_le (a:=a) (b:=b) (p:=p) (ps:=ps) i
 have wall:(psV a b p (ps.take ps.length)).length=(psV a b p ps).length:=by rw [dC]
 have e1:=prE_zero (prt_facts (psE_facts h0).2.1).1 win
 have e2:=prE_zero (word.imp fun e=>by omega) wout
 replace ha:=ha.mono hZ
 replace hb:=hb.mono hZ
 replace hp:=hp.mono hZ
 replace hP:=hP.mono hZ
 have hs1:=gParts Z ps pad pcap hP.parts (by omega)
 have hs2:=gParts Z (psV a b p ps) lad lc hL (by omega)
 rw [prN_eq e1,e1] at hs1
 rw [prN_eq e2,e2] at hs2
 have n1:Sg.ofN (ps.map fun p=>p.comp)<4294967296:=ofN_small win
 have hsg:=eSig Z p.va p.vb p.rs ad cap _ hp hrl n1
 rw [wsig] at hsg
 have hck:=pPartsBig Z b.ver ad2 lad cap2 lc b.cs (psV a b p ps) hb (by have:=sb.1;omega) (fun c hc=>by have:=sb.2 c hc;omega) hL (by omega) _ wfit
 generalize hLe:psV a b p ps=L at *
 generalize Sg.ofN (ps.map fun p=>p.comp)=g1 at *
 generalize Sg.ofN (L.map fun p=>p.comp)=g2 at *
 (refine aA<|aA<|rgN<|kmv O<|kne O O (r:=false) O<|aB<|aF O ?_;refine aH ?_;refine aA<|rgN<|kmv O<|kca O O hs1<|kmv O<|kex O O<|kex O O<|kas O<|kas O<|aB<|aA<|rgN<|kmv O<|kca O O hs2 ?_;refine kmv O<|kex O O<|kex O O<|kas O<|kas O<|aB<|aA<|aA<|rgN<|kmv O<|kne O O (r:=false) O<|kmv O<|gmv O O O<|aX O O (r:=false) O (dP O O) ?_;refine kpf O O<|kmv O<|aK O O O (dP O O) ?_;refine gmv O O O<|gca O O hsg O O<|gmv O O O<|aX O O (cO O) (dP O O) ?_;refine kpf O O<|kmv O<|aK O O O (dP O O) ?_;refine gmv O O O<|gca O O hck O O<|aX O O (r:=false) O (dP O O) ?_;refine kpf O O<|aB<|aF O ?_;refine aH ?_;refine aA<|rgN<|kas O<|aB<|aA<|aA<|rgN<|kas O<|aB<|aG ?_)
 clear hs1 hs2 hsg hck wfit wsig wout e1 e2
 refine cG (fun m σ=>∃ i:Nat,i≤L.length∧m=L.length-i∧σ=⟨[(9,Lx lad L.length lc),(3,Lx pad ps.length pcap),(4,Lp 4),(5,Lp 5),(6,Lp 6),(15,Ln .i64 ((0:Nat):Int)),(16,Ln .i64 (i:Nat))],[v3B 36 6 p.va p.vb ad p.rs.length cap,sxB 5 b.ver ad2 b.cs.length cap2,sxB 4 a.ver ad1 a.cs.length cap1],Z⟩) L.length
  ⟨_,Le.of (by exact ⟨rfl,rfl,rfl,rfl,rfl,rfl,rfl,trivial⟩) (by exact ⟨rfl,rfl,rfl,trivial⟩) (by exact rfl) (by exact rfl) (by repeat' (first|refine bS ?_ ?_|rfl|exact bU|exact bT|exact bV rfl)),0,by omega,by omega,rfl⟩ ?_
 rintro m σ ⟨i,hi,rfl,rfl⟩
 by_cases hlt:i<L.length
 case pos =>
  obtain ⟨x,hx⟩:∃ x,L[i]? = some x:=⟨_,cU hlt⟩
  have hadd:IntKind.i64.wrap ((i:Int)+1)=((i+1:Nat):Int):=by rw [cE (by omega)];omega
  by_cases hi0:i=0
  ·subst hi0
   (refine aA<|aA<|rgN<|kmv O<|kmv O<|aQ O bZ O dO ?_;refine klt O O (cL (by omega))<|aB<|aE O ?_;refine aH ?_;refine aA<|aG<|aA<|rgD mixed<|kmv O<|aS O O (r:=false) O dO<|kmv O<|aC O O O<|aC O O O<|aC O O O<|aC O O O<|aC O O O<|aC O O O<|aC O O O ?_;refine aC O O O<|aC O O O<|aC O O O<|aC O O O<|aC O O O<|kpf O O<|aB<|rgA ?_;refine aF O ?_;refine aH ?_;refine rgN<|kmv O<|kad O O hadd<|kas O<|aB ?_)
   exact ⟨_,_,by omega,Le.of (by exact ⟨O,O,O,O,O,O,O,trivial⟩) (by exact ⟨O,O,O,trivial⟩) (by exact O) (by exact O) (by repeat' (first|refine bS ?_ ?_|rfl|exact bU|exact bT|exact bV O)),0+1,by omega,O,O⟩
  obtain ⟨y,hy⟩:∃ y,L[i-1]? = some y:=⟨_,cU (by omega)⟩
  have hlt2:y.comp<x.comp:=by
   obtain ⟨i1,i2⟩:=List.getElem?_eq_some_iff.1 hy
   obtain ⟨j1,j2⟩:=List.getElem?_eq_some_iff.1 hx
   have:=List.pairwise_iff_getElem.1 word (i-1) i i1 j1 (by omega)
   rwa [i2,j2] at this
  obtain ⟨bk1,of1,ar1,el1,fr1,vd1,vc1,hla,hX1,hz1,_,g11,_⟩:=hL.get hx
  obtain ⟨bk2,of2,ar2,el2,fr2,vd2,vc2,hla2,hX2,hz2,_,g21,_⟩:=hL.get hy
  subst hla
  simp only [Option.some.injEq,Addr.mk.injEq,and_true] at hla2
  obtain ⟨rfl,rfl⟩:=hla2
  rw [hX1] at hX2
  cases hX2
  have hio1:of1+Int.toNat (i:Int)*2=of1+i*2:=by simp
  have hio2:of1+Int.toNat ((i-1:Nat):Int)*2=of1+(i-1)*2:=by simp
  have hsub:IntKind.i64.wrap ((i:Int)-1)=((i-1:Nat):Int):=by rw [cE (by omega)];omega
  (refine aA<|aA<|rgN<|kmv O<|kmv O<|aQ O bZ O dO ?_;refine klt O O (cL (by omega))<|aB<|aE O ?_;refine aH ?_;refine aA<|aG<|aA<|rgD mixed<|kmv O<|aS O O (cL (by omega)) dO<|kmv O<|gmv O O O<|gmv O O O<|bA O O hsub (dP O O) ?_;refine aR O O bZ (by omega) hio2 (dP O O) ?_;refine bH O O (dP O O) ?_;refine aW O hX1 O g21 (dP O O) ?_;refine gmv O O O<|gmv O O O<|aR O O bZ (by omega) hio1 (dP O O) ?_;refine bH O O (dP O O) ?_;refine aW O hX1 O g11 (dP O O) ?_;refine bD O O (cK (by omega)) (dP O O) ?_;refine kpt O O<|aB<|rgA ?_;refine aF O ?_;refine aH ?_;refine rgN<|kmv O<|kad O O hadd<|kas O<|aB ?_)
  exact ⟨_,_,by omega,Le.of (by exact ⟨O,O,O,O,O,O,O,trivial⟩) (by exact ⟨O,O,O,trivial⟩) (by exact O) (by exact O) (by repeat' (first|refine bS ?_ ?_|rfl|exact bU|exact bT|exact bV O)),i+1,by omega,O,O⟩
 (refine aA<|aA<|rgN<|kmv O<|kmv O<|aQ O bZ O dO ?_;refine klt O O (cK (by omega))<|aB<|aF O ?_;refine aJ<|aA<|aA<|rgN<|kas O<|aB<|aG ?_)
 clear hlt hi word
 have hz0:(psV a b p (ps.take 0)).length=0:=by
  have:=prS_app_len p.rs b.cs [] []
  rw [dG] at this
  show ((prS p.rs b.cs []).map (prV a)).length=0
  rw [cT];omega
 refine cG (fun m σ=>∃ (i:Nat) (Y:Nat→Option Obj),i≤ps.length∧m=ps.length-i∧(∀ b o,Z b=some o→Y b=some o)∧σ=⟨[(9,Lx lad L.length lc),(3,Lx pad ps.length pcap),(4,Lp 4),(5,Lp 5),(6,Lp 6),(15,Ln .i64 ((psV a b p (ps.take i)).length:Nat)),(17,Ln .i64 (i:Nat))],[v3B 36 6 p.va p.vb ad p.rs.length cap,sxB 5 b.ver ad2 b.cs.length cap2,sxB 4 a.ver ad1 a.cs.length cap1],Y⟩) ps.length
  ⟨⟨[(9,Lx lad L.length lc),(3,Lx pad ps.length pcap),(4,Lp 4),(5,Lp 5),(6,Lp 6),(15,Ln .i64 (0:Nat)),(17,Ln .i64 (0:Nat))],[v3B 36 6 p.va p.vb ad p.rs.length cap,sxB 5 b.ver ad2 b.cs.length cap2,sxB 4 a.ver ad1 a.cs.length cap1],Z⟩,Le.of (by exact ⟨rfl,rfl,rfl,rfl,rfl,rfl,rfl,trivial⟩) (by exact ⟨rfl,rfl,rfl,trivial⟩) (by exact rfl) (by exact rfl) (by repeat' (first|refine bS ?_ ?_|rfl|exact bU|exact bT|exact bV rfl)),0,Z,by omega,by omega,(fun _ _ h=>h),by rw [hz0]⟩ ?_
 rintro m σ ⟨i,Y,hi,rfl,hY,rfl⟩
 by_cases hlt:i<ps.length
 case neg =>
  have e:i=ps.length:=by omega
  subst e
  rw [wall]
  (refine aA<|aA<|rgN<|kmv O<|kmv O<|aQ O bZ O dO ?_;refine klt O O (cK (by omega))<|aB<|aF O ?_;refine aJ<|aA<|rgN<|kmv O<|kmv O<|aQ O bZ O dO ?_;refine keq O O (r:=true) (cR O)<|kas O<|aB<|aI ?_)
  exact ⟨[_],⟨O,trivial⟩,O⟩
 obtain ⟨x,hx⟩:∃ x,ps[i]? = some x:=⟨_,cU hlt⟩
 have hxm:=cZ hx
 have hz1:=wone x hxm
 have hcn:=wcnt i x hx
 have hw1:=wle (i+1)
 have hsubx:=wsub x hxm
 have hadd:IntKind.i64.wrap ((i:Int)+1)=((i+1:Nat):Int):=by rw [cE (by omega)];omega
 obtain ⟨pb,po,parr,pel,pfr,_,_,rfl,_⟩:=hP.get hx
 have hVn:=fun h=>eParts_nil Y a b p [x] ad1 ad2 ad (some ⟨pb,po+i*2,none⟩) cap1 cap2 cap (pcap-i) (ha.mono hY) (hb.mono hY) (hp.mono hY) ((PartsC.one hP hx).mono hY) (by show 1≤pcap-i;omega) na nb sa2 sb2 sp ⟨by show 1≤12;decide,fun y hy=>by rw [List.mem_singleton.1 hy];exact hvl x (cZ hx)⟩ h
 have hVb:=fun h=>eParts_box Y a b p [x] ad1 ad2 ad (some ⟨pb,po+i*2,none⟩) cap1 cap2 cap (pcap-i) (ha.mono hY) (hb.mono hY) (hp.mono hY) ((PartsC.one hP hx).mono hY) (by show 1≤pcap-i;omega) na nb sa2 sb2 sp ⟨by show 1≤12;decide,fun y hy=>by rw [List.mem_singleton.1 hy];exact hvl x (cZ hx)⟩ h
 have hzn:=fun (h:pShape (psE a b p [x]) (psA a b p [x])=false)=>pShape_nil h
 rw [show psA a b p [x]=psV a b p [x] from if_pos hz1,hz1] at hVn hVb hzn
 generalize hM:psV a b p [x]=M at *
 (refine aA<|aA<|rgN<|kmv O<|kmv O<|aQ O bZ O dO ?_;refine klt O O (cL (by omega))<|aB<|aE O ?_;refine aH ?_;refine aA<|aG<|aA ?_)
 repeat refine aA ?_
 refine LWP.meetL (fun σ=>∃ (W:Nat→Option Obj) (mad:Option Addr) (mc:Nat),(∀ b o,Y b=some o→W b=some o)∧PartsIn W mad M∧σ=⟨[(18,Lx mad M.length mc),(9,Lx lad L.length lc),(3,Lx (some ⟨pb,po,none⟩) ps.length pcap),(4,Lp 4),(5,Lp 5),(6,Lp 6),(15,Ln .i64 ((psV a b p (ps.take i)).length:Nat)),(17,Ln .i64 (i:Nat)),(19,Ln .i64 0)],[v3B 36 6 p.va p.vb ad p.rs.length cap,sxB 5 b.ver ad2 b.cs.length cap2,sxB 4 a.ver ad1 a.cs.length cap1],W⟩) ?_ ?_
 ·cases hsh:pShape 0 M with
  | false =>
   have hV:=hVn hsh
   rw [hzn hsh]
   (refine rgD mixed<|aK O O O dO ?_;refine aK O O O dO ?_;refine aK O O O dO ?_;refine kmv O<|kmv O<|kmv O<|kad O O hadd<|K.cut2X (sz:=2) O O O bZ (by omega) (by omega) (.inl (by omega)) hpc O (Nat.add_sub_cancel_left ..) O dO ?_;refine aU [] [] (hV) O O (by exact trivial) O O O O O (by exact .nil) dO<|kmv O<|kex O O<|kex O O<|kas O<|kas O<|aB<|rgA ?_)
   exact Leads.here (σ':=⟨[(18,Lx none 0 0),(9,Lx lad L.length lc),(3,Lx (some ⟨pb,po,none⟩) ps.length pcap),(4,Lp 4),(5,Lp 5),(6,Lp 6),(15,Ln .i64 ((psV a b p (ps.take i)).length:Nat)),(17,Ln .i64 (i:Nat)),(19,Ln .i64 0)],[v3B 36 6 p.va p.vb ad p.rs.length cap,sxB 5 b.ver ad2 b.cs.length cap2,sxB 4 a.ver ad1 a.cs.length cap1],Y⟩) (Le.of (by exact ⟨O,O,O,O,O,O,O,O,O,trivial⟩) (by exact ⟨O,O,O,trivial⟩) (by exact O) (by exact O) (by repeat' (first|refine bS ?_ ?_|rfl|exact bU|exact bT|exact bV O))) ⟨Y,none,0,fun _ _ h=>h,prts_nil,O⟩
  | true =>
   have hV:=hVb hsh
   (refine rgD mixed<|aK O O O dO ?_;refine aK O O O dO ?_;refine aK O O O dO ?_;refine kmv O<|kmv O<|kmv O<|kad O O hadd<|K.cut2X (sz:=2) O O O bZ (by omega) (by omega) (.inl (by omega)) hpc O (Nat.add_sub_cancel_left ..) O dO ?_;refine bE [(1000001,501)] (.tup [.one (.slc 501 0 M.length 2),Sn .i64 0]) [prtB 501 M] (hV) O O (by exact trivial) O O O O O (by exact (.box O O .nil)) dO<|kmv O<|kex O O<|kex O O<|kas O<|kas O<|aB<|rgA ?_)
   refine cB (σ':=⟨[(18,.sv (.one (.slc 501 0 M.length 2))),(9,Lx lad L.length lc),(3,Lx (some ⟨pb,po,none⟩) ps.length pcap),(4,Lp 4),(5,Lp 5),(6,Lp 6),(15,Ln .i64 ((psV a b p (ps.take i)).length:Nat)),(17,Ln .i64 (i:Nat)),(19,Ln .i64 0)],[prtB 501 M,v3B 36 6 p.va p.vb ad p.rs.length cap,sxB 5 b.ver ad2 b.cs.length cap2,sxB 4 a.ver ad1 a.cs.length cap1],Y⟩) (Le.of (by exact ⟨O,O,O,O,O,O,O,O,O,trivial⟩) (by exact ⟨O,O,O,O,trivial⟩) (by exact O) (by exact O) (by repeat' (first|refine bS ?_ ?_|rfl|exact bU|exact bT|exact bV O))) ?_
   refine Leads.fixRes O O O fun ρ H mc hR hO _ _ => ?_
   exact cA ⟨joinM Y H,some ⟨ρ.1,0,none⟩,mc,fun _ _ h=>joinM_has hO h,prts_mono (fun b o h=>joinM_in h) hR.2,O⟩
 rintro σ ⟨W,mad,mc,hW,hMW,rfl⟩
 have hLW:=prts_mono hW (prts_mono hY hL)
 have hcnt:IntKind.i64.wrap ((((psV a b p (ps.take i)).length:Nat):Int)+((M.length:Nat):Int))=(((psV a b p (ps.take (i+1))).length:Nat):Int):=by rw [cE (by omega)];omega
 clear hVn hVb hzn
 (refine aA<|aA<|rgN<|kmv O<|kne O O (r:=false) O<|aB<|aF O ?_;refine aH ?_;refine aA<|rgN<|kmv O<|kmv O<|aQ O bZ O dO ?_;refine kad O O hcnt<|kas O<|aB<|aA<|rgN<|kas O<|aB<|aG ?_)
 refine cG (fun m σ=>∃ k:Nat,k≤M.length∧m=M.length-k∧σ=⟨[(18,Lx mad M.length mc),(9,Lx lad L.length lc),(3,Lx (some ⟨pb,po,none⟩) ps.length pcap),(4,Lp 4),(5,Lp 5),(6,Lp 6),(15,Ln .i64 ((psV a b p (ps.take (i+1))).length:Nat)),(17,Ln .i64 (i:Nat)),(20,Ln .i64 (k:Nat))],[v3B 36 6 p.va p.vb ad p.rs.length cap,sxB 5 b.ver ad2 b.cs.length cap2,sxB 4 a.ver ad1 a.cs.length cap1],W⟩) M.length
  ⟨_,Le.of (by exact ⟨rfl,rfl,rfl,rfl,rfl,rfl,rfl,rfl,rfl,trivial⟩) (by exact ⟨rfl,rfl,rfl,trivial⟩) (by exact rfl) (by exact rfl) (by repeat' (first|refine bS ?_ ?_|rfl|exact bU|exact bT|exact bV rfl)),0,by omega,by omega,rfl⟩ ?_
 rintro m σ ⟨k,hk,rfl,rfl⟩
 by_cases hkl:k<M.length
 case neg =>
  (refine aA<|aA<|rgN<|kmv O<|kmv O<|aQ O bZ O dO ?_;refine klt O O (cK (by omega))<|aB<|aF O ?_;refine aJ<|rgN<|kmv O<|kad O O hadd<|kas O<|aB ?_)
  exact ⟨_,_,by omega,Le.of (by exact ⟨O,O,O,O,O,O,O,trivial⟩) (by exact ⟨O,O,O,trivial⟩) (by exact O) (by exact O) (by repeat' (first|refine bS ?_ ?_|rfl|exact bU|exact bT|exact bV O)),i+1,W,by omega,O,fun b o h=>hW b o (hY b o h),O⟩
 obtain ⟨q,hq⟩:∃ q,M[k]? = some q:=⟨_,cU hkl⟩
 have hqL:=found_mem (hsubx q (cZ hq))
 have hadk:IntKind.i64.wrap ((k:Int)+1)=((k+1:Nat):Int):=by rw [cE (by omega)];omega
 obtain ⟨bk2,of2,ar2,el2,fr2,vd2,vc2,rfl,hX2,hz2,_,g21,g22,hN2⟩:=hMW.get hq
 have hio2:of2+Int.toNat (k:Int)*2=of2+k*2:=by simp
 (refine aA<|aA<|rgN<|kmv O<|kmv O<|aQ O bZ O dO ?_;refine klt O O (cL (by omega))<|aB<|aE O ?_;refine aH ?_;refine aA<|aG<|aA<|rgN<|kas O<|aB<|aA<|aA<|rgN<|kas O<|aB<|aG ?_)
 refine cG (fun m σ=>∃ (j:Nat) (f:Bool),j≤L.length∧m=L.length-j∧foundB (L.take j) q=f∧σ=⟨[(18,Lx (some ⟨bk2,of2,none⟩) M.length mc),(9,Lx lad L.length lc),(3,Lx (some ⟨pb,po,none⟩) ps.length pcap),(4,Lp 4),(5,Lp 5),(6,Lp 6),(15,Ln .i64 ((psV a b p (ps.take (i+1))).length:Nat)),(17,Ln .i64 (i:Nat)),(20,Ln .i64 (k:Nat)),(21,Lb f),(22,Ln .i64 (j:Nat))],[v3B 36 6 p.va p.vb ad p.rs.length cap,sxB 5 b.ver ad2 b.cs.length cap2,sxB 4 a.ver ad1 a.cs.length cap1],W⟩) L.length
  ⟨_,Le.of (by exact ⟨rfl,rfl,rfl,rfl,rfl,rfl,rfl,rfl,rfl,rfl,rfl,trivial⟩) (by exact ⟨rfl,rfl,rfl,trivial⟩) (by exact rfl) (by exact rfl) (by repeat' (first|refine bS ?_ ?_|rfl|exact bU|exact bT|exact bV rfl)),0,false,by omega,by omega,rfl,rfl⟩ ?_
 rintro m σ ⟨j,f,hj,rfl,hf,rfl⟩
 by_cases hjl:j<L.length
 case neg =>
  have e:j=L.length:=by omega
  subst e
  rw [dC,hqL] at hf
  subst hf
  (refine aA<|aA<|rgN<|kmv O<|kmv O<|aQ O bZ O dO ?_;refine klt O O (cK (by omega))<|aB<|aF O ?_;refine aJ<|aA<|rgN<|kmv O<|aV O O dO<|aB<|aF O ?_;refine aH ?_;refine rgN<|kmv O<|kad O O hadk<|kas O<|aB ?_)
  exact ⟨_,_,by omega,Le.of (by exact ⟨O,O,O,O,O,O,O,O,O,trivial⟩) (by exact ⟨O,O,O,trivial⟩) (by exact O) (by exact O) (by repeat' (first|refine bS ?_ ?_|rfl|exact bU|exact bT|exact bV O)),k+1,by omega,O,O⟩
 obtain ⟨y,hy⟩:∃ y,L[j]? = some y:=⟨_,cU hjl⟩
 have hsn:=found_snoc (m:=q) hy
 have hadj:IntKind.i64.wrap ((j:Int)+1)=((j+1:Nat):Int):=by rw [cE (by omega)];omega
 cases f with
 | true =>
  (refine aA<|aA<|rgN<|kmv O<|kmv O<|aQ O bZ O dO ?_;refine klt O O (cL (by omega))<|aB<|aE O ?_;refine aH ?_;refine aA<|aG<|rgD mixed<|kmv O<|kmv O<|aC O O O<|aC O O O<|aC O O O<|aC O O O<|aC O O O<|aC O O O<|aC O O O<|aC O O O<|aC O O O ?_;refine aC O O O<|aC O O O<|aC O O O<|aD O O<|aD O O<|aD O O<|aD O O<|aD O O<|aD O O<|aD O O<|aD O O<|aD O O<|aD O O<|aD O O ?_;refine aC O O O<|kpt O O<|kas O<|aB<|rgA ?_;refine rgN<|kmv O<|kad O O hadj<|kas O<|aB ?_)
  exact ⟨_,_,by omega,Le.of (by exact ⟨rfl,rfl,rfl,rfl,rfl,rfl,rfl,rfl,rfl,rfl,rfl,trivial⟩) (by exact ⟨rfl,rfl,rfl,trivial⟩) (by exact rfl) (by exact rfl) (by repeat' (first|refine bS ?_ ?_|rfl|exact bU|exact bT|exact bV rfl)),j+1,true,by omega,rfl,by rw [hsn,hf];rfl,rfl⟩
 | false =>
 have hyl:=l64 y (cZ hy)
 obtain ⟨bk1,of1,ar1,el1,fr1,vd1,vc1,rfl,hX1,hz1',_,g11,g12,hN1⟩:=hLW.get hy
 have hio1:of1+Int.toNat (j:Int)*2=of1+j*2:=by simp
 by_cases hc:y.comp=q.comp
 case neg =>
  (refine aA<|aA<|rgN<|kmv O<|kmv O<|aQ O bZ O dO ?_;refine klt O O (cL (by omega))<|aB<|aE O ?_;refine aH ?_;refine aA<|aG<|rgD mixed<|kmv O<|kmv O<|gmv O O O<|gmv O O O<|aR O O bZ (by omega) hio1 (dP O O) ?_;refine bH O O (dP O O) ?_;refine aW O hX1 O g11 (dP O O) ?_;refine gmv O O O<|gmv O O O<|aR O O bZ (by omega) hio2 (dP O O) ?_;refine bH O O (dP O O) ?_;refine aW O hX2 O g21 (dP O O) ?_;refine bC O O (r:=false) (cN hc) (dP O O) ?_;refine gmv O O O<|aC O O O<|aC O O O<|aC O O O<|aC O O O<|aC O O O<|aC O O O<|aC O O O<|aC O O O<|aC O O O<|aC O O O<|aC O O O<|bO O O (dP O O) ?_;refine kpf O O<|kas O<|aB<|rgA ?_;refine rgN<|kmv O<|kad O O hadj<|kas O<|aB ?_)
  exact ⟨_,_,by omega,Le.of (by exact ⟨rfl,rfl,rfl,rfl,rfl,rfl,rfl,rfl,rfl,rfl,rfl,trivial⟩) (by exact ⟨rfl,rfl,rfl,trivial⟩) (by exact rfl) (by exact rfl) (by repeat' (first|refine bS ?_ ?_|rfl|exact bU|exact bT|exact bV rfl)),j+1,false,by omega,rfl,by rw [hsn,hf,cK hc];rfl,rfl⟩
 have hS:=values14 W y.val q.val vd1 vd2 vc1 vc2 hN1 hN2 (by omega) _ rfl
 rw [hf,cL hc,Bool.false_or,Bool.true_and] at hsn
 generalize decide (y.val=q.val)=rr at *
 (refine aA<|aA<|rgN<|kmv O<|kmv O<|aQ O bZ O dO ?_;refine klt O O (cL (by omega))<|aB<|aE O ?_;refine aH ?_;refine aA<|aG<|rgD mixed<|kmv O<|kmv O<|gmv O O O<|gmv O O O<|aR O O bZ (by omega) hio1 (dP O O) ?_;refine bH O O (dP O O) ?_;refine aW O hX1 O g11 (dP O O) ?_;refine gmv O O O<|gmv O O O<|aR O O bZ (by omega) hio2 (dP O O) ?_;refine bH O O (dP O O) ?_;refine aW O hX2 O g21 (dP O O) ?_;refine bC O O (r:=true) (cR hc) (dP O O) ?_;refine gmv O O O<|gmv O O O<|gmv O O O<|aR O O bZ (by omega) hio1 (dP O O) ?_;refine bH O O (dP O O) ?_;refine aW O hX1 O g12 (dP O O) ?_;refine gmv O O O<|gmv O O O<|aR O O bZ (by omega) hio2 (dP O O) ?_;refine bH O O (dP O O) ?_;refine aW O hX2 O g22 (dP O O) ?_;refine gca O O hS O O<|bF O O (dP O O) ?_;refine kpf O O<|kas O<|aB<|rgA ?_;refine rgN<|kmv O<|kad O O hadj<|kas O<|aB ?_)
 exact ⟨_,_,by omega,Le.of (by exact ⟨O,O,O,O,O,O,O,O,O,O,O,trivial⟩) (by exact ⟨O,O,O,trivial⟩) (by exact O) (by exact O) (by repeat' (first|refine bS ?_ ?_|rfl|exact bU|exact bT|exact bV O)),j+1,rr,by omega,O,hsn,O⟩
end Go.Proofs.YtopiioklkkiedaaGreatDoor
end
