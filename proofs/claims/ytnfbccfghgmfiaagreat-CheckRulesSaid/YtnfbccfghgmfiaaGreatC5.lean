/- A piece of a proof over this program: contracts of its functions, and a logic to prove them by. -/
import Derived.Test.YtnfbccfghgmfiaaGreatC2
import Derived.Test.YtnfbccfghgmfiaaGreatC3
import Derived.Test.YtnfbccfghgmfiaaGreatC4
import Derived.Lib.ItoaNum
import Derived.Lib.Walk
import Derived.Lib.ItoaMem
import Derived.Lib.AppendIntMem
import Derived.WalkKit
import Derived.BigCall
import Derived.BigGuard
import Derived.Lib.Repeat
import Derived.ChangeKeysEq
import Derived.Lib.Join
import Derived.Lib.SmallJoins
import Derived.Test.YtnfbccfghgmfiaaGreatRows
section
namespace Go.Proofs.YtnfbccfghgmfiaaGreat
open Go Go.Lg Go.Lg.Arith
variable (X:Nat→Option Obj)
theorem LZ_word {g:Int} (h:0≤g∧g<18446744073709551616):LZ g=Lz 0 g:=by
  unfold LZ
  rw [show g/18446744073709551616=0 by omega,show g%18446744073709551616=g by omega]
set_option maxHeartbeats 1000000 in
theorem divideLong_spec (M N:Int) (hM:Lim M) (hN:18446744073709551616≤N∧N<170141183460469231731687303715884105728):
    PSpec Tryz.prog X 123 [LZ M,LZ N] (.tup [SZ (M/N),SZ (M%N)]):=by
  obtain ⟨hM0,hM1⟩:=hM
  obtain ⟨H,hH⟩:∃ H,N/18446744073709551616=H:=⟨_,rfl⟩
  obtain ⟨l,hl⟩:∃ l,N%18446744073709551616=l:=⟨_,rfl⟩
  have hH1:0<H∧H<9223372036854775808:=by omega
  have hl1:0≤l∧l<18446744073709551616:=by omega
  have hlz:=lz_spec X H (by omega)
  obtain ⟨hs,hY1,hY2⟩:=lzOf_spec (y:=H) (by omega)
  generalize lzOf H=s at hlz hs hY1 hY2
  have hs1:1≤s:=by
    rcases Nat.eq_zero_or_pos s with h|h
    · subst h;simp at hY1;omega
    · exact h
  have hE:(0:Int)<2^s:=Int.pow_pos (by decide)
  have hF:(0:Int)<2^(64-s):=Int.pow_pos (by decide)
  have hEF:=pow_split (s:=s) (by omega)
  have hF2:(2:Int)≤2^(64-s):=by
    rw [show 64-s=(63-s)+1 by omega,Int.pow_succ]
    have:(0:Int)<2^(63-s):=Int.pow_pos (by decide)
    omega
  have hlo2:0≤l/2^(64-s)∧l/2^(64-s)<2^s:=by
    refine ⟨Int.ediv_nonneg hl1.1 (Int.le_of_lt hF),?_⟩
    rw [Int.ediv_lt_iff_lt_mul hF,hEF];exact hl1.2
  have hH2:0≤H*2^s:=Int.mul_nonneg (by omega) (Int.le_of_lt hE)
  obtain ⟨L,hL⟩:∃ L,H*2^s+l/2^(64-s)=L:=⟨_,rfl⟩
  have hLW:L<18446744073709551616:=by
    have h1:H<2^(64-s):=by
      rcases Int.lt_or_le H (2^(64-s)) with h|h
      · exact h
      · have:=Int.mul_le_mul_of_nonneg_right h (Int.le_of_lt hE)
        rw [Int.mul_comm ((2:Int)^(64-s)),hEF] at this
        omega
    have h2:=Int.mul_le_mul_of_nonneg_right (show H≤2^(64-s)-1 by omega) (Int.le_of_lt hE)
    rw [Int.sub_mul,Int.one_mul,Int.mul_comm ((2:Int)^(64-s)),hEF] at h2
    omega
  have hNL:∃ r0,N=L*2^(64-s)+r0∧0≤r0∧r0<2^(64-s):=by
    have h1:=Int.emod_add_mul_ediv l (2^(64-s))
    have h2:=Int.emod_nonneg l (show (2:Int)^(64-s)≠0 by omega)
    have h3:=Int.emod_lt_of_pos l hF
    refine ⟨l%2^(64-s),?_,h2,h3⟩
    have h4:H*2^s*2^(64-s)=H*18446744073709551616:=by rw [Int.mul_assoc,hEF]
    rw [← hL,Int.add_mul,h4,Int.mul_comm (l/2^(64-s))]
    omega
  obtain ⟨r0,hNL,hr0⟩:=hNL
  obtain ⟨g,hg⟩:∃ g,M/(L*2^(64-s))=g:=⟨_,rfl⟩
  obtain ⟨hg0,hgz,hgp⟩:=long_guess (M:=M) (N:=N) ⟨hM0,hM1⟩ (show 9223372036854775808≤L by omega) hF2 hNL hr0 hg.symm
  have hd3:=div3 (M:=M) (L:=L) (P:=2^(64-s)) (s:=s) hs rfl (by omega)
  rw [hg] at hd3
  have hNne:0<N:=by omega
  have hq0:=Int.emod_nonneg M (show N≠0 by omega)
  have hq1:=Int.emod_lt_of_pos M hNne
  have hq2:=Int.emod_add_mul_ediv M N
  have hqq:0≤M/N:=Int.ediv_nonneg hM0 (by omega)
  have hqW:M/N<18446744073709551616:=by
    rw [Int.ediv_lt_iff_lt_mul hNne];omega
  have hgW:g<18446744073709551617:=by
    rcases Int.lt_or_le g 18446744073709551617 with h|h
    · exact h
    · have h1:=(hgp (by omega)).1
      have:=Int.mul_le_mul (show (18446744073709551616:Int)≤g-1 by omega) hN.1 (by decide) (by omega)
      omega
  have hLZl:LZ N=Lz H l:=by unfold LZ;rw [hH,hl]
  have hor2:M/18446744073709551616%2*2^63+M%18446744073709551616/2=M/2%18446744073709551616:=by
    show M/18446744073709551616%2*9223372036854775808+M%18446744073709551616/2=_
    omega
  have hdiv:=Div64_spec X (M/18446744073709551616/2) (M/2%18446744073709551616) L (by omega) (by omega) hLW
  rw [show M/18446744073709551616/2*18446744073709551616+M/2%18446744073709551616=M/2 by omega] at hdiv
  have hMz:0≤M/2/L:=Int.ediv_nonneg (by omega) (by omega)
  have hcall:=compare_spec X
  rw [hLZl]
  refine cB Tryz.func123 rfl (by kernel_rfl) rfl rfl ?_
  intro C
  by_cases hg00:g=0
  · have hMN:=hgz hg00
    subst hg00
    have e1:M/N=0:=Int.ediv_eq_zero_of_lt hM0 hMN
    have e2:M%N=M:=Int.emod_eq_of_lt hM0 hMN
    rw [e1,e2]
    have ht:=times_spec X N 0 ⟨by omega,by omega⟩ ⟨by omega,by omega⟩ (by omega) true (by simp)
    rw [LZ_word (g:=0) (by omega),Int.mul_zero,hLZl] at ht
    have hmi:=minus_spec X M 0 ⟨by omega,by omega⟩ ⟨by omega,by omega⟩ hM0
    rw [Int.sub_zero] at hmi
    have hcm:=compare_spec X M N (-1) (by simp [cmpI,hMN])
    rw [hLZl] at hcm
    ((refine aA<|rgN<|aL O O O dM<|aL O O O dM<|aP O dM ?_;refine aP O dM ?_;refine aB<|aA<|rgN<|kfa O O ?_;refine kl1 O O O<|kca O O (hlz)<|kcv O (by exact wrap_u64 (by omega)) ?_;refine kas O<|aB<|aA<|rgN<|kfa O O ?_;refine kl1 O O O<|kmv O<|K.shl O O (by omega) (shl_s (by omega) O ⟨hH2,hY2⟩) dM<|kfa O O ?_;refine kl1 O O O<|kmv O<|bA O O (wrap_u64 (by omega)) dM<|bM O O (by omega) (shr_64s (by omega)) dM<|K.bitop (by simp) O O (or_apart' (by omega) ⟨by omega,hY2⟩ hlo2 hL) dM<|kas O<|aB<|aA<|rgN<|kfa O O ?_;refine kl1 O O O<|bM O O (by omega) (shr_1 _) dM<|kfa O O ?_;refine kl1 O O O<|K.shl O O (by omega) (shl_63 _) dM<|kfa O O ?_;refine kl1 O O O<|bM O O (by omega) (shr_1 _) dM<|K.bitop (by simp) O O (or_apart' (by decide) (by omega) (by omega) hor2) dM<|kmv O<|kca O O (hdiv)<|kmv O<|kex O O<|kex O O<|kas O<|kas O<|aB<|aA<|rgN<|kmv O ?_;refine kmv O<|bA O O (wrap_u64 (by omega)) dM<|bM O O (by omega) ((shr_63s hs).trans hd3) dM<|kas O<|aB<|aA<|aA<|rgN<|kmv O<|kne O O ((cN (by omega)))<|aB<|aF O ?_;refine aH ?_);(refine aA<|rgN<|aK O O O dM ?_;refine kmv O<|aT O O (by exact O) (by exact nl2 O O O) dM ?_;refine kca O O (ht)<|kmv O<|kex O O<|kex O O<|aP O dM ?_;refine aM O O O O O O dM ?_;refine kas O<|aB<|aA<|rgN<|aK O O O dM ?_;refine aK O O O dM ?_;refine kca O O (hmi)<|aP O dM ?_;refine aM O O O O O O dM ?_;refine aB<|aA<|aA<|rgN<|aK O O O dM ?_;refine aK O O O dM ?_;refine kca O O (hcm)<|bD O O (cJ (by omega)) dM<|aB<|aF O ?_;refine aH ?_);(refine aA<|rgD mixed<|kmv O<|aT O O (by exact O) (by exact nl2 O O O) dM ?_;refine aK O O O dM ?_;refine aM O O O O O O dM ?_;refine aM O O O O O O dM ?_;refine aB<|rgA ?_;refine aI ?_))
    exact ⟨[_,_],⟨⟨_,_,O,O,O,.inl ⟨AggT.h,O⟩⟩,⟨_,_,O,O,O,.inl ⟨AggT.h,O⟩⟩,trivial⟩,O⟩
  · obtain ⟨h1,h2⟩:=hgp hg00
    obtain ⟨G,hG⟩:∃ G,g-1=G:=⟨_,rfl⟩
    rw [hG] at h1 h2
    have hGN:0≤G*N:=Int.mul_nonneg (by omega) (by omega)
    have ht:=times_spec X N G ⟨by omega,by omega⟩ ⟨by omega,by omega⟩ (by omega) true (cK (by rw [Int.mul_comm];omega))
    rw [LZ_word (g:=G) (by omega),Int.mul_comm N G,show G*N%340282366920938463463374607431768211456=G*N by omega,hLZl] at ht
    have hmi:=minus_spec X M (G*N) ⟨by omega,by omega⟩ ⟨by omega,by omega⟩ h1
    have huse:∀ q:Int,q*N≤M→M<q*N+N→M/N=q∧M%N=M-q*N:=by
      intro q a b
      have e:M/N=q:=by rw [Int.ediv_eq_iff_of_pos hNne];exact ⟨a,b⟩
      rw [e,Int.mul_comm] at hq2
      exact ⟨e,by omega⟩
    by_cases hlt:M-G*N<N
    · obtain ⟨e1,e2⟩:=huse G h1 (by omega)
      rw [e1,e2]
      have hcm:=compare_spec X (M-G*N) N (-1) (by simp [cmpI,hlt])
      rw [hLZl] at hcm
      ((refine aA<|rgN<|aL O O O dM<|aL O O O dM<|aP O dM ?_;refine aP O dM ?_;refine aB<|aA<|rgN<|kfa O O ?_;refine kl1 O O O<|kca O O (hlz)<|kcv O (by exact wrap_u64 (by omega)) ?_;refine kas O<|aB<|aA<|rgN<|kfa O O ?_;refine kl1 O O O<|kmv O<|K.shl O O (by omega) (shl_s (by omega) O ⟨hH2,hY2⟩) dM<|kfa O O ?_;refine kl1 O O O<|kmv O<|bA O O (wrap_u64 (by omega)) dM<|bM O O (by omega) (shr_64s (by omega)) dM<|K.bitop (by simp) O O (or_apart' (by omega) ⟨by omega,hY2⟩ hlo2 hL) dM<|kas O<|aB<|aA<|rgN<|kfa O O ?_;refine kl1 O O O<|bM O O (by omega) (shr_1 _) dM<|kfa O O ?_;refine kl1 O O O<|K.shl O O (by omega) (shl_63 _) dM<|kfa O O ?_;refine kl1 O O O<|bM O O (by omega) (shr_1 _) dM<|K.bitop (by simp) O O (or_apart' (by decide) (by omega) (by omega) hor2) dM<|kmv O<|kca O O (hdiv)<|kmv O<|kex O O<|kex O O<|kas O<|kas O<|aB<|aA<|rgN<|kmv O ?_;refine kmv O<|bA O O (wrap_u64 (by omega)) dM<|bM O O (by omega) ((shr_63s hs).trans hd3) dM<|kas O<|aB<|aA<|aA<|rgN<|kmv O<|kne O O (cO (by omega))<|aB<|aE O ?_;refine rgN<|kmv O<|bA O O ((wrap_u64 (by omega)).trans hG) dM<|kas O<|aB<|aA<|rgN<|aK O O O dM ?_);(refine kmv O<|aT O O (by exact O) (by exact nl2 O O O) dM ?_;refine kca O O (ht)<|kmv O<|kex O O<|kex O O<|aP O dM ?_;refine aM O O O O O O dM ?_;refine kas O<|aB<|aA<|rgN<|aK O O O dM ?_;refine aK O O O dM ?_;refine kca O O (hmi)<|aP O dM ?_;refine aM O O O O O O dM ?_;refine aB<|aA<|aA<|rgN<|aK O O O dM ?_;refine aK O O O dM ?_;refine kca O O (hcm)<|bD O O (cJ (by omega)) dM<|aB<|aF O ?_;refine aH ?_;refine aA<|rgD mixed<|kmv O<|aT O O (by exact O) (by exact nl2 O O O) dM ?_);(refine aK O O O dM ?_;refine aM O O O O O O dM ?_;refine aM O O O O O O dM ?_;refine aB<|rgA ?_;refine aI ?_))
      rw [show SZ G = .agg [.val (.int .u64 0),.val (.int .u64 G)] by unfold SZ;rw [show G/18446744073709551616=0 by omega,show G%18446744073709551616=G by omega]]
      exact ⟨[_,_],⟨⟨_,_,O,O,O,.inl ⟨AggT.h,O⟩⟩,⟨_,_,O,O,O,.inl ⟨AggT.h,O⟩⟩,trivial⟩,O⟩
    · have hG1:(G+1)*N=G*N+N:=by rw [Int.add_mul,Int.one_mul]
      obtain ⟨e1,e2⟩:=huse (G+1) (by omega) (by omega)
      rw [e1] at hqW
      rw [e1,e2,hG1,show M-(G*N+N)=M-G*N-N by omega]
      have hcm:∃ r,(r=0∨r=1)∧cmpI (M-G*N) N=r:=⟨_,by unfold cmpI;(repeat' split)<;>omega,rfl⟩
      obtain ⟨r,hr,hcm⟩:=hcm
      have hcm:=compare_spec X (M-G*N) N r hcm
      have hmi2:=minus_spec X (M-G*N) N ⟨by omega,by omega⟩ ⟨by omega,by omega⟩ (by omega)
      rw [hLZl] at hcm hmi2
      ((refine aA<|rgN<|aL O O O dM<|aL O O O dM<|aP O dM ?_;refine aP O dM ?_;refine aB<|aA<|rgN<|kfa O O ?_;refine kl1 O O O<|kca O O (hlz)<|kcv O (by exact wrap_u64 (by omega)) ?_;refine kas O<|aB<|aA<|rgN<|kfa O O ?_;refine kl1 O O O<|kmv O<|K.shl O O (by omega) (shl_s (by omega) O ⟨hH2,hY2⟩) dM<|kfa O O ?_;refine kl1 O O O<|kmv O<|bA O O (wrap_u64 (by omega)) dM<|bM O O (by omega) (shr_64s (by omega)) dM<|K.bitop (by simp) O O (or_apart' (by omega) ⟨by omega,hY2⟩ hlo2 hL) dM<|kas O<|aB<|aA<|rgN<|kfa O O ?_;refine kl1 O O O<|bM O O (by omega) (shr_1 _) dM<|kfa O O ?_;refine kl1 O O O<|K.shl O O (by omega) (shl_63 _) dM<|kfa O O ?_;refine kl1 O O O<|bM O O (by omega) (shr_1 _) dM<|K.bitop (by simp) O O (or_apart' (by decide) (by omega) (by omega) hor2) dM<|kmv O<|kca O O (hdiv)<|kmv O<|kex O O<|kex O O<|kas O<|kas O<|aB<|aA<|rgN<|kmv O ?_;refine kmv O<|bA O O (wrap_u64 (by omega)) dM<|bM O O (by omega) ((shr_63s hs).trans hd3) dM<|kas O<|aB<|aA<|aA<|rgN<|kmv O<|kne O O (cO (by omega))<|aB<|aE O ?_;refine rgN<|kmv O<|bA O O ((wrap_u64 (by omega)).trans hG) dM<|kas O<|aB<|aA<|rgN<|aK O O O dM ?_);(refine kmv O<|aT O O (by exact O) (by exact nl2 O O O) dM ?_;refine kca O O (ht)<|kmv O<|kex O O<|kex O O<|aP O dM ?_;refine aM O O O O O O dM ?_;refine kas O<|aB<|aA<|rgN<|aK O O O dM ?_;refine aK O O O dM ?_;refine kca O O (hmi)<|aP O dM ?_;refine aM O O O O O O dM ?_;refine aB<|aA<|aA<|rgN<|aK O O O dM ?_;refine aK O O O dM ?_;refine kca O O (hcm)<|bD O O (cK (by omega)) dM<|aB<|aE O ?_;refine aA<|rgN<|kmv O<|kad O O (wrap_u64 (by omega))<|kas O<|aB<|rgN<|aK O O O dM ?_;refine aK O O O dM ?_);(refine kca O O (hmi2)<|aM O O O O O O dM ?_;refine aB<|aA<|rgD mixed<|kmv O<|aT O O (by exact O) (by exact nl2 O O O) dM ?_;refine aK O O O dM ?_;refine aM O O O O O O dM ?_;refine aM O O O O O O dM ?_;refine aB<|rgA ?_;refine aI ?_))
      rw [show SZ (G+1) = .agg [.val (.int .u64 0),.val (.int .u64 (G+1))] by unfold SZ;rw [show (G+1)/18446744073709551616=0 by omega,show (G+1)%18446744073709551616=G+1 by omega]]
      exact ⟨[_,_],⟨⟨_,_,O,O,O,.inl ⟨AggT.h,O⟩⟩,⟨_,_,O,O,O,.inl ⟨AggT.h,O⟩⟩,trivial⟩,O⟩
end Go.Proofs.YtnfbccfghgmfiaaGreat
end
section
namespace Go.Proofs.YtnfbccfghgmfiaaGreat
open Go Go.Lg Go.Lg.Arith
variable (X:Nat→Option Obj)
theorem two_word {T d Y:Int} (hY:0<Y) (hd:0≤d∧d<18446744073709551616) (hT:0≤T):
    (T*18446744073709551616+d)/Y=T/Y*18446744073709551616+(T%Y*18446744073709551616+d)/Y∧(T*18446744073709551616+d)%Y=(T%Y*18446744073709551616+d)%Y ∧
    0≤(T%Y*18446744073709551616+d)/Y∧(T%Y*18446744073709551616+d)/Y<18446744073709551616∧0≤T%Y∧T%Y<Y∧0≤T/Y:=by
  have h:=Int.emod_add_mul_ediv T Y
  have h0:=Int.emod_nonneg T (show Y≠0 by omega)
  have h1:=Int.emod_lt_of_pos T hY
  have e:T*18446744073709551616+d=(T%Y*18446744073709551616+d)+Y*(T/Y*18446744073709551616):=by
    rw [← Int.mul_assoc]
    generalize Y*(T/Y)=a at *
    omega
  have hq0:0≤(T%Y*18446744073709551616+d)/Y:=Int.ediv_nonneg (by omega) (by omega)
  have hq1:(T%Y*18446744073709551616+d)/Y<18446744073709551616:=by rw [Int.ediv_lt_iff_lt_mul hY];omega
  refine ⟨?_,?_,hq0,hq1,h0,h1,Int.ediv_nonneg hT (by omega)⟩
  · rw [e,Int.add_mul_ediv_left _ _ (by omega)];omega
  · rw [e,Int.add_mul_emod_self_left]
theorem divide_spec (M N:Int) (hM:Lim M) (hN:0<N∧N<170141183460469231731687303715884105728):
    PSpec Tryz.prog X 104 [LZ M,LZ N] (.tup [SZ (M/N),SZ (M%N)]):=by
  obtain ⟨hM0,hM1⟩:=hM
  refine cB Tryz.func104 rfl (by kernel_rfl) rfl rfl ?_
  intro C
  by_cases hl:18446744073709551616≤N
  · (refine aA<|rgN<|aL O O O dM<|aL O O O dM<|aP O dM ?_;refine aP O dM ?_;refine aB<|aA<|aA<|rgN<|kfa O O ?_;refine kl1 O O O<|kne O O (cO (by omega))<|aB<|aE O ?_;refine aA<|rgN<|aK O O O dM ?_;refine aK O O O dM ?_;refine kca O O (divideLong_spec _ _ _ ⟨hM0,hM1⟩ ⟨hl,hN.2⟩)<|kex O O<|kex O O<|aM O O O O O O dM ?_;refine aM O O O O O O dM ?_;refine aB<|aI ?_)
    exact ⟨[_,_],⟨⟨_,_,O,O,O,.inl ⟨AggT.h,O⟩⟩,⟨_,_,O,O,O,.inl ⟨AggT.h,O⟩⟩,trivial⟩,O⟩
  · obtain ⟨t1,t2,t3,t4,t5,t6,t7⟩:=two_word (T:=M/18446744073709551616) (d:=M%18446744073709551616) (Y:=N) hN.1 (by omega) (by omega)
    rw [show M/18446744073709551616*18446744073709551616+M%18446744073709551616=M by omega] at t1 t2
    have eN:N%18446744073709551616=N:=by omega
    have hd:=Div64_spec X (M/18446744073709551616%N) (M%18446744073709551616) N ⟨t5,t6⟩ (by omega) (by omega)
    have hr0:=Int.emod_nonneg M (show N≠0 by omega)
    have hr1:=Int.emod_lt_of_pos M hN.1
    rw [← t2] at hd
    rw [← eN] at hd
    rw [LZ_word (g:=N) (by omega)]
    rw [eN] at hd
    have hq:M/18446744073709551616/N<18446744073709551616:=by
      have:=Int.ediv_le_self N (show 0≤M/18446744073709551616 by omega);omega
    (refine aA<|rgN<|aL O O O dM<|aL O O O dM<|aP O dM ?_;refine aP O dM ?_;refine aB<|aA<|aA<|rgN<|kfa O O ?_;refine kl1 O O O<|kne O O ((cN (by omega)))<|aB<|aF O ?_;refine aH ?_;refine aA<|rgD mixed<|kfa O O ?_;refine kl1 O O O<|kfa O O ?_;refine kl1 O O O<|K.quo O O (by omega) (quo_u64 (by omega) (by omega)) dM<|kfa O O ?_;refine kl1 O O O<|kfa O O ?_;refine kl1 O O O<|K.rem O O (by omega) (rem_pos (by omega)) dM<|kas O<|kas O<|aB<|rgA ?_;refine aA<|rgN<|kmv O<|kfa O O ?_;refine kl1 O O O<|kfa O O ?_;refine kl1 O O O<|kca O O (hd)<|kmv O<|kex O O<|kex O O<|kas O<|kas O<|aB<|aA<|rgN<|kmv O<|kmv O<|aT O O (by exact O) (by exact nl2 O O O) dM ?_;refine kmv O<|aT O O (by exact O) (by exact nl2 O O O) dM ?_;refine aM O O O O O O dM ?_;refine aM O O O O O O dM ?_;refine aB<|aI ?_)
    rw [show SZ (M/N) = .agg [.val (.int .u64 (M/18446744073709551616/N)),.val (.int .u64 ((M/18446744073709551616%N*18446744073709551616+M%18446744073709551616)/N))] by
        unfold SZ;rw [show M/N/18446744073709551616=M/18446744073709551616/N by omega,show M/N%18446744073709551616=(M/18446744073709551616%N*18446744073709551616+M%18446744073709551616)/N by omega],
      show SZ (M%N) = .agg [.val (.int .u64 0),.val (.int .u64 (M%N))] by unfold SZ;rw [show M%N/18446744073709551616=0 by omega,show M%N%18446744073709551616=M%N by omega]]
    exact ⟨[_,_],⟨⟨_,_,O,O,O,.inl ⟨AggT.h,O⟩⟩,⟨_,_,O,O,O,.inl ⟨AggT.h,O⟩⟩,trivial⟩,O⟩
theorem divisible_spec (b c:Bool) (M N:Int) (hM:In2 M) (hN:In2 N) (r:Bool) (hr:((formB b M&&formB c N) && !(N==0))=r):PSpec Tryz.prog X 103 [LI b M,LI c N] (Lb r):=by
  subst hr
  refine cB Tryz.func103 rfl (by kernel_rfl) rfl rfl ?_
  intro C
  cases hf:(formB b M&&formB c N)
  · (refine aA<|rgN<|aL O O O dM<|aL O O O dM<|kas O<|aB<|aA<|rgN<|aK O O O dM ?_;refine aK O O O dM ?_;refine kca O O (bothForm_spec _ _ _ _ _ hM hN _ hf)<|kmv O<|aC O O O<|aC O O O<|aC O O O<|aC O O O<|kpf O O<|kas O<|aB<|aI ?_)
    exact ⟨[_],⟨rfl,trivial⟩,by simp [resOf]⟩
  · (refine aA<|rgN<|aL O O O dM<|aL O O O dM<|kas O<|aB<|aA<|rgN<|aK O O O dM ?_;refine aK O O O dM ?_;refine kca O O (bothForm_spec _ _ _ _ _ hM hN _ hf)<|kmv O<|aK O O O (dN O O) ?_;refine gca O O (sizeOf_spec _ _ _ _) O O<|gca O O (zero_spec _ _ hN _ O) O O<|aV O O (dN O O) ?_;refine kpt O O<|kas O<|aB<|aI ?_)
    exact ⟨[_],⟨rfl,trivial⟩,by simp [resOf]⟩
theorem Quo_arg (b c:Bool) (M N:Int) (hM:In2 M) (hN:In2 N) (hf:((formB b M&&formB c N) && !(N==0))=false):PSpec Tryz.prog X 73 [LI b M,LI c N] (.tup [S0,Sn .i64 1]):=by
  refine cB Tryz.func73 rfl (by kernel_rfl) rfl rfl ?_
  intro C
  (refine aA<|rgN<|aL O O O dM<|aL O O O dM<|aP O dM ?_;refine kas O<|aB<|aA<|aA<|rgN<|aK O O O dM ?_;refine aK O O O dM ?_;refine kca O O (divisible_spec _ _ _ _ _ hM hN _ hf)<|aV O O dM<|aB<|aE O ?_;refine aA<|rgN<|aT O O (by exact O) (by exact nl3 O O O O) dM ?_;refine aM O O O O O O dM ?_;refine kas O<|aB<|aI ?_)
  exact ⟨[_,_],⟨⟨_,_,O,O,O,.inl ⟨AggT.h,O⟩⟩,O,trivial⟩,O⟩
theorem Rem_arg (b c:Bool) (M N:Int) (hM:In2 M) (hN:In2 N) (hf:((formB b M&&formB c N) && !(N==0))=false):PSpec Tryz.prog X 74 [LI b M,LI c N] (.tup [S0,Sn .i64 1]):=by
  refine cB Tryz.func74 rfl (by kernel_rfl) rfl rfl ?_
  intro C
  (refine aA<|rgN<|aL O O O dM<|aL O O O dM<|aP O dM ?_;refine kas O<|aB<|aA<|aA<|rgN<|aK O O O dM ?_;refine aK O O O dM ?_;refine kca O O (divisible_spec _ _ _ _ _ hM hN _ hf)<|aV O O dM<|aB<|aE O ?_;refine aA<|rgN<|aT O O (by exact O) (by exact nl3 O O O O) dM ?_;refine aM O O O O O O dM ?_;refine kas O<|aB<|aI ?_)
  exact ⟨[_,_],⟨⟨_,_,O,O,O,.inl ⟨AggT.h,O⟩⟩,O,trivial⟩,O⟩
theorem mg_zero {y:Int} (hy:y≠0):0<mg y:=by unfold mg;split<;>omega
theorem zv_quo (x y:Int) (hy:y≠0):zv (decide (x<0) != decide (y<0)) (mg x/mg y)=x.tdiv y∧zv (decide (x<0)) (mg x%mg y)=x.tmod y:=by
  unfold zv mg
  by_cases cx:x<0<;>by_cases cy:y<0
  all_goals simp only [cx,cy,decide_true,decide_false,if_true,if_false,bne_self_eq_false,Bool.false_eq_true,Bool.true_bne,Bool.false_bne,Bool.not_false]
  · obtain ⟨a,rfl⟩:∃ a,x = -a:=⟨-x,by omega⟩
    obtain ⟨b,rfl⟩:∃ b,y = -b:=⟨-y,by omega⟩
    simp only [Int.neg_neg,Int.neg_tdiv,Int.tdiv_neg,Int.neg_tmod,Int.tmod_neg]
    rw [Int.tdiv_eq_ediv_of_nonneg (by omega),Int.tmod_eq_emod_of_nonneg (by omega)]
    exact ⟨O,O⟩
  · obtain ⟨a,rfl⟩:∃ a,x = -a:=⟨-x,by omega⟩
    simp only [Int.neg_neg,Int.neg_tdiv,Int.neg_tmod]
    rw [Int.tdiv_eq_ediv_of_nonneg (by omega),Int.tmod_eq_emod_of_nonneg (by omega)]
    exact ⟨O,O⟩
  · obtain ⟨b,rfl⟩:∃ b,y = -b:=⟨-y,by omega⟩
    simp only [Int.neg_neg,Int.tdiv_neg,Int.tmod_neg]
    rw [Int.tdiv_eq_ediv_of_nonneg (by omega),Int.tmod_eq_emod_of_nonneg (by omega)]
    exact ⟨O,O⟩
  · rw [Int.tdiv_eq_ediv_of_nonneg (by omega),Int.tmod_eq_emod_of_nonneg (by omega)]
    exact ⟨O,O⟩
theorem mg_zero' {y:Int} (hy:y≠0):(mg y==0)=false:=by
  have:=mg_zero hy
  exact cM (by omega)
theorem Quo_q (x y:Int) (hx:R127 x) (hy:R127 y) (h0:y≠0):PSpec Tryz.prog X 73 [LQ x,LQ y] (.tup [SQ (x.tdiv y),Sn .i64 0]):=by
  have hB:=divisible_spec X _ _ _ _ (mg_in2 hx) (mg_in2 hy) true (by rw [both_q hx hy,mg_zero' h0];rfl)
  have hd:=divide_spec X (mg x) (mg y) ⟨mg_nonneg x,mg_lim hx⟩ ⟨mg_zero h0,mg_lim hy⟩
  have hq0:0≤mg x/mg y:=Int.ediv_nonneg (mg_nonneg x) (mg_nonneg y)
  have hq1:=Int.ediv_le_self (mg y) (mg_nonneg x)
  have hl:=mg_lim hx
  have hn:=number_spec X (decide (x<0) != decide (y<0)) (mg x/mg y) ⟨hq0,by omega⟩ _ rfl
  rw [← tup_q hq0 (zv_quo x y h0).1]
  refine cB Tryz.func73 rfl (by kernel_rfl) rfl rfl ?_
  intro C
  (refine aA<|rgN<|aL O O O dM<|aL O O O dM<|aP O dM ?_;refine kas O<|aB<|aA<|aA<|rgN<|aK O O O dM ?_;refine aK O O O dM ?_;refine kca O O (hB)<|aV O O dM<|aB<|aF O ?_;refine aH ?_;refine aA<|rgD mixed<|aK O O O dM ?_;refine kca O O (sizeOf_spec _ _ _ _)<|aK O O O dM ?_;refine kca O O (sizeOf_spec _ _ _ _)<|kca O O (hd)<|kmv O<|kex O O<|kex O O<|aP O dM ?_;refine aP O dM ?_;refine aM O O O O O O dM ?_;refine aM O O O O O O dM ?_;refine aB<|rgA ?_;refine aA<|rgN<|kfa O O ?_;refine kl1 O O O<|kfa O O ?_;refine kl1 O O O<|K.neqB O O O dM<|aK O O O dM ?_;refine kca O O (hn)<|aM O O O O O O dM ?_;refine kas O<|aB<|aI ?_)
  exact ⟨[_,_],⟨⟨_,_,O,O,O,.inl ⟨AggT.h,O⟩⟩,O,trivial⟩,O⟩
theorem Rem_q (x y:Int) (hx:R127 x) (hy:R127 y) (h0:y≠0):PSpec Tryz.prog X 74 [LQ x,LQ y] (.tup [SQ (x.tmod y),Sn .i64 0]):=by
  have hB:=divisible_spec X _ _ _ _ (mg_in2 hx) (mg_in2 hy) true (by rw [both_q hx hy,mg_zero' h0];rfl)
  have hd:=divide_spec X (mg x) (mg y) ⟨mg_nonneg x,mg_lim hx⟩ ⟨mg_zero h0,mg_lim hy⟩
  have hq0:0≤mg x%mg y:=Int.emod_nonneg _ (by have:=mg_zero h0;omega)
  have hq1:=Int.emod_lt_of_pos (mg x) (mg_zero h0)
  have hl:=mg_lim hy
  have hn:=number_spec X (decide (x<0)) (mg x%mg y) ⟨hq0,by omega⟩ _ rfl
  rw [← tup_q hq0 (zv_quo x y h0).2]
  refine cB Tryz.func74 rfl (by kernel_rfl) rfl rfl ?_
  intro C
  (refine aA<|rgN<|aL O O O dM<|aL O O O dM<|aP O dM ?_;refine kas O<|aB<|aA<|aA<|rgN<|aK O O O dM ?_;refine aK O O O dM ?_;refine kca O O (hB)<|aV O O dM<|aB<|aF O ?_;refine aH ?_;refine aA<|rgD mixed<|aK O O O dM ?_;refine kca O O (sizeOf_spec _ _ _ _)<|aK O O O dM ?_;refine kca O O (sizeOf_spec _ _ _ _)<|kca O O (hd)<|kmv O<|kex O O<|kex O O<|aP O dM ?_;refine aP O dM ?_;refine aM O O O O O O dM ?_;refine aM O O O O O O dM ?_;refine aB<|rgA ?_;refine aA<|rgN<|kfa O O ?_;refine kl1 O O O<|aK O O O dM ?_;refine kca O O (hn)<|aM O O O O O O dM ?_;refine kas O<|aB<|aI ?_)
  exact ⟨[_,_],⟨⟨_,_,O,O,O,.inl ⟨AggT.h,O⟩⟩,O,trivial⟩,O⟩
end Go.Proofs.YtnfbccfghgmfiaaGreat
end
section
namespace Go.Proofs.YtnfbccfghgmfiaaGreat
open Go Go.Lg Go.Lg.Arith Go.Lg.Dig Go.RowKit
variable (X : Nat → Option Obj)
def part (M N i j : Nat) : Nat := M % 256 ^ i * N + dg M i * (N % 256 ^ j) * 256 ^ i
end Go.Proofs.YtnfbccfghgmfiaaGreat
end
section
namespace Go.Proofs.YtnfbccfghgmfiaaGreat
open Go Go.Lg Go.Lg.Arith Go.Lg.Dig Go.RowKit
variable (X:Nat→Option Obj)
structure Half (M n:Nat) (s:List UInt8):Prop where
  more:s=[]∨n≠0→Lib.decDigits M=Lib.decDigits n++s
  done:s≠[]→n=0→Lib.decDigits M=s
end Go.Proofs.YtnfbccfghgmfiaaGreat
end
section
namespace Go.Proofs.YtnfbccfghgmfiaaGreat
open Go Go.Lg Go.Lg.Fml Go.Lg.Fld
structure CodesIn (X:Nat→Option Obj) (ad:Option Addr) (cs:List (List Ins)):Prop where
  at_:∀ (i:Nat) (c:List Ins),cs[i]? = some c→∃ (blk off:Nat) (arr:Array Value) (el:TypeId) (fr:Nat×Nat) (vad:Option Addr) (vcap:Nat),ad=some ⟨blk,off,none⟩∧X blk=some (.cells arr el fr)∧off+i*1+1≤arr.size∧arr[off+i]? = some (.slice vad c.length vcap)∧InsIn X vad c
theorem CodesIn.mono {X Y:Nat→Option Obj} (hXY:∀ b o,X b=some o→Y b=some o) {ad:Option Addr} {cs:List (List Ins)} (h:CodesIn X ad cs):CodesIn Y ad cs:=⟨fun i c hc=>by
  obtain ⟨blk,off,arr,el,fr,vad,vcap,h1,h2,h3,h4,h5⟩:=h.at_ i c hc
  exact ⟨blk,off,arr,el,fr,vad,vcap,h1,hXY _ _ h2,h3,h4,h5.mono hXY⟩⟩
theorem CodesIn.nil {X:Nat→Option Obj} {ad:Option Addr}:CodesIn X ad []:=⟨fun i c h=>by simp at h⟩
def smallR (r:Rl):Prop:=(-9223372036854775808≤r.nw∧r.nw<9223372036854775808)∧(-9223372036854775808≤r.old∧r.old<9223372036854775808)
structure RulesIn (X:Nat→Option Obj) (ad:Option Addr) (rs:List Rl):Prop where
  at_:∀ (i:Nat) (r:Rl),rs[i]? = some r→∃ (blk off:Nat) (arr:Array Value) (el:TypeId) (fr:Nat×Nat) (ead:Option Addr) (ecap:Nat),ad=some ⟨blk,off,none⟩∧X blk=some (.cells arr el fr)∧off+i*3+3≤arr.size∧(arr.toList.drop (off+i*3)).take 3=[.int .i64 r.nw,.int .i64 r.old,.slice ead r.ex.length ecap]∧CodesIn X ead r.ex
  small:∀ r∈rs,smallR r
theorem RulesIn.mono {X Y:Nat→Option Obj} (hXY:∀ b o,X b=some o→Y b=some o) {ad:Option Addr} {rs:List Rl} (h:RulesIn X ad rs):RulesIn Y ad rs:=⟨fun i c hc=>by
  obtain ⟨blk,off,arr,el,fr,vad,vcap,h1,h2,h3,h4,h5⟩:=h.at_ i c hc
  exact ⟨blk,off,arr,el,fr,vad,vcap,h1,hXY _ _ h2,h3,h4,h5.mono hXY⟩,h.small⟩
theorem RulesIn.nil {X:Nat→Option Obj} {ad:Option Addr}:RulesIn X ad []:=⟨fun i c h=>by simp at h,fun r hr=>by cases hr⟩
theorem RulesIn.get {X:Nat→Option Obj} {ad:Option Addr} {rs:List Rl} (h:RulesIn X ad rs) {i:Nat} {r:Rl} (hr:rs[i]? = some r):∃ (blk off:Nat) (arr:Array Value) (el:TypeId) (fr:Nat×Nat) (ead:Option Addr) (ecap:Nat),ad=some ⟨blk,off,none⟩∧X blk=some (.cells arr el fr)∧off+i*3+3≤arr.size ∧
    ((arr.toList.drop (off+i*3)).take 3).map CV.val=[.val (.int .i64 r.nw),.val (.int .i64 r.old),.val (.slice ead r.ex.length ecap)]∧arr[off+i*3]? = some (.int .i64 r.nw)∧arr[off+i*3+1]? = some (.int .i64 r.old)∧arr[off+i*3+2]? = some (.slice ead r.ex.length ecap)∧CodesIn X ead r.ex:=by
  obtain ⟨blk,off,arr,el,fr,ead,ecap,h1,h2,h3,h4,h5⟩:=h.at_ i r hr
  have key:∀ j,j<3→arr[off+i*3+j]? = ([.int .i64 r.nw,.int .i64 r.old,.slice ead r.ex.length ecap]:List Value)[j]? := fun j hj=>by
    rw [← h4,List.getElem?_take,if_pos hj,List.getElem?_drop,Array.getElem?_toList]
  exact ⟨blk,off,arr,el,fr,ead,ecap,h1,h2,h3,by rw [h4];rfl,key 0 (by omega),key 1 (by omega),key 2 (by omega),h5⟩
def sizeR (rs:List Rl):Prop := ∀ r∈rs,r.ex.length<1152921504606846976∧∀ c∈r.ex,c.length<1152921504606846976
end Go.Proofs.YtnfbccfghgmfiaaGreat
end
section
namespace Go.Proofs.YtnfbccfghgmfiaaGreat
open Go Go.Lg Go.Lg.Arith Go.RowKit
theorem parts_facts {x y : Int} (hx : R127 x) (hy : R127 y) (h0 : y ≠ 0) :
    R127 (x.tdiv y) ∧ R127 (x.tmod y) ∧ R127 (x.tdiv y * y) ∧ x.tdiv y * y + x.tmod y = x ∧ mg (x.tmod y) < mg y ∧ (x.tmod y < 0 → x < 0) ∧ (0 < x.tmod y → 0 < x) := by
  obtain ⟨h1, h2⟩ := zv_quo x y h0
  have hB := mg_zero h0
  have hA0 := mg_nonneg x
  have hR0 := Int.emod_nonneg (mg x) (show mg y ≠ 0 by omega)
  have hR1 := Int.emod_lt_of_pos (mg x) hB
  have hQ0 := Int.ediv_nonneg hA0 (Int.le_of_lt hB)
  have hQ1 := Int.ediv_le_self (mg y) hA0
  have hE := Int.emod_add_mul_ediv (mg x) (mg y)
  have hT0 := Int.mul_nonneg hQ0 (Int.le_of_lt hB)
  rw [Int.mul_comm (mg y) (mg x / mg y)] at hE
  rw [← h1, ← h2]
  have key : zv (decide (x < 0) != decide (y < 0)) (mg x / mg y) * y = zv (decide (x < 0)) (mg x / mg y * mg y) := by
    by_cases cy : y < 0
    · have hy' : mg y = -y := mg_neg cy
      generalize mg x / mg y = Q
      by_cases cx : x < 0 <;> simp only [cx, cy, decide_true, decide_false, zv, bne_self_eq_false, Bool.false_bne, if_true, if_false, Bool.false_eq_true]
      · rw [hy', Int.mul_neg, Int.neg_neg]
      · rw [hy', Int.mul_neg, Int.neg_mul]
    · have hy' : mg y = y := mg_pos (by omega)
      generalize mg x / mg y = Q
      by_cases cx : x < 0 <;> simp only [cx, cy, decide_true, decide_false, zv, bne_self_eq_false, Bool.true_bne, Bool.not_false, if_true, if_false, Bool.false_eq_true]
      · rw [hy', Int.neg_mul]
      · rw [hy']
  have zR : ∀ (b : Bool) (n : Int), 0 ≤ n → n < 170141183460469231731687303715884105728 → R127 (zv b n) := by
    intro b n h1 h2
    unfold R127 zv
    cases b <;> simp only [if_true, if_false, Bool.false_eq_true] <;> omega
  have hlx := mg_lim hx
  have hly := mg_lim hy
  rw [key]
  generalize mg x / mg y * mg y = T at *
  generalize mg x / mg y = Q at *
  generalize mg x % mg y = R at *
  refine ⟨zR _ _ hQ0 (by omega), zR _ _ hR0 (by omega), zR _ _ hT0 (by omega), ?_, ?_, ?_, ?_⟩
  · by_cases cx : x < 0
    · rw [decide_eq_true cx]
      have := mg_neg cx
      show -T + -R = x
      omega
    · rw [decide_eq_false cx]
      have := mg_pos (Int.not_lt.1 cx)
      show T + R = x
      omega
  · by_cases cx : x < 0
    · rw [decide_eq_true cx]
      show mg (-R) < mg y
      by_cases c : R = 0
      · subst c; exact hB
      · rw [mg_neg (z := -R) (by omega)]; omega
    · rw [decide_eq_false cx]
      show mg R < mg y
      rw [mg_pos hR0]; exact hR1
  · intro h
    by_cases cx : x < 0
    · exact cx
    · rw [decide_eq_false cx] at h
      have h : R < 0 := h
      omega
  · intro h
    by_cases cx : x < 0
    · rw [decide_eq_true cx] at h
      have h : 0 < -R := h
      omega
    · rw [decide_eq_false cx] at h
      have h : 0 < R := h
      have := mg_pos (Int.not_lt.1 cx)
      omega
end Go.Proofs.YtnfbccfghgmfiaaGreat
end
section
namespace Go.Proofs.YtnfbccfghgmfiaaGreat
open Go Go.Lg Go.Lg.Fml Go.Lg.Fld Go.Lg.Arith
set_option maxRecDepth 100000
variable (X:Nat→Option Obj)
def exR:Except Int Nm→LV
  | .ok v=>.tup [SI v.1 v.2,Sn .i64 0]
  | .error e=>.tup [S0,Sn .i64 e]
theorem NumsIn.all {X:Nat→Option Obj} {ad:Option Addr} {ns:List Nm} (h:NumsIn X ad ns) (hpos:0<ns.length):
    ∃ (blk off:Nat) (arr:Array Value) (el:TypeId) (fr:Nat×Nat),ad=some ⟨blk,off,none⟩∧X blk=some (.cells arr el fr)∧∀ i b N,ns[i]? = some (b,N)→In2 N∧off+i*3+3≤arr.size∧((arr.toList.drop (off+i*3)).take 3).map CV.val=cI b N:=by
  obtain ⟨_,blk,off,arr,el,fr,rfl,hX,_,_⟩:=h.at (i:=0) (b:=(ns[0]'hpos).1) (N:=(ns[0]'hpos).2) (cS hpos)
  refine ⟨blk,off,arr,el,fr,O,hX,fun i b N hi => ?_⟩
  obtain ⟨h1,blk',off',arr',el',fr',h2,h3,h4,h5⟩:=h.at hi
  simp only [Option.some.injEq,Addr.mk.injEq] at h2
  obtain ⟨rfl,rfl,_⟩:=h2
  rw [hX] at h3
  simp only [Option.some.injEq,Obj.cells.injEq] at h3
  obtain ⟨rfl,_,_⟩:=h3
  exact ⟨h1,h4,h5⟩
theorem gd_q {u:Nm} (h:gd u=true) (hu:In2 u.2):LI u.1 u.2=LQ (zz u)∧R127 (zz u):=⟨LI_q hu h,(zv_in hu h).1⟩
end Go.Proofs.YtnfbccfghgmfiaaGreat
end
section
namespace Go.Proofs.YtnfbccfghgmfiaaGreat
open Go Go.Lg Go.Lg.Fml Go.Lg.Fld Go.Lg.Arith
set_option maxRecDepth 100000
variable (X:Nat→Option Obj)
theorem eqN {b b':Bool} {M N:Int} (hM:In2 M) (hN:In2 N):(b==b'&&(M/18446744073709551616==N/18446744073709551616&&M%18446744073709551616==N%18446744073709551616))=decide (((b,M):Nm)=(b',N)):=by
  by_cases h:b=b'∧M=N
  · obtain ⟨rfl,rfl⟩:=h
    simp
  · rw [cJ (fun e=>h (by simpa using e))]
    cases hc:(b==b'&&(M/18446744073709551616==N/18446744073709551616&&M%18446744073709551616==N%18446744073709551616)) with
    | false=>rfl
    | true =>
      simp only [Bool.and_eq_true,beq_iff_eq] at hc
      exact absurd ⟨hc.1,by omega⟩ h
theorem eqZ {b:Bool} {M:Int} (hM:In2 M):(b==false&&(M/18446744073709551616==0&&M%18446744073709551616==0))=decide (((b,M):Nm)=(false,0)):=by
  have:=eqN (b:=b) (b':=false) hM (N:=0) (by show 0≤(0:Int)∧(0:Int)<_;omega)
  exact this
theorem cmp_lz {u v:Nm}:decide (cmpI (zz u) (zz v)<0)=decide (zz u<zz v)∧decide (0<cmpI (zz u) (zz v))=decide (zz v<zz u):=by
  unfold cmpI
  by_cases h:zz u<zz v
  · rw [if_pos h,cK h,cJ (show ¬ zz v<zz u by omega)]
    exact ⟨O,O⟩
  · rw [if_neg h,cJ h]
    by_cases h2:zz v<zz u
    · rw [if_pos h2,cK h2];exact ⟨rfl,rfl⟩
    · rw [if_neg h2,cJ h2];exact ⟨rfl,rfl⟩
end Go.Proofs.YtnfbccfghgmfiaaGreat
end
section
namespace Go.Proofs.YtnfbccfghgmfiaaGreat
open Go Go.Lg Go.Lg.Fml Go.Lg.Fld Go.Lg.Arith
set_option maxRecDepth 100000
variable (X:Nat→Option Obj)
def inssV (l:List Ins):List Value:=(l.map insV).flatten
theorem inssV_len (l:List Ins):((inssV l).map CV.val).length=l.length*6:=by
  unfold inssV
  rw [cR]
  induction l with
  | nil=>rfl
  | cons x t ih=>simp only [List.map_cons,List.flatten_cons,cQ,dD,ih,insV,List.length_nil];omega
theorem inssV_snoc (l:List Ins) (x:Ins) {cs:List CV} (h:cs=(insV x).map CV.val):(inssV l).map CV.val++cs=(inssV (l++[x])).map CV.val:=by
  unfold inssV
  rw [h,dC,List.flatten_append,dC]
  simp
theorem ins_in {Y:Nat→Option Obj} {blk:Nat} {arr:Array Value} {el:TypeId} {fr:Nat×Nat} {l:List Ins} (hY:Y blk=some (.cells arr el fr)) (hi:∀ x∈l,smallI x) (hsp:∃ sp,arr.toList=inssV l++sp):InsIn Y (some ⟨blk,0,none⟩) l:=
  ⟨rows_in hY (fun r hr=>by obtain ⟨x,_,rfl⟩:=List.mem_map.1 hr;rfl) hsp,hi⟩
end Go.Proofs.YtnfbccfghgmfiaaGreat
end
section
namespace Go.Proofs.YtnfbccfghgmfiaaGreat
open Go Go.Lg Go.Lg.Fml Go.Lg.Fld Go.Lg.Arith
set_option maxRecDepth 100000
variable (X:Nat→Option Obj)
abbrev LPg (va vb:Int) (ad:Option Addr) (n cap:Nat):LV:=.sv (.agg [.val (.int .i64 va),.val (.int .i64 vb),.val (.slice ad n cap)])
abbrev v3B (t:TypeId) (k:Nat) (a b:Int) (ad:Option Addr) (n cap:Nat):Nat×Option Box:=(k,some ⟨t,[.val (.int .i64 a),.val (.int .i64 b),.val (.slice ad n cap)],false⟩)
def lastR (rs:List Rl):Nat→Int
  | 0=>0
  | j+1=>match rs[j]? with
    | some r=>r.nw
    | none=>0
theorem lastR_at {rs:List Rl} {j:Nat} {r:Rl} (h:rs[j]? = some r):lastR rs (j+1)=r.nw:=by simp only [lastR,h]
theorem chkRs_cons {r:Rl} {last:Int} {t:List Rl}:chkRs last (r::t)=if chkR r last=0 then chkRs r.nw t else chkR r last:=rfl
theorem firstX_cons {c:List Ins} {t:List (List Ins)}:firstX (c::t)=if encErr c=0 then firstX t else encErr c:=rfl
theorem drop_at {α:Type} {l:List α} {i:Nat} {x:α} (h:l[i]? = some x):l.drop i=x::l.drop (i+1):=by
  obtain ⟨hi,e⟩:=List.getElem?_eq_some_iff.1 h
  rw [List.drop_eq_getElem_cons hi,e]
theorem chkP_bad {p:Pg} (h:¬(verOk p.va&&verOk p.vb)=true):chkP p=1:=if_neg h
theorem chkP_good {p:Pg} (h:(verOk p.va&&verOk p.vb)=true):chkP p=chkRs 0 p.rs:=if_pos h
theorem CodesIn.get {X:Nat→Option Obj} {ad:Option Addr} {cs:List (List Ins)} (h:CodesIn X ad cs) {i:Nat} {c:List Ins} (hc:cs[i]? = some c):∃ (blk off:Nat) (arr:Array Value) (el:TypeId) (fr:Nat×Nat) (vad:Option Addr) (vcap:Nat),ad=some ⟨blk,off,none⟩∧X blk=some (.cells arr el fr)∧arr[off+i*1]? = some (.slice vad c.length vcap)∧InsIn X vad c:=by
  obtain ⟨blk,off,arr,el,fr,vad,vcap,h1,h2,h3,h4,h5⟩:=h.at_ i c hc
  exact ⟨blk,off,arr,el,fr,vad,vcap,h1,h2,by rw [Nat.mul_one];exact h4,h5⟩
end Go.Proofs.YtnfbccfghgmfiaaGreat
end
section
namespace Go.Proofs.YtnfbccfghgmfiaaGreat
open Go Go.Lg Go.Lg.Fml Go.Lg.Fld Go.Lg.Arith Go.Lg.Sg
set_option maxRecDepth 100000
variable (X:Nat→Option Obj)
theorem truth_in2 (b:Bool):In2 (truth b).2:=by
  unfold truth In2
  cases b<;>decide
end Go.Proofs.YtnfbccfghgmfiaaGreat
end
section
namespace Go.Proofs.YtnfbccfghgmfiaaGreat
open Go Go.Lg Go.Lg.Fml Go.Lg.Fld Go.Lg.Arith
set_option maxRecDepth 100000
def exV:Except Int Nm→Nm
  | .ok v=>v
  | .error _=>(false,0)
def exE:Except Int Nm→Int
  | .ok _=>0
  | .error e=>e
theorem exR_eq (r:Except Int Nm):exR r = .tup [SI (exV r).1 (exV r).2,Sn .i64 (exE r)]:=by cases r<;>rfl
variable (X:Nat→Option Obj)
theorem addR_ex (z:Int):addR z=exR (if R127 z then Except.ok (qn z) else Except.error 3:Except Int Nm):=by
  by_cases h:R127 z
  · rw [addR_in h,if_pos h];rfl
  · rw [addR_out h,if_neg h];rfl
theorem wAdd_do (u v:Nm) (hu:In2 u.2) (hv:In2 v.2):PSpec Tryz.prog X 70 [LI u.1 u.2,LI v.1 v.2] (exR (doX 5 u v)):=by
  cases hg:(gd u&&gd v) with
  | false =>
    rw [doX_bad hg]
    exact Add_arg X u.1 v.1 u.2 v.2 hu hv hg
  | true =>
    obtain ⟨gu,gv⟩:=Bool.and_eq_true_iff.1 hg
    obtain ⟨e1,r1⟩:=gd_q gu hu
    obtain ⟨e2,r2⟩:=gd_q gv hv
    rw [e1,e2]
    unfold doX
    rw [hg,if_neg (by decide),if_neg (by omega),show arith 5 (zz u) (zz v)=zz u+zz v from rfl,← addR_ex]
    exact Add_q X (zz u) (zz v) r1 r2
theorem wSub_do (u v:Nm) (hu:In2 u.2) (hv:In2 v.2):PSpec Tryz.prog X 71 [LI u.1 u.2,LI v.1 v.2] (exR (doX 6 u v)):=by
  cases hg:(gd u&&gd v) with
  | false =>
    rw [doX_bad hg]
    exact Sub_arg X u.1 v.1 u.2 v.2 hu hv hg
  | true =>
    obtain ⟨gu,gv⟩:=Bool.and_eq_true_iff.1 hg
    obtain ⟨e1,r1⟩:=gd_q gu hu
    obtain ⟨e2,r2⟩:=gd_q gv hv
    rw [e1,e2]
    unfold doX
    rw [hg,if_neg (by decide),if_neg (by omega),show arith 6 (zz u) (zz v)=zz u-zz v from rfl,← addR_ex]
    exact Sub_q X (zz u) (zz v) r1 r2
theorem wMul_do (u v:Nm) (hu:In2 u.2) (hv:In2 v.2):PSpec Tryz.prog X 72 [LI u.1 u.2,LI v.1 v.2] (exR (doX 7 u v)):=by
  cases hg:(gd u&&gd v) with
  | false =>
    rw [doX_bad hg]
    exact Mul_arg X u.1 v.1 u.2 v.2 hu hv hg
  | true =>
    obtain ⟨gu,gv⟩:=Bool.and_eq_true_iff.1 hg
    obtain ⟨e1,r1⟩:=gd_q gu hu
    obtain ⟨e2,r2⟩:=gd_q gv hv
    rw [e1,e2]
    unfold doX
    rw [hg,if_neg (by decide),if_neg (by omega),show arith 7 (zz u) (zz v)=zz u*zz v from rfl,← addR_ex]
    exact Mul_q X (zz u) (zz v) r1 r2
theorem wQuo_do (u v:Nm) (hu:In2 u.2) (hv:In2 v.2):PSpec Tryz.prog X 73 [LI u.1 u.2,LI v.1 v.2] (exR (doX 8 u v)):=by
  cases hg:(gd u&&gd v) with
  | false =>
    rw [doX_bad hg]
    exact Quo_arg X u.1 v.1 u.2 v.2 hu hv (by rw [show (formB u.1 u.2&&formB v.1 v.2)=false from hg];rfl)
  | true =>
    obtain ⟨gu,gv⟩:=Bool.and_eq_true_iff.1 hg
    obtain ⟨e1,r1⟩:=gd_q gu hu
    obtain ⟨e2,r2⟩:=gd_q gv hv
    by_cases h0:zz v=0
    · have hv0:v.2=0:=by
        have h1:zv v.1 v.2=0:=h0
        have h2:=hv
        unfold zv at h1
        unfold In2 at h2
        split at h1<;>omega
      rw [show doX 8 u v = .error 1 by unfold doX;rw [hg,if_neg (by decide),if_pos ⟨by decide,h0⟩]]
      exact Quo_arg X u.1 v.1 u.2 v.2 hu hv (by rw [hv0];simp)
    · have hq:=(parts_facts r1 r2 h0).1
      rw [e1,e2]
      unfold doX
      rw [hg,if_neg (by decide),if_neg (fun h=>h0 h.2),show arith 8 (zz u) (zz v)=(zz u).tdiv (zz v) from rfl,if_pos hq]
      exact Quo_q X (zz u) (zz v) r1 r2 h0
theorem wRem_do (u v:Nm) (hu:In2 u.2) (hv:In2 v.2):PSpec Tryz.prog X 74 [LI u.1 u.2,LI v.1 v.2] (exR (doX 9 u v)):=by
  cases hg:(gd u&&gd v) with
  | false =>
    rw [doX_bad hg]
    exact Rem_arg X u.1 v.1 u.2 v.2 hu hv (by rw [show (formB u.1 u.2&&formB v.1 v.2)=false from hg];rfl)
  | true =>
    obtain ⟨gu,gv⟩:=Bool.and_eq_true_iff.1 hg
    obtain ⟨e1,r1⟩:=gd_q gu hu
    obtain ⟨e2,r2⟩:=gd_q gv hv
    by_cases h0:zz v=0
    · have hv0:v.2=0:=by
        have h1:zv v.1 v.2=0:=h0
        have h2:=hv
        unfold zv at h1
        unfold In2 at h2
        split at h1<;>omega
      rw [show doX 9 u v = .error 1 by unfold doX;rw [hg,if_neg (by decide),if_pos ⟨by decide,h0⟩]]
      exact Rem_arg X u.1 v.1 u.2 v.2 hu hv (by rw [hv0];simp)
    · have hq:=(parts_facts r1 r2 h0).2.1
      rw [e1,e2]
      unfold doX
      rw [hg,if_neg (by decide),if_neg (fun h=>h0 h.2),show arith 9 (zz u) (zz v)=(zz u).tmod (zz v) from rfl,if_pos hq]
      exact Rem_q X (zz u) (zz v) r1 r2 h0
def truX (x y:Nm) (b:Bool):Except Int Nm:=if (gd x&&gd y)=false then .error 1 else .ok (truth b)
def sameX (x y:Nm):Except Int Nm:=truX x y (decide (x=y))
def lessX (x y:Nm):Except Int Nm:=truX x y (decide (zz x<zz y))
def pickX (x y z:Nm):Except Int Nm:=if gd x=false then .error 1 else .ok (if x=(false,0) then z else y)
def needX (x y:Nm):Except Int Nm:=if gd y=false then .error 1 else if y=(false,0) then .error 9 else .ok x
theorem tForm (x:Nm) (hx:In2 x.2) (r:Bool) (h:gd x=r):PSpec Tryz.prog X 37 [LI x.1 x.2] (Lb r):=Form_spec X _ _ hx r h
theorem tTruth (x y:Nm) (hx:In2 x.2) (hy:In2 y.2) (b:Bool):PSpec Tryz.prog X 108 [LI x.1 x.2,LI y.1 y.2,Lb b] (exR (truX x y b)):=by
  cases h1:gd x with
  | false =>
    have f1:=tForm X x hx false h1
    rw [show truX x y b = .error 1 by unfold truX;rw [h1];rfl]
    refine cB Tryz.func108 rfl (by kernel_rfl) rfl rfl ?_
    intro C
    (refine aA<|rgN<|aL O O O dM<|aL O O O dM<|aP O dM ?_;refine kas O<|aB<|aA<|aG<|aA<|rgN<|aK O O O dM ?_;refine kca O O f1<|aV O O dM<|kmv O<|aC O O O<|aC O O O<|aC O O O<|kpt O O<|kas O<|aB<|aE O ?_;refine aA<|rgN<|aT O O (by exact O) (by exact nl3 O O O O) dM ?_;refine aM O O O O O O dM ?_;refine kas O<|aB<|aI ?_)
    exact ⟨[_,_],⟨⟨_,_,O,O,O,.inl ⟨AggT.h,O⟩⟩,O,trivial⟩,O⟩
  | true =>
  have f1:=tForm X x hx true h1
  cases h2:gd y with
  | false =>
    have f2:=tForm X y hy false h2
    rw [show truX x y b = .error 1 by unfold truX;rw [h1,h2];rfl]
    refine cB Tryz.func108 rfl (by kernel_rfl) rfl rfl ?_
    intro C
    (refine aA<|rgN<|aL O O O dM<|aL O O O dM<|aP O dM ?_;refine kas O<|aB<|aA<|aG<|aA<|rgN<|aK O O O dM ?_;refine kca O O f1<|aV O O dM<|kmv O<|aK O O O (dN O O) ?_;refine gca O O f2 O O<|aV O O (dN O O) ?_;refine kpf O O<|kas O<|aB<|aE O ?_;refine aA<|rgN<|aT O O (by exact O) (by exact nl3 O O O O) dM ?_;refine aM O O O O O O dM ?_;refine kas O<|aB<|aI ?_)
    exact ⟨[_,_],⟨⟨_,_,O,O,O,.inl ⟨AggT.h,O⟩⟩,O,trivial⟩,O⟩
  | true =>
  have f2:=tForm X y hy true h2
  rw [show truX x y b = .ok (truth b) by unfold truX;rw [h1,h2];rfl]
  cases b with
  | true =>
    have hO:=Of_spec X 1 (by omega)
    refine cB Tryz.func108 rfl (by kernel_rfl) rfl rfl ?_
    intro C
    (refine aA<|rgN<|aL O O O dM<|aL O O O dM<|aP O dM ?_;refine kas O<|aB<|aA<|aG<|aA<|rgN<|aK O O O dM ?_;refine kca O O f1<|aV O O dM<|kmv O<|aK O O O (dN O O) ?_;refine gca O O f2 O O<|aV O O (dN O O) ?_;refine kpf O O<|kas O<|aB<|aF O ?_;refine aA<|rgN<|kmv O<|kas O<|aB<|aE O ?_;refine aA<|rgN<|kca O O (hO)<|aM O O O O O O dM ?_;refine kas O<|aB<|aI ?_)
    exact ⟨[_,_],⟨⟨_,_,O,O,O,.inl ⟨AggT.h,O⟩⟩,O,trivial⟩,O⟩
  | false =>
    have hO:=Of_spec X 0 (by omega)
    refine cB Tryz.func108 rfl (by kernel_rfl) rfl rfl ?_
    intro C
    (refine aA<|rgN<|aL O O O dM<|aL O O O dM<|aP O dM ?_;refine kas O<|aB<|aA<|aG<|aA<|rgN<|aK O O O dM ?_;refine kca O O f1<|aV O O dM<|kmv O<|aK O O O (dN O O) ?_;refine gca O O f2 O O<|aV O O (dN O O) ?_;refine kpf O O<|kas O<|aB<|aF O ?_;refine aA<|rgN<|kmv O<|kas O<|aB<|aF O ?_;refine aH ?_;refine aA<|rgN<|kca O O (hO)<|aM O O O O O O dM ?_;refine kas O<|aB<|aI ?_)
    exact ⟨[_,_],⟨⟨_,_,O,O,O,.inl ⟨AggT.h,O⟩⟩,O,trivial⟩,O⟩
theorem tSame (x y:Nm) (hx:In2 x.2) (hy:In2 y.2):PSpec Tryz.prog X 80 [LI x.1 x.2,LI y.1 y.2] (exR (sameX x y)):=by
  have q:=eqI (b:=x.1) (b':=y.1) (h:=x.2/18446744073709551616) (h':=y.2/18446744073709551616) (l:=x.2%18446744073709551616) (l':=y.2%18446744073709551616) _ (eqN hx hy)
  unfold sameX
  have hT:=tTruth X x y hx hy (decide (x=y))
  rw [show decide (((x.1,x.2):Nm)=(y.1,y.2))=decide (x=y) from rfl] at q
  generalize decide (x=y)=z at *
  rw [exR_eq] at hT ⊢
  generalize exE (truX x y z)=e at *
  generalize exV (truX x y z)=v at *
  obtain ⟨vb,vN⟩:=v
  refine cB Tryz.func80 rfl (by kernel_rfl) rfl rfl ?_
  intro C
  (refine aA<|rgN<|aL O O O dM<|aL O O O dM<|aP O dM ?_;refine kas O<|aB<|aA<|rgD mixed<|aK O O O dM ?_;refine aK O O O dM ?_;refine aK O O O dM ?_;refine aK O O O dM ?_;refine bP O O O O (by kernel_rfl) q (.inl ⟨O,O⟩) dM<|kca O O (hT)<|kex O O<|kex O O<|aM O O O O O O dM ?_;refine kas O<|aB<|rgA ?_;refine aI ?_)
  exact ⟨[_,_],⟨⟨_,_,O,O,O,.inl ⟨AggT.h,O⟩⟩,O,trivial⟩,O⟩
theorem tCmp (x y:Nm) (hx:In2 x.2) (hy:In2 y.2):∃ r:Int,PSpec Tryz.prog X 109 [LI x.1 x.2,LI y.1 y.2] (Ln .i64 r)∧((gd x&&gd y)=true→decide (r<0)=decide (zz x<zz y)):=by
  cases h:(gd x&&gd y) with
  | false=>exact ⟨0,Cmp_bad X _ _ _ _ hx hy h,fun h'=>by cases h'⟩
  | true =>
    obtain ⟨gx,gy⟩:=Bool.and_eq_true_iff.1 h
    obtain ⟨e1,r1⟩:=gd_q gx hx
    obtain ⟨e2,r2⟩:=gd_q gy hy
    refine ⟨cmpI (zz x) (zz y),?_,fun _=>(cmp_lz (u:=x) (v:=y)).1⟩
    rw [e1,e2]
    exact Cmp_q X _ _ r1 r2 _ O
theorem tLess (x y:Nm) (hx:In2 x.2) (hy:In2 y.2):PSpec Tryz.prog X 78 [LI x.1 x.2,LI y.1 y.2] (exR (lessX x y)):=by
  obtain ⟨r,hC,hr⟩:=tCmp X x y hx hy
  have hT:=tTruth X x y hx hy (decide (r<0))
  have e:truX x y (decide (r<0))=lessX x y:=by
    unfold lessX
    cases h:(gd x&&gd y) with
    | false=>unfold truX;rw [h];rfl
    | true=>rw [hr h]
  rw [e] at hT
  rw [exR_eq] at hT ⊢
  generalize exE (lessX x y)=e at *
  generalize exV (lessX x y)=v at *
  obtain ⟨vb,vN⟩:=v
  refine cB Tryz.func78 rfl (by kernel_rfl) rfl rfl ?_
  intro C
  (refine aA<|rgN<|aL O O O dM<|aL O O O dM<|aP O dM ?_;refine kas O<|aB<|aA<|rgD mixed<|aK O O O dM ?_;refine aK O O O dM ?_;refine aK O O O dM ?_;refine aK O O O dM ?_;refine kca O O (hC)<|klt O O O<|kca O O (hT)<|kex O O<|kex O O<|aM O O O O O O dM ?_;refine kas O<|aB<|rgA ?_;refine aI ?_)
  exact ⟨[_,_],⟨⟨_,_,O,O,O,.inl ⟨AggT.h,O⟩⟩,O,trivial⟩,O⟩
theorem sgn_qn {x:Nm} (hx:In2 x.2) (g:gd x=true):sgnI (zz x)=0↔x=(false,0):=by
  obtain ⟨e1,r1⟩:=gd_q g hx
  have h:=eqZ (b:=x.1) hx
  obtain ⟨b,N⟩:=x
  unfold In2 at hx
  unfold gd formB at g
  unfold sgnI zz zv at *
  simp only at *
  constructor
  · intro h0
    have hN:N=0:=by
      cases b<;>simp only [Bool.false_eq_true,if_false,if_true] at h0<;>(repeat' split at h0)<;>omega
    subst hN
    cases b with
    | false=>rfl
    | true=>simp at g
  · intro e
    cases e
    rfl
theorem tSign (x:Nm) (hx:In2 x.2) (g:gd x=true):∃ s:Int,PSpec Tryz.prog X 112 [LI x.1 x.2] (Ln .i64 s)∧(s=0↔x=(false,0)):=by
  obtain ⟨e1,r1⟩:=gd_q g hx
  exact ⟨sgnI (zz x),by rw [e1];exact Sign_q X _ r1 _ rfl,sgn_qn hx g⟩
theorem tPick (x y z:Nm) (hx:In2 x.2):PSpec Tryz.prog X 82 [LI x.1 x.2,LI y.1 y.2,LI z.1 z.2] (exR (pickX x y z)):=by
  cases h1:gd x with
  | false =>
    have f1:=tForm X x hx false h1
    rw [show pickX x y z = .error 1 by unfold pickX;rw [h1];rfl]
    refine cB Tryz.func82 rfl (by kernel_rfl) rfl rfl ?_
    intro C
    (refine aA<|rgN<|aL O O O dM<|aL O O O dM<|aL O O O dM<|aP O dM ?_;refine kas O<|aB<|aA<|aG<|aA<|rgN<|aK O O O dM ?_;refine kca O O (f1)<|aV O O dM<|kas O<|aB<|aE O ?_;refine aA<|rgN<|aT O O (by exact O) (by exact nl3 O O O O) dM ?_;refine aM O O O O O O dM ?_;refine kas O<|aB<|aI ?_)
    exact ⟨[_,_],⟨⟨_,_,O,O,O,.inl ⟨AggT.h,O⟩⟩,O,trivial⟩,O⟩
  | true =>
  have f1:=tForm X x hx true h1
  obtain ⟨s,hS,hs⟩:=tSign X x hx h1
  by_cases c:x=(false,0)
  · rw [show pickX x y z = .ok z by unfold pickX;rw [h1,if_neg (by decide),if_pos c]]
    have c:=hs.2 c
    subst c
    refine cB Tryz.func82 rfl (by kernel_rfl) rfl rfl ?_
    intro C
    (refine aA<|rgN<|aL O O O dM<|aL O O O dM<|aL O O O dM<|aP O dM ?_;refine kas O<|aB<|aA<|aG<|aA<|rgN<|aK O O O dM ?_;refine kca O O (f1)<|aV O O dM<|kas O<|aB<|aF O ?_;refine aA<|rgN<|aK O O O dM ?_;refine kca O O (hS)<|kne O O (r:=false) O<|kas O<|aB<|aF O ?_;refine aH ?_;refine aA<|rgN<|aK O O O dM ?_;refine aM O O O O O O dM ?_;refine kas O<|aB<|aI ?_)
    exact ⟨[_,_],⟨⟨_,_,O,O,O,.inl ⟨AggT.h,O⟩⟩,O,trivial⟩,O⟩
  · rw [show pickX x y z = .ok y by unfold pickX;rw [h1,if_neg (by decide),if_neg c]]
    have c:s≠0:=fun h=>c (hs.1 h)
    refine cB Tryz.func82 rfl (by kernel_rfl) rfl rfl ?_
    intro C
    (refine aA<|rgN<|aL O O O dM<|aL O O O dM<|aL O O O dM<|aP O dM ?_;refine kas O<|aB<|aA<|aG<|aA<|rgN<|aK O O O dM ?_;refine kca O O (f1)<|aV O O dM<|kas O<|aB<|aF O ?_;refine aA<|rgN<|aK O O O dM ?_;refine kca O O (hS)<|kne O O (r:=true) (cO c)<|kas O<|aB<|aE O ?_;refine aA<|rgN<|aK O O O dM ?_;refine aM O O O O O O dM ?_;refine kas O<|aB<|aI ?_)
    exact ⟨[_,_],⟨⟨_,_,O,O,O,.inl ⟨AggT.h,O⟩⟩,O,trivial⟩,O⟩
theorem tNeed (x y:Nm) (hy:In2 y.2):PSpec Tryz.prog X 83 [LI x.1 x.2,LI y.1 y.2] (exR (needX x y)):=by
  cases h1:gd y with
  | false =>
    have f1:=tForm X y hy false h1
    rw [show needX x y = .error 1 by unfold needX;rw [h1];rfl]
    refine cB Tryz.func83 rfl (by kernel_rfl) rfl rfl ?_
    intro C
    (refine aA<|rgN<|aL O O O dM<|aL O O O dM<|aP O dM ?_;refine kas O<|aB<|aA<|aG<|aA<|rgN<|aK O O O dM ?_;refine kca O O (f1)<|aV O O dM<|kas O<|aB<|aE O ?_;refine aA<|rgN<|aT O O (by exact O) (by exact nl3 O O O O) dM ?_;refine aM O O O O O O dM ?_;refine kas O<|aB<|aI ?_)
    exact ⟨[_,_],⟨⟨_,_,O,O,O,.inl ⟨AggT.h,O⟩⟩,O,trivial⟩,O⟩
  | true =>
  have f1:=tForm X y hy true h1
  obtain ⟨s,hS,hs⟩:=tSign X y hy h1
  by_cases c:y=(false,0)
  · rw [show needX x y = .error 9 by unfold needX;rw [h1,if_neg (by decide),if_pos c]]
    have c:=hs.2 c
    subst c
    refine cB Tryz.func83 rfl (by kernel_rfl) rfl rfl ?_
    intro C
    (refine aA<|rgN<|aL O O O dM<|aL O O O dM<|aP O dM ?_;refine kas O<|aB<|aA<|aG<|aA<|rgN<|aK O O O dM ?_;refine kca O O (f1)<|aV O O dM<|kas O<|aB<|aF O ?_;refine aA<|rgN<|aK O O O dM ?_;refine kca O O (hS)<|keq O O (r:=true) O<|kas O<|aB<|aE O ?_;refine aA<|rgN<|aT O O (by exact O) (by exact nl3 O O O O) dM ?_;refine aM O O O O O O dM ?_;refine kas O<|aB<|aI ?_)
    exact ⟨[_,_],⟨⟨_,_,O,O,O,.inl ⟨AggT.h,O⟩⟩,O,trivial⟩,O⟩
  · rw [show needX x y = .ok x by unfold needX;rw [h1,if_neg (by decide),if_neg c]]
    have c:s≠0:=fun h=>c (hs.1 h)
    refine cB Tryz.func83 rfl (by kernel_rfl) rfl rfl ?_
    intro C
    (refine aA<|rgN<|aL O O O dM<|aL O O O dM<|aP O dM ?_;refine kas O<|aB<|aA<|aG<|aA<|rgN<|aK O O O dM ?_;refine kca O O (f1)<|aV O O dM<|kas O<|aB<|aF O ?_;refine aA<|rgN<|aK O O O dM ?_;refine kca O O (hS)<|keq O O (r:=false) (cM c)<|kas O<|aB<|aF O ?_;refine aH ?_;refine aA<|rgN<|aK O O O dM ?_;refine aM O O O O O O dM ?_;refine kas O<|aB<|aI ?_)
    exact ⟨[_,_],⟨⟨_,_,O,O,O,.inl ⟨AggT.h,O⟩⟩,O,trivial⟩,O⟩
end Go.Proofs.YtnfbccfghgmfiaaGreat
end
section
namespace Go.Proofs.YtnfbccfghgmfiaaGreat
open Go Go.Lg Go.Lg.Fml Go.Lg.Fld Go.Lg.Arith
set_option maxRecDepth 100000
def MoreM (X Y:Nat→Option Obj):Prop := ∀ b o,X b=some o→Y b=some o
theorem MoreM.refl (X:Nat→Option Obj):MoreM X X:=fun _ _ h=>h
theorem MoreM.trans {X Y Z:Nat→Option Obj} (h:MoreM X Y) (h':MoreM Y Z):MoreM X Z:=fun b o hb=>h' b o (h b o hb)
abbrev capL (caps:List Value):List LV:=caps.map fun v=>.sv (.one (.val v))
def OneV (Y:Nat→Option Obj) (v:Value) (F:Nm→Except Int Nm):Prop := ∃ (f:FuncId) (caps:List Value),v = .func (.func f) #[] caps.toArray∧∀ Z,MoreM Y Z→∀ x:Nm,In2 x.2→PSpec Tryz.prog Z f ([LI x.1 x.2]++capL caps) (exR (F x))
def TwoV (Y:Nat→Option Obj) (v:Value) (F:Nm→Nm→Except Int Nm):Prop := ∃ (f:FuncId) (caps:List Value),v = .func (.func f) #[] caps.toArray∧∀ Z,MoreM Y Z→∀ x y:Nm,In2 x.2→In2 y.2→PSpec Tryz.prog Z f ([LI x.1 x.2,LI y.1 y.2]++capL caps) (exR (F x y))
def ThreeV (Y:Nat→Option Obj) (v:Value) (F:Nm→Nm→Nm→Except Int Nm):Prop := ∃ (f:FuncId) (caps:List Value),v = .func (.func f) #[] caps.toArray∧∀ Z,MoreM Y Z→∀ x y z:Nm,In2 x.2→In2 y.2→In2 z.2→PSpec Tryz.prog Z f ([LI x.1 x.2,LI y.1 y.2,LI z.1 z.2]++capL caps) (exR (F x y z))
structure EnvIn (Z:Nat→Option Obj) (fad:Option Addr) (fs:List (List Nm)) (at_:Int):Prop where
  fss:FssIn Z fad fs
  len:fs.length<4611686018427387904
  rows:∀ r∈fs,r.length<4611686018427387904
  place : -9223372036854775808≤at_∧at_<9223372036854775808
def DeedV (Y:Nat→Option Obj) (v:Value) (op:Int):Prop := ∃ (f:FuncId) (caps:List Value),v = .func (.func f) #[] caps.toArray∧∀ Z,MoreM Y Z→∀ x:Ins,x.op=op→smallI x→∀ (fad:Option Addr) (fcap:Nat) (fs:List (List Nm)) (at_:Int),EnvIn Z fad fs at_ →
  ∀ (tad:Option Addr) (tcap:Nat) (ts:List Nm),NumsIn Z tad ts→ts.length=takes op→PSpec Tryz.prog Z f ([LIn x,LEnv fad fs.length fcap at_,Lx tad ts.length tcap]++capL caps) (exR (oneX fs at_ x ts))
theorem DeedV.mono {Y Z:Nat→Option Obj} (h:MoreM Y Z) {v:Value} {op:Int} (hv:DeedV Y v op):DeedV Z v op:=by
  obtain ⟨f,caps,e,hp⟩:=hv
  exact ⟨f,caps,e,fun W hW=>hp W (h.trans hW)⟩
theorem two_fn (Y:Nat→Option Obj) {f:FuncId} {F:Nm→Nm→Except Int Nm} (h:∀ (Z:Nat→Option Obj) (x y:Nm),In2 x.2→In2 y.2→PSpec Tryz.prog Z f [LI x.1 x.2,LI y.1 y.2] (exR (F x y))):TwoV Y (.func (.func f) #[] #[]) F:=⟨f,[],rfl,fun Z _ x y hx hy=>h Z x y hx hy⟩
theorem three_fn (Y:Nat→Option Obj) {f:FuncId} {F:Nm→Nm→Nm→Except Int Nm} (h:∀ (Z:Nat→Option Obj) (x y z:Nm),In2 x.2→In2 y.2→In2 z.2→PSpec Tryz.prog Z f [LI x.1 x.2,LI y.1 y.2,LI z.1 z.2] (exR (F x y z))):ThreeV Y (.func (.func f) #[] #[]) F:=⟨f,[],rfl,fun Z _ x y z hx hy hz=>h Z x y z hx hy hz⟩
abbrev pv (blk:Nat):Value:=.pointer (some ⟨blk,0,none⟩)
section
variable {Y:Nat→Option Obj} {blk:Nat} {arr:Array Value} {el:TypeId} {fr:Nat×Nat} {v:Value}
theorem two_swapped {F:Nm→Nm→Except Int Nm} (hY:Y blk=some (.cells arr el fr)) (hv:arr[0]? = some v) (hF:TwoV Y v F):TwoV Y (.func (.func 110) #[] #[pv blk]) (fun x y=>F y x):=by
  obtain ⟨f,caps,rfl,hF⟩:=hF
  refine ⟨110,[pv blk],O,fun Z hZ x y hx hy => ?_⟩
  have hP:=hF Z hZ y x hy hx
  have hX:=hZ _ _ hY
  show PSpec _ Z _ [LI x.1 x.2,LI y.1 y.2,.sv (.one (.val (pv blk)))] (exR (F y x))
  rw [exR_eq] at hP ⊢
  generalize exE (F y x)=e at *
  generalize exV (F y x)=v at *
  obtain ⟨vb,vN⟩:=v
  refine cB Tryz.func110 rfl (by kernel_rfl) rfl rfl ?_
  intro C
  (refine aA<|rgN<|aL O O O dM<|aL O O O dM<|aP O dM ?_;refine kas O<|aB<|aA<|rgN<|aW O hX O hv dM<|aK O O O dM ?_;refine aK O O O dM ?_;refine K.callF O O O hP dM ?_;refine kex O O<|kex O O<|aM O O O O O O dM ?_;refine kas O<|aB<|aI ?_)
  exact ⟨[_,_],⟨⟨_,_,O,O,O,.inl ⟨AggT.h,O⟩⟩,O,trivial⟩,O⟩
def choX (G:Nm→Nm→Except Int Nm) (x y:Nm):Except Int Nm:=match G x y with | .error e=>.error e | .ok a=>pickX a x y
theorem two_chosen {F:Nm→Nm→Except Int Nm} (hY:Y blk=some (.cells arr el fr)) (hv:arr[0]? = some v) (hF:TwoV Y v F) (h2:∀ x y a,F x y = .ok a→In2 a.2) (hz:∀ x y e,F x y = .error e→e≠0):TwoV Y (.func (.func 107) #[] #[pv blk]) (choX F):=by
  obtain ⟨f,caps,rfl,hF⟩:=hF
  refine ⟨107,[pv blk],O,fun Z hZ x y hx hy => ?_⟩
  have hP:=hF Z hZ x y hx hy
  have hX:=hZ _ _ hY
  show PSpec _ Z _ [LI x.1 x.2,LI y.1 y.2,.sv (.one (.val (pv blk)))] (exR (choX F x y))
  unfold choX
  cases hf:F x y with
  | error e =>
    have he:=hz x y e hf
    rw [hf] at hP
    show PSpec _ Z _ _ (.tup [S0,Sn .i64 e])
    have hP:PSpec Tryz.prog Z f ([LI x.1 x.2,LI y.1 y.2]++capL caps) (.tup [S0,Sn .i64 e]):=hP
    refine cB Tryz.func107 rfl (by kernel_rfl) rfl rfl ?_
    intro C
    (refine aA<|rgN<|aL O O O dM<|aL O O O dM<|aP O dM ?_;refine kas O<|aB<|aA<|rgN<|aW O hX O hv dM<|aK O O O dM ?_;refine aK O O O dM ?_;refine K.callF O O O hP dM ?_;refine kmv O<|kex O O<|kex O O<|aP O dM ?_;refine aM O O O O O O dM ?_;refine kas O<|aB<|aA<|aA<|rgN<|kmv O<|kne O O (r:=true) (cO he)<|aB<|aE O ?_;refine aA<|rgN<|aT O O (by exact O) (by exact nl3 O O O O) dM ?_;refine kmv O<|aM O O O O O O dM ?_;refine kas O<|aB<|aI ?_)
    exact ⟨[_,_],⟨⟨_,_,O,O,O,.inl ⟨AggT.h,O⟩⟩,O,trivial⟩,O⟩
  | ok a =>
    have ha:=h2 x y a hf
    rw [hf] at hP
    have hP:PSpec Tryz.prog Z f ([LI x.1 x.2,LI y.1 y.2]++capL caps) (.tup [SI a.1 a.2,Sn .i64 0]):=hP
    have hK:=tPick Z a x y ha
    show PSpec _ Z _ _ (exR (pickX a x y))
    rw [exR_eq] at hK ⊢
    generalize exE (pickX a x y)=e at *
    generalize exV (pickX a x y)=v at *
    obtain ⟨vb,vN⟩:=v
    refine cB Tryz.func107 rfl (by kernel_rfl) rfl rfl ?_
    intro C
    (refine aA<|rgN<|aL O O O dM<|aL O O O dM<|aP O dM ?_;refine kas O<|aB<|aA<|rgN<|aW O hX O hv dM<|aK O O O dM ?_;refine aK O O O dM ?_;refine K.callF O O O hP dM ?_;refine kmv O<|kex O O<|kex O O<|aP O dM ?_;refine aM O O O O O O dM ?_;refine kas O<|aB<|aA<|aA<|rgN<|kmv O<|kne O O (r:=false) O<|aB<|aF O ?_;refine aH ?_;refine aA<|rgN<|aK O O O dM ?_;refine aK O O O dM ?_;refine aK O O O dM ?_;refine kca O O (hK)<|kex O O<|kex O O<|aM O O O O O O dM ?_;refine kas O<|aB<|aI ?_)
    exact ⟨[_,_],⟨⟨_,_,O,O,O,.inl ⟨AggT.h,O⟩⟩,O,trivial⟩,O⟩
theorem one_zero {F:Nm→Nm→Except Int Nm} (hY:Y blk=some (.cells arr el fr)) (hv:arr[0]? = some v) (hF:TwoV Y v F):OneV Y (.func (.func 106) #[] #[pv blk]) (fun x=>F (false,0) x):=by
  obtain ⟨f,caps,rfl,hF⟩:=hF
  refine ⟨106,[pv blk],O,fun Z hZ x hx => ?_⟩
  have hP:PSpec Tryz.prog Z f ([.sv S0,LI x.1 x.2]++capL caps) (exR (F (false,0) x)):=hF Z hZ (false,0) x ⟨by decide,by decide⟩ hx
  have hX:=hZ _ _ hY
  show PSpec _ Z _ [LI x.1 x.2,.sv (.one (.val (pv blk)))] (exR (F (false,0) x))
  rw [exR_eq] at hP ⊢
  generalize exE (F (false,0) x)=e at *
  generalize exV (F (false,0) x)=v at *
  obtain ⟨vb,vN⟩:=v
  refine cB Tryz.func106 rfl (by kernel_rfl) rfl rfl ?_
  intro C
  (refine aA<|rgN<|aL O O O dM<|aP O dM ?_;refine kas O<|aB<|aA<|rgN<|aW O hX O hv dM<|aT O O (by exact O) (by exact nl3 O O O O) dM ?_;refine aK O O O dM ?_;refine K.callF O O O hP dM ?_;refine kex O O<|kex O O<|aM O O O O O O dM ?_;refine kas O<|aB<|aI ?_)
  exact ⟨[_,_],⟨⟨_,_,O,O,O,.inl ⟨AggT.h,O⟩⟩,O,trivial⟩,O⟩
theorem deed_one {op:Int} {F:Nm→Except Int Nm} (ht:takes op=1) (hY:Y blk=some (.cells arr el fr)) (hv:arr[0]? = some v) (hF:OneV Y v F) (hop:∀ u,In2 u.2→nodeX op [u]=F u):DeedV Y (.func (.func 105) #[] #[pv blk]) op:=by
  obtain ⟨f,caps,rfl,hF⟩:=hF
  refine ⟨105,[pv blk],O,fun Z hZ x hxo hx fad fcap fs at_ hE tad tcap ts hts hlen => ?_⟩
  rw [ht] at hlen
  match ts,hlen,hts with
  | [u],_,hts =>
  have e1:oneX fs at_ x [u]=F u:=by unfold oneX;rw [hxo,if_neg (by rw [ht];decide),hop u (hts.in2 _ (by simp))]
  rw [e1]
  obtain ⟨tb,tof,ta,te,tf,rfl,hT,hall⟩:=hts.all (by show 0<1;omega)
  obtain ⟨i0,s0,c0⟩:=hall 0 _ _ rfl
  have h0:tof+Int.toNat 0*3=tof+0*3:=rfl
  have hb0:0≤(0:Int)∧(0:Int)<(1:Nat):=by omega
  have hP:=hF Z hZ u i0
  have hX:=hZ _ _ hY
  show PSpec _ Z _ [LIn x,LEnv fad fs.length fcap at_,Lx (some ⟨tb,tof,none⟩) 1 tcap,.sv (.one (.val (pv blk)))] (exR (F u))
  rw [exR_eq] at hP ⊢
  generalize exE (F u)=e at *
  generalize exV (F u)=v at *
  obtain ⟨vb,vN⟩:=v
  refine cB Tryz.func105 rfl (by kernel_rfl) rfl rfl ?_
  intro C
  (refine aA<|rgN<|aL O O O dM<|aL O O O dM<|aP O dM ?_;refine kas O<|aB<|aA<|rgD mixed<|aW O hX O hv dM<|kmv O<|aR O O bY hb0 h0 dM<|aY O hT (by kernel_rfl) s0 c0 dM<|K.callF O O O hP dM ?_;refine kex O O<|kex O O<|aM O O O O O O dM ?_;refine kas O<|aB<|rgA ?_;refine aI ?_)
  exact ⟨[_,_],⟨⟨_,_,O,O,O,.inl ⟨AggT.h,O⟩⟩,O,trivial⟩,O⟩
theorem deed_two {op:Int} {F:Nm→Nm→Except Int Nm} (ht:takes op=2) (hY:Y blk=some (.cells arr el fr)) (hv:arr[0]? = some v) (hF:TwoV Y v F) (hop:∀ u w,In2 u.2→In2 w.2→nodeX op [u,w]=F u w):DeedV Y (.func (.func 94) #[] #[pv blk]) op:=by
  obtain ⟨f,caps,rfl,hF⟩:=hF
  refine ⟨94,[pv blk],O,fun Z hZ x hxo hx fad fcap fs at_ hE tad tcap ts hts hlen => ?_⟩
  rw [ht] at hlen
  match ts,hlen,hts with
  | [u,z],_,hts =>
  have e1:oneX fs at_ x [u,z]=F u z:=by unfold oneX;rw [hxo,if_neg (by rw [ht];decide),hop u z (hts.in2 _ (by simp)) (hts.in2 _ (by simp))]
  rw [e1]
  obtain ⟨tb,tof,ta,te,tf,rfl,hT,hall⟩:=hts.all (by show 0<2;omega)
  obtain ⟨i0,s0,c0⟩:=hall 0 _ _ rfl
  have h0:tof+Int.toNat 0*3=tof+0*3:=rfl
  have hb0:0≤(0:Int)∧(0:Int)<(2:Nat):=by omega
  obtain ⟨i1,s1,c1⟩:=hall 1 _ _ rfl
  have h1:tof+Int.toNat 1*3=tof+1*3:=rfl
  have hb1:0≤(1:Int)∧(1:Int)<(2:Nat):=by omega
  have hP:=hF Z hZ u z i0 i1
  have hX:=hZ _ _ hY
  show PSpec _ Z _ [LIn x,LEnv fad fs.length fcap at_,Lx (some ⟨tb,tof,none⟩) 2 tcap,.sv (.one (.val (pv blk)))] (exR (F u z))
  rw [exR_eq] at hP ⊢
  generalize exE (F u z)=e at *
  generalize exV (F u z)=v at *
  obtain ⟨vb,vN⟩:=v
  refine cB Tryz.func94 rfl (by kernel_rfl) rfl rfl ?_
  intro C
  (refine aA<|rgN<|aL O O O dM<|aL O O O dM<|aP O dM ?_;refine kas O<|aB<|aA<|rgD mixed<|aW O hX O hv dM<|kmv O<|aR O O bY hb0 h0 dM<|aY O hT (by kernel_rfl) s0 c0 dM<|kmv O<|aR O O bY hb1 h1 dM<|aY O hT (by kernel_rfl) s1 c1 dM<|K.callF O O O hP dM ?_;refine kex O O<|kex O O<|aM O O O O O O dM ?_;refine kas O<|aB<|rgA ?_;refine aI ?_)
  exact ⟨[_,_],⟨⟨_,_,O,O,O,.inl ⟨AggT.h,O⟩⟩,O,trivial⟩,O⟩
theorem deed_three {op:Int} {F:Nm→Nm→Nm→Except Int Nm} (ht:takes op=3) (hY:Y blk=some (.cells arr el fr)) (hv:arr[0]? = some v) (hF:ThreeV Y v F) (hop:∀ u w z,In2 u.2→In2 w.2→In2 z.2→nodeX op [u,w,z]=F u w z):DeedV Y (.func (.func 111) #[] #[pv blk]) op:=by
  obtain ⟨f,caps,rfl,hF⟩:=hF
  refine ⟨111,[pv blk],O,fun Z hZ x hxo hx fad fcap fs at_ hE tad tcap ts hts hlen => ?_⟩
  rw [ht] at hlen
  match ts,hlen,hts with
  | [u,z,q],_,hts =>
  have e1:oneX fs at_ x [u,z,q]=F u z q:=by unfold oneX;rw [hxo,if_neg (by rw [ht];decide),hop u z q (hts.in2 _ (by simp)) (hts.in2 _ (by simp)) (hts.in2 _ (by simp))]
  rw [e1]
  obtain ⟨tb,tof,ta,te,tf,rfl,hT,hall⟩:=hts.all (by show 0<3;omega)
  obtain ⟨i0,s0,c0⟩:=hall 0 _ _ rfl
  have h0:tof+Int.toNat 0*3=tof+0*3:=rfl
  have hb0:0≤(0:Int)∧(0:Int)<(3:Nat):=by omega
  obtain ⟨i1,s1,c1⟩:=hall 1 _ _ rfl
  have h1:tof+Int.toNat 1*3=tof+1*3:=rfl
  have hb1:0≤(1:Int)∧(1:Int)<(3:Nat):=by omega
  obtain ⟨i2,s2,c2⟩:=hall 2 _ _ rfl
  have h2:tof+Int.toNat 2*3=tof+2*3:=rfl
  have hb2:0≤(2:Int)∧(2:Int)<(3:Nat):=by omega
  have hP:=hF Z hZ u z q i0 i1 i2
  have hX:=hZ _ _ hY
  show PSpec _ Z _ [LIn x,LEnv fad fs.length fcap at_,Lx (some ⟨tb,tof,none⟩) 3 tcap,.sv (.one (.val (pv blk)))] (exR (F u z q))
  rw [exR_eq] at hP ⊢
  generalize exE (F u z q)=e at *
  generalize exV (F u z q)=v at *
  obtain ⟨vb,vN⟩:=v
  refine cB Tryz.func111 rfl (by kernel_rfl) rfl rfl ?_
  intro C
  (refine aA<|rgN<|aL O O O dM<|aL O O O dM<|aP O dM ?_;refine kas O<|aB<|aA<|rgD mixed<|aW O hX O hv dM<|kmv O<|aR O O bY hb0 h0 dM<|aY O hT (by kernel_rfl) s0 c0 dM<|kmv O<|aR O O bY hb1 h1 dM<|aY O hT (by kernel_rfl) s1 c1 dM<|kmv O<|aR O O bY hb2 h2 dM<|aY O hT (by kernel_rfl) s2 c2 dM ?_;refine K.callF O O O hP dM ?_;refine kex O O<|kex O O<|aM O O O O O O dM ?_;refine kas O<|aB<|rgA ?_;refine aI ?_)
  exact ⟨[_,_],⟨⟨_,_,O,O,O,.inl ⟨AggT.h,O⟩⟩,O,trivial⟩,O⟩
end
variable (X:Nat→Option Obj)
theorem tFind (fad:Option Addr) (fcap:Nat) (fs:List (List Nm)) (at_:Int) (hE:EnvIn X fad fs at_) (a b:Int) (ha : -9223372036854775808≤a∧a<9223372036854775808) (hb : -9223372036854775808≤b∧b<9223372036854775808):
    PSpec Tryz.prog X 92 [LEnv fad fs.length fcap at_,Ln .i64 a,Ln .i64 b] (exR (elemX fs a b)):=by
  have hfl:=hE.len
  by_cases c1:a<0
  · rw [show elemX fs a b = .error 3 by unfold elemX;rw [if_pos (.inl c1)]]
    refine cB Tryz.func92 rfl (by kernel_rfl) rfl rfl ?_
    intro C
    (refine aA<|rgN<|aL O O O dM<|aP O dM ?_;refine kas O<|aB<|aA<|aA<|rgN<|kmv O<|klt O O (r:=true) (cK c1)<|kmv O<|aC O O O<|aC O O O<|aC O O O<|aC O O O<|aC O O O<|kpt O O ?_;refine aB<|aE O ?_;refine aA<|rgN<|aT O O (by exact O) (by exact nl3 O O O O) dM ?_;refine aM O O O O O O dM ?_;refine kas O<|aB<|aI ?_)
    exact ⟨[_,_],⟨⟨_,_,O,O,O,.inl ⟨AggT.h,O⟩⟩,O,trivial⟩,O⟩
  by_cases c2:(fs.length:Int)≤a
  · rw [show elemX fs a b = .error 3 by unfold elemX;split<;>first|rfl|(rw [List.getElem?_eq_none (by omega)])]
    refine cB Tryz.func92 rfl (by kernel_rfl) rfl rfl ?_
    intro C
    (refine aA<|rgN<|aL O O O dM<|aP O dM ?_;refine kas O<|aB<|aA<|aA<|rgN<|kmv O<|klt O O (r:=false) (cJ c1)<|kmv O<|gmv O O O<|aN O O (dN O O) ?_;refine aO O O O (dN O O) ?_;refine aQ O bY O (dN O O) ?_;refine bD O O (r:=true) (cK c2) (dN O O) ?_;refine kpf O O<|aB<|aE O ?_;refine aA<|rgN<|aT O O (by exact O) (by exact nl3 O O O O) dM ?_;refine aM O O O O O O dM ?_;refine kas O<|aB<|aI ?_)
    exact ⟨[_,_],⟨⟨_,_,O,O,O,.inl ⟨AggT.h,O⟩⟩,O,trivial⟩,O⟩
  obtain ⟨r,hr⟩:∃ r,fs[a.toNat]? = some r:=⟨_,cS (by omega)⟩
  obtain ⟨blk,off,arr,el,fr,vad,vcap,rfl,hX,hsz,hcell,hN⟩:=hE.fss.at_ _ _ hr
  have hrl:=hE.rows r (cX hr)
  have hio:off+Int.toNat a*1=off+a.toNat:=by omega
  by_cases c3:b<0
  · rw [show elemX fs a b = .error 3 by unfold elemX;rw [if_pos (.inr c3)]]
    refine cB Tryz.func92 rfl (by kernel_rfl) rfl rfl ?_
    intro C
    (refine aA<|rgN<|aL O O O dM<|aP O dM ?_;refine kas O<|aB<|aA<|aA<|rgN<|kmv O<|klt O O (r:=false) (cJ c1)<|kmv O<|gmv O O O<|aN O O (dN O O) ?_;refine aO O O O (dN O O) ?_;refine aQ O bY O (dN O O) ?_;refine bD O O (r:=false) (cJ c2) (dN O O) ?_;refine kpf O O<|aB<|aF O ?_;refine aH ?_;refine aA<|rgN<|kfa O O ?_;refine kl1 O O O<|kmv O<|aR O O bY (by omega) hio dM<|aW O hX O hcell dM<|kas O<|aB<|aA<|aA<|rgN<|kmv O<|klt O O (r:=true) (cK c3)<|kmv O<|aC O O O<|aC O O O ?_;refine aC O O O<|aC O O O<|kpt O O<|aB<|aE O ?_;refine aA<|rgN<|aT O O (by exact O) (by exact nl3 O O O O) dM ?_;refine aM O O O O O O dM ?_;refine kas O<|aB<|aI ?_)
    exact ⟨[_,_],⟨⟨_,_,O,O,O,.inl ⟨AggT.h,O⟩⟩,O,trivial⟩,O⟩
  by_cases c4:(r.length:Int)≤b
  · rw [show elemX fs a b = .error 3 by unfold elemX;rw [if_neg (by omega),hr];simp only;rw [List.getElem?_eq_none (by omega)]]
    refine cB Tryz.func92 rfl (by kernel_rfl) rfl rfl ?_
    intro C
    (refine aA<|rgN<|aL O O O dM<|aP O dM ?_;refine kas O<|aB<|aA<|aA<|rgN<|kmv O<|klt O O (r:=false) (cJ c1)<|kmv O<|gmv O O O<|aN O O (dN O O) ?_;refine aO O O O (dN O O) ?_;refine aQ O bY O (dN O O) ?_;refine bD O O (r:=false) (cJ c2) (dN O O) ?_;refine kpf O O<|aB<|aF O ?_;refine aH ?_;refine aA<|rgN<|kfa O O ?_;refine kl1 O O O<|kmv O<|aR O O bY (by omega) hio dM<|aW O hX O hcell dM<|kas O<|aB<|aA<|aA<|rgN<|kmv O<|klt O O (r:=false) (cJ c3)<|kmv O<|gmv O O O<|gmv O O O ?_;refine aQ O bY O (dN O O) ?_;refine bD O O (r:=true) (cK c4) (dN O O) ?_;refine kpf O O<|aB<|aE O ?_;refine aA<|rgN<|aT O O (by exact O) (by exact nl3 O O O O) dM ?_;refine aM O O O O O O dM ?_;refine kas O<|aB<|aI ?_)
    exact ⟨[_,_],⟨⟨_,_,O,O,O,.inl ⟨AggT.h,O⟩⟩,O,trivial⟩,O⟩
  obtain ⟨⟨vb,vN⟩,hv⟩:∃ v,r[b.toNat]? = some v:=⟨_,cS (by omega)⟩
  obtain ⟨_,blk2,off2,arr2,el2,fr2,rfl,hX2,hsz2,hcs2⟩:=hN.at hv
  have hio2:off2+Int.toNat b*3=off2+b.toNat*3:=rfl
  rw [show elemX fs a b = .ok (vb,vN) by unfold elemX;rw [if_neg (by omega),hr];simp only;rw [hv]]
  refine cB Tryz.func92 rfl (by kernel_rfl) rfl rfl ?_
  intro C
  (refine aA<|rgN<|aL O O O dM<|aP O dM ?_;refine kas O<|aB<|aA<|aA<|rgN<|kmv O<|klt O O (r:=false) (cJ c1)<|kmv O<|gmv O O O<|aN O O (dN O O) ?_;refine aO O O O (dN O O) ?_;refine aQ O bY O (dN O O) ?_;refine bD O O (r:=false) (cJ c2) (dN O O) ?_;refine kpf O O<|aB<|aF O ?_;refine aH ?_;refine aA<|rgN<|kfa O O ?_;refine kl1 O O O<|kmv O<|aR O O bY (by omega) hio dM<|aW O hX O hcell dM<|kas O<|aB<|aA<|aA<|rgN<|kmv O<|klt O O (r:=false) (cJ c3)<|kmv O<|gmv O O O<|gmv O O O ?_;refine aQ O bY O (dN O O) ?_;refine bD O O (r:=false) (cJ c4) (dN O O) ?_;refine kpf O O<|aB<|aF O ?_;refine aH ?_;refine aA<|rgN<|kmv O<|kmv O<|aR O O bY (by omega) hio2 dM<|aY O hX2 (by kernel_rfl) hsz2 hcs2 dM<|aM O O O O O O dM ?_;refine kas O<|aB<|aI ?_)
  exact ⟨[_,_],⟨⟨_,_,O,O,O,.inl ⟨AggT.h,O⟩⟩,O,trivial⟩,O⟩
theorem deed_num:DeedV X (.func (.func 65) #[] #[]) 1:=by
  refine ⟨65,[],O,fun Z hZ x hxo hx fad fcap fs at_ hE tad tcap ts hts hlen => ?_⟩
  rw [show oneX fs at_ x ts = .ok x.k by unfold oneX leafX;rw [hxo];rfl]
  show PSpec _ Z _ [LIn x,LEnv fad fs.length fcap at_,Lx tad ts.length tcap] (.tup [SI x.k.1 x.k.2,Sn .i64 0])
  refine cB Tryz.func65 rfl (by kernel_rfl) rfl rfl ?_
  intro C
  (refine aA<|rgN<|aL O O O dM<|aL O O O dM<|aP O dM ?_;refine kas O<|aB<|aA<|rgN<|kfa O O ?_;refine bJ O O O (by exact nl3 O O O O) dM ?_;refine aM O O O O O O dM ?_;refine kas O<|aB<|aI ?_)
  exact ⟨[_,_],⟨⟨_,_,O,O,O,.inl ⟨AggT.h,O⟩⟩,O,trivial⟩,O⟩
theorem deed_elem:DeedV X (.func (.func 66) #[] #[]) 2:=by
  refine ⟨66,[],O,fun Z hZ x hxo hx fad fcap fs at_ hE tad tcap ts hts hlen => ?_⟩
  rw [show oneX fs at_ x ts=elemX fs x.a x.b by unfold oneX leafX;rw [hxo];rfl]
  have hP:=tFind Z fad fcap fs at_ hE x.a x.b hx.2.1 hx.2.2.1
  show PSpec _ Z _ [LIn x,LEnv fad fs.length fcap at_,Lx tad ts.length tcap] (exR (elemX fs x.a x.b))
  rw [exR_eq] at hP ⊢
  generalize exE (elemX fs x.a x.b)=e at *
  generalize exV (elemX fs x.a x.b)=v at *
  obtain ⟨vb,vN⟩:=v
  refine cB Tryz.func66 rfl (by kernel_rfl) rfl rfl ?_
  intro C
  (refine aA<|rgN<|aL O O O dM<|aL O O O dM<|aP O dM ?_;refine kas O<|aB<|aA<|rgN<|aK O O O dM ?_;refine kfa O O ?_;refine kl1 O O O<|kfa O O ?_;refine kl1 O O O<|kca O O (hP)<|kex O O<|kex O O<|aM O O O O O O dM ?_;refine kas O<|aB<|aI ?_)
  exact ⟨[_,_],⟨⟨_,_,O,O,O,.inl ⟨AggT.h,O⟩⟩,O,trivial⟩,O⟩
theorem deed_here:DeedV X (.func (.func 67) #[] #[]) 3:=by
  refine ⟨67,[],O,fun Z hZ x hxo hx fad fcap fs at_ hE tad tcap ts hts hlen => ?_⟩
  rw [show oneX fs at_ x ts=elemX fs x.a at_ by unfold oneX leafX;rw [hxo];rfl]
  have hP:=tFind Z fad fcap fs at_ hE x.a at_ hx.2.1 hE.place
  show PSpec _ Z _ [LIn x,LEnv fad fs.length fcap at_,Lx tad ts.length tcap] (exR (elemX fs x.a at_))
  rw [exR_eq] at hP ⊢
  generalize exE (elemX fs x.a at_)=e at *
  generalize exV (elemX fs x.a at_)=v at *
  obtain ⟨vb,vN⟩:=v
  refine cB Tryz.func67 rfl (by kernel_rfl) rfl rfl ?_
  intro C
  (refine aA<|rgN<|aL O O O dM<|aL O O O dM<|aP O dM ?_;refine kas O<|aB<|aA<|rgN<|aK O O O dM ?_;refine kfa O O ?_;refine kl1 O O O<|kfa O O ?_;refine kl1 O O O<|kca O O (hP)<|kex O O<|kex O O<|aM O O O O O O dM ?_;refine kas O<|aB<|aI ?_)
  exact ⟨[_,_],⟨⟨_,_,O,O,O,.inl ⟨AggT.h,O⟩⟩,O,trivial⟩,O⟩
theorem deed_place:DeedV X (.func (.func 68) #[] #[]) 4:=by
  refine ⟨68,[],O,fun Z hZ x hxo hx fad fcap fs at_ hE tad tcap ts hts hlen => ?_⟩
  have hpl:=hE.place
  rw [show oneX fs at_ x ts=(if at_<0 then .error 3 else .ok (false,at_)) by unfold oneX leafX;rw [hxo];rfl]
  show PSpec _ Z _ [LIn x,LEnv fad fs.length fcap at_,Lx tad ts.length tcap] _
  by_cases c:at_<0
  · rw [if_pos c]
    refine cB Tryz.func68 rfl (by kernel_rfl) rfl rfl ?_
    intro C
    (refine aA<|rgN<|aL O O O dM<|aL O O O dM<|aP O dM ?_;refine kas O<|aB<|aA<|aA<|rgN<|kfa O O ?_;refine kl1 O O O<|klt O O (r:=true) (cK c)<|aB<|aE O ?_;refine aA<|rgN<|aT O O (by exact O) (by exact nl3 O O O O) dM ?_;refine aM O O O O O O dM ?_;refine kas O<|aB<|aI ?_)
    exact ⟨[_,_],⟨⟨_,_,O,O,O,.inl ⟨AggT.h,O⟩⟩,O,trivial⟩,O⟩
  · rw [if_neg c]
    have hO:=Of_spec Z at_ hpl
    rw [show LQ at_=LI false at_ by unfold LQ;rw [mg_pos (by omega),cJ c]] at hO
    show PSpec _ Z _ _ (.tup [SI false at_,Sn .i64 0])
    refine cB Tryz.func68 rfl (by kernel_rfl) rfl rfl ?_
    intro C
    (refine aA<|rgN<|aL O O O dM<|aL O O O dM<|aP O dM ?_;refine kas O<|aB<|aA<|aA<|rgN<|kfa O O ?_;refine kl1 O O O<|klt O O (r:=false) (cJ c)<|aB<|aF O ?_;refine aH ?_;refine aA<|rgN<|kfa O O ?_;refine kl1 O O O<|kca O O (hO)<|aM O O O O O O dM ?_;refine kas O<|aB<|aI ?_)
    exact ⟨[_,_],⟨⟨_,_,O,O,O,.inl ⟨AggT.h,O⟩⟩,O,trivial⟩,O⟩
end Go.Proofs.YtnfbccfghgmfiaaGreat
end
section
namespace Go.Proofs.YtnfbccfghgmfiaaGreat
open Go Go.Lg Go.Lg.Fml Go.Lg.Fld Go.Lg.Arith
set_option maxRecDepth 100000
abbrev ptrF (f:FuncId) (k:Nat):CV:=.fn (.func f) (fun i=>[pv i]) k
abbrev fnV (f:FuncId):Value:=.func (.func f) #[] #[]
abbrev vB (t:TypeId) (k:Nat) (c:CV):Nat×Option Box:=(k,some ⟨t,[c],false⟩)
variable (X:Nat→Option Obj)
theorem mA_ofTwo (g:FuncId):MSpec Tryz.prog X 69 [.sv (.one (.val (fnV g)))] [] (.sv (.one (ptrF 94 1000001))) [vB 140 1000001 (.val (fnV g))]:=by
  refine cC Tryz.func69 rfl (by kernel_rfl) rfl (by exact (by repeat' (first|refine bR ?_ ?_|rfl|exact bT|exact bS|exact bU rfl))) (by exact (by repeat' (first|refine bR ?_ ?_|rfl|exact bT|exact bS|exact bU rfl))) rfl rfl ?_
  intro C
  (refine aA<|rgN<|K.box1 O O O dM<|kas O<|aB<|aA<|rgN<|K.makeFuncP O O dM ?_;refine kas O<|aB<|aI ?_)
  exact ⟨[(1000001,1)],⟨[_],⟨rfl,trivial⟩,rfl⟩,(by repeat' (first|exact trivial|refine cL ⟨_,rfl,?_⟩ ?_|refine cL ⟨_,rfl⟩ ?_|rfl|exact bV _ _ _ _|exact bW _ _ _ _|exact bX rfl)),rfl,rfl⟩
theorem mB_ofTwo (g h:FuncId) (t:TypeId):MSpec Tryz.prog X 69 [.sv (.one (ptrF g 1000002))] [vB t 1000002 (.val (fnV h))] (.sv (.one (ptrF 94 1000001))) [vB 140 1000001 (ptrF g 1000002),vB t 1000002 (.val (fnV h))]:=by
  refine cC Tryz.func69 rfl (by kernel_rfl) rfl (by exact (by repeat' (first|refine bR ?_ ?_|rfl|exact bT|exact bS|exact bU rfl))) (by exact (by repeat' (first|refine bR ?_ ?_|rfl|exact bT|exact bS|exact bU rfl))) rfl rfl ?_
  intro C
  (refine aA<|rgN<|K.box1 O O O dM<|kas O<|aB<|aA<|rgN<|K.makeFuncP O O dM ?_;refine kas O<|aB<|aI ?_)
  exact ⟨[(1000001,1)],⟨[_],⟨rfl,trivial⟩,rfl⟩,(by repeat' (first|exact trivial|refine cL ⟨_,rfl,?_⟩ ?_|refine cL ⟨_,rfl⟩ ?_|rfl|exact bV _ _ _ _|exact bW _ _ _ _|exact bX rfl)),rfl,rfl⟩
theorem mC_ofTwo (g h i:FuncId) (t:TypeId):MSpec Tryz.prog X 69 [.sv (.one (ptrF g 1000002))] [vB t 1000002 (ptrF h 1000003),vB t 1000003 (.val (fnV i))] (.sv (.one (ptrF 94 1000001))) [vB 140 1000001 (ptrF g 1000002),vB t 1000002 (ptrF h 1000003),vB t 1000003 (.val (fnV i))]:=by
  refine cC Tryz.func69 rfl (by kernel_rfl) rfl (by exact (by repeat' (first|refine bR ?_ ?_|rfl|exact bT|exact bS|exact bU rfl))) (by exact (by repeat' (first|refine bR ?_ ?_|rfl|exact bT|exact bS|exact bU rfl))) rfl rfl ?_
  intro C
  (refine aA<|rgN<|K.box1 O O O dM<|kas O<|aB<|aA<|rgN<|K.makeFuncP O O dM ?_;refine kas O<|aB<|aI ?_)
  exact ⟨[(1000001,1)],⟨[_],⟨rfl,trivial⟩,rfl⟩,(by repeat' (first|exact trivial|refine cL ⟨_,rfl,?_⟩ ?_|refine cL ⟨_,rfl⟩ ?_|rfl|exact bV _ _ _ _|exact bW _ _ _ _|exact bX rfl)),rfl,rfl⟩
theorem mB_ofOne (g h:FuncId) (t:TypeId):MSpec Tryz.prog X 75 [.sv (.one (ptrF g 1000002))] [vB t 1000002 (.val (fnV h))] (.sv (.one (ptrF 105 1000001))) [vB 138 1000001 (ptrF g 1000002),vB t 1000002 (.val (fnV h))]:=by
  refine cC Tryz.func75 rfl (by kernel_rfl) rfl (by exact (by repeat' (first|refine bR ?_ ?_|rfl|exact bT|exact bS|exact bU rfl))) (by exact (by repeat' (first|refine bR ?_ ?_|rfl|exact bT|exact bS|exact bU rfl))) rfl rfl ?_
  intro C
  (refine aA<|rgN<|K.box1 O O O dM<|kas O<|aB<|aA<|rgN<|K.makeFuncP O O dM ?_;refine kas O<|aB<|aI ?_)
  exact ⟨[(1000001,1)],⟨[_],⟨rfl,trivial⟩,rfl⟩,(by repeat' (first|exact trivial|refine cL ⟨_,rfl,?_⟩ ?_|refine cL ⟨_,rfl⟩ ?_|rfl|exact bV _ _ _ _|exact bW _ _ _ _|exact bX rfl)),rfl,rfl⟩
theorem mA_ofThree (g:FuncId):MSpec Tryz.prog X 81 [.sv (.one (.val (fnV g)))] [] (.sv (.one (ptrF 111 1000001))) [vB 165 1000001 (.val (fnV g))]:=by
  refine cC Tryz.func81 rfl (by kernel_rfl) rfl (by exact (by repeat' (first|refine bR ?_ ?_|rfl|exact bT|exact bS|exact bU rfl))) (by exact (by repeat' (first|refine bR ?_ ?_|rfl|exact bT|exact bS|exact bU rfl))) rfl rfl ?_
  intro C
  (refine aA<|rgN<|K.box1 O O O dM<|kas O<|aB<|aA<|rgN<|K.makeFuncP O O dM ?_;refine kas O<|aB<|aI ?_)
  exact ⟨[(1000001,1)],⟨[_],⟨rfl,trivial⟩,rfl⟩,(by repeat' (first|exact trivial|refine cL ⟨_,rfl,?_⟩ ?_|refine cL ⟨_,rfl⟩ ?_|rfl|exact bV _ _ _ _|exact bW _ _ _ _|exact bX rfl)),rfl,rfl⟩
theorem mA_withZero (g:FuncId):MSpec Tryz.prog X 76 [.sv (.one (.val (fnV g)))] [] (.sv (.one (ptrF 106 1000001))) [vB 140 1000001 (.val (fnV g))]:=by
  refine cC Tryz.func76 rfl (by kernel_rfl) rfl (by exact (by repeat' (first|refine bR ?_ ?_|rfl|exact bT|exact bS|exact bU rfl))) (by exact (by repeat' (first|refine bR ?_ ?_|rfl|exact bT|exact bS|exact bU rfl))) rfl rfl ?_
  intro C
  (refine aA<|rgN<|K.box1 O O O dM<|kas O<|aB<|aA<|rgN<|K.makeFuncP O O dM ?_;refine kas O<|aB<|aI ?_)
  exact ⟨[(1000001,1)],⟨[_],⟨rfl,trivial⟩,rfl⟩,(by repeat' (first|exact trivial|refine cL ⟨_,rfl,?_⟩ ?_|refine cL ⟨_,rfl⟩ ?_|rfl|exact bV _ _ _ _|exact bW _ _ _ _|exact bX rfl)),rfl,rfl⟩
theorem mA_chosen (g:FuncId):MSpec Tryz.prog X 77 [.sv (.one (.val (fnV g)))] [] (.sv (.one (ptrF 107 1000001))) [vB 140 1000001 (.val (fnV g))]:=by
  refine cC Tryz.func77 rfl (by kernel_rfl) rfl (by exact (by repeat' (first|refine bR ?_ ?_|rfl|exact bT|exact bS|exact bU rfl))) (by exact (by repeat' (first|refine bR ?_ ?_|rfl|exact bT|exact bS|exact bU rfl))) rfl rfl ?_
  intro C
  (refine aA<|rgN<|K.box1 O O O dM<|kas O<|aB<|aA<|rgN<|K.makeFuncP O O dM ?_;refine kas O<|aB<|aI ?_)
  exact ⟨[(1000001,1)],⟨[_],⟨rfl,trivial⟩,rfl⟩,(by repeat' (first|exact trivial|refine cL ⟨_,rfl,?_⟩ ?_|refine cL ⟨_,rfl⟩ ?_|rfl|exact bV _ _ _ _|exact bW _ _ _ _|exact bX rfl)),rfl,rfl⟩
theorem mB_chosen (g h:FuncId) (t:TypeId):MSpec Tryz.prog X 77 [.sv (.one (ptrF g 1000002))] [vB t 1000002 (.val (fnV h))] (.sv (.one (ptrF 107 1000001))) [vB 140 1000001 (ptrF g 1000002),vB t 1000002 (.val (fnV h))]:=by
  refine cC Tryz.func77 rfl (by kernel_rfl) rfl (by exact (by repeat' (first|refine bR ?_ ?_|rfl|exact bT|exact bS|exact bU rfl))) (by exact (by repeat' (first|refine bR ?_ ?_|rfl|exact bT|exact bS|exact bU rfl))) rfl rfl ?_
  intro C
  (refine aA<|rgN<|K.box1 O O O dM<|kas O<|aB<|aA<|rgN<|K.makeFuncP O O dM ?_;refine kas O<|aB<|aI ?_)
  exact ⟨[(1000001,1)],⟨[_],⟨rfl,trivial⟩,rfl⟩,(by repeat' (first|exact trivial|refine cL ⟨_,rfl,?_⟩ ?_|refine cL ⟨_,rfl⟩ ?_|rfl|exact bV _ _ _ _|exact bW _ _ _ _|exact bX rfl)),rfl,rfl⟩
theorem mA_swapped (g:FuncId):MSpec Tryz.prog X 79 [.sv (.one (.val (fnV g)))] [] (.sv (.one (ptrF 110 1000001))) [vB 140 1000001 (.val (fnV g))]:=by
  refine cC Tryz.func79 rfl (by kernel_rfl) rfl (by exact (by repeat' (first|refine bR ?_ ?_|rfl|exact bT|exact bS|exact bU rfl))) (by exact (by repeat' (first|refine bR ?_ ?_|rfl|exact bT|exact bS|exact bU rfl))) rfl rfl ?_
  intro C
  (refine aA<|rgN<|K.box1 O O O dM<|kas O<|aB<|aA<|rgN<|K.makeFuncP O O dM ?_;refine kas O<|aB<|aI ?_)
  exact ⟨[(1000001,1)],⟨[_],⟨rfl,trivial⟩,rfl⟩,(by repeat' (first|exact trivial|refine cL ⟨_,rfl,?_⟩ ?_|refine cL ⟨_,rfl⟩ ?_|rfl|exact bV _ _ _ _|exact bW _ _ _ _|exact bX rfl)),rfl,rfl⟩
def deedR (f:FuncId) (op:Int):Rsc:=⟨fun ρ H=>DeedV H (.func (.func f) #[] #[pv ρ.1]) op⟩
section
variable {X:Nat→Option Obj} {n:Nat} {C:Ctx} {Mid:St→Prop} {s:List (Nat×LV)} {bx:List (Nat×Option Box)} {k k1 k2 k3:Nat} {t1 t2 t3:TypeId} {f g h:FuncId} {op:Int} {v:Value}
theorem deed_shut1 (hD:∀ (Y:Nat→Option Obj) b a e fr,Y b=some (.cells a e fr)→a[0]? = some v→DeedV Y (.func (.func f) #[] #[pv b]) op)
    (hl:Leads n C Mid ⟨s,(k,some ⟨0,[],.res (deedR f op)⟩)::bx,X⟩):Leads n C Mid ⟨s,vB t1 k (.val v)::bx,X⟩:=by
  have:=Leads.closeRes (el:=t1) (H:=fun _=>none) (vals:=[v]) (R:=deedR f op) (OwnedM.nil C X) (fun ρ fr _ _ _=>hD _ ρ.1 _ t1 fr (cH _ _ _) rfl) hl
  rw [joinM_nil] at this
  exact this
theorem deed_shut2 (hD:∀ (Y:Nat→Option Obj) b a e fr b' a' e' fr',Y b=some (.cells a e fr)→a[0]? = some v→Y b'=some (.cells a' e' fr')→a'[0]? = some (.func (.func g) #[] #[pv b])→DeedV Y (.func (.func f) #[] #[pv b']) op)
    (h1:Go.Lg.look k1 (vB t2 k2 (ptrF g k1)::bx)=none) (h2:s.all (fun p=>p.2.inUse (vB t2 k2 (ptrF g k1)::bx))=true) (h3:bx.all (fun p=>match p.2 with|some b=>b.cells.all (CV.inUse (vB t2 k2 (ptrF g k1)::bx))|none=>true)=true)
    (hl:Leads n C Mid ⟨s,(k2,some ⟨0,[],.res (deedR f op)⟩)::bx,X⟩):Leads n C Mid ⟨s,vB t2 k2 (ptrF g k1)::vB t1 k1 (.val v)::bx,X⟩:=by
  refine Leads.fixBox (vals:=[v]) (el:=t1) (row:=false) [] [vB t2 k2 (ptrF g k1)] h1 h2 h3 rfl (by simp [CV.fixIn]) ?_
  intro blk arr fr hX hF hsp
  obtain ⟨sp,hsp⟩:=hsp
  have ha:arr[0]? = some v:=by rw [← Array.getElem?_toList,hsp];rfl
  have hO:OwnedM C X (withBlock (fun _=>none) blk (.cells arr t1 fr)):=(OwnedM.nil C X).more hF (by rw [joinM_nil];exact hX)
  have e:withBlock X blk (.cells arr t1 fr)=joinM X (withBlock (fun _=>none) blk (.cells arr t1 fr)):=by rw [← joinM_with,joinM_nil]
  rw [e]
  have hfix:fixB k1 blk [vB t2 k2 (ptrF g k1)]++bx=(k2,some ⟨t2,([.func (.func g) #[] #[pv blk]]:List Value).map .val,false⟩)::bx:=by
    simp [fixB,Box.fix,CV.fix,Nat.beq_refl]
  rw [hfix]
  refine Leads.closeRes hO (fun ρ fr2 h5 h6 _ => ?_) hl
  exact hD _ blk arr t1 fr ρ.1 _ t2 fr2 (cE h5 _ _ (cH _ _ _)) ha (cH _ _ _) O
theorem deed_shut3 (hD:∀ (Y:Nat→Option Obj) b a e fr b' a' e' fr' b2 a2 e2 fr2,Y b=some (.cells a e fr)→a[0]? = some v→Y b'=some (.cells a' e' fr')→a'[0]? = some (.func (.func h) #[] #[pv b])→Y b2=some (.cells a2 e2 fr2)→a2[0]? = some (.func (.func g) #[] #[pv b'])→DeedV Y (.func (.func f) #[] #[pv b2]) op)
    (h1:Go.Lg.look k1 (vB t3 k3 (ptrF g k2)::vB t2 k2 (ptrF h k1)::bx)=none) (h2:s.all (fun p=>p.2.inUse (vB t3 k3 (ptrF g k2)::vB t2 k2 (ptrF h k1)::bx))=true) (h3:bx.all (fun p=>match p.2 with|some b=>b.cells.all (CV.inUse (vB t3 k3 (ptrF g k2)::vB t2 k2 (ptrF h k1)::bx))|none=>true)=true)
    (h1':Go.Lg.look k2 (vB t3 k3 (ptrF g k2)::bx)=none) (h2':s.all (fun p=>p.2.inUse (vB t3 k3 (ptrF g k2)::bx))=true) (h3':bx.all (fun p=>match p.2 with|some b=>b.cells.all (CV.inUse (vB t3 k3 (ptrF g k2)::bx))|none=>true)=true) (h4:Nat.beq k2 k1=false)
    (hl:Leads n C Mid ⟨s,(k3,some ⟨0,[],.res (deedR f op)⟩)::bx,X⟩):Leads n C Mid ⟨s,vB t3 k3 (ptrF g k2)::vB t2 k2 (ptrF h k1)::vB t1 k1 (.val v)::bx,X⟩:=by
  have h5:(Go.Lg.look k2 (vB t3 k3 (ptrF g k2)::vB t2 k2 (ptrF h k1)::bx)).isSome=true:=by
    cases hb:Nat.beq k3 k2 with
    | true=>simp only [Go.Lg.look,hb,cond_true];rfl
    | false=>simp only [Go.Lg.look,hb,cond_false,Nat.beq_refl,cond_true];rfl
  refine Leads.fixBox (vals:=[v]) (el:=t1) (row:=false) [] [vB t3 k3 (ptrF g k2),vB t2 k2 (ptrF h k1)] h1 h2 h3 rfl (by simp only [List.all_cons,List.all_nil,CV.fixIn,Nat.beq_refl,Bool.true_or,Bool.and_true,Bool.or_eq_true];exact .inr h5) ?_
  intro blk arr fr hX hF hsp
  obtain ⟨sp,hsp⟩:=hsp
  have ha:arr[0]? = some v:=by rw [← Array.getElem?_toList,hsp];rfl
  have hO:OwnedM C X (withBlock (fun _=>none) blk (.cells arr t1 fr)):=(OwnedM.nil C X).more hF (by rw [joinM_nil];exact hX)
  have e:withBlock X blk (.cells arr t1 fr)=joinM X (withBlock (fun _=>none) blk (.cells arr t1 fr)):=by rw [← joinM_with,joinM_nil]
  rw [e]
  have hfix:fixB k1 blk [vB t3 k3 (ptrF g k2),vB t2 k2 (ptrF h k1)]++bx=vB t3 k3 (ptrF g k2)::(k2,some ⟨t2,([.func (.func h) #[] #[pv blk]]:List Value).map .val,false⟩)::bx:=by
    simp [fixB,Box.fix,CV.fix,Nat.beq_refl,h4]
  rw [hfix]
  refine Leads.fixBox (vals:=[.func (.func h) #[] #[pv blk]]) (el:=t2) (row:=false) [] [vB t3 k3 (ptrF g k2)] h1' h2' h3' rfl (by simp [CV.fixIn]) ?_
  intro blk2 arr2 fr2 hX2 hF2 hsp2
  obtain ⟨sp2,hsp2⟩:=hsp2
  have ha2:arr2[0]? = some (.func (.func h) #[] #[pv blk]):=by rw [← Array.getElem?_toList,hsp2];rfl
  have hO2:=hO.more (el:=t2) hF2 hX2
  have hn2:=(joinM_none hX2).1
  rw [joinM_with]
  have hfix:fixB k2 blk2 [vB t3 k3 (ptrF g k2)]++bx=(k3,some ⟨t3,([.func (.func g) #[] #[pv blk2]]:List Value).map .val,false⟩)::bx:=by
    simp [fixB,Box.fix,CV.fix,Nat.beq_refl]
  rw [hfix]
  refine Leads.closeRes hO2 (fun ρ fr3 h5 h6 _ => ?_) hl
  exact hD _ blk arr t1 fr blk2 arr2 t2 fr2 ρ.1 _ t3 fr3 (cE h5 _ _ (cE hn2 _ _ (cH _ _ _))) ha (cE h5 _ _ (cH _ _ _)) ha2 (cH _ _ _) O
end
theorem gd_truth (b:Bool):gd (truth b)=true:=by cases b<;>rfl
theorem pick_truth (b:Bool) (x y:Nm):pickX (truth b) x y = .ok (if b=true then x else y):=by
  unfold pickX
  rw [gd_truth,if_neg (by decide)]
  cases b
  · rw [if_pos (show truth false=(false,0) from rfl)];rfl
  · rw [if_neg (show truth true≠(false,0) by decide)];rfl
theorem zz_inj {x y:Nm} (hx:In2 x.2) (hy:In2 y.2) (gx:gd x=true) (gy:gd y=true) (h:zz x=zz y):x=y:=by
  obtain ⟨a,M⟩:=x
  obtain ⟨b,N⟩:=y
  unfold gd formB at gx gy
  unfold zz zv at h
  unfold In2 at hx hy
  simp only at *
  cases a<;>cases b<;>simp_all<;>omega
theorem node_neg {u:Nm} (hu:In2 u.2):nodeX 10 [u]=doX 6 (false,0) u:=by
  rw [nodeX]
  unfold doX
  rw [show (gd (false,0)&&gd u)=gd u by rw [show gd (false,0)=true from rfl,Bool.true_and]]
  cases g:gd u with
  | false=>rfl
  | true =>
    have hr:=(gd_q g hu).2
    rw [if_neg (by decide),if_pos rfl,if_neg (by decide),if_neg (by omega),show arith 6 (zz (false,0)) (zz u) = -(zz u) by unfold arith;rw [if_neg (by decide),if_pos rfl,show zz (false,0)=0 from rfl];omega,if_pos (by unfold R127 at *;omega)]
theorem node_not (u:Nm):nodeX 15 [u]=sameX (false,0) u:=by
  rw [nodeX]
  unfold sameX truX
  rw [show (gd (false,0)&&gd u)=gd u by rw [show gd (false,0)=true from rfl,Bool.true_and],if_neg (show ¬ (15:Int)=10 by decide)]
  have e:decide (((false,0):Nm)=u)=decide (u=(false,0)):=by
    by_cases h:u=(false,0)
    · rw [cK h,cK h.symm]
    · rw [cJ h,cJ (fun e=>h e.symm)]
  rw [e]
theorem less_ok {x y a:Nm} (h:lessX x y = .ok a):In2 a.2:=by
  unfold lessX truX at h
  split at h
  · cases h
  · cases h;exact truth_in2 _
theorem less_err {x y:Nm} {e:Int} (h:lessX x y = .error e):e≠0:=by
  unfold lessX truX at h
  split at h
  · cases h;decide
  · cases h
theorem node_least {x y:Nm} (hx:In2 x.2) (hy:In2 y.2):nodeX 11 [x,y]=choX lessX x y:=by
  rw [nodeX]
  rw [if_neg (by decide),if_neg (by decide),if_pos (rfl:(11:Int)=11)]
  unfold choX lessX truX
  cases g:(gd x&&gd y) with
  | false=>rfl
  | true =>
    obtain ⟨gx,gy⟩:=Bool.and_eq_true_iff.1 g
    simp only [Bool.true_eq_false,if_false,pick_truth]
    by_cases h:zz x<zz y
    · rw [if_neg (by omega),if_pos (cK h)]
    · rw [if_neg (show ¬ decide (zz x<zz y)=true by rw [cJ h];decide)]
      by_cases h2:zz y<zz x
      · rw [if_pos h2]
      · rw [if_neg h2,zz_inj hx hy gx gy (by omega)]
theorem node_great {x y:Nm} (hx:In2 x.2) (hy:In2 y.2):nodeX 12 [x,y]=choX (fun x y=>lessX y x) x y:=by
  rw [nodeX]
  rw [if_neg (by decide),if_neg (by decide),if_neg (show ¬ (12:Int)=11 by decide),if_pos (rfl:(12:Int)=12)]
  unfold choX lessX truX
  simp only
  rw [Bool.and_comm]
  cases g:(gd y&&gd x) with
  | false=>rfl
  | true =>
    obtain ⟨gy,gx⟩:=Bool.and_eq_true_iff.1 g
    simp only [Bool.true_eq_false,if_false,pick_truth]
    by_cases h:zz y<zz x
    · rw [if_neg (by omega),if_pos (cK h)]
    · rw [if_neg (show ¬ decide (zz y<zz x)=true by rw [cJ h];decide)]
      by_cases h2:zz x<zz y
      · rw [if_pos h2]
      · rw [if_neg h2,zz_inj hx hy gx gy (by omega)]
theorem node_same (x y:Nm):nodeX 13 [x,y]=sameX x y:=by
  rw [nodeX]
  rw [if_neg (by decide),if_neg (by decide),if_neg (show ¬ (13:Int)=11 by decide),if_neg (show ¬ (13:Int)=12 by decide),if_pos (rfl:(13:Int)=13)]
  rfl
theorem node_less (x y:Nm):nodeX 14 [x,y]=lessX x y:=by
  rw [nodeX]
  rw [if_neg (by decide),if_neg (by decide),if_neg (show ¬ (14:Int)=11 by decide),if_neg (show ¬ (14:Int)=12 by decide),if_neg (show ¬ (14:Int)=13 by decide)]
  rfl
theorem node_need (x y:Nm):nodeX 17 [x,y]=needX x y:=by
  rw [nodeX]
  rw [if_neg (by decide),if_pos rfl]
  rfl
theorem node_do {op:Int} (ho:5≤op∧op≤9) (x y:Nm):nodeX op [x,y]=doX op x y:=if_pos ho
def cloF (op:Int):FuncId:=if op=16 then 111 else if op=10∨op=15 then 105 else 94
def wordS (op:Int):List UInt8:=if 5≤op∧op≤17 then wordX op else []
def rowL (op:Int):List Value:=[.string ⟨(wordS op).toArray⟩,.int .i64 (takes op:Nat),.bool (op==2||op==3),.bool (op==2),.bool (op==1)]
abbrev LRow (op:Int) (c:CV):LV:=.sv (.agg ((rowL op).map .val++[c]))
abbrev dB (k:Nat) (op:Int):Nat×Option Box:=(k,some ⟨0,[],.res (deedR (cloF op) op)⟩)
def leafV (op:Int):Value:=if op=1 then fnV 65 else if op=2 then fnV 66 else if op=3 then fnV 67 else if op=4 then fnV 68 else .nilFunc
def rwR (op:Int):LV:=if 5≤op∧op≤17 then LRow op (ptrF (cloF op) 1000001) else LRow op (.val (leafV op))
def rwBx (op:Int):List (Nat×Option Box):=if 5≤op∧op≤17 then [dB 1000001 op] else []
theorem rw_fn {op:Int} (h:5≤op∧op≤17):rwR op=LRow op (ptrF (cloF op) 1000001)∧rwBx op=[dB 1000001 op]:=⟨if_pos h,if_pos h⟩
theorem rw_no {op:Int} (h:¬ (5≤op∧op≤17)):rwR op=LRow op (.val (leafV op))∧rwBx op=[]:=⟨if_neg h,if_neg h⟩
theorem rwBx_use (op:Int):((rwBx op).all fun p=>match p.2 with|some b=>b.cells.all (CV.inUse (rwBx op))|none=>true)=true:=by
  by_cases h:5≤op∧op≤17
  · rw [(rw_fn h).2];rfl
  · rw [(rw_no h).2];rfl
theorem rwR_use (op:Int):LV.inUse (rwBx op) (rwR op)=true:=by
  by_cases h:5≤op∧op≤17
  · rw [(rw_fn h).1,(rw_fn h).2];rfl
  · rw [(rw_no h).1,(rw_no h).2];rfl
theorem rowL_bad {op:Int} (h:op<1∨17<op):rowL op=[.string ⟨#[]⟩,.int .i64 0,.bool false,.bool false,.bool false]:=by
  unfold rowL wordS
  rw [if_neg (by omega),takes_out (by omega),cM (show op≠2 by omega),cM (show op≠3 by omega),cM (show op≠1 by omega)]
  rfl
set_option maxHeartbeats 12800000 in
theorem rowOf_all (op:Int):MSpec Tryz.prog X 50 [Ln .i64 op] [] (rwR op) (rwBx op):=by
  refine cC Tryz.func50 rfl (by kernel_rfl) rfl (rwR_use op) (rwBx_use op) rfl rfl ?_
  intro C
  refine LWP.ends ?_
  (refine aA<|rgN<|aP O dM ?_;refine aB<|aA<|aA<|rgN<|kmv O<|aB<|aG<|aA ?_)
  by_cases c1:op=1
  · subst c1
    rw [(rw_no (op:=1) (by decide)).1,(rw_no (op:=1) (by decide)).2]
    (refine rgN<|keq O O (r:=true) O<|kas O<|aB<|aE O ?_;refine aA<|rgN<|aT O O (by exact O) (by exact nl3 O O O O) dM ?_;refine aT O O (by exact O) (by exact nl6 O O O O O O O) dM ?_;refine aM O O O O O O dM ?_;refine aB<|aI ?_)
    exact bZ ⟨[],⟨[_],⟨⟨_,_,O,O,O,.inl ⟨AggT.h,O⟩⟩,trivial⟩,O⟩,trivial,O,O⟩
  (refine rgN<|keq O O (r:=false) (cM c1)<|kas O<|aB<|aF O ?_;refine aA ?_)
  by_cases c2:op=2
  · subst c2
    rw [(rw_no (op:=2) (by decide)).1,(rw_no (op:=2) (by decide)).2]
    (refine rgN<|keq O O (r:=true) O<|kas O<|aB<|aE O ?_;refine aA<|rgN<|aT O O (by exact O) (by exact nl3 O O O O) dM ?_;refine aT O O (by exact O) (by exact nl6 O O O O O O O) dM ?_;refine aM O O O O O O dM ?_;refine aB<|aI ?_)
    exact bZ ⟨[],⟨[_],⟨⟨_,_,O,O,O,.inl ⟨AggT.h,O⟩⟩,trivial⟩,O⟩,trivial,O,O⟩
  (refine rgN<|keq O O (r:=false) (cM c2)<|kas O<|aB<|aF O ?_;refine aA ?_)
  by_cases c3:op=3
  · subst c3
    rw [(rw_no (op:=3) (by decide)).1,(rw_no (op:=3) (by decide)).2]
    (refine rgN<|keq O O (r:=true) O<|kas O<|aB<|aE O ?_;refine aA<|rgN<|aT O O (by exact O) (by exact nl3 O O O O) dM ?_;refine aT O O (by exact O) (by exact nl6 O O O O O O O) dM ?_;refine aM O O O O O O dM ?_;refine aB<|aI ?_)
    exact bZ ⟨[],⟨[_],⟨⟨_,_,O,O,O,.inl ⟨AggT.h,O⟩⟩,trivial⟩,O⟩,trivial,O,O⟩
  (refine rgN<|keq O O (r:=false) (cM c3)<|kas O<|aB<|aF O ?_;refine aA ?_)
  by_cases c4:op=4
  · subst c4
    rw [(rw_no (op:=4) (by decide)).1,(rw_no (op:=4) (by decide)).2]
    (refine rgN<|keq O O (r:=true) O<|kas O<|aB<|aE O ?_;refine aA<|rgN<|aT O O (by exact O) (by exact nl6 O O O O O O O) dM ?_;refine aM O O O O O O dM ?_;refine aB<|aI ?_)
    exact bZ ⟨[],⟨[_],⟨⟨_,_,O,O,O,.inl ⟨AggT.h,O⟩⟩,trivial⟩,O⟩,trivial,O,O⟩
  (refine rgN<|keq O O (r:=false) (cM c4)<|kas O<|aB<|aF O ?_;refine aA ?_)
  by_cases c5:op=5
  · subst c5
    rw [(rw_fn (op:=5) (by decide)).1,(rw_fn (op:=5) (by decide)).2]
    (refine rgN<|keq O O (r:=true) O<|kas O<|aB<|aE O ?_;refine aA<|rgN<|bE [(1000001,501)] (.sv (.one (ptrF 94 501))) [vB 140 501 (.val (fnV 70))] ((mA_ofTwo X 70)) O O (by exact trivial) O O O O O (by exact (.box O O .nil)) dM<|aT O O (by exact O) (by exact nl6 O O O O O O O) dM ?_;refine aM O O O O O O dM ?_;refine aB<|aI ?_)
    refine cA (σ':=⟨[(2,Lp 2)],vB 140 501 (.val (fnV 70))::(2,some ⟨101,(rowL 5).map .val++[ptrF (cloF 5) 501],false⟩)::[],X⟩) (Le.of (by exact ⟨O,trivial⟩) (by exact ⟨O,O,trivial⟩) (by exact O) (by exact O) (by repeat' (first|refine bR ?_ ?_|rfl|exact bT|exact bS|exact bU O))) ?_
    refine deed_shut1 (f:=cloF 5) (op:=5) (fun Y _ _ _ _ h1 h2=>deed_two O h1 h2 (two_fn Y (fun Z x y hx hy=>wAdd_do Z x y hx hy)) (fun u w _ _=>node_do (by decide) u w)) (bZ ?_)
    exact ⟨[(1000001,501)],⟨[_],⟨⟨_,_,rfl,rfl,rfl,.inl ⟨AggT.h,rfl⟩⟩,trivial⟩,rfl⟩,(by repeat' (first|exact trivial|refine cL ⟨_,rfl,?_⟩ ?_|refine cL ⟨_,rfl⟩ ?_|rfl|exact bV _ _ _ _|exact bW _ _ _ _|exact bX rfl)),rfl,rfl⟩
  (refine rgN<|keq O O (r:=false) (cM c5)<|kas O<|aB<|aF O ?_;refine aA ?_)
  by_cases c6:op=6
  · subst c6
    rw [(rw_fn (op:=6) (by decide)).1,(rw_fn (op:=6) (by decide)).2]
    (refine rgN<|keq O O (r:=true) O<|kas O<|aB<|aE O ?_;refine aA<|rgN<|bE [(1000001,501)] (.sv (.one (ptrF 94 501))) [vB 140 501 (.val (fnV 71))] ((mA_ofTwo X 71)) O O (by exact trivial) O O O O O (by exact (.box O O .nil)) dM<|aT O O (by exact O) (by exact nl6 O O O O O O O) dM ?_;refine aM O O O O O O dM ?_;refine aB<|aI ?_)
    refine cA (σ':=⟨[(2,Lp 2)],vB 140 501 (.val (fnV 71))::(2,some ⟨101,(rowL 6).map .val++[ptrF (cloF 6) 501],false⟩)::[],X⟩) (Le.of (by exact ⟨O,trivial⟩) (by exact ⟨O,O,trivial⟩) (by exact O) (by exact O) (by repeat' (first|refine bR ?_ ?_|rfl|exact bT|exact bS|exact bU O))) ?_
    refine deed_shut1 (f:=cloF 6) (op:=6) (fun Y _ _ _ _ h1 h2=>deed_two O h1 h2 (two_fn Y (fun Z x y hx hy=>wSub_do Z x y hx hy)) (fun u w _ _=>node_do (by decide) u w)) (bZ ?_)
    exact ⟨[(1000001,501)],⟨[_],⟨⟨_,_,rfl,rfl,rfl,.inl ⟨AggT.h,rfl⟩⟩,trivial⟩,rfl⟩,(by repeat' (first|exact trivial|refine cL ⟨_,rfl,?_⟩ ?_|refine cL ⟨_,rfl⟩ ?_|rfl|exact bV _ _ _ _|exact bW _ _ _ _|exact bX rfl)),rfl,rfl⟩
  (refine rgN<|keq O O (r:=false) (cM c6)<|kas O<|aB<|aF O ?_;refine aA ?_)
  by_cases c7:op=7
  · subst c7
    rw [(rw_fn (op:=7) (by decide)).1,(rw_fn (op:=7) (by decide)).2]
    (refine rgN<|keq O O (r:=true) O<|kas O<|aB<|aE O ?_;refine aA<|rgN<|bE [(1000001,501)] (.sv (.one (ptrF 94 501))) [vB 140 501 (.val (fnV 72))] ((mA_ofTwo X 72)) O O (by exact trivial) O O O O O (by exact (.box O O .nil)) dM<|aT O O (by exact O) (by exact nl6 O O O O O O O) dM ?_;refine aM O O O O O O dM ?_;refine aB<|aI ?_)
    refine cA (σ':=⟨[(2,Lp 2)],vB 140 501 (.val (fnV 72))::(2,some ⟨101,(rowL 7).map .val++[ptrF (cloF 7) 501],false⟩)::[],X⟩) (Le.of (by exact ⟨O,trivial⟩) (by exact ⟨O,O,trivial⟩) (by exact O) (by exact O) (by repeat' (first|refine bR ?_ ?_|rfl|exact bT|exact bS|exact bU O))) ?_
    refine deed_shut1 (f:=cloF 7) (op:=7) (fun Y _ _ _ _ h1 h2=>deed_two O h1 h2 (two_fn Y (fun Z x y hx hy=>wMul_do Z x y hx hy)) (fun u w _ _=>node_do (by decide) u w)) (bZ ?_)
    exact ⟨[(1000001,501)],⟨[_],⟨⟨_,_,rfl,rfl,rfl,.inl ⟨AggT.h,rfl⟩⟩,trivial⟩,rfl⟩,(by repeat' (first|exact trivial|refine cL ⟨_,rfl,?_⟩ ?_|refine cL ⟨_,rfl⟩ ?_|rfl|exact bV _ _ _ _|exact bW _ _ _ _|exact bX rfl)),rfl,rfl⟩
  (refine rgN<|keq O O (r:=false) (cM c7)<|kas O<|aB<|aF O ?_;refine aA ?_)
  by_cases c8:op=8
  · subst c8
    rw [(rw_fn (op:=8) (by decide)).1,(rw_fn (op:=8) (by decide)).2]
    (refine rgN<|keq O O (r:=true) O<|kas O<|aB<|aE O ?_;refine aA<|rgN<|bE [(1000001,501)] (.sv (.one (ptrF 94 501))) [vB 140 501 (.val (fnV 73))] ((mA_ofTwo X 73)) O O (by exact trivial) O O O O O (by exact (.box O O .nil)) dM<|aT O O (by exact O) (by exact nl6 O O O O O O O) dM ?_;refine aM O O O O O O dM ?_;refine aB<|aI ?_)
    refine cA (σ':=⟨[(2,Lp 2)],vB 140 501 (.val (fnV 73))::(2,some ⟨101,(rowL 8).map .val++[ptrF (cloF 8) 501],false⟩)::[],X⟩) (Le.of (by exact ⟨O,trivial⟩) (by exact ⟨O,O,trivial⟩) (by exact O) (by exact O) (by repeat' (first|refine bR ?_ ?_|rfl|exact bT|exact bS|exact bU O))) ?_
    refine deed_shut1 (f:=cloF 8) (op:=8) (fun Y _ _ _ _ h1 h2=>deed_two O h1 h2 (two_fn Y (fun Z x y hx hy=>wQuo_do Z x y hx hy)) (fun u w _ _=>node_do (by decide) u w)) (bZ ?_)
    exact ⟨[(1000001,501)],⟨[_],⟨⟨_,_,rfl,rfl,rfl,.inl ⟨AggT.h,rfl⟩⟩,trivial⟩,rfl⟩,(by repeat' (first|exact trivial|refine cL ⟨_,rfl,?_⟩ ?_|refine cL ⟨_,rfl⟩ ?_|rfl|exact bV _ _ _ _|exact bW _ _ _ _|exact bX rfl)),rfl,rfl⟩
  (refine rgN<|keq O O (r:=false) (cM c8)<|kas O<|aB<|aF O ?_;refine aA ?_)
  by_cases c9:op=9
  · subst c9
    rw [(rw_fn (op:=9) (by decide)).1,(rw_fn (op:=9) (by decide)).2]
    (refine rgN<|keq O O (r:=true) O<|kas O<|aB<|aE O ?_;refine aA<|rgN<|bE [(1000001,501)] (.sv (.one (ptrF 94 501))) [vB 140 501 (.val (fnV 74))] ((mA_ofTwo X 74)) O O (by exact trivial) O O O O O (by exact (.box O O .nil)) dM<|aT O O (by exact O) (by exact nl6 O O O O O O O) dM ?_;refine aM O O O O O O dM ?_;refine aB<|aI ?_)
    refine cA (σ':=⟨[(2,Lp 2)],vB 140 501 (.val (fnV 74))::(2,some ⟨101,(rowL 9).map .val++[ptrF (cloF 9) 501],false⟩)::[],X⟩) (Le.of (by exact ⟨O,trivial⟩) (by exact ⟨O,O,trivial⟩) (by exact O) (by exact O) (by repeat' (first|refine bR ?_ ?_|rfl|exact bT|exact bS|exact bU O))) ?_
    refine deed_shut1 (f:=cloF 9) (op:=9) (fun Y _ _ _ _ h1 h2=>deed_two O h1 h2 (two_fn Y (fun Z x y hx hy=>wRem_do Z x y hx hy)) (fun u w _ _=>node_do (by decide) u w)) (bZ ?_)
    exact ⟨[(1000001,501)],⟨[_],⟨⟨_,_,rfl,rfl,rfl,.inl ⟨AggT.h,rfl⟩⟩,trivial⟩,rfl⟩,(by repeat' (first|exact trivial|refine cL ⟨_,rfl,?_⟩ ?_|refine cL ⟨_,rfl⟩ ?_|rfl|exact bV _ _ _ _|exact bW _ _ _ _|exact bX rfl)),rfl,rfl⟩
  (refine rgN<|keq O O (r:=false) (cM c9)<|kas O<|aB<|aF O ?_;refine aA ?_)
  by_cases c10:op=10
  · subst c10
    rw [(rw_fn (op:=10) (by decide)).1,(rw_fn (op:=10) (by decide)).2]
    (refine rgN<|keq O O (r:=true) O<|kas O<|aB<|aE O ?_;refine aA<|rgN<|bE [(1000001,501)] (.sv (.one (ptrF 106 501))) [vB 140 501 (.val (fnV 71))] ((mA_withZero X 71)) O O (by exact trivial) O O O O O (by exact (.box O O .nil)) dM<|bE [(1000001,502),(1000002,501)] (.sv (.one (ptrF 105 502))) [vB 138 502 (ptrF 106 501),vB 140 501 (.val (fnV 71))] ((mB_ofOne X 106 71 140)) O O (by exact (cL ⟨_,O,O⟩ trivial)) (by exact (bR (bR O O) O)) O O O O (by exact (.box O O (.box O O .nil))) dM<|aT O O (by exact O) (by exact nl6 O O O O O O O) dM ?_;refine aM O O O O O O dM ?_;refine aB<|aI ?_)
    refine cA (σ':=⟨[(2,Lp 2)],vB 138 502 (ptrF 106 501)::vB 140 501 (.val (fnV 71))::(2,some ⟨101,(rowL 10).map .val++[ptrF (cloF 10) 502],false⟩)::[],X⟩) (Le.of (by exact ⟨O,trivial⟩) (by exact ⟨O,O,O,trivial⟩) (by exact O) (by exact O) (by repeat' (first|refine bR ?_ ?_|rfl|exact bT|exact bS|exact bU O))) ?_
    refine deed_shut2 (f:=cloF 10) (op:=10) (fun Y _ _ _ _ _ _ _ _ h1 h2 h3 h4=>deed_one O h3 h4 (one_zero h1 h2 (two_fn Y (fun Z x y hx hy=>wSub_do Z x y hx hy))) (fun u hu=>node_neg hu)) O O O (bZ ?_)
    exact ⟨[(1000001,502)],⟨[_],⟨⟨_,_,rfl,rfl,rfl,.inl ⟨AggT.h,rfl⟩⟩,trivial⟩,rfl⟩,(by repeat' (first|exact trivial|refine cL ⟨_,rfl,?_⟩ ?_|refine cL ⟨_,rfl⟩ ?_|rfl|exact bV _ _ _ _|exact bW _ _ _ _|exact bX rfl)),rfl,rfl⟩
  (refine rgN<|keq O O (r:=false) (cM c10)<|kas O<|aB<|aF O ?_;refine aA ?_)
  by_cases c11:op=11
  · subst c11
    rw [(rw_fn (op:=11) (by decide)).1,(rw_fn (op:=11) (by decide)).2]
    (refine rgN<|keq O O (r:=true) O<|kas O<|aB<|aE O ?_;refine aA<|rgN<|bE [(1000001,501)] (.sv (.one (ptrF 107 501))) [vB 140 501 (.val (fnV 78))] ((mA_chosen X 78)) O O (by exact trivial) O O O O O (by exact (.box O O .nil)) dM<|bE [(1000001,502),(1000002,501)] (.sv (.one (ptrF 94 502))) [vB 140 502 (ptrF 107 501),vB 140 501 (.val (fnV 78))] ((mB_ofTwo X 107 78 140)) O O (by exact (cL ⟨_,O,O⟩ trivial)) (by exact (bR (bR O O) O)) O O O O (by exact (.box O O (.box O O .nil))) dM<|aT O O (by exact O) (by exact nl6 O O O O O O O) dM ?_;refine aM O O O O O O dM ?_;refine aB<|aI ?_)
    refine cA (σ':=⟨[(2,Lp 2)],vB 140 502 (ptrF 107 501)::vB 140 501 (.val (fnV 78))::(2,some ⟨101,(rowL 11).map .val++[ptrF (cloF 11) 502],false⟩)::[],X⟩) (Le.of (by exact ⟨O,trivial⟩) (by exact ⟨O,O,O,trivial⟩) (by exact O) (by exact O) (by repeat' (first|refine bR ?_ ?_|rfl|exact bT|exact bS|exact bU O))) ?_
    refine deed_shut2 (f:=cloF 11) (op:=11) (fun Y _ _ _ _ _ _ _ _ h1 h2 h3 h4=>deed_two O h3 h4 (two_chosen h1 h2 (two_fn Y (fun Z x y hx hy=>tLess Z x y hx hy)) (fun _ _ _ h=>less_ok h) (fun _ _ _ h=>less_err h)) (fun u w hu hw=>node_least hu hw)) O O O (bZ ?_)
    exact ⟨[(1000001,502)],⟨[_],⟨⟨_,_,rfl,rfl,rfl,.inl ⟨AggT.h,rfl⟩⟩,trivial⟩,rfl⟩,(by repeat' (first|exact trivial|refine cL ⟨_,rfl,?_⟩ ?_|refine cL ⟨_,rfl⟩ ?_|rfl|exact bV _ _ _ _|exact bW _ _ _ _|exact bX rfl)),rfl,rfl⟩
  (refine rgN<|keq O O (r:=false) (cM c11)<|kas O<|aB<|aF O ?_;refine aA ?_)
  by_cases c12:op=12
  · subst c12
    rw [(rw_fn (op:=12) (by decide)).1,(rw_fn (op:=12) (by decide)).2]
    (refine rgN<|keq O O (r:=true) O<|kas O<|aB<|aE O ?_;refine aA<|rgN<|bE [(1000001,501)] (.sv (.one (ptrF 110 501))) [vB 140 501 (.val (fnV 78))] ((mA_swapped X 78)) O O (by exact trivial) O O O O O (by exact (.box O O .nil)) dM<|bE [(1000001,502),(1000002,501)] (.sv (.one (ptrF 107 502))) [vB 140 502 (ptrF 110 501),vB 140 501 (.val (fnV 78))] ((mB_chosen X 110 78 140)) O O (by exact (cL ⟨_,O,O⟩ trivial)) (by exact (bR (bR O O) O)) O O O O (by exact (.box O O (.box O O .nil))) dM<|bE [(1000001,503),(1000002,502),(1000003,501)] (.sv (.one (ptrF 94 503))) [vB 140 503 (ptrF 107 502),vB 140 502 (ptrF 110 501),vB 140 501 (.val (fnV 78))] ((mC_ofTwo X 107 110 78 140)) O O (by exact (cL ⟨_,O,O⟩ (cL ⟨_,O,O⟩ trivial))) (by exact (bR (bR O O) (bR (bR O O) O))) O O O O (by exact (.box O O (.box O O (.box O O .nil)))) dM<|aT O O (by exact O) (by exact nl6 O O O O O O O) dM ?_;refine aM O O O O O O dM ?_;refine aB<|aI ?_)
    refine cA (σ':=⟨[(2,Lp 2)],vB 140 503 (ptrF 107 502)::vB 140 502 (ptrF 110 501)::vB 140 501 (.val (fnV 78))::(2,some ⟨101,(rowL 12).map .val++[ptrF (cloF 12) 503],false⟩)::[],X⟩) (Le.of (by exact ⟨O,trivial⟩) (by exact ⟨O,O,O,O,trivial⟩) (by exact O) (by exact O) (by repeat' (first|refine bR ?_ ?_|rfl|exact bT|exact bS|exact bU O))) ?_
    refine deed_shut3 (f:=cloF 12) (op:=12) (fun Y _ _ _ _ _ _ _ _ _ _ _ _ h1 h2 h3 h4 h5 h6=>deed_two O h5 h6 (two_chosen h3 h4 (two_swapped h1 h2 (two_fn Y (fun Z x y hx hy=>tLess Z x y hx hy))) (fun _ _ _ h=>less_ok h) (fun _ _ _ h=>less_err h)) (fun u w hu hw=>node_great hu hw)) O O O O O O O (bZ ?_)
    exact ⟨[(1000001,503)],⟨[_],⟨⟨_,_,rfl,rfl,rfl,.inl ⟨AggT.h,rfl⟩⟩,trivial⟩,rfl⟩,(by repeat' (first|exact trivial|refine cL ⟨_,rfl,?_⟩ ?_|refine cL ⟨_,rfl⟩ ?_|rfl|exact bV _ _ _ _|exact bW _ _ _ _|exact bX rfl)),rfl,rfl⟩
  (refine rgN<|keq O O (r:=false) (cM c12)<|kas O<|aB<|aF O ?_;refine aA ?_)
  by_cases c13:op=13
  · subst c13
    rw [(rw_fn (op:=13) (by decide)).1,(rw_fn (op:=13) (by decide)).2]
    (refine rgN<|keq O O (r:=true) O<|kas O<|aB<|aE O ?_;refine aA<|rgN<|bE [(1000001,501)] (.sv (.one (ptrF 94 501))) [vB 140 501 (.val (fnV 80))] ((mA_ofTwo X 80)) O O (by exact trivial) O O O O O (by exact (.box O O .nil)) dM<|aT O O (by exact O) (by exact nl6 O O O O O O O) dM ?_;refine aM O O O O O O dM ?_;refine aB<|aI ?_)
    refine cA (σ':=⟨[(2,Lp 2)],vB 140 501 (.val (fnV 80))::(2,some ⟨101,(rowL 13).map .val++[ptrF (cloF 13) 501],false⟩)::[],X⟩) (Le.of (by exact ⟨O,trivial⟩) (by exact ⟨O,O,trivial⟩) (by exact O) (by exact O) (by repeat' (first|refine bR ?_ ?_|rfl|exact bT|exact bS|exact bU O))) ?_
    refine deed_shut1 (f:=cloF 13) (op:=13) (fun Y _ _ _ _ h1 h2=>deed_two O h1 h2 (two_fn Y (fun Z x y hx hy=>tSame Z x y hx hy)) (fun u w _ _=>node_same u w)) (bZ ?_)
    exact ⟨[(1000001,501)],⟨[_],⟨⟨_,_,rfl,rfl,rfl,.inl ⟨AggT.h,rfl⟩⟩,trivial⟩,rfl⟩,(by repeat' (first|exact trivial|refine cL ⟨_,rfl,?_⟩ ?_|refine cL ⟨_,rfl⟩ ?_|rfl|exact bV _ _ _ _|exact bW _ _ _ _|exact bX rfl)),rfl,rfl⟩
  (refine rgN<|keq O O (r:=false) (cM c13)<|kas O<|aB<|aF O ?_;refine aA ?_)
  by_cases c14:op=14
  · subst c14
    rw [(rw_fn (op:=14) (by decide)).1,(rw_fn (op:=14) (by decide)).2]
    (refine rgN<|keq O O (r:=true) O<|kas O<|aB<|aE O ?_;refine aA<|rgN<|bE [(1000001,501)] (.sv (.one (ptrF 94 501))) [vB 140 501 (.val (fnV 78))] ((mA_ofTwo X 78)) O O (by exact trivial) O O O O O (by exact (.box O O .nil)) dM<|aT O O (by exact O) (by exact nl6 O O O O O O O) dM ?_;refine aM O O O O O O dM ?_;refine aB<|aI ?_)
    refine cA (σ':=⟨[(2,Lp 2)],vB 140 501 (.val (fnV 78))::(2,some ⟨101,(rowL 14).map .val++[ptrF (cloF 14) 501],false⟩)::[],X⟩) (Le.of (by exact ⟨O,trivial⟩) (by exact ⟨O,O,trivial⟩) (by exact O) (by exact O) (by repeat' (first|refine bR ?_ ?_|rfl|exact bT|exact bS|exact bU O))) ?_
    refine deed_shut1 (f:=cloF 14) (op:=14) (fun Y _ _ _ _ h1 h2=>deed_two O h1 h2 (two_fn Y (fun Z x y hx hy=>tLess Z x y hx hy)) (fun u w _ _=>node_less u w)) (bZ ?_)
    exact ⟨[(1000001,501)],⟨[_],⟨⟨_,_,rfl,rfl,rfl,.inl ⟨AggT.h,rfl⟩⟩,trivial⟩,rfl⟩,(by repeat' (first|exact trivial|refine cL ⟨_,rfl,?_⟩ ?_|refine cL ⟨_,rfl⟩ ?_|rfl|exact bV _ _ _ _|exact bW _ _ _ _|exact bX rfl)),rfl,rfl⟩
  (refine rgN<|keq O O (r:=false) (cM c14)<|kas O<|aB<|aF O ?_;refine aA ?_)
  by_cases c15:op=15
  · subst c15
    rw [(rw_fn (op:=15) (by decide)).1,(rw_fn (op:=15) (by decide)).2]
    (refine rgN<|keq O O (r:=true) O<|kas O<|aB<|aE O ?_;refine aA<|rgN<|bE [(1000001,501)] (.sv (.one (ptrF 106 501))) [vB 140 501 (.val (fnV 80))] ((mA_withZero X 80)) O O (by exact trivial) O O O O O (by exact (.box O O .nil)) dM<|bE [(1000001,502),(1000002,501)] (.sv (.one (ptrF 105 502))) [vB 138 502 (ptrF 106 501),vB 140 501 (.val (fnV 80))] ((mB_ofOne X 106 80 140)) O O (by exact (cL ⟨_,O,O⟩ trivial)) (by exact (bR (bR O O) O)) O O O O (by exact (.box O O (.box O O .nil))) dM<|aT O O (by exact O) (by exact nl6 O O O O O O O) dM ?_;refine aM O O O O O O dM ?_;refine aB<|aI ?_)
    refine cA (σ':=⟨[(2,Lp 2)],vB 138 502 (ptrF 106 501)::vB 140 501 (.val (fnV 80))::(2,some ⟨101,(rowL 15).map .val++[ptrF (cloF 15) 502],false⟩)::[],X⟩) (Le.of (by exact ⟨O,trivial⟩) (by exact ⟨O,O,O,trivial⟩) (by exact O) (by exact O) (by repeat' (first|refine bR ?_ ?_|rfl|exact bT|exact bS|exact bU O))) ?_
    refine deed_shut2 (f:=cloF 15) (op:=15) (fun Y _ _ _ _ _ _ _ _ h1 h2 h3 h4=>deed_one O h3 h4 (one_zero h1 h2 (two_fn Y (fun Z x y hx hy=>tSame Z x y hx hy))) (fun u hu=>node_not u)) O O O (bZ ?_)
    exact ⟨[(1000001,502)],⟨[_],⟨⟨_,_,rfl,rfl,rfl,.inl ⟨AggT.h,rfl⟩⟩,trivial⟩,rfl⟩,(by repeat' (first|exact trivial|refine cL ⟨_,rfl,?_⟩ ?_|refine cL ⟨_,rfl⟩ ?_|rfl|exact bV _ _ _ _|exact bW _ _ _ _|exact bX rfl)),rfl,rfl⟩
  (refine rgN<|keq O O (r:=false) (cM c15)<|kas O<|aB<|aF O ?_;refine aA ?_)
  by_cases c16:op=16
  · subst c16
    rw [(rw_fn (op:=16) (by decide)).1,(rw_fn (op:=16) (by decide)).2]
    (refine rgN<|keq O O (r:=true) O<|kas O<|aB<|aE O ?_;refine aA<|rgN<|bE [(1000001,501)] (.sv (.one (ptrF 111 501))) [vB 165 501 (.val (fnV 82))] ((mA_ofThree X 82)) O O (by exact trivial) O O O O O (by exact (.box O O .nil)) dM<|aT O O (by exact O) (by exact nl6 O O O O O O O) dM ?_;refine aM O O O O O O dM ?_;refine aB<|aI ?_)
    refine cA (σ':=⟨[(2,Lp 2)],vB 165 501 (.val (fnV 82))::(2,some ⟨101,(rowL 16).map .val++[ptrF (cloF 16) 501],false⟩)::[],X⟩) (Le.of (by exact ⟨O,trivial⟩) (by exact ⟨O,O,trivial⟩) (by exact O) (by exact O) (by repeat' (first|refine bR ?_ ?_|rfl|exact bT|exact bS|exact bU O))) ?_
    refine deed_shut1 (f:=cloF 16) (op:=16) (fun Y _ _ _ _ h1 h2=>deed_three O h1 h2 (three_fn Y (fun Z x y z hx hy hz=>tPick Z x y z hx)) (fun u w z _ _ _=>O)) (bZ ?_)
    exact ⟨[(1000001,501)],⟨[_],⟨⟨_,_,rfl,rfl,rfl,.inl ⟨AggT.h,rfl⟩⟩,trivial⟩,rfl⟩,(by repeat' (first|exact trivial|refine cL ⟨_,rfl,?_⟩ ?_|refine cL ⟨_,rfl⟩ ?_|rfl|exact bV _ _ _ _|exact bW _ _ _ _|exact bX rfl)),rfl,rfl⟩
  (refine rgN<|keq O O (r:=false) (cM c16)<|kas O<|aB<|aF O ?_;refine aA ?_)
  by_cases c17:op=17
  · subst c17
    rw [(rw_fn (op:=17) (by decide)).1,(rw_fn (op:=17) (by decide)).2]
    (refine rgN<|keq O O (r:=true) O<|kas O<|aB<|aE O ?_;refine aA<|rgN<|bE [(1000001,501)] (.sv (.one (ptrF 94 501))) [vB 140 501 (.val (fnV 83))] ((mA_ofTwo X 83)) O O (by exact trivial) O O O O O (by exact (.box O O .nil)) dM<|aT O O (by exact O) (by exact nl6 O O O O O O O) dM ?_;refine aM O O O O O O dM ?_;refine aB<|aI ?_)
    refine cA (σ':=⟨[(2,Lp 2)],vB 140 501 (.val (fnV 83))::(2,some ⟨101,(rowL 17).map .val++[ptrF (cloF 17) 501],false⟩)::[],X⟩) (Le.of (by exact ⟨O,trivial⟩) (by exact ⟨O,O,trivial⟩) (by exact O) (by exact O) (by repeat' (first|refine bR ?_ ?_|rfl|exact bT|exact bS|exact bU O))) ?_
    refine deed_shut1 (f:=cloF 17) (op:=17) (fun Y _ _ _ _ h1 h2=>deed_two O h1 h2 (two_fn Y (fun Z x y hx hy=>tNeed Z x y hy)) (fun u w _ _=>node_need u w)) (bZ ?_)
    exact ⟨[(1000001,501)],⟨[_],⟨⟨_,_,rfl,rfl,rfl,.inl ⟨AggT.h,rfl⟩⟩,trivial⟩,rfl⟩,(by repeat' (first|exact trivial|refine cL ⟨_,rfl,?_⟩ ?_|refine cL ⟨_,rfl⟩ ?_|rfl|exact bV _ _ _ _|exact bW _ _ _ _|exact bX rfl)),rfl,rfl⟩
  (refine rgN<|keq O O (r:=false) (cM c17)<|kas O<|aB<|aF O ?_;refine aH ?_;refine aA ?_)
  have hbad:op<1∨17<op:=by omega
  rw [(rw_no (op:=op) (by omega)).1,(rw_no (op:=op) (by omega)).2]
  unfold LRow
  rw [rowL_bad hbad,show leafV op = .nilFunc by unfold leafV;rw [if_neg c1,if_neg c2,if_neg c3,if_neg c4]]
  (refine rgN<|aT O O (by exact O) (by exact nl6 O O O O O O O) dM ?_;refine aM O O O O O O dM ?_;refine aB<|aI ?_)
  exact bZ ⟨[],⟨[_],⟨⟨_,_,O,O,O,.inl ⟨AggT.h,O⟩⟩,trivial⟩,O⟩,trivial,O,O⟩
theorem rowOf_fn (op:Int) (h:5≤op∧op≤17):MSpec Tryz.prog X 50 [Ln .i64 op] [] (LRow op (ptrF (cloF op) 1000001)) [dB 1000001 op]:=by
  have:=rowOf_all X op
  rw [(rw_fn h).1,(rw_fn h).2] at this
  exact this
theorem rowOf_leaf (op:Int) (h:¬ (5≤op∧op≤17)):PSpec Tryz.prog X 50 [Ln .i64 op] (LRow op (.val (leafV op))):=by
  have:=rowOf_all X op
  rw [(rw_no h).1,(rw_no h).2] at this
  exact this.plain
theorem rowOf_1:PSpec Tryz.prog X 50 [Ln .i64 1] (LRow 1 (.val (fnV 65))):=rowOf_leaf X 1 (by decide)
theorem rowOf_2:PSpec Tryz.prog X 50 [Ln .i64 2] (LRow 2 (.val (fnV 66))):=rowOf_leaf X 2 (by decide)
theorem rowOf_3:PSpec Tryz.prog X 50 [Ln .i64 3] (LRow 3 (.val (fnV 67))):=rowOf_leaf X 3 (by decide)
theorem rowOf_4:PSpec Tryz.prog X 50 [Ln .i64 4] (LRow 4 (.val (fnV 68))):=rowOf_leaf X 4 (by decide)
theorem rowOf_no (op:Int) (h:op<1∨17<op):PSpec Tryz.prog X 50 [Ln .i64 op] (LRow op (.val .nilFunc)):=by
  have:=rowOf_leaf X op (by omega)
  rw [show leafV op = .nilFunc by unfold leafV;rw [if_neg (by omega),if_neg (by omega),if_neg (by omega),if_neg (by omega)]] at this
  exact this
end Go.Proofs.YtnfbccfghgmfiaaGreat
end
section
namespace Go.Proofs.YtnfbccfghgmfiaaGreat
open Go Go.Lg Go.Lg.Fml Go.Lg.Fld Go.Lg.Arith
set_option maxRecDepth 100000
variable (X:Nat→Option Obj)
theorem tSmall (n:Int):PSpec Tryz.prog X 84 [Ln .i64 n] (Lb (decide (0≤n)&&decide (n≤7))):=by
  by_cases h:0≤n
  · rw [cK h,Bool.true_and]
    refine cB Tryz.func84 rfl (by kernel_rfl) rfl rfl ?_
    intro C
    (refine aA<|rgN<|kas O<|aB<|aA<|rgN<|kmv O<|bD O O (r:=true) (cK h) dM<|kmv O<|gmv O O O<|K.leq O O O (dN O O) ?_;refine kpt O O<|kas O<|aB<|aI ?_)
    exact ⟨[_],⟨O,trivial⟩,O⟩
  · rw [cJ h,Bool.false_and]
    refine cB Tryz.func84 rfl (by kernel_rfl) rfl rfl ?_
    intro C
    (refine aA<|rgN<|kas O<|aB<|aA<|rgN<|kmv O<|bD O O (r:=false) (cJ h) dM<|kmv O<|aC O O O<|aC O O O<|kpf O O<|kas O<|aB ?_;refine aI ?_)
    exact ⟨[_],⟨O,trivial⟩,O⟩
def bndI (x:Ins):Bool:=(decide (0≤x.a)&&decide (x.a≤7))&&((decide (0≤x.b)&&decide (x.b≤7))&&gd x.k)
theorem okI_bnd (x:Ins):okI x=((decide (1≤x.op)&&decide (x.op≤17))&&bndI x):=by
  unfold okI bndI
  cases gd x.k<;>cases (decide (0≤x.a)&&decide (x.a≤7))<;>cases (decide (0≤x.b)&&decide (x.b≤7))<;>rfl
theorem tBounded (x:Ins) (hx:smallI x) (r:Bool) (hr:bndI x=r):PSpec Tryz.prog X 51 [LIn x] (Lb r):=by
  subst hr
  unfold bndI
  have hA:=tSmall X x.a
  have hB:=tSmall X x.b
  have hG:=tForm X x.k hx.2.2.2 _ rfl
  generalize (decide (0≤x.a)&&decide (x.a≤7))=A at *
  generalize (decide (0≤x.b)&&decide (x.b≤7))=B at *
  generalize gd x.k=G at *
  cases A with
  | false =>
    refine cB Tryz.func51 rfl (by kernel_rfl) rfl rfl ?_
    intro C
    (refine aA<|rgN<|aL O O O dM<|kas O<|aB<|aA<|rgN<|kfa O O ?_;refine kl1 O O O<|kca O O hA<|kmv O<|aC O O O<|aC O O O<|aC O O O<|kpf O O<|kmv O<|aC O O O<|aC O O O<|aC O O O<|kpf O O<|kas O<|aB ?_;refine aI ?_)
    exact ⟨[_],⟨O,trivial⟩,O⟩
  | true =>
  cases B with
  | false =>
    refine cB Tryz.func51 rfl (by kernel_rfl) rfl rfl ?_
    intro C
    (refine aA<|rgN<|aL O O O dM<|kas O<|aB<|aA<|rgN<|kfa O O ?_;refine kl1 O O O<|kca O O hA<|kmv O<|aN O O (dN O O) ?_;refine aO O O O (dN O O) ?_;refine gca O O hB O O<|kpt O O<|kmv O<|aC O O O<|aC O O O<|aC O O O<|kpf O O<|kas O<|aB<|aI ?_)
    exact ⟨[_],⟨O,trivial⟩,O⟩
  | true =>
    refine cB Tryz.func51 rfl (by kernel_rfl) rfl rfl ?_
    intro C
    (refine aA<|rgN<|aL O O O dM<|kas O<|aB<|aA<|rgN<|kfa O O ?_;refine kl1 O O O<|kca O O hA<|kmv O<|aN O O (dN O O) ?_;refine aO O O O (dN O O) ?_;refine gca O O hB O O<|kpt O O<|kmv O<|aN O O (dN O O) ?_;refine bJ O O O (by exact nl3 O O O O) (dN O O) ?_;refine gca O O (hG) O O<|kpt O O<|kas O<|aB<|aI ?_)
    exact ⟨[_],⟨O,trivial⟩,O⟩
def rowVs (p:Int×Value):List Value:=rowL p.1++[p.2]
def rwsV (q:List (Int×Value)):List Value:=(q.map rowVs).flatten
theorem rowVs_len (p:Int×Value):(rowVs p).length=6:=rfl
theorem rwsV_len (q:List (Int×Value)):(rwsV q).length=q.length*6:=by
  unfold rwsV
  induction q with
  | nil=>rfl
  | cons x t ih=>rw [List.map_cons,List.flatten_cons,cQ,ih,rowVs_len,dD];omega
theorem rwsV_snoc (q:List (Int×Value)) (p:Int×Value):rwsV (q++[p])=rwsV q++rowVs p:=by
  unfold rwsV
  rw [dC,List.flatten_append]
  simp
def zeR (k:Nat):List Value:=(List.replicate k [Value.string ⟨#[]⟩,.int .i64 0,.bool false,.bool false,.bool false,.nilFunc]).flatten
theorem zeR_succ (k:Nat):zeR (k+1)=[Value.string ⟨#[]⟩,.int .i64 0,.bool false,.bool false,.bool false,.nilFunc]++zeR k:=by unfold zeR;rw [List.replicate_succ,List.flatten_cons]
theorem zeR_len (k:Nat):(zeR k).length=k*6:=by
  induction k with
  | zero=>rfl
  | succ k ih=>rw [zeR_succ,cQ,ih];simp;omega
def rowsR (l:List Ins):Rsc:=⟨fun ρ H=>∃ (q:List (Int×Value)) (fr:Nat×Nat),H ρ.1=some (.cells (rwsV q).toArray 101 fr)∧ρ.2=(rwsV q).length∧q.map (·.1)=l.map Ins.op∧∀ p∈q,DeedV H p.2 p.1⟩
structure RowsOK (Y:Nat→Option Obj) (ad:Option Addr) (l:List Ins):Prop where
  ex:∃ q:List (Int×Value),Go.Lg.RowsIn Y ad 6 (q.map rowVs)∧q.map (·.1)=l.map Ins.op∧∀ p∈q,DeedV Y p.2 p.1
theorem rows_fix {l:List Ins} {ρ:Nat×Nat} {H Y:Nat→Option Obj} (h:(rowsR l).holds ρ H) (hY:MoreM H Y):RowsOK Y (some ⟨ρ.1,0,none⟩) l:=by
  obtain ⟨q,fr,h1,h2,h3,h4⟩:=h
  refine ⟨q,rows_in (hY _ _ h1) (fun r hr=>by obtain ⟨x,_,rfl⟩:=List.mem_map.1 hr;rfl) ⟨[],by rw [dE];rfl⟩,h3,fun p hp=>(h4 p hp).mono hY⟩
theorem RowsOK.at {Y:Nat→Option Obj} {ad:Option Addr} {l:List Ins} (h:RowsOK Y ad l) {i:Nat} {x:Ins} (hx:l[i]? = some x):
    ∃ (blk off:Nat) (arr:Array Value) (el:TypeId) (fr:Nat×Nat) (v:Value),ad=some ⟨blk,off,none⟩∧Y blk=some (.cells arr el fr)∧off+i*6+6≤arr.size∧((arr.toList.drop (off+i*6)).take 6).map CV.val=(rowVs (x.op,v)).map CV.val∧DeedV Y v x.op:=by
  obtain ⟨q,h1,h2,h3⟩:=h.ex
  have hq:(q.map (·.1))[i]? = some x.op:=by rw [h2,dG,hx];rfl
  rw [dG] at hq
  cases hp:q[i]? with
  | none=>rw [hp] at hq;cases hq
  | some p =>
    rw [hp] at hq
    have hq:p.1=x.op:=by simpa using hq
    obtain ⟨blk,off,arr,el,fr,e1,e2,e3,e4⟩:=h1 i (rowVs p) (by rw [dG,hp];rfl)
    have h5:=h3 p (cX hp)
    obtain ⟨o,v⟩:=p
    have hq:o=x.op:=hq
    subst hq
    exact ⟨blk,off,arr,el,fr,v,e1,e2,e3,by rw [e4],h5⟩
def rsR (l:List Ins):LV:=if chkX l=0 then .tup [.one (.slc 1000001 0 l.length 6),Sn .i64 0] else .tup [Vnil,Sn .i64 (chkX l)]
def rsBx (l:List Ins):List (Nat×Option Box):=if chkX l=0 then [(1000001,some ⟨0,[],.res (rowsR l)⟩)] else []
theorem rs_ok {l:List Ins} (h:chkX l=0):rsR l = .tup [.one (.slc 1000001 0 l.length 6),Sn .i64 0]∧rsBx l=[(1000001,some ⟨0,[],.res (rowsR l)⟩)]:=⟨if_pos h,if_pos h⟩
theorem rs_no {l:List Ins} (h:chkX l≠0):rsR l = .tup [Vnil,Sn .i64 (chkX l)]∧rsBx l=[]:=⟨if_neg h,if_neg h⟩
theorem rsBx_use (l:List Ins):((rsBx l).all fun p=>match p.2 with|some b=>b.cells.all (CV.inUse (rsBx l))|none=>true)=true:=by
  by_cases h:chkX l=0
  · rw [(rs_ok h).2];rfl
  · rw [(rs_no h).2];rfl
theorem rsR_use (l:List Ins):LV.inUse (rsBx l) (rsR l)=true:=by
  by_cases h:chkX l=0
  · rw [(rs_ok h).1,(rs_ok h).2];rfl
  · rw [(rs_no h).1,(rs_no h).2];rfl
theorem joinM_assoc (X H G:Nat→Option Obj):joinM (joinM X H) G=joinM X (joinM H G):=by
  funext b
  unfold joinM
  cases G b<;>rfl
theorem owned_join {C:Ctx} {X H G:Nat→Option Obj} (h:OwnedM C X H) (h':OwnedM C (joinM X H) G):OwnedM C X (joinM H G)∧MoreM H (joinM H G)∧MoreM G (joinM H G):=by
  have hn:∀ b o,G b=some o→H b=none∧X b=none:=fun b o hb=>joinM_none (h'.own b o hb).2.2
  refine ⟨⟨fun b o hb => ?_⟩,fun b o hb => ?_,fun b o hb=>joinM_in hb⟩
  · cases hg:G b with
    | some o' =>
      rw [joinM_in hg] at hb
      cases hb
      obtain ⟨h1,h2,_⟩:=h'.own b o hg
      exact ⟨h1,h2,(hn b o hg).2⟩
    | none=>rw [joinM_out hg] at hb;exact h.own b o hb
  · cases hg:G b with
    | some o'=>rw [(hn b o' hg).1] at hb;cases hb
    | none=>rw [joinM_out hg];exact hb
abbrev rwSt (ad:Option Addr) (n cap i:Nat) (d:Nat) (cells:List Value) (ms:List (Nat×LV)) (mb:List (Nat×Option Box)) (Y:Nat→Option Obj):St:=
  ⟨ms++[(0,Lx ad n cap),(4,.sv (.one (.slc 500 0 n 6))),(5,Ln .i64 (d:Nat)),(15,Lx ad n cap),(16,Ln .i64 (n:Nat)),(17,Ln .i64 (i:Nat))],mb++[(500,some ⟨101,cells.map .val,false⟩)],Y⟩
abbrev rdB8 (x:Ins) (c:CV):List (Nat×Option Box):=[(7,some ⟨66,(insV x).map .val,false⟩),(8,some ⟨101,(rowL x.op).map .val++[c],false⟩)]
set_option maxHeartbeats 12800000 in
theorem tRowsOf (l:List Ins) (ad:Option Addr) (cap:Nat) (hin:InsIn X ad l) (hbig:l.length<1152921504606846976):MSpec Tryz.prog X 34 [Lx ad l.length cap] [] (rsR l) (rsBx l):=by
  refine cC Tryz.func34 rfl (by kernel_rfl) rfl (rsR_use l) (rsBx_use l) rfl rfl ?_
  intro C
  by_cases h64:64<l.length
  · have hc:chkX l=5:=if_pos h64
    obtain ⟨q1,q2⟩:=rs_no (l:=l) (by rw [hc];decide)
    rw [q1,q2,hc]
    (refine aA<|rgN<|kas O<|kas O<|aB<|aA<|aA<|rgN<|kmv O<|aQ O bY O dM ?_;refine aS O O (r:=true) (cK (by omega)) dM<|aB<|aE O ?_;refine aA<|rgN<|kas O<|kas O<|aB<|aI ?_)
    exact ⟨[],⟨[_,_],⟨O,O,trivial⟩,O⟩,trivial,O,O⟩
  have hmk:slcBuild Tryz.prog 92 l.length=some (zeR l.length,6,101):=slcBuild_many (z := #[.string ⟨#[]⟩,.int .i64 0,.bool false,.bool false,.bool false,.nilFunc]) (by kernel_rfl) (by kernel_rfl) rfl (by omega)
  refine LWP.ends ?_
  (refine aA<|rgN<|kas O<|kas O<|aB<|aA<|aA<|rgN<|kmv O<|aQ O bY O dM ?_;refine aS O O (r:=false) (cJ (by omega)) dM<|aB<|aF O ?_;refine aH ?_;refine aA<|rgN<|kmv O<|aQ O bY O dM ?_;refine K.makeSlc (m:=l.length) (bytes:=40) O O hmk (by kernel_rfl) (by omega) O O dM<|kas O<|kas O<|aB<|aA<|aA<|rgN<|kmv O<|aQ O bY O dM ?_;refine kmv O<|aB<|aG ?_)
  refine cG (fun k σ=>∃ (i d:Nat) (q:List (Int×Value)) (H:Nat→Option Obj),i≤l.length∧k=l.length-i∧q.map (·.1)=(l.take i).map Ins.op∧(∀ p∈q,DeedV H p.2 p.1)∧OwnedM C X H∧dep okI 0 (l.take i)=some d∧σ=rwSt ad l.length cap i d (rwsV q++zeR (l.length-i)) [] [] (joinM X H)) l.length
    (cA (σ':=rwSt ad l.length cap 0 0 (rwsV []++zeR (l.length-0)) [] [] X) ?_ (bZ ⟨0,0,[],fun _=>none,by omega,by omega,rfl,fun p hp=>absurd hp (by simp),OwnedM.nil _ _,rfl,by rw [joinM_nil]⟩)) ?_
  · exact Le.ofR [(500,14)] (by exact ⟨rfl,rfl,rfl,rfl,rfl,rfl,trivial⟩) (by repeat' (first|exact trivial|refine cL ⟨_,rfl,?_⟩ ?_|refine cL ⟨_,rfl⟩ ?_|rfl|exact bV _ _ _ _|exact bW _ _ _ _|exact bX rfl)) (by exact rfl) (by exact rfl) (by repeat' (first|refine bR ?_ ?_|rfl|exact bT|exact bS|exact bU rfl)) (by exact rfl) (by exact rfl)
  rintro k σ ⟨i,d,q,H,hi,rfl,hq,hD,hO,hdep,rfl⟩
  have hqn:q.length=i:=by
    have:=congrArg List.length hq
    rw [cR,cR,cU] at this
    omega
  have hd16:=dep_le (by omega) hdep
  by_cases hlt:i<l.length
  · obtain ⟨x,hx⟩:∃ x,l[i]? = some x:=⟨_,cS hlt⟩
    have hmem:=cX hx
    have hsx:=hin.small x hmem
    have hinJ:InsIn (joinM X H) ad l:=hin.mono fun b o hb=>by
      cases hc:H b with
      | none=>rw [joinM_out hc];exact hb
      | some o'=>have:=(hO.own b o' hc).2.2;rw [hb] at this;cases this
    obtain ⟨blk,off,arr,el,fr,rfl,hX,hsz,hcs,hop⟩:=hinJ.at hx
    have hio:off+Int.toNat (i:Int)*6=off+i*6:=by simp
    have hin0:0≤(i:Int)∧(i:Int)<(l.length:Nat):=by omega
    have hsn:=dep_snoc hdep hx
    have hok:=okI_bnd x
    have htk:=takes_le x.op
    have bad:¬ (okI x=true∧takes x.op≤d∧d-takes x.op+1≤16)→chkX l=4:=fun h=>chkX_bad h64 hdep hx h
    by_cases hop17:x.op<1∨17<x.op
    · have hc:=bad (fun h=>by have:=(okI_facts h.1).1;omega)
      obtain ⟨q1,q2⟩:=rs_no (l:=l) (by rw [hc];decide)
      rw [q1,q2,hc]
      have hR:=rowOf_no (joinM X H) x.op hop17
      (refine aA<|rgN<|klt O O (cK (by omega))<|aB<|aA<|aE O ?_;refine aH ?_;refine aA<|aG<|aA<|rgN<|kmv O<|aR O O bY hin0 hio dM<|aY O hX (by kernel_rfl) hsz hcs dM<|aP O dM ?_;refine kas O<|aM O O O O O O dM ?_;refine aB<|aA<|rgN<|kfa O O ?_;refine kl1 O O O<|kca O O (hR)<|aP O dM ?_;refine aM O O O O O O dM ?_;refine aB<|aA<|aA<|rgN<|kfa O O ?_;refine kl1 O O O<|K.funcNil O (by kernel_rfl) (r:=true) (.inl ⟨O,O⟩) dM ?_;refine kmv O<|aC O O O<|aC O O O<|aC O O O<|kpt O O<|kmv O<|aC O O O<|aC O O O<|aC O O O<|aC O O O<|kpt O O<|aB<|aE O ?_;refine aA<|rgN<|kas O<|kas O<|aB<|aI ?_)
      exact bZ ⟨[],⟨[_,_],⟨O,O,trivial⟩,O⟩,trivial,O,O⟩
    (refine aA<|rgN<|klt O O (cK (by omega))<|aB<|aA<|aE O ?_;refine aH ?_;refine aA<|aG<|aA<|rgN<|kmv O<|aR O O bY hin0 hio dM<|aY O hX (by kernel_rfl) hsz hcs dM<|aP O dM ?_;refine kas O<|aM O O O O O O dM ?_;refine aB<|aA ?_)
    refine LWP.meetL (fun σ=>∃ (v:Value) (G:Nat→Option Obj),DeedV G v x.op∧MoreM H G∧OwnedM C X G∧σ=rwSt (some ⟨blk,off,none⟩) l.length cap i d (rwsV q++zeR (l.length-i)) [(6,Ln .i64 (i:Nat)),(7,Lp 7),(8,Lp 8)] (rdB8 x (.val v)) (joinM X G)) ?_ ?_
    · by_cases h5:x.op<5
      · obtain ⟨f,hDf,hR⟩:∃ f,DeedV H (fnV f) x.op∧PSpec Tryz.prog (joinM X H) 50 [Ln .i64 x.op] (LRow x.op (.val (fnV f))):=by
          generalize x.op=op at *
          rcases (show op=1∨op=2∨op=3∨op=4 by omega) with rfl|rfl|rfl|rfl
          · exact ⟨_,deed_num H,rowOf_1 _⟩
          · exact ⟨_,deed_elem H,rowOf_2 _⟩
          · exact ⟨_,deed_here H,rowOf_3 _⟩
          · exact ⟨_,deed_place H,rowOf_4 _⟩
        (refine rgN<|kfa O O ?_;refine kl1 O O O<|kca O O (hR)<|aP O dM ?_;refine aM O O O O O O dM ?_;refine aB ?_)
        exact cA (Le.of (by exact ⟨O,O,O,O,O,O,O,O,O,trivial⟩) (by exact ⟨O,O,O,trivial⟩) (by exact O) (by exact O) (by repeat' (first|refine bR ?_ ?_|rfl|exact bT|exact bS|exact bU O))) (bZ ⟨_,H,hDf,MoreM.refl H,hO,O⟩)
      · have hR:=rowOf_fn (joinM X H) x.op (by omega)
        (refine rgN<|kfa O O ?_;refine kl1 O O O<|bE [(1000001,600)] (LRow x.op (ptrF (cloF x.op) 600)) [dB 600 x.op] (hR) O O (by exact trivial) O O O O O (by exact (.box O O .nil)) dM<|aP O dM ?_;refine aM O O O O O O dM ?_;refine aB ?_)
        refine cA (σ':=⟨[(6,Ln .i64 (i:Nat)),(7,Lp 7),(8,Lp 8),(0,Lx (some ⟨blk,off,none⟩) l.length cap),(4,.sv (.one (.slc 500 0 l.length 6))),(5,Ln .i64 (d:Nat)),(15,Lx (some ⟨blk,off,none⟩) l.length cap),(16,Ln .i64 (l.length:Nat)),(17,Ln .i64 (i:Nat))],rdB8 x (ptrF (cloF x.op) 600)++dB 600 x.op::[(500,some ⟨101,(rwsV q++zeR (l.length-i)).map .val,false⟩)],joinM X H⟩) (Le.of (by exact ⟨O,O,O,O,O,O,O,O,O,trivial⟩) (by exact ⟨O,O,O,O,trivial⟩) (by exact O) (by exact O) (by repeat' (first|refine bR ?_ ?_|rfl|exact bT|exact bS|exact bU O))) ?_
        refine Leads.fixRsc [] (rdB8 x (ptrF (cloF x.op) 600)) O O (by exact (by repeat' (first|refine bR ?_ ?_|rfl|exact bT|exact bS|exact bU O))) O O fun ρ G2 hR2 hO2 => ?_
        obtain ⟨k1,k2,k3⟩:=owned_join hO hO2
        rw [joinM_assoc]
        exact bZ ⟨.func (.func (cloF x.op)) #[] #[pv ρ.1],joinM H G2,DeedV.mono k3 hR2,k2,k1,O⟩
    rintro σ ⟨v,G,hDv,hHG,hOG,rfl⟩
    obtain ⟨f,caps,ev,_⟩:=id hDv
    subst ev
    have hB:=tBounded (joinM X G) x hsx _ rfl
    cases hb:bndI x with
    | false =>
      rw [hb] at hB hok
      have hc:=bad (fun h=>by rw [hok,Bool.and_false] at h;cases h.1)
      obtain ⟨q1,q2⟩:=rs_no (l:=l) (by rw [hc];decide)
      rw [q1,q2,hc]
      (refine aA<|aA<|rgN<|kfa O O ?_;refine kl1 O O O<|K.funcNil O (by kernel_rfl) (r:=false) (.inr ⟨⟨_,_,_,O⟩,O⟩) dM ?_;refine kmv O<|aK O O O (dN O O) ?_;refine gca O O hB O O<|aV O O (dN O O) ?_;refine kpf O O<|kmv O<|aC O O O<|aC O O O<|aC O O O<|aC O O O<|kpt O O<|aB<|aE O ?_;refine aA<|rgN<|kas O<|kas O<|aB<|aI ?_)
      exact bZ ⟨[],⟨[_,_],⟨O,O,trivial⟩,O⟩,trivial,O,O⟩
    | true =>
    rw [hb] at hB hok
    rw [cK (show 1≤x.op by omega),cK (show x.op≤17 by omega)] at hok
    have hok:okI x=true:=hok
    by_cases hd:d<takes x.op
    · have hc:=bad (fun h=>by omega)
      obtain ⟨q1,q2⟩:=rs_no (l:=l) (by rw [hc];decide)
      rw [q1,q2,hc]
      (refine aA<|aA<|rgN<|kfa O O ?_;refine kl1 O O O<|K.funcNil O (by kernel_rfl) (r:=false) (.inr ⟨⟨_,_,_,O⟩,O⟩) dM ?_;refine kmv O<|aK O O O (dN O O) ?_;refine gca O O hB O O<|aV O O (dN O O) ?_;refine kpf O O<|kmv O<|gmv O O O<|aN O O (dN O O) ?_;refine aO O O O (dN O O) ?_;refine bK O O (r:=true) (cK (by omega)) (dN O O) ?_;refine kpf O O<|aB<|aE O ?_;refine aA<|rgN<|kas O<|kas O<|aB<|aI ?_)
      exact bZ ⟨[],⟨[_,_],⟨O,O,trivial⟩,O⟩,trivial,O,O⟩
    have hix:0+Int.toNat (i:Int)*6=i*6:=by rw [dA];omega
    have hpl:(rwsV q).length=i*6:=by rw [rwsV_len,hqn]
    have hroom:i*6+6≤((rwsV q++zeR (l.length-i)).map CV.val).length:=by rw [cR,cQ,hpl,zeR_len];omega
    have hspl:splice ((rwsV q++zeR (l.length-i)).map CV.val) (i*6) ((rowL x.op).map .val++[.val (.func (.func f) #[] caps.toArray)])=(rwsV (q++[(x.op,.func (.func f) #[] caps.toArray)])++zeR (l.length-(i+1))).map CV.val:=by
      rw [rwsV_snoc,show l.length-i=(l.length-(i+1))+1 by omega,zeR_succ]
      unfold splice
      simp only [dC,dH]
      have hml:((rwsV q).map CV.val).length=i*6:=by rw [cR,hpl]
      generalize (rwsV q).map CV.val=R at *
      rw [← hml,List.take_left,List.drop_length_add_append]
      simp [rowVs,rowL]
    have hsub:IntKind.i64.wrap (1-((takes x.op:Nat):Int))=1-((takes x.op:Nat):Int):=cD (by omega)
    have hadd:IntKind.i64.wrap (((d:Nat):Int)+(1-((takes x.op:Nat):Int)))=((d-takes x.op+1:Nat):Int):=by rw [cD (by omega)];omega
    have hinc:IntKind.i64.wrap (((i:Nat):Int)+1)=((i+1:Nat):Int):=by rw [cD (by omega)];omega
    by_cases h16:16<d-takes x.op+1
    · have hc:=bad (fun h=>by omega)
      obtain ⟨q1,q2⟩:=rs_no (l:=l) (by rw [hc];decide)
      rw [q1,q2,hc]
      (refine aA<|aA<|rgN<|kfa O O ?_;refine kl1 O O O<|K.funcNil O (by kernel_rfl) (r:=false) (.inr ⟨⟨_,_,_,O⟩,O⟩) dM ?_;refine kmv O<|aK O O O (dN O O) ?_;refine gca O O hB O O<|aV O O (dN O O) ?_;refine kpf O O<|kmv O<|gmv O O O<|aN O O (dN O O) ?_;refine aO O O O (dN O O) ?_;refine bK O O (r:=false) (cJ (by omega)) (dN O O) ?_;refine kpf O O<|aB<|aF O ?_;refine aH ?_;refine aA<|rgN<|kmv O<|kmv O<|aK O O O dM ?_;refine K.indexSlc O O (by omega) hix dM ?_;refine K.store O O O O (by kernel_rfl) hroom hspl dM<|aB<|aA<|rgN<|kmv O<|kfa O O ?_;refine kl1 O O O<|bA O O hsub dM<|kad O O hadd<|kas O<|aB<|aA<|rgN<|kmv O<|aS O O (r:=true) (cK (by omega)) dM<|aB<|aE O ?_;refine aA<|rgN<|kas O<|kas O<|aB<|aI ?_)
      exact bZ ⟨[],⟨[_,_],⟨O,O,trivial⟩,O⟩,trivial,O,O⟩
    · rw [if_pos ⟨hok,by omega,by omega⟩] at hsn
      (refine aA<|aA<|rgN<|kfa O O ?_;refine kl1 O O O<|K.funcNil O (by kernel_rfl) (r:=false) (.inr ⟨⟨_,_,_,O⟩,O⟩) dM ?_;refine kmv O<|aK O O O (dN O O) ?_;refine gca O O hB O O<|aV O O (dN O O) ?_;refine kpf O O<|kmv O<|gmv O O O<|aN O O (dN O O) ?_;refine aO O O O (dN O O) ?_;refine bK O O (r:=false) (cJ (by omega)) (dN O O) ?_;refine kpf O O<|aB<|aF O ?_;refine aH ?_;refine aA<|rgN<|kmv O<|kmv O<|aK O O O dM ?_;refine K.indexSlc O O (by omega) hix dM ?_;refine K.store O O O O (by kernel_rfl) hroom hspl dM<|aB<|aA<|rgN<|kmv O<|kfa O O ?_;refine kl1 O O O<|bA O O hsub dM<|kad O O hadd<|kas O<|aB<|aA<|rgN<|kmv O<|aS O O (r:=false) (cJ (by omega)) dM<|aB<|aF O ?_;refine aH ?_;refine rgN<|kad O O hinc<|kmv O<|aB ?_)
      refine cA (σ':=rwSt (some ⟨blk,off,none⟩) l.length cap (i+1) (d-takes x.op+1) (rwsV (q++[(x.op,.func (.func f) #[] caps.toArray)])++zeR (l.length-(i+1))) [] [] (joinM X G)) (Le.of (by exact ⟨O,O,O,O,O,O,trivial⟩) (by exact ⟨O,trivial⟩) (by exact O) (by exact O) (by repeat' (first|refine bR ?_ ?_|rfl|exact bT|exact bS|exact bU O))) (bZ ⟨l.length-(i+1),by omega,i+1,_,_,G,by omega,O,?_,?_,hOG,hsn,O⟩)
      · rw [dC,hq,List.take_add_one,hx,dC]
        rfl
      · intro p hp
        rcases List.mem_append.1 hp with hp|hp
        · exact (hD p hp).mono hHG
        · rw [List.mem_singleton] at hp
          subst hp
          exact hDv
  · have e:i=l.length:=by omega
    subst e
    rw [cZ] at hq hdep
    have hz:zeR (l.length-l.length)=[]:=by rw [Nat.sub_self];rfl
    rw [hz,dE]
    by_cases h1:d=1
    · subst h1
      have hc:chkX l=0:=by unfold chkX;rw [if_neg h64,if_pos hdep]
      obtain ⟨q1,q2⟩:=rs_ok hc
      rw [q1,q2]
      (refine aA<|rgN<|klt O O (cJ (by omega))<|aB<|aA<|aF O ?_;refine aJ<|aA<|aA<|rgN<|kmv O<|kne O O (r:=false) O<|aB<|aF O ?_;refine aH ?_;refine aA<|rgN<|kmv O<|kas O<|kas O<|aB<|aI ?_)
      refine cA (σ':=⟨[(2,.sv (.one (.slc 500 0 l.length 6))),(3,Ln .i64 0)],[(500,some ⟨101,(rwsV q).map .val,false⟩)],joinM X H⟩) (Le.of (by exact ⟨O,O,trivial⟩) (by exact ⟨O,trivial⟩) (by exact O) (by exact O) (by repeat' (first|refine bR ?_ ?_|rfl|exact bT|exact bS|exact bU O))) ?_
      refine Leads.closeRes (R:=rowsR l) hO (fun ρ fr g1 g2 g3=>⟨q,fr,cH _ _ _,g3,hq,fun p hp=>(hD p hp).mono (cE g1)⟩) (bZ ?_)
      exact ⟨[(1000001,500)],⟨[_,_],⟨rfl,rfl,trivial⟩,rfl⟩,(by repeat' (first|exact trivial|refine cL ⟨_,rfl,?_⟩ ?_|refine cL ⟨_,rfl⟩ ?_|rfl|exact bV _ _ _ _|exact bW _ _ _ _|exact bX rfl)),rfl,rfl⟩
    · have hc:chkX l=4:=by unfold chkX;rw [if_neg h64,if_neg (fun h=>h1 (by rw [hdep] at h;exact Option.some.inj h))]
      obtain ⟨q1,q2⟩:=rs_no (l:=l) (by rw [hc];decide)
      rw [q1,q2,hc]
      (refine aA<|rgN<|klt O O (cJ (by omega))<|aB<|aA<|aF O ?_;refine aJ<|aA<|aA<|rgN<|kmv O<|kne O O (r:=true) (cO (by omega))<|aB<|aE O ?_;refine aA<|rgN<|kas O<|kas O<|aB<|aI ?_)
      exact bZ ⟨[],⟨[_,_],⟨O,O,trivial⟩,O⟩,trivial,O,O⟩
theorem gCheck' (l:List Ins) (ad:Option Addr) (cap:Nat) (hin:InsIn X ad l) (hl:l.length<1152921504606846976):PSpec Tryz.prog X 19 [Lx ad l.length cap] (Ln .i64 (chkX l)):=by
  have hR:=tRowsOf X l ad cap hin hl
  refine cB Tryz.func19 rfl (by kernel_rfl) rfl rfl ?_
  intro C
  by_cases h:chkX l=0
  · rw [(rs_ok h).1,(rs_ok h).2] at hR
    rw [h]
    (refine aA<|rgN<|kas O<|aB<|aA<|rgN<|kmv O<|bE [(1000001,500)] (.tup [.one (.slc 500 0 l.length 6),Sn .i64 0]) [(500,some ⟨0,[],.res (rowsR l)⟩)] (hR) O O (by exact trivial) O O O O O (by exact (.box O O .nil)) dM<|kmv O<|kex O O<|kex O O<|kas O<|kas O<|aB ?_;refine aA<|rgN<|kmv O<|kas O<|aB<|aI ?_)
    exact ⟨[_],⟨O,trivial⟩,O⟩
  · rw [(rs_no h).1,(rs_no h).2] at hR
    (refine aA<|rgN<|kas O<|aB<|aA<|rgN<|kmv O<|aU [] [] (hR) O O (by exact trivial) O O O O O (by exact .nil) dM<|kmv O<|kex O O<|kex O O<|kas O<|kas O<|aB ?_;refine aA<|rgN<|kmv O<|kas O<|aB<|aI ?_)
    exact ⟨[_],⟨O,trivial⟩,O⟩
end Go.Proofs.YtnfbccfghgmfiaaGreat
end
section
namespace Go.Lg.Fml
section
variable {V:Type} {one:Ins→List V→Except Int V}
end
end Go.Lg.Fml
namespace Go.Proofs.YtnfbccfghgmfiaaGreat
open Go Go.Lg Go.Lg.Fml Go.Lg.Fld Go.Lg.Arith
set_option maxRecDepth 100000
theorem more_join {C:Ctx} {X H:Nat→Option Obj} (hO:OwnedM C X H):MoreM X (joinM X H)∧MoreM H (joinM X H):=by
  refine ⟨fun b o hb => ?_,fun b o hb=>joinM_in hb⟩
  cases hc:H b with
  | none=>rw [joinM_out hc];exact hb
  | some o'=>have:=(hO.own b o' hc).2.2;rw [hb] at this;cases this
variable (X:Nat→Option Obj)
end Go.Proofs.YtnfbccfghgmfiaaGreat
end
section
namespace Go.Proofs.YtnfbccfghgmfiaaGreat
open Go Go.Lg Go.Lg.Fml Go.Lg.Fld Go.Lg.Arith
set_option maxRecDepth 100000
theorem leB1o (n:Nat):leB 1 n=[o8 (n:Nat)]:=by
  simp only [leB]
  congr 1
abbrev LOp (op:Int):LV:=.sv (.agg [.val (.bool (op==2||op==3)),.val (.bool (op==2)),.val (.bool (op==1))])
theorem op_1:LOp 1 = .sv (.agg [.val (.bool false),.val (.bool false),.val (.bool true)]):=rfl
theorem op_2:LOp 2 = .sv (.agg [.val (.bool true),.val (.bool true),.val (.bool false)]):=rfl
theorem op_3:LOp 3 = .sv (.agg [.val (.bool true),.val (.bool false),.val (.bool false)]):=rfl
theorem op_no {op:Int} (h1:op≠1) (h2:op≠2) (h3:op≠3):LOp op = .sv (.agg [.val (.bool false),.val (.bool false),.val (.bool false)]):=by
  unfold LOp
  rw [cM h1,cM h2,cM h3]
  rfl
variable (X:Nat→Option Obj)
set_option maxHeartbeats 6400000 in
theorem tOnly3 (A B K:Bool) (x:Ins) (hx:smallI x):PSpec Tryz.prog X 115 [.sv (.agg [.val (.bool A),.val (.bool B),.val (.bool K)]),LIn x] (Lb ((A||(x.a==0))&&(B||(x.b==0))&&(K||decide (x.k=(false,0))))):=by
  have q:=eqI (b:=x.k.1) (b':=false) (h:=x.k.2/18446744073709551616) (h':=0) (l:=x.k.2%18446744073709551616) (l':=0) _ (eqZ hx.2.2.2)
  rw [show decide (((x.k.1,x.k.2):Nm)=(false,0))=decide (x.k=(false,0)) from rfl] at q
  generalize hr:decide (x.k=(false,0))=r at *
  generalize hp:(x.a==0)=p
  generalize hq:(x.b==0)=s
  cases A<;>cases p<;>cases B<;>cases s<;>cases K
  all_goals
    refine cB Tryz.func115 rfl (by kernel_rfl) rfl rfl ?_
    intro C
    (first|(refine aA<|rgN<|aL O O O dM<|aL O O O dM<|kas O<|aB<|aA<|rgN<|kfa O O ?_;refine kl1 O O O<|kmv O<|aN O O (dN O O) ?_;refine aO O O O (dN O O) ?_;refine bC O O hp (dN O O) ?_;refine kpf O O<|kmv O<|aN O O (dN O O) ?_;refine aO O O O (dN O O) ?_;refine gmv O O O<|aN O O (dN O O) ?_;refine aO O O O (dN O O) ?_;refine bC O O hq (dN O O) ?_;refine bN O O (dN O O) ?_;refine kpt O O<|kmv O<|aN O O (dN O O) ?_;refine aO O O O (dN O O) ?_;refine gmv O O O<|aN O O (dN O O) ?_;refine bJ O O O (by exact nl3 O O O O) (dN O O) ?_;refine aT O O (by exact O) (by exact nl3 O O O O) (dN O O) ?_;refine bP O O O O (by kernel_rfl) q (.inl ⟨O,O⟩) (dN O O) ?_;refine bN O O (dN O O) ?_;refine kpt O O<|kas O<|aB<|aI ?_)|(refine aA<|rgN<|aL O O O dM<|aL O O O dM<|kas O<|aB<|aA<|rgN<|kfa O O ?_;refine kl1 O O O<|kmv O<|aN O O (dN O O) ?_;refine aO O O O (dN O O) ?_;refine bC O O hp (dN O O) ?_;refine kpf O O<|kmv O<|aN O O (dN O O) ?_;refine aO O O O (dN O O) ?_;refine gmv O O O<|aC O O O<|aC O O O<|aC O O O<|bF O O (dN O O) ?_;refine kpt O O<|kmv O<|aN O O (dN O O) ?_;refine aO O O O (dN O O) ?_;refine gmv O O O<|aN O O (dN O O) ?_;refine bJ O O O (by exact nl3 O O O O) (dN O O) ?_;refine aT O O (by exact O) (by exact nl3 O O O O) (dN O O) ?_;refine bP O O O O (by kernel_rfl) q (.inl ⟨O,O⟩) (dN O O) ?_;refine bN O O (dN O O) ?_;refine kpt O O<|kas O<|aB<|aI ?_)|(refine aA<|rgN<|aL O O O dM<|aL O O O dM<|kas O<|aB<|aA<|rgN<|kfa O O ?_;refine kl1 O O O<|kmv O<|aC O O O<|aC O O O<|aC O O O<|kpt O O<|kmv O<|aN O O (dN O O) ?_;refine aO O O O (dN O O) ?_;refine gmv O O O<|aN O O (dN O O) ?_;refine aO O O O (dN O O) ?_;refine bC O O hq (dN O O) ?_;refine bN O O (dN O O) ?_;refine kpt O O<|kmv O<|aN O O (dN O O) ?_;refine aO O O O (dN O O) ?_;refine gmv O O O<|aN O O (dN O O) ?_;refine bJ O O O (by exact nl3 O O O O) (dN O O) ?_;refine aT O O (by exact O) (by exact nl3 O O O O) (dN O O) ?_;refine bP O O O O (by kernel_rfl) q (.inl ⟨O,O⟩) (dN O O) ?_;refine bN O O (dN O O) ?_;refine kpt O O<|kas O<|aB<|aI ?_)|(refine aA<|rgN<|aL O O O dM<|aL O O O dM<|kas O<|aB<|aA<|rgN<|kfa O O ?_;refine kl1 O O O<|kmv O<|aC O O O<|aC O O O<|aC O O O<|kpt O O<|kmv O<|aN O O (dN O O) ?_;refine aO O O O (dN O O) ?_;refine gmv O O O<|aC O O O<|aC O O O<|aC O O O<|bF O O (dN O O) ?_;refine kpt O O<|kmv O<|aN O O (dN O O) ?_;refine aO O O O (dN O O) ?_;refine gmv O O O<|aN O O (dN O O) ?_;refine bJ O O O (by exact nl3 O O O O) (dN O O) ?_;refine aT O O (by exact O) (by exact nl3 O O O O) (dN O O) ?_;refine bP O O O O (by kernel_rfl) q (.inl ⟨O,O⟩) (dN O O) ?_;refine bN O O (dN O O) ?_;refine kpt O O<|kas O<|aB<|aI ?_)|(refine aA<|rgN<|aL O O O dM<|aL O O O dM<|kas O<|aB<|aA<|rgN<|kfa O O ?_;refine kl1 O O O<|kmv O<|aN O O (dN O O) ?_;refine aO O O O (dN O O) ?_;refine bC O O hp (dN O O) ?_;refine kpf O O<|kmv O<|aN O O (dN O O) ?_;refine aO O O O (dN O O) ?_;refine gmv O O O<|aN O O (dN O O) ?_;refine aO O O O (dN O O) ?_;refine bC O O hq (dN O O) ?_;refine bN O O (dN O O) ?_;refine kpt O O<|kmv O<|aN O O (dN O O) ?_;refine aO O O O (dN O O) ?_;refine gmv O O O<|aC O O O<|aC O O O<|aC O O O<|aC O O O<|bF O O (dN O O) ?_;refine kpt O O<|kas O<|aB<|aI ?_)|(refine aA<|rgN<|aL O O O dM<|aL O O O dM<|kas O<|aB<|aA<|rgN<|kfa O O ?_;refine kl1 O O O<|kmv O<|aN O O (dN O O) ?_;refine aO O O O (dN O O) ?_;refine bC O O hp (dN O O) ?_;refine kpf O O<|kmv O<|aN O O (dN O O) ?_;refine aO O O O (dN O O) ?_;refine gmv O O O<|aC O O O<|aC O O O<|aC O O O<|bF O O (dN O O) ?_;refine kpt O O<|kmv O<|aN O O (dN O O) ?_;refine aO O O O (dN O O) ?_;refine gmv O O O<|aC O O O<|aC O O O<|aC O O O<|aC O O O<|bF O O (dN O O) ?_;refine kpt O O<|kas O<|aB<|aI ?_)|(refine aA<|rgN<|aL O O O dM<|aL O O O dM<|kas O<|aB<|aA<|rgN<|kfa O O ?_;refine kl1 O O O<|kmv O<|aC O O O<|aC O O O<|aC O O O<|kpt O O<|kmv O<|aN O O (dN O O) ?_;refine aO O O O (dN O O) ?_;refine gmv O O O<|aN O O (dN O O) ?_;refine aO O O O (dN O O) ?_;refine bC O O hq (dN O O) ?_;refine bN O O (dN O O) ?_;refine kpt O O<|kmv O<|aN O O (dN O O) ?_;refine aO O O O (dN O O) ?_;refine gmv O O O<|aC O O O<|aC O O O<|aC O O O<|aC O O O<|bF O O (dN O O) ?_;refine kpt O O<|kas O<|aB<|aI ?_)|(refine aA<|rgN<|aL O O O dM<|aL O O O dM<|kas O<|aB<|aA<|rgN<|kfa O O ?_;refine kl1 O O O<|kmv O<|aN O O (dN O O) ?_;refine aO O O O (dN O O) ?_;refine bC O O hp (dN O O) ?_;refine kpf O O<|kmv O<|aN O O (dN O O) ?_;refine aO O O O (dN O O) ?_;refine gmv O O O<|aN O O (dN O O) ?_;refine aO O O O (dN O O) ?_;refine bC O O hq (dN O O) ?_;refine bN O O (dN O O) ?_;refine kpt O O<|kmv O<|aC O O O<|aC O O O<|aC O O O<|aD O O<|aD O O<|aD O O<|aD O O<|aC O O O<|kpf O O<|kas O<|aB<|aI ?_)|(refine aA<|rgN<|aL O O O dM<|aL O O O dM<|kas O<|aB<|aA<|rgN<|kfa O O ?_;refine kl1 O O O<|kmv O<|aC O O O<|aC O O O<|aC O O O<|kpt O O<|kmv O<|aN O O (dN O O) ?_;refine aO O O O (dN O O) ?_;refine gmv O O O<|aC O O O<|aC O O O<|aC O O O<|bF O O (dN O O) ?_;refine kpt O O<|kmv O<|aN O O (dN O O) ?_;refine aO O O O (dN O O) ?_;refine gmv O O O<|aC O O O<|aC O O O<|aC O O O<|aC O O O<|bF O O (dN O O) ?_;refine kpt O O<|kas O<|aB<|aI ?_)|(refine aA<|rgN<|aL O O O dM<|aL O O O dM<|kas O<|aB<|aA<|rgN<|kfa O O ?_;refine kl1 O O O<|kmv O<|aC O O O<|aC O O O<|aC O O O<|kpt O O<|kmv O<|aN O O (dN O O) ?_;refine aO O O O (dN O O) ?_;refine gmv O O O<|aN O O (dN O O) ?_;refine aO O O O (dN O O) ?_;refine bC O O hq (dN O O) ?_;refine bN O O (dN O O) ?_;refine kpt O O<|kmv O<|aC O O O<|aC O O O<|aC O O O<|aD O O<|aD O O<|aD O O<|aD O O<|aC O O O<|kpf O O<|kas O<|aB<|aI ?_)|(refine aA<|rgN<|aL O O O dM<|aL O O O dM<|kas O<|aB<|aA<|rgN<|kfa O O ?_;refine kl1 O O O<|kmv O<|aN O O (dN O O) ?_;refine aO O O O (dN O O) ?_;refine bC O O hp (dN O O) ?_;refine kpf O O<|kmv O<|aC O O O<|aC O O O<|aC O O O<|aD O O<|aD O O<|aD O O<|aC O O O<|kpf O O<|kmv O<|aC O O O<|aC O O O<|aC O O O ?_;refine aD O O<|aD O O<|aD O O<|aD O O<|aC O O O<|kpf O O<|kas O<|aB<|aI ?_))
    exact ⟨[_],⟨O,trivial⟩,O⟩
theorem tOnly (x:Ins) (hx:smallI x):PSpec Tryz.prog X 115 [LOp x.op,LIn x] (Lb (plainI x)):=by
  have h:=tOnly3 X (x.op==2||x.op==3) (x.op==2) (x.op==1) x hx
  have e:(((x.op==2||x.op==3)||(x.a==0))&&((x.op==2)||(x.b==0))&&((x.op==1)||decide (x.k=(false,0))))=plainI x:=by
    unfold plainI
    have hb:∀ a b:Int,(a==b)=decide (a=b):=fun a b=>rfl
    rw [hb,hb,hb,hb,hb]
    generalize decide (x.op=1)=a1
    generalize decide (x.op=2)=a2
    generalize decide (x.op=3)=a3
    generalize decide (x.a=0)=b1
    generalize decide (x.b=0)=b2
    generalize decide (x.k=(false,0))=b3
    cases a1<;>cases a2<;>cases a3<;>cases b1<;>cases b2<;>cases b3<;>rfl
  rw [e] at h
  exact h
theorem ePut_0 (n:Nat) (h:n<256):MSpec Tryz.prog X 114 [Lp 1000000,Ln .i64 (n:Nat)] (w0 1000000) (.tup []) (w1 1000000 1000001 1000002 [o8 (n:Nat)]):=by
  have hN:=WNum_0_1 X n (by omega) (by omega)
  rw [leB1o n] at hN
  refine cC Tryz.func114 rfl (by kernel_rfl) rfl rfl (by repeat' (first|refine bR ?_ ?_|rfl|exact bT|exact bS|exact bU rfl)) rfl rfl ?_
  intro C
  have hw:IntKind.u64.wrap ((n:Nat):Int)=((n:Nat):Int):=wrap_u64 (by omega)
  (refine rgN<|kmv O<|kmv O<|kcv O hw ?_;refine aU [(1000001,501),(1000002,502)] (w1 1000000 501 502 [o8 (n:Nat)]) (hN) O O (by exact (cL ⟨_,O,O⟩ trivial)) (by exact (bR (bR O (bR O O)) O)) O O O O (by exact (.box O O (.box O O (.box O O .nil)))) dM<|aB ?_)
  exact ⟨[(1000001,501),(1000002,502)],⟨[],trivial,rfl⟩,(by repeat' (first|exact trivial|refine cL ⟨_,rfl,?_⟩ ?_|refine cL ⟨_,rfl⟩ ?_|rfl|exact bV _ _ _ _|exact bW _ _ _ _|exact bX rfl)),rfl,rfl⟩
theorem ePut_1 (l:List UInt8) (n:Int) (h:0≤n∧n<256) (hl:l.length<900000000):MSpec Tryz.prog X 114 [Lp 1000000,Ln .i64 n] (w1 1000000 1000001 1000002 l) (.tup []) (w1 1000000 1000001 1000003 (l++[o8 n])++[(1000002,none)]):=by
  obtain ⟨k,rfl⟩:=Int.eq_ofNat_of_zero_le h.1
  have hk:k<256:=by omega
  have hN:=WNum_1_1 X l k (by omega) (by omega) hl
  rw [leB1o k] at hN
  refine cC Tryz.func114 rfl (by kernel_rfl) rfl rfl (by repeat' (first|refine bR ?_ ?_|rfl|exact bT|exact bS|exact bU rfl)) rfl rfl ?_
  intro C
  have hw:IntKind.u64.wrap ((k:Nat):Int)=((k:Nat):Int):=wrap_u64 (by omega)
  (refine rgN<|kmv O<|kmv O<|kcv O hw ?_;refine aU [(1000003,501)] (w1 1000000 1000001 501 (l++[o8 (k:Nat)])++[(1000002,none)]) (hN) O O (by exact (cL ⟨_,O,O⟩ (cL ⟨_,O,O⟩ (cL ⟨_,O,(bV _ _ _ _)⟩ trivial)))) (by exact (bR (bR O (bR O O)) (bR (bR O O) (bR bT O)))) O O O O (by exact (.box O O (.box O O (.box O (bV _ _ _ _) (.dead O .nil))))) dM<|aB ?_)
  exact ⟨[(1000003,501)],⟨[],trivial,rfl⟩,(by repeat' (first|exact trivial|refine cL ⟨_,rfl,?_⟩ ?_|refine cL ⟨_,rfl⟩ ?_|rfl|exact bV _ _ _ _|exact bW _ _ _ _|exact bX rfl)),rfl,rfl⟩
def numX (k:Nm):List UInt8:=sgB k.1::(leB 8 (loW k.2)++leB 8 (hiW k.2))
theorem LI_words {N:Int} (h:In2 N) (b:Bool):LI b N=Li b ((hiW N:Nat):Int) ((loW N:Nat):Int):=by
  obtain ⟨h1,h2,h3⟩:=words h
  unfold LI
  have e1:N/18446744073709551616=((hiW N:Nat):Int):=by unfold In2 at h;unfold hiW;omega
  have e2:N%18446744073709551616=((loW N:Nat):Int):=by unfold loW;omega
  rw [e1,e2]
set_option maxHeartbeats 3200000 in
theorem ePutNum (l:List UInt8) (k:Nm) (hk:In2 k.2) (hl:l.length<800000000):MSpec Tryz.prog X 126 [Lp 1000000,LI k.1 k.2] (w1 1000000 1000001 1000002 l) (.tup []) (w1 1000000 1000001 1000003 (l++numX k)++[(1000002,none)]):=by
  rw [LI_words hk]
  obtain ⟨_,h2,h3⟩:=words hk
  have hp:(256:Nat)^8=18446744073709551616:=by decide
  obtain ⟨b,N⟩:=k
  unfold numX
  simp only at hk h2 h3 ⊢
  generalize loW N=lo at *
  generalize hiW N=hi at *
  have p1:=fun n h=>ePut_1 X l n h (by omega)
  have p2:=WNum_1_8 X (l++[sgB b]) lo (by omega) (by omega) (by rw [cQ,cT];omega)
  have p3:=WNum_1_8 X ((l++[sgB b])++leB 8 lo) hi (by omega) (by omega) (by rw [cQ,cQ,cT,leB_length];omega)
  have hfin:l++sgB b::(leB 8 lo++leB 8 hi)=((l++[sgB b])++leB 8 lo)++leB 8 hi:=by simp
  rw [hfin]
  refine cC Tryz.func126 rfl (by kernel_rfl) rfl rfl (by repeat' (first|refine bR ?_ ?_|rfl|exact bT|exact bS|exact bU rfl)) rfl rfl ?_
  intro C
  cases b with
  | false =>
    have p1:MSpec Tryz.prog X 114 [Lp 1000000,Ln .i64 0] (w1 1000000 1000001 1000002 l) (.tup []) (w1 1000000 1000001 1000003 (l++[sgB false])++[(1000002,none)]):=p1 0 ⟨by decide,by decide⟩
    (refine aA<|rgN<|aL O O O dM<|aB<|aA<|rgN<|kas O<|aB<|aA<|aA<|rgN<|kfa O O ?_;refine kl1 O O O<|aB<|aF O ?_;refine aH ?_;refine aA<|rgN<|kmv O<|kmv O<|aU [(1000003,501)] (w1 1000000 1000001 501 (l++[sgB false])++[(1000002,none)]) (p1) O O (by exact (cL ⟨_,O,O⟩ (cL ⟨_,O,O⟩ (cL ⟨_,O,(bV _ _ _ _)⟩ trivial)))) (by exact (bR (bR O (bR O O)) (bR (bR O O) (bR bT O)))) O O O O (by exact (.box O O (.box O O (.box O (bV _ _ _ _) (.dead O .nil))))) dM<|aB<|aA<|rgN<|kmv O<|kfa O O ?_;refine kl1 O O O<|aU [(1000002,501),(1000003,502)] (w1 1000000 1000001 502 ((l++[sgB false])++leB 8 lo)++[(501,none)]) (p2) O O (by exact (cL ⟨_,O,O⟩ (cL ⟨_,O,O⟩ (cL ⟨_,O,(bV _ _ _ _)⟩ trivial)))) (by exact (bR (bR O (bR O O)) (bR (bR O O) (bR bT O)))) O O O O (by exact (.box O O (.box O O (.box O (bV _ _ _ _) (.dead O .nil))))) dM<|aB<|rgN<|kmv O<|kfa O O ?_;refine kl1 O O O<|aU [(1000002,502),(1000003,503)] (w1 1000000 1000001 503 (((l++[sgB false])++leB 8 lo)++leB 8 hi)++[(502,none)]) (p3) O O (by exact (cL ⟨_,O,O⟩ (cL ⟨_,O,O⟩ (cL ⟨_,O,(bV _ _ _ _)⟩ trivial)))) (by exact (bR (bR O (bR O O)) (bR (bR O O) (bR bT O)))) O O O O (by exact (.box O O (.box O O (.box O (bV _ _ _ _) (.dead O .nil))))) dM<|aB ?_)
    exact ⟨[(1000003,503)],⟨[],trivial,rfl⟩,(by repeat' (first|exact trivial|refine cL ⟨_,rfl,?_⟩ ?_|refine cL ⟨_,rfl⟩ ?_|rfl|exact bV _ _ _ _|exact bW _ _ _ _|exact bX rfl)),rfl,rfl⟩
  | true =>
    have p1:MSpec Tryz.prog X 114 [Lp 1000000,Ln .i64 1] (w1 1000000 1000001 1000002 l) (.tup []) (w1 1000000 1000001 1000003 (l++[sgB true])++[(1000002,none)]):=p1 1 ⟨by decide,by decide⟩
    (refine aA<|rgN<|aL O O O dM<|aB<|aA<|rgN<|kas O<|aB<|aA<|aA<|rgN<|kfa O O ?_;refine kl1 O O O<|aB<|aE O ?_;refine rgN<|kas O<|aB<|aA<|rgN<|kmv O<|kmv O<|aU [(1000003,501)] (w1 1000000 1000001 501 (l++[sgB true])++[(1000002,none)]) (p1) O O (by exact (cL ⟨_,O,O⟩ (cL ⟨_,O,O⟩ (cL ⟨_,O,(bV _ _ _ _)⟩ trivial)))) (by exact (bR (bR O (bR O O)) (bR (bR O O) (bR bT O)))) O O O O (by exact (.box O O (.box O O (.box O (bV _ _ _ _) (.dead O .nil))))) dM<|aB<|aA<|rgN<|kmv O<|kfa O O ?_;refine kl1 O O O<|aU [(1000002,501),(1000003,502)] (w1 1000000 1000001 502 ((l++[sgB true])++leB 8 lo)++[(501,none)]) (p2) O O (by exact (cL ⟨_,O,O⟩ (cL ⟨_,O,O⟩ (cL ⟨_,O,(bV _ _ _ _)⟩ trivial)))) (by exact (bR (bR O (bR O O)) (bR (bR O O) (bR bT O)))) O O O O (by exact (.box O O (.box O O (.box O (bV _ _ _ _) (.dead O .nil))))) dM<|aB<|rgN<|kmv O<|kfa O O ?_;refine kl1 O O O<|aU [(1000002,502),(1000003,503)] (w1 1000000 1000001 503 (((l++[sgB true])++leB 8 lo)++leB 8 hi)++[(502,none)]) (p3) O O (by exact (cL ⟨_,O,O⟩ (cL ⟨_,O,O⟩ (cL ⟨_,O,(bV _ _ _ _)⟩ trivial)))) (by exact (bR (bR O (bR O O)) (bR (bR O O) (bR bT O)))) O O O O (by exact (.box O O (.box O O (.box O (bV _ _ _ _) (.dead O .nil))))) dM<|aB ?_)
    exact ⟨[(1000003,503)],⟨[],trivial,rfl⟩,(by repeat' (first|exact trivial|refine cL ⟨_,rfl,?_⟩ ?_|refine cL ⟨_,rfl⟩ ?_|rfl|exact bV _ _ _ _|exact bW _ _ _ _|exact bX rfl)),rfl,rfl⟩
set_option maxHeartbeats 3200000 in
theorem ePutIns (l:List UInt8) (x:Ins) (hx:smallI x) (hok:okI x=true) (hl:l.length<700000000):MSpec Tryz.prog X 116 [Lp 1000000,LOp x.op,LIn x] (w1 1000000 1000001 1000002 l) (.tup []) (w1 1000000 1000001 1000003 (l++encI x)++[(1000002,none)]):=by
  obtain ⟨h17,hgk,ha7,hb7⟩:=okI_facts hok
  have hk2:=hx.2.2.2
  obtain ⟨op,a,b,k⟩:=x
  simp only at h17 hgk ha7 hb7 hk2 ⊢
  have p1:=ePut_1 X l op (by omega) (by omega)
  have pa:=ePut_1 X (l++[o8 op]) a (by omega) (by rw [cQ,cT];omega)
  have pb:=ePut_1 X ((l++[o8 op])++[o8 a]) b (by omega) (by rw [cQ,cQ,cT,cT];omega)
  have pk:=ePutNum X (l++[o8 op]) k hk2 (by rw [cQ,cT];omega)
  by_cases c1:op=1
  · subst c1
    rw [show encI ⟨1,a,b,k⟩=o8 1::numX k from rfl,show l++o8 1::numX k=(l++[o8 1])++numX k by simp,op_1]
    refine cC Tryz.func116 rfl (by kernel_rfl) rfl rfl (by repeat' (first|refine bR ?_ ?_|rfl|exact bT|exact bS|exact bU rfl)) rfl rfl ?_
    intro C
    (refine aA<|rgN<|aL O O O dM<|aL O O O dM<|aB<|aA<|rgN<|kmv O<|kfa O O ?_;refine kl1 O O O<|aU [(1000003,501)] (w1 1000000 1000001 501 (l++[o8 1])++[(1000002,none)]) (p1) O O (by exact (cL ⟨_,O,O⟩ (cL ⟨_,O,O⟩ (cL ⟨_,O,(bV _ _ _ _)⟩ trivial)))) (by exact (bR (bR O (bR O O)) (bR (bR O O) (bR bT O)))) O O O O (by exact (.box O O (.box O O (.box O (bV _ _ _ _) (.dead O .nil))))) dM<|aB<|aA<|aA<|rgN<|kfa O O ?_;refine kl1 O O O<|aB<|aF O ?_;refine aH ?_;refine aA<|aA<|rgN<|kfa O O ?_;refine kl1 O O O<|aB<|aF O ?_;refine aH ?_;refine aA<|rgN<|kfa O O ?_;refine kl1 O O O<|aB<|aE O ?_;refine rgN<|kmv O<|kfa O O ?_;refine bJ O O O (by exact nl3 O O O O) dM ?_;refine aU [(1000002,501),(1000003,502)] (w1 1000000 1000001 502 ((l++[o8 1])++numX k)++[(501,none)]) (pk) O O (by exact (cL ⟨_,O,O⟩ (cL ⟨_,O,O⟩ (cL ⟨_,O,(bV _ _ _ _)⟩ trivial)))) (by exact (bR (bR O (bR O O)) (bR (bR O O) (bR bT O)))) O O O O (by exact (.box O O (.box O O (.box O (bV _ _ _ _) (.dead O .nil))))) dM<|aB ?_)
    exact ⟨[(1000003,502)],⟨[],trivial,rfl⟩,(by repeat' (first|exact trivial|refine cL ⟨_,rfl,?_⟩ ?_|refine cL ⟨_,rfl⟩ ?_|rfl|exact bV _ _ _ _|exact bW _ _ _ _|exact bX rfl)),rfl,rfl⟩
  by_cases c2:op=2
  · subst c2
    rw [show encI ⟨2,a,b,k⟩=[o8 2,o8 a,o8 b] from rfl,show l++[o8 2,o8 a,o8 b]=((l++[o8 2])++[o8 a])++[o8 b] by simp,op_2]
    refine cC Tryz.func116 rfl (by kernel_rfl) rfl rfl (by repeat' (first|refine bR ?_ ?_|rfl|exact bT|exact bS|exact bU rfl)) rfl rfl ?_
    intro C
    (refine aA<|rgN<|aL O O O dM<|aL O O O dM<|aB<|aA<|rgN<|kmv O<|kfa O O ?_;refine kl1 O O O<|aU [(1000003,501)] (w1 1000000 1000001 501 (l++[o8 2])++[(1000002,none)]) (p1) O O (by exact (cL ⟨_,O,O⟩ (cL ⟨_,O,O⟩ (cL ⟨_,O,(bV _ _ _ _)⟩ trivial)))) (by exact (bR (bR O (bR O O)) (bR (bR O O) (bR bT O)))) O O O O (by exact (.box O O (.box O O (.box O (bV _ _ _ _) (.dead O .nil))))) dM<|aB<|aA<|aA<|rgN<|kfa O O ?_;refine kl1 O O O<|aB<|aE O ?_;refine rgN<|kmv O<|kfa O O ?_;refine kl1 O O O<|aU [(1000002,501),(1000003,502)] (w1 1000000 1000001 502 ((l++[o8 2])++[o8 a])++[(501,none)]) (pa) O O (by exact (cL ⟨_,O,O⟩ (cL ⟨_,O,O⟩ (cL ⟨_,O,(bV _ _ _ _)⟩ trivial)))) (by exact (bR (bR O (bR O O)) (bR (bR O O) (bR bT O)))) O O O O (by exact (.box O O (.box O O (.box O (bV _ _ _ _) (.dead O .nil))))) dM<|aB<|aA<|aA<|rgN<|kfa O O ?_;refine kl1 O O O<|aB<|aE O ?_;refine rgN<|kmv O<|kfa O O ?_;refine kl1 O O O<|aU [(1000002,502),(1000003,503)] (w1 1000000 1000001 503 (((l++[o8 2])++[o8 a])++[o8 b])++[(502,none)]) (pb) O O (by exact (cL ⟨_,O,O⟩ (cL ⟨_,O,O⟩ (cL ⟨_,O,(bV _ _ _ _)⟩ trivial)))) (by exact (bR (bR O (bR O O)) (bR (bR O O) (bR bT O)))) O O O O (by exact (.box O O (.box O O (.box O (bV _ _ _ _) (.dead O .nil))))) dM<|aB<|aA<|rgN<|kfa O O ?_;refine kl1 O O O<|aB<|aF O ?_;refine aH ?_)
    exact ⟨[(1000003,503)],⟨[],trivial,rfl⟩,(by repeat' (first|exact trivial|refine cL ⟨_,rfl,?_⟩ ?_|refine cL ⟨_,rfl⟩ ?_|rfl|exact bV _ _ _ _|exact bW _ _ _ _|exact bX rfl)),rfl,rfl⟩
  by_cases c3:op=3
  · subst c3
    rw [show encI ⟨3,a,b,k⟩=[o8 3,o8 a] from rfl,show l++[o8 3,o8 a]=(l++[o8 3])++[o8 a] by simp,op_3]
    refine cC Tryz.func116 rfl (by kernel_rfl) rfl rfl (by repeat' (first|refine bR ?_ ?_|rfl|exact bT|exact bS|exact bU rfl)) rfl rfl ?_
    intro C
    (refine aA<|rgN<|aL O O O dM<|aL O O O dM<|aB<|aA<|rgN<|kmv O<|kfa O O ?_;refine kl1 O O O<|aU [(1000003,501)] (w1 1000000 1000001 501 (l++[o8 3])++[(1000002,none)]) (p1) O O (by exact (cL ⟨_,O,O⟩ (cL ⟨_,O,O⟩ (cL ⟨_,O,(bV _ _ _ _)⟩ trivial)))) (by exact (bR (bR O (bR O O)) (bR (bR O O) (bR bT O)))) O O O O (by exact (.box O O (.box O O (.box O (bV _ _ _ _) (.dead O .nil))))) dM<|aB<|aA<|aA<|rgN<|kfa O O ?_;refine kl1 O O O<|aB<|aE O ?_;refine rgN<|kmv O<|kfa O O ?_;refine kl1 O O O<|aU [(1000002,501),(1000003,502)] (w1 1000000 1000001 502 ((l++[o8 3])++[o8 a])++[(501,none)]) (pa) O O (by exact (cL ⟨_,O,O⟩ (cL ⟨_,O,O⟩ (cL ⟨_,O,(bV _ _ _ _)⟩ trivial)))) (by exact (bR (bR O (bR O O)) (bR (bR O O) (bR bT O)))) O O O O (by exact (.box O O (.box O O (.box O (bV _ _ _ _) (.dead O .nil))))) dM<|aB<|aA<|aA<|rgN<|kfa O O ?_;refine kl1 O O O<|aB<|aF O ?_;refine aH ?_;refine aA<|rgN<|kfa O O ?_;refine kl1 O O O<|aB<|aF O ?_;refine aH ?_)
    exact ⟨[(1000003,502)],⟨[],trivial,rfl⟩,(by repeat' (first|exact trivial|refine cL ⟨_,rfl,?_⟩ ?_|refine cL ⟨_,rfl⟩ ?_|rfl|exact bV _ _ _ _|exact bW _ _ _ _|exact bX rfl)),rfl,rfl⟩
  rw [show encI ⟨op,a,b,k⟩=[o8 op] by unfold encI;simp only;rw [if_neg c1,if_neg c2,if_neg c3],op_no c1 c2 c3]
  refine cC Tryz.func116 rfl (by kernel_rfl) rfl rfl (by repeat' (first|refine bR ?_ ?_|rfl|exact bT|exact bS|exact bU rfl)) rfl rfl ?_
  intro C
  (refine aA<|rgN<|aL O O O dM<|aL O O O dM<|aB<|aA<|rgN<|kmv O<|kfa O O ?_;refine kl1 O O O<|aU [(1000003,501)] (w1 1000000 1000001 501 (l++[o8 op])++[(1000002,none)]) (p1) O O (by exact (cL ⟨_,O,O⟩ (cL ⟨_,O,O⟩ (cL ⟨_,O,(bV _ _ _ _)⟩ trivial)))) (by exact (bR (bR O (bR O O)) (bR (bR O O) (bR bT O)))) O O O O (by exact (.box O O (.box O O (.box O (bV _ _ _ _) (.dead O .nil))))) dM<|aB<|aA<|aA<|rgN<|kfa O O ?_;refine kl1 O O O<|aB<|aF O ?_;refine aH ?_;refine aA<|aA<|rgN<|kfa O O ?_;refine kl1 O O O<|aB<|aF O ?_;refine aH ?_;refine aA<|rgN<|kfa O O ?_;refine kl1 O O O<|aB<|aF O ?_;refine aH ?_)
  exact ⟨[(1000003,501)],⟨[],trivial,rfl⟩,(by repeat' (first|exact trivial|refine cL ⟨_,rfl,?_⟩ ?_|refine cL ⟨_,rfl⟩ ?_|rfl|exact bV _ _ _ _|exact bW _ _ _ _|exact bX rfl)),rfl,rfl⟩
abbrev enSt (rad ad:Option Addr) (n rcap cap i:Nat) (B:List UInt8) (Y:Nat→Option Obj):St:=
  ⟨[(0,Lx ad n cap),(6,Lp 18),(23,Lx rad n rcap),(24,Ln .i64 (n:Nat)),(25,Ln .i64 (i:Nat))],w1 18 601 500 B,Y⟩
set_option maxHeartbeats 6400000 in
theorem gEncode' (l:List Ins) (ad:Option Addr) (cap:Nat) (hin:InsIn X ad l) (hbig:l.length<1152921504606846976):PSpec Tryz.prog X 90 [Lx ad l.length cap] (.tup [Ss (encTX l),Sn .i64 (encErr l)]):=by
  have hR:=tRowsOf X l ad cap hin hbig
  refine cB Tryz.func90 rfl (by kernel_rfl) rfl rfl ?_
  intro C
  by_cases h:chkX l=0
  · rw [(rs_ok h).1,(rs_ok h).2] at hR
    have h64:=(chkX_zero h).1
    have hall:=chkX_ok h
    (refine aA<|rgN<|kas O<|kas O<|aB<|aA<|rgN<|kmv O<|bE [(1000001,500)] (.tup [.one (.slc 500 0 l.length 6),Sn .i64 0]) [(500,some ⟨0,[],.res (rowsR l)⟩)] (hR) O O (by exact trivial) O O O O O (by exact (.box O O .nil)) dM<|kmv O<|kex O O<|kex O O<|kas O<|kas O ?_;refine aB<|aA<|aA<|rgN<|kmv O<|kne O O ((cN (by omega)))<|aB<|aF O ?_;refine aH ?_;refine aA ?_)
    refine LWP.le (σ':=⟨[(4,.sv (.one (.slc 500 0 l.length 6))),(0,Lx ad l.length cap)],[(500,some ⟨0,[],.res (rowsR l)⟩)],X⟩) (Le.of (by exact ⟨O,O,trivial⟩) (by exact ⟨O,trivial⟩) (by exact O) (by exact O) (by repeat' (first|refine bR ?_ ?_|rfl|exact bT|exact bS|exact bU O))) ?_
    refine LWP.fixRes O O O fun ρ H rcap hRr hO _ _ => ?_
    obtain ⟨m1,m2⟩:=more_join hO
    have hrows:=rows_fix hRr m2
    replace hin:=hin.mono m1
    generalize joinM X H=Y at *
    have p1:=ePut_0 Y l.length (by omega)
    (refine rgN<|aT O O (by exact O) (by exact nl2 O O O) dM ?_;refine aL O O O dM<|kas O<|aB<|aA<|rgN<|kmv O<|kmv O<|aQ O bY O dM ?_;refine aU [(1000000,18),(1000001,601),(1000002,602)] (w1 18 601 602 [o8 (l.length:Nat)]) (p1) O O (by exact (cL ⟨_,O,O⟩ trivial)) (by exact (bR (bR O (bR O O)) O)) O O O O (by exact (.box O O (.box O O (.box O O .nil)))) dM<|aB<|aA<|aA<|rgN<|kmv O<|aQ O bY O dM ?_;refine kmv O<|aB<|aG ?_)
    refine cF (fun m σ=>∃ i:Nat,i≤l.length∧m=l.length-i∧(∀ x∈l.take i,plainI x=true)∧σ=enSt (some ⟨ρ.1,0,none⟩) ad l.length rcap cap i (o8 (l.length:Nat)::encIs (l.take i)) Y) l.length
      ⟨enSt (some ⟨ρ.1,0,none⟩) ad l.length rcap cap 0 (o8 (l.length:Nat)::encIs (l.take 0)) Y,Le.ofR [(500,602)] (by exact ⟨rfl,rfl,rfl,rfl,rfl,trivial⟩) (by repeat' (first|exact trivial|refine cL ⟨_,rfl,?_⟩ ?_|refine cL ⟨_,rfl⟩ ?_|rfl|exact bV _ _ _ _|exact bW _ _ _ _|exact bX rfl)) (by exact rfl) (by exact rfl) (by repeat' (first|refine bR ?_ ?_|rfl|exact bT|exact bS|exact bU rfl)) (by exact rfl) (by exact rfl),0,Nat.zero_le _,rfl,fun x hx=>absurd hx (by simp),rfl⟩ ?_
    rintro m σ ⟨i,hi,rfl,hpl,rfl⟩
    have hBl:=encIs_len (l.take i)
    rw [cU] at hBl
    by_cases hlt:i<l.length
    · obtain ⟨x,hx⟩:∃ x,l[i]? = some x:=⟨_,cS hlt⟩
      have hmem:=cX hx
      have hsx:=hin.small x hmem
      have hok:=hall x hmem
      obtain ⟨rblk,roff,rarr,rel,rfr,dv,hrad,hXr,hszr,hcsr,hDv⟩:=hrows.at hx
      simp only [Option.some.injEq,Addr.mk.injEq] at hrad
      obtain ⟨rfl,rfl,_⟩:=hrad
      obtain ⟨g,gcaps,egv,_⟩:=id hDv
      subst egv
      obtain ⟨blk,off,arr,el,fr,rfl,hX,hsz,hcs,hop⟩:=hin.at hx
      have hio:off+Int.toNat (i:Int)*6=off+i*6:=by simp
      have hior:0+Int.toNat (i:Int)*6=0+i*6:=by simp
      have hin0:0≤(i:Int)∧(i:Int)<(l.length:Nat):=by omega
      have hO:=tOnly Y x hsx
      cases hp:plainI x with
      | false =>
        have he:encErr l=1:=by
          unfold encErr
          rw [if_pos h,if_neg]
          intro ha
          have:=List.all_eq_true.1 ha x hmem
          rw [hp] at this
          cases this
        rw [show encTX l=[] by unfold encTX;rw [he];rfl,he]
        rw [hp] at hO
        (refine aA<|rgN<|klt O O (cK (by omega))<|aB<|aA<|aE O ?_;refine aH ?_;refine aA<|aG<|aA<|rgN<|kmv O<|aR O O bY hin0 hior dM<|aY O hXr (by kernel_rfl) hszr hcsr dM<|aP O dM ?_;refine kas O<|aM O O O O O O dM ?_;refine aB<|aA<|aA<|rgD mixed<|kfa O O ?_;refine bJ O O O O dM ?_;refine kmv O<|kmv O<|aR O O bY hin0 hio dM<|aY O hX (by kernel_rfl) hsz hcs dM<|kca O O hO<|aV O O dM<|aB<|rgA ?_;refine aE O ?_;refine aA<|rgN<|kas O<|kas O<|aB<|aI ?_)
        exact ⟨[_,_],⟨O,O,trivial⟩,O⟩
      | true =>
        rw [hp] at hO
        have hnext:o8 (l.length:Nat)::encIs (l.take (i+1))=(o8 (l.length:Nat)::encIs (l.take i))++encI x:=by
          rw [List.take_add_one,hx,encIs_app]
          simp [encIs]
        have q:=ePutIns Y (o8 (l.length:Nat)::encIs (l.take i)) x hsx hok (by rw [dD];omega)
        rw [← hnext] at q
        have hinc:IntKind.i64.wrap (((i:Nat):Int)+1)=((i+1:Nat):Int):=by rw [cD (by omega)];omega
        (refine aA<|rgN<|klt O O (cK (by omega))<|aB<|aA<|aE O ?_;refine aH ?_;refine aA<|aG<|aA<|rgN<|kmv O<|aR O O bY hin0 hior dM<|aY O hXr (by kernel_rfl) hszr hcsr dM<|aP O dM ?_;refine kas O<|aM O O O O O O dM ?_;refine aB<|aA<|aA<|rgD mixed<|kfa O O ?_;refine bJ O O O O dM ?_;refine kmv O<|kmv O<|aR O O bY hin0 hio dM<|aY O hX (by kernel_rfl) hsz hcs dM<|kca O O hO<|aV O O dM<|aB<|rgA ?_;refine aF O ?_;refine aH ?_;refine rgD mixed<|kmv O<|kfa O O ?_;refine bJ O O O O dM ?_;refine kmv O<|kmv O<|aR O O bY hin0 hio dM<|aY O hX (by kernel_rfl) hsz hcs dM<|aU [(1000000,18),(1000001,601),(1000002,500),(1000003,605)] (w1 18 601 605 (o8 (l.length:Nat)::encIs (l.take (i+1)))++[(500,none)]) (q) O O (by exact (cL ⟨_,O,O⟩ (cL ⟨_,O,O⟩ (cL ⟨_,O,(bV _ _ _ _)⟩ trivial)))) (by exact (bR (bR O (bR O O)) (bR (bR O O) (bR (bR O bT) O)))) O O O O (by exact (.box O O (.box O O (.box O (bV _ _ _ _) (.dead O .nil))))) dM<|aB<|rgA ?_;refine rgN<|kad O O hinc<|kmv O<|aB ?_)
        exact ⟨_,enSt (some ⟨ρ.1,0,none⟩) (some ⟨blk,off,none⟩) l.length rcap cap (i+1) (o8 (l.length:Nat)::encIs (l.take (i+1))) Y,by omega,Le.ofR [(500,605)] (by exact ⟨rfl,rfl,rfl,rfl,rfl,trivial⟩) (by repeat' (first|exact trivial|refine cL ⟨_,rfl,?_⟩ ?_|refine cL ⟨_,rfl⟩ ?_|rfl|exact bV _ _ _ _|exact bW _ _ _ _|exact bX rfl)) (by exact rfl) (by exact rfl) (by repeat' (first|refine bR ?_ ?_|rfl|exact bT|exact bS|exact bU rfl)) (by exact rfl) (by exact rfl),i+1,by omega,rfl,(fun y hy=>by
          rw [List.take_add_one,hx] at hy
          rcases List.mem_append.1 hy with hy|hy
          · exact hpl y hy
          · simp only [Option.toList_some,List.mem_singleton] at hy;rw [hy];exact hp),rfl⟩
    · have e:i=l.length:=by omega
      subst e
      rw [cZ] at hpl
      have he:encErr l=0:=by
        unfold encErr
        rw [if_pos h,if_pos (List.all_eq_true.2 hpl)]
      rw [show encTX l=o8 (l.length:Nat)::encIs l by unfold encTX;rw [if_pos he];rfl,he,cZ]
      have q:=String_1 Y (o8 (l.length:Nat)::encIs l)
      (refine aA<|rgN<|klt O O (cJ (by omega))<|aB<|aA<|aF O ?_;refine aJ<|aA<|rgN<|kmv O<|aU [(1000000,18),(1000001,601),(1000002,500)] (w1 18 601 500 (o8 (l.length:Nat)::encIs l)) (q) O O (by exact (cL ⟨_,O,O⟩ (cL ⟨_,O,O⟩ (cL ⟨_,O,(bV _ _ _ _)⟩ trivial)))) (by exact (bR (bR O (bR O O)) (bR (bR O O) (bR (bR O bT) O)))) O O O O (by exact (.box O O (.box O O (.box O (bV _ _ _ _) .nil)))) dM<|kas O<|kas O<|aB<|aI ?_)
      exact ⟨[_,_],⟨O,O,trivial⟩,O⟩
  · rw [(rs_no h).1,(rs_no h).2] at hR
    have he:encErr l=chkX l:=if_neg h
    rw [show encTX l=[] by unfold encTX;rw [he,if_neg h],he]
    (refine aA<|rgN<|kas O<|kas O<|aB<|aA<|rgN<|kmv O<|aU [] [] (hR) O O (by exact trivial) O O O O O (by exact .nil) dM<|kmv O<|kex O O<|kex O O<|kas O<|kas O ?_;refine aB<|aA<|aA<|rgN<|kmv O<|kne O O (r:=true) (cO h)<|aB<|aE O ?_;refine aA<|rgN<|kmv O<|kas O<|kas O<|aB<|aI ?_)
    exact ⟨[_,_],⟨O,O,trivial⟩,O⟩
end Go.Proofs.YtnfbccfghgmfiaaGreat
end
section
namespace Go.Proofs.YtnfbccfghgmfiaaGreat
open Go Go.Lg Go.Lg.Fml Go.Lg.Fld Go.Lg.Arith
set_option maxRecDepth 100000
def eS:List UInt8×Bool→UInt8×List UInt8×Bool
  | (c::t,false)=>(c,t,false)
  | (l,_)=>(0,l,true)
def eW:List UInt8×Bool→Nat×List UInt8×Bool
  | (l,b)=>if b=false∧8≤l.length then (le (l.take 8),l.drop 8,false) else (0,l,true)
def eN (x:List UInt8×Bool):(Nm×Bool)×List UInt8×Bool:=
  if 1<(eS x).1.toNat then (((false,0),false),(eS x).2)
  else (((decide ((eS x).1.toNat=1),(((eW (eS x).2).1+18446744073709551616*(eW (eW (eS x).2).2).1:Nat):Int)),true),(eW (eW (eS x).2).2).2)
def Lss (x y:List UInt8×Bool):Prop:=y.1.length≤x.1.length∧(x.2=true→y.2=true)
variable (X:Nat→Option Obj)
end Go.Proofs.YtnfbccfghgmfiaaGreat
end
section
namespace Go.Proofs.YtnfbccfghgmfiaaGreat
open Go Go.Lg Go.Lg.Fml Go.Lg.Fld Go.Lg.Arith
set_option maxRecDepth 100000
variable (X:Nat→Option Obj)
abbrev usSt (ad:Option Addr) (n cap i:Nat) (q:List Ins) (r:Bool) (Y:Nat→Option Obj):St:=
  ⟨[(0,Lx ad n cap),(3,.sv (.one (.slc 500 0 q.length 6))),(7,Lx ad n cap),(8,Ln .i64 (n:Nat)),(9,Ln .i64 (i:Nat))],[(500,some ⟨66,(inssV q).map .val,r⟩)],Y⟩
theorem uses_take {l:List Ins} {i:Nat} {x:Ins} (hx:l[i]? = some x):usesX (l.take (i+1))=if (x.op==2||x.op==3)=true then usesX (l.take i)++[x] else usesX (l.take i):=by
  unfold usesX
  rw [List.take_add_one,hx,List.filter_append]
  simp only [Option.toList_some,List.filter_cons,List.filter_nil]
  split<;>simp
theorem uses_le (l:List Ins):(usesX l).length≤l.length:=List.length_filter_le _ _
set_option maxHeartbeats 6400000 in
theorem gUses' (l:List Ins) (ad:Option Addr) (cap:Nat) (hin:InsIn X ad l) (hl:l.length≤1000):MSpec Tryz.prog X 20 [Lx ad l.length cap] [] (.sv (.one (.slc 1000001 0 (usesX l).length 6))) [(1000001,some ⟨66,(inssV (usesX l)).map .val,true⟩)]:=by
  refine cC Tryz.func20 rfl (by kernel_rfl) rfl (by exact (by repeat' (first|refine bR ?_ ?_|rfl|exact bT|exact bS|exact bU rfl))) (by exact (by repeat' (first|refine bR ?_ ?_|rfl|exact bT|exact bS|exact bU rfl))) rfl rfl ?_
  intro C
  refine LWP.ends ?_
  (refine aA<|rgN<|kas O<|aB<|aA<|rgN<|aZ (zs:=[]) (sz:=6) (e:=66) (by kernel_rfl) O O O O O O dM<|kas O<|aB<|aA<|aA<|rgN<|kmv O<|aQ O bY O dM ?_;refine kmv O<|aB<|aG ?_)
  refine cF (fun m σ=>∃ (i:Nat) (r:Bool),i≤l.length∧m=l.length-i∧σ=usSt ad l.length cap i (usesX (l.take i)) r X) l.length
    ⟨usSt ad l.length cap 0 (usesX (l.take 0)) false X,Le.ofR [(500,6)] (by exact ⟨rfl,rfl,rfl,rfl,rfl,trivial⟩) (by repeat' (first|exact trivial|refine cL ⟨_,rfl,?_⟩ ?_|refine cL ⟨_,rfl⟩ ?_|rfl|exact bV _ _ _ _|exact bW _ _ _ _|exact bX rfl)) (by exact rfl) (by exact rfl) (by repeat' (first|refine bR ?_ ?_|rfl|exact bT|exact bS|exact bU rfl)) (by exact rfl) (by exact rfl),0,false,by omega,by omega,rfl⟩ ?_
  rintro m σ ⟨i,r,hi,rfl,rfl⟩
  by_cases hlt:i<l.length
  · obtain ⟨x,hx⟩:∃ x,l[i]? = some x:=⟨_,cS hlt⟩
    obtain ⟨blk,off,arr,el,fr,rfl,hX,hsz,hcs,hop⟩:=hin.at hx
    have hio:off+Int.toNat (i:Int)*6=off+i*6:=by simp
    have hin0:0≤(i:Int)∧(i:Int)<(l.length:Nat):=by omega
    have hut:=uses_take hx
    have hul:=uses_le (l.take i)
    rw [cU] at hul
    have hinc:IntKind.i64.wrap (((i:Nat):Int)+1)=((i+1:Nat):Int):=by rw [cD (by omega)];omega
    by_cases h2:x.op=2
    · rw [if_pos (by rw [cP h2];rfl)] at hut
      generalize usesX (l.take i)=q at *
      have hcl:=inssV_len q
      have hnc:(inssV q).map CV.val++(insV x).map CV.val=(inssV (q++[x])).map CV.val:=inssV_snoc q x rfl
      have hnl:q.length+1=(q++[x]).length:=by rw [cQ];rfl
      (refine aA<|rgN<|klt O O (cK (by omega))<|aB<|aA<|aE O ?_;refine aH ?_;refine aA<|aG<|aA<|rgN<|aR O O bY hin0 hio dM<|aY O hX (by kernel_rfl) hsz hcs dM<|aP O dM ?_;refine aM O O O O O O dM ?_;refine aB<|aA<|rgN<|kfa O O ?_;refine kl1 O O O<|keq O O (r:=true) (cP h2)<|kmv O<|aC O O O<|aC O O O<|aC O O O<|kpt O O<|aB<|aE O ?_;refine rgN<|kmv O<|aK O O O dM ?_;refine aZ (zs:=[Value.int .i64 0,.int .i64 0,.int .i64 0,.bool false,.int .u64 0,.int .u64 0]) (sz:=6) (e:=66) (cs':=(insV x).map .val) (by kernel_rfl) O O O O O O dM<|bO (by_:=48) (e2:=66) (l2:=(insV x).map .val) (nl:=(q++[x]).length) (nc:=(inssV (q++[x])).map .val) O O hcl O O (dI _) O O (by kernel_rfl) (by kernel_rfl) (by omega) (by omega) O hnl hnc dM<|kas O<|aB<|rgN<|kad O O hinc<|kmv O<|aB ?_)
      exact ⟨_,usSt (some ⟨blk,off,none⟩) l.length cap (i+1) (q++[x]) true X,by omega,Le.ofR [(500,24)] (by exact ⟨rfl,rfl,rfl,rfl,rfl,trivial⟩) (by repeat' (first|exact trivial|refine cL ⟨_,rfl,?_⟩ ?_|refine cL ⟨_,rfl⟩ ?_|rfl|exact bV _ _ _ _|exact bW _ _ _ _|exact bX rfl)) (by exact rfl) (by exact rfl) (by repeat' (first|refine bR ?_ ?_|rfl|exact bT|exact bS|exact bU rfl)) (by exact rfl) (by exact rfl),i+1,true,by omega,rfl,by rw [hut]⟩
    · by_cases h3:x.op=3
      · rw [if_pos (by rw [cP h3,Bool.or_true])] at hut
        generalize usesX (l.take i)=q at *
        have hcl:=inssV_len q
        have hnc:(inssV q).map CV.val++(insV x).map CV.val=(inssV (q++[x])).map CV.val:=inssV_snoc q x rfl
        have hnl:q.length+1=(q++[x]).length:=by rw [cQ];rfl
        (refine aA<|rgN<|klt O O (cK (by omega))<|aB<|aA<|aE O ?_;refine aH ?_;refine aA<|aG<|aA<|rgN<|aR O O bY hin0 hio dM<|aY O hX (by kernel_rfl) hsz hcs dM<|aP O dM ?_;refine aM O O O O O O dM ?_;refine aB<|aA<|rgN<|kfa O O ?_;refine kl1 O O O<|keq O O (r:=false) (cM h2)<|kmv O<|aN O O (dN O O) ?_;refine aO O O O (dN O O) ?_;refine bC O O (r:=true) (cP h3) (dN O O) ?_;refine kpf O O<|aB<|aE O ?_;refine rgN<|kmv O<|aK O O O dM ?_;refine aZ (zs:=[Value.int .i64 0,.int .i64 0,.int .i64 0,.bool false,.int .u64 0,.int .u64 0]) (sz:=6) (e:=66) (cs':=(insV x).map .val) (by kernel_rfl) O O O O O O dM<|bO (by_:=48) (e2:=66) (l2:=(insV x).map .val) (nl:=(q++[x]).length) (nc:=(inssV (q++[x])).map .val) O O hcl O O (dI _) O O (by kernel_rfl) (by kernel_rfl) (by omega) (by omega) O hnl hnc dM<|kas O<|aB<|rgN<|kad O O hinc<|kmv O<|aB ?_)
        exact ⟨_,usSt (some ⟨blk,off,none⟩) l.length cap (i+1) (q++[x]) true X,by omega,Le.ofR [(500,24)] (by exact ⟨rfl,rfl,rfl,rfl,rfl,trivial⟩) (by repeat' (first|exact trivial|refine cL ⟨_,rfl,?_⟩ ?_|refine cL ⟨_,rfl⟩ ?_|rfl|exact bV _ _ _ _|exact bW _ _ _ _|exact bX rfl)) (by exact rfl) (by exact rfl) (by repeat' (first|refine bR ?_ ?_|rfl|exact bT|exact bS|exact bU rfl)) (by exact rfl) (by exact rfl),i+1,true,by omega,rfl,by rw [hut]⟩
      · rw [if_neg (by rw [cM h2,cM h3];decide)] at hut
        generalize usesX (l.take i)=q at *
        (refine aA<|rgN<|klt O O (cK (by omega))<|aB<|aA<|aE O ?_;refine aH ?_;refine aA<|aG<|aA<|rgN<|aR O O bY hin0 hio dM<|aY O hX (by kernel_rfl) hsz hcs dM<|aP O dM ?_;refine aM O O O O O O dM ?_;refine aB<|aA<|rgN<|kfa O O ?_;refine kl1 O O O<|keq O O (r:=false) (cM h2)<|kmv O<|aN O O (dN O O) ?_;refine aO O O O (dN O O) ?_;refine bC O O (r:=false) (cM h3) (dN O O) ?_;refine kpf O O<|aB<|aF O ?_;refine aH ?_;refine rgN<|kad O O hinc<|kmv O<|aB ?_)
        exact ⟨_,usSt (some ⟨blk,off,none⟩) l.length cap (i+1) q r X,by omega,Le.of (by exact ⟨rfl,rfl,rfl,rfl,rfl,trivial⟩) (by exact ⟨rfl,trivial⟩) (by exact rfl) (by exact rfl) (by repeat' (first|refine bR ?_ ?_|rfl|exact bT|exact bS|exact bU rfl)),i+1,r,by omega,rfl,by rw [hut]⟩
  · have e:i=l.length:=by omega
    subst e
    rw [cZ]
    (refine aA<|rgN<|klt O O (cJ (by omega))<|aB<|aA<|aF O ?_;refine aJ<|aA<|rgN<|kmv O<|kas O<|aB<|aI ?_)
    refine cA (σ':=⟨[(2,.sv (.one (.slc 500 0 (usesX l).length 6)))],[(500,some ⟨66,(inssV (usesX l)).map .val,r⟩)],X⟩) (Le.of (by exact ⟨O,trivial⟩) (by exact ⟨O,trivial⟩) (by exact O) (by exact O) (by repeat' (first|refine bR ?_ ?_|rfl|exact bT|exact bS|exact bU O))) ?_
    refine cA Le.loose (bZ ?_)
    exact ⟨[(1000001,500)],⟨[_],⟨rfl,trivial⟩,rfl⟩,(by repeat' (first|exact trivial|refine cL ⟨_,rfl,?_⟩ ?_|refine cL ⟨_,rfl⟩ ?_|rfl|exact bV _ _ _ _|exact bW _ _ _ _|exact bX rfl)),rfl,rfl⟩
end Go.Proofs.YtnfbccfghgmfiaaGreat
end
section
namespace Go.Proofs.YtnfbccfghgmfiaaGreat
open Go Go.Lg Go.Lg.Fml Go.Lg.Fld Go.Lg.Arith
set_option maxRecDepth 100000
variable (X:Nat→Option Obj)
theorem gCheck (l:List Ins) (ad:Option Addr) (cap:Nat) (hin:InsIn X ad l) (hl:l.length<1152921504606846976):PSpec Tryz.prog X 19 [Lx ad l.length cap] (Ln .i64 (chkX l)):=by
  exact gCheck' X l ad cap hin hl
end Go.Proofs.YtnfbccfghgmfiaaGreat
end
section
namespace Go.Proofs.YtnfbccfghgmfiaaGreat
open Go Go.Lg Go.Lg.Fml Go.Lg.Fld Go.Lg.Arith
set_option maxRecDepth 100000
variable (X:Nat→Option Obj)
def sizeB (rs:List Rl):Prop := ∀ r∈rs,r.ex.length<9223372036854775808∧∀ c∈r.ex,c.length<9223372036854775808
def grtR (r:Rl):Bool:=decide (12<r.ex.length)||r.ex.any fun c=>decide (80<c.length)
def grtP (rs:List Rl):Bool:=decide (30<rs.length)||rs.any grtR
theorem grtP_false {rs:List Rl} (h:grtP rs=false):rs.length≤30∧∀ r∈rs,r.ex.length≤12∧∀ c∈r.ex,c.length≤80:=by
  unfold grtP at h
  rw [Bool.or_eq_false_iff,decide_eq_false_iff_not] at h
  refine ⟨by omega,fun r hr => ?_⟩
  have h1:grtR r=false:=by have:=List.any_eq_false.1 h.2 r hr;simpa using this
  unfold grtR at h1
  rw [Bool.or_eq_false_iff,decide_eq_false_iff_not] at h1
  refine ⟨by omega,fun c hc => ?_⟩
  have:=List.any_eq_false.1 h1.2 c hc
  simpa using this
end Go.Proofs.YtnfbccfghgmfiaaGreat
end
section
namespace Go.Proofs.YtnfbccfghgmfiaaGreat
open Go Go.Lg Go.Lg.Fml Go.Lg.Fld Go.RowKit Go.ChangeShapes Go.WideShapes Go.Joins
set_option maxRecDepth 100000
section
variable {H:Type} {enc:TypeId×Value→H} {w:World}
theorem open_inss_l {fuel:Nat} {lv:List Value} {xx:DataW H×List MemPlace} (h:DataW.trod enc Tryz.prog w 0 (fun _=>true) true fuel 50 lv=some xx):
    ∃ (ad:Option Addr) (cap:Nat) (l:List Ins),lv=[.slice ad l.length cap]∧l.length<9223372036854775808∧InsIn (fun b=>w.heap[b]?) ad l:=by
  obtain ⟨ad,cap,rows,rfl,h1,h2,h3,h4⟩:=open_rows_l (e:=66) (sz:=6) (by kernel_rfl) (by kernel_rfl) (by decide) h
  obtain ⟨l,rfl,h5⟩:=map_of (f:=insV) (q:=smallI) (vs:=rows) (fun u hu=>by
    obtain ⟨hlen,n,x,hx⟩:=h4 u hu
    obtain ⟨y0,y1,y2,y3,n',_,_,g0,g1,g2,g3⟩:=trod_struct4 (t:=66) Tryz.underlying66 hx
    obtain ⟨c0,c1,c2,c3,c4,c5,rfl⟩:∃ c0 c1 c2 c3 c4 c5,u=[c0,c1,c2,c3,c4,c5]:=by
      match u,hlen with
      | [c0,c1,c2,c3,c4,c5],_=>exact ⟨c0,c1,c2,c3,c4,c5,rfl⟩
    obtain ⟨k0,e0,_,wa0⟩:=DataW.trod_int (k:=.i64) (by kernel_rfl) g0
    obtain ⟨k1,e1,_,wa1⟩:=DataW.trod_int (k:=.i64) (by kernel_rfl) g1
    obtain ⟨k2,e2,_,wa2⟩:=DataW.trod_int (k:=.i64) (by kernel_rfl) g2
    obtain ⟨z0,z1,z2,m',_,_,j0,j1,j2⟩:=Deep.trod_struct3 (t:=64) Tryz.underlying64 g3
    obtain ⟨b,e3,_⟩:=DataW.trod_bool (by kernel_rfl) j0
    obtain ⟨x,e4,_,wa4⟩:=DataW.trod_int (k:=.u64) (by kernel_rfl) j1
    obtain ⟨y,e5,_,wa5⟩:=DataW.trod_int (k:=.u64) (by kernel_rfl) j2
    have q0:c0 = .int .i64 k0:=by simpa using (show ([c0,c1,c2,c3,c4,c5].drop 0).take 1=[.int .i64 k0] from e0)
    have q1:c1 = .int .i64 k1:=by simpa using (show ([c0,c1,c2,c3,c4,c5].drop 1).take 1=[.int .i64 k1] from e1)
    have q2:c2 = .int .i64 k2:=by simpa using (show ([c0,c1,c2,c3,c4,c5].drop 2).take 1=[.int .i64 k2] from e2)
    have q3:c3 = .bool b:=by simpa using (show ((([c0,c1,c2,c3,c4,c5].drop 3).take 3).drop 0).take 1=[.bool b] from e3)
    have q4:c4 = .int .u64 x:=by simpa using (show ((([c0,c1,c2,c3,c4,c5].drop 3).take 3).drop 1).take 1=[.int .u64 x] from e4)
    have q5:c5 = .int .u64 y:=by simpa using (show ((([c0,c1,c2,c3,c4,c5].drop 3).take 3).drop 2).take 1=[.int .u64 y] from e5)
    subst q0 q1 q2 q3 q4 q5
    have b0:=bounds_i64 wa0
    have b1:=bounds_i64 wa1
    have b2:=bounds_i64 wa2
    have b4:=bounds_u64 wa4
    have b5:=bounds_u64 wa5
    refine ⟨⟨k0,k1,k2,(b,x*18446744073709551616+y)⟩,?_,by show -9223372036854775808≤k0∧k0<9223372036854775808;omega,by show -9223372036854775808≤k1∧k1<9223372036854775808;omega,by show -9223372036854775808≤k2∧k2<9223372036854775808;omega,by show 0≤x*18446744073709551616+y;omega,by show x*18446744073709551616+y<_;omega⟩
    unfold insV
    show _=[Value.int .i64 k0,.int .i64 k1,.int .i64 k2,.bool b,.int .u64 ((x*18446744073709551616+y)/18446744073709551616),.int .u64 ((x*18446744073709551616+y)%18446744073709551616)]
    rw [show (x*18446744073709551616+y)/18446744073709551616=x by omega,show (x*18446744073709551616+y)%18446744073709551616=y by omega])
  exact ⟨ad,cap,l,by rw [cR],by rw [cR] at h1;unfold maxLen at h2;omega,⟨h3,h5⟩⟩
theorem open_codes_l {fuel:Nat} {lv:List Value} {xx:DataW H×List MemPlace} (h:DataW.trod enc Tryz.prog w 0 (fun _=>true) true fuel 25 lv=some xx):
    ∃ (ad:Option Addr) (cap:Nat) (cs:List (List Ins)),lv=[.slice ad cs.length cap]∧cs.length<9223372036854775808∧CodesIn (fun b=>w.heap[b]?) ad cs∧∀ c∈cs,c.length<9223372036854775808:=by
  obtain ⟨ad,cap,rows,rfl,h1,h2,h3,h4⟩:=open_rows_l (e:=50) (sz:=1) (by kernel_rfl) (by kernel_rfl) (by decide) h
  obtain ⟨ts,rfl,h5⟩:=map_of (f:=fun t:List Ins×Option Addr×Nat=>[Value.slice t.2.1 t.1.length t.2.2]) (q:=fun t=>InsIn (fun b=>w.heap[b]?) t.2.1 t.1∧t.1.length<9223372036854775808) (vs:=rows) (fun u hu=>by
    obtain ⟨hlen,n,x,hx⟩:=h4 u hu
    obtain ⟨vad,vcap,ns,e1,k1,hF⟩:=open_inss_l hx
    exact ⟨(ns,vad,vcap),e1,hF,k1⟩)
  refine ⟨ad,cap,ts.map (·.1),by rw [cR,cR],by rw [cR] at h1 ⊢;unfold maxLen at h2;omega,⟨fun i r hr => ?_⟩,fun r hr => ?_⟩
  · rw [dG] at hr
    cases ht:ts[i]? with
    | none=>rw [ht] at hr;cases hr
    | some t =>
      rw [ht] at hr
      simp only [Option.map_some,Option.some.injEq] at hr
      subst hr
      obtain ⟨blk,off,arr,el,fr,g1,g2,g3,g4⟩:=h3 i _ (by rw [dG,ht];rfl)
      have g5:arr[off+i]? = some (.slice t.2.1 t.1.length t.2.2):=by
        have:=congrArg (fun l:List Value=>l[0]?) g4
        simpa [List.getElem?_take,List.getElem?_drop] using this
      exact ⟨blk,off,arr,el,fr,t.2.1,t.2.2,g1,g2,g3,g5,(h5 t (cX ht)).1⟩
  · obtain ⟨t,ht,rfl⟩:=List.mem_map.1 hr
    exact (h5 t ht).2
end
end Go.Proofs.YtnfbccfghgmfiaaGreat
end
section
namespace Go.Proofs.YtnfbccfghgmfiaaGreat
open Go Go.Lg Go.Lg.Fml Go.Lg.Fld Go.RowKit Go.ChangeShapes Go.WideShapes Go.Joins
set_option maxRecDepth 100000
section
variable {H:Type} {enc:TypeId×Value→H} {w:World}
theorem open_fields_w {fuel:Nat} {l:List Value} {x:DataW H×List MemPlace} (h:DataW.trod enc Tryz.prog w 0 (fun _=>true) true fuel 22 l=some x) (hw:Light Tryz.prog 22 x.1):
    ∃ (ad:Option Addr) (cap:Nat) (fs:List Fl),l=[.slice ad fs.length cap]∧fs.length≤4398046511104∧FieldsIn (fun b=>w.heap[b]?) ad fs∧∀ f∈fs,f.nm.length≤9223372036854775807:=by
  obtain ⟨ad,cap,rows,rfl,hb,_,_,h3,h4⟩:=open_rows_w (e:=49) (sz:=3) (by kernel_rfl) (by kernel_rfl) (by decide) h hw
  obtain ⟨fs,rfl,h5⟩:=map_of (f:=Fl.vals) (q:=fun f=>((-9223372036854775808≤f.kind∧f.kind<9223372036854775808)∧(-9223372036854775808≤f.count∧f.count<9223372036854775808))∧f.nm.length≤9223372036854775807) (vs:=rows) (fun u hu=>by
    obtain ⟨hlen,n,x,hx,_⟩:=h4 u hu
    obtain ⟨y0,y1,y2,n',_,_,g0,g1,g2⟩:=Deep.trod_struct3 (t:=49) Tryz.underlying49 hx
    obtain ⟨e0',e1',e2',rfl⟩:∃ c0 c1 c2,u=[c0,c1,c2]:=by
      match u,hlen with
      | [c0,c1,c2],_=>exact ⟨c0,c1,c2,rfl⟩
    obtain ⟨s,e0,_,hsz⟩:=DataW.trod_string (by kernel_rfl) g0
    obtain ⟨k,e1,_,wa1⟩:=DataW.trod_int (k:=.i64) (by kernel_rfl) g1
    obtain ⟨c,e2,_,wa2⟩:=DataW.trod_int (k:=.i64) (by kernel_rfl) g2
    have q0:e0' = .string s:=by simpa using (show ([e0',e1',e2'].drop 0).take 1=[.string s] from e0)
    have q1:e1' = .int .i64 k:=by simpa using (show ([e0',e1',e2'].drop 1).take 1=[.int .i64 k] from e1)
    have q2:e2' = .int .i64 c:=by simpa using (show ([e0',e1',e2'].drop 2).take 1=[.int .i64 c] from e2)
    subst q0 q1 q2
    have b1:=bounds_i64 wa1
    have b2:=bounds_i64 wa2
    exact ⟨⟨s.data.toList,k,c⟩,rfl,(show (-9223372036854775808≤k∧k<9223372036854775808)∧(-9223372036854775808≤c∧c<9223372036854775808) by omega),(show s.data.toList.length≤_ from (by unfold maxLen at hsz;rw [Array.length_toList];exact hsz))⟩)
  exact ⟨ad,cap,fs,by rw [cR],by rw [cR,show Tryz.prog.bytesOf 49=32 by kernel_rfl,show reachBytes=140737488351232 by decide] at hb;omega,⟨h3,fun f hf=>(h5 f hf).1⟩,fun f hf=>(h5 f hf).2⟩
theorem cellsCp:Tryz.prog.cellsOf 24=3:=by kernel_rfl
theorem open_comp {r:Reach} {b0:Nat} {v:Value} {d:DataW H} {p:List MemPlace} (hv:Value.okWide Tryz.prog w r b0 24 v) (h:DataW.Trod enc Tryz.prog w 0 (fun _=>true) true 24 v d p) (hw:Light Tryz.prog 24 d):
    ∃ (c:Cp) (ad:Option Addr) (cap:Nat),v = .agg #[.int .i64 c.id,.string ⟨c.nm.toArray⟩,.slice ad c.fs.length cap]∧(-9223372036854775808≤c.id∧c.id<9223372036854775808)∧c.fs.length≤4398046511104∧FieldsIn (fun b=>w.heap[b]?) ad c.fs∧∀ f∈c.fs,f.nm.length≤9223372036854775807:=by
  obtain ⟨v0,v1,v2,y0,y1,y2,m,rfl,rfl,rfl,hy0,hy1,hy2⟩:=open_agg3 Tryz.underlying24 (by kernel_rfl) cellsCp hv h
  have hw2:=(Light.struct3 Tryz.underlying24 hw).2.2
  obtain ⟨x,e0,rfl,wa0⟩:=DataW.trod_int (k:=.i64) (by kernel_rfl) hy0
  obtain ⟨s,e1,rfl,hsz⟩:=DataW.trod_string (by kernel_rfl) hy1
  obtain ⟨ad,cap,fs,e2,h1,h2,h3⟩:=open_fields_w hy2 hw2
  simp at e0 e1 e2
  subst e0 e1 e2
  have b0:=bounds_i64 wa0
  exact ⟨⟨x,s.data.toList,fs⟩,ad,cap,O,(show -9223372036854775808≤x∧x<9223372036854775808 by omega),h1,h2,h3⟩
theorem cellsRl:Tryz.prog.cellsOf 27=3:=by kernel_rfl
theorem open_rule {r:Reach} {b0:Nat} {v:Value} {d:DataW H} {p:List MemPlace} (hv:Value.okWide Tryz.prog w r b0 27 v) (h:DataW.Trod enc Tryz.prog w 0 (fun _=>true) true 27 v d p):
    ∃ (q:Rl) (ad:Option Addr) (cap:Nat),v = .agg #[.int .i64 q.nw,.int .i64 q.old,.slice ad q.ex.length cap]∧smallR q∧q.ex.length<9223372036854775808∧CodesIn (fun b=>w.heap[b]?) ad q.ex∧∀ c∈q.ex,c.length<9223372036854775808:=by
  obtain ⟨v0,v1,v2,y0,y1,y2,m,rfl,rfl,rfl,hy0,hy1,hy2⟩:=open_agg3 Tryz.underlying27 (by kernel_rfl) cellsRl hv h
  obtain ⟨x,e0,rfl,wa0⟩:=DataW.trod_int (k:=.i64) (by kernel_rfl) hy0
  obtain ⟨y,e1,rfl,wa1⟩:=DataW.trod_int (k:=.i64) (by kernel_rfl) hy1
  obtain ⟨ad,cap,cs,e2,h1,h2,h3⟩:=open_codes_l hy2
  simp at e0 e1 e2
  subst e0 e1 e2
  have b0:=bounds_i64 wa0
  have b1:=bounds_i64 wa1
  exact ⟨⟨x,y,cs⟩,ad,cap,O,⟨(show -9223372036854775808≤x∧x<9223372036854775808 by omega),(show -9223372036854775808≤y∧y<9223372036854775808 by omega)⟩,h1,h2,h3⟩
end
end Go.Proofs.YtnfbccfghgmfiaaGreat
end
section
namespace Go.Proofs.YtnfbccfghgmfiaaGreat
open Go Go.Lg Go.Lg.Fml Go.Lg.Fld Go.Lg.Arith
set_option maxRecDepth 100000
def rwZ:List Rl→List Value→List Value
  | r::rs,v::vs=>.int .i64 r.nw :: .int .i64 r.old::v::rwZ rs vs
  | _,_=>[]
theorem rwZ_len:∀ {rs:List Rl} {ws:List Value},ws.length=rs.length→(rwZ rs ws).length=rs.length*3
  | [],[],_=>rfl
  | c::cs,v::vs,h=>by
    simp only [rwZ,dD] at h ⊢
    rw [rwZ_len (rs:=cs) (ws:=vs) (by omega)];omega
  | [],_::_,h=>by simp at h
  | _::_,[],h=>by simp at h
theorem rwZ_add:∀ {rs:List Rl} {ws:List Value} {r:Rl} {v:Value},ws.length=rs.length→rwZ (rs++[r]) (ws++[v])=rwZ rs ws++[.int .i64 r.nw,.int .i64 r.old,v]
  | [],[],_,_,_=>rfl
  | c::cs,w::ws,r,v,h=>by
    simp only [dD] at h
    simp only [List.cons_append,rwZ]
    rw [rwZ_add (rs:=cs) (ws:=ws) (by omega)]
  | [],_::_,_,_,h=>by simp at h
  | _::_,[],_,_,h=>by simp at h
theorem rwZ_at:∀ {i:Nat} {rs:List Rl} {ws sp:List Value} {r:Rl} {w:Value},rs[i]? = some r→ws[i]? = some w→((rwZ rs ws++sp).drop (i*3)).take 3=[.int .i64 r.nw,.int .i64 r.old,w]
  | 0,c::cs,v::vs,sp,r,w,h1,h2=>by
    simp only [List.getElem?_cons_zero,Option.some.injEq] at h1 h2
    subst h1 h2
    rfl
  | i+1,c::cs,v::vs,sp,r,w,h1,h2=>by
    simp only [List.getElem?_cons_succ] at h1 h2
    have:=rwZ_at (sp:=sp) h1 h2
    rw [show (i+1)*3=i*3+3 by omega]
    exact this
  | _,[],_,_,_,_,h,_=>by simp at h
  | _,_::_,[],_,_,_,_,h=>by simp at h
theorem snoc_get {α:Type} {l:List α} {a x:α} {i:Nat} (h:(l++[a])[i]? = some x):(i<l.length∧l[i]? = some x)∨(i=l.length∧x=a):=by
  by_cases e:i<l.length
  · rw [dL e] at h;exact .inl ⟨e,h⟩
  · have h1:=(List.getElem?_eq_some_iff.1 h).1
    rw [cQ] at h1
    simp only [cT] at h1
    have e2:i=l.length:=by omega
    subst e2
    rw [List.getElem?_append_right (dI _),Nat.sub_self] at h
    simp only [List.getElem?_cons_zero,Option.some.injEq] at h
    exact .inr ⟨O,h.symm⟩
structure FormsH (H:Nat→Option Obj) (vs:List Value) (cs:List (List Ins)):Prop where
  len:vs.length=cs.length
  at_:∀ (i:Nat) (v:Value) (c:List Ins),vs[i]? = some v→cs[i]? = some c→∃ (vad:Option Addr) (vcap:Nat),v = .slice vad c.length vcap∧InsIn H vad c
theorem FormsH.nil {H:Nat→Option Obj}:FormsH H [] []:=⟨rfl,fun i v c h=>by simp at h⟩
theorem FormsH.mono {H H':Nat→Option Obj} (hH:∀ b o,H b=some o→H' b=some o) {vs:List Value} {cs:List (List Ins)} (G:FormsH H vs cs):FormsH H' vs cs:=⟨G.len,fun i v c hv hc=>by
  obtain ⟨vad,vcap,h1,h2⟩:=G.at_ i v c hv hc
  exact ⟨vad,vcap,h1,h2.mono hH⟩⟩
theorem FormsH.push {H:Nat→Option Obj} {vs:List Value} {cs:List (List Ins)} (G:FormsH H vs cs) {v:Value} {c:List Ins} (hv:∃ (vad:Option Addr) (vcap:Nat),v = .slice vad c.length vcap∧InsIn H vad c):FormsH H (vs++[v]) (cs++[c]):=⟨by rw [cQ,cQ,G.len];rfl,fun i w d hw hd=>by
  have hl:=G.len
  rcases snoc_get hw with ⟨h1,h2⟩|⟨h1,rfl⟩
  · rcases snoc_get hd with ⟨h3,h4⟩|⟨h3,_⟩
    · exact G.at_ i w d h2 h4
    · omega
  · rcases snoc_get hd with ⟨h3,_⟩|⟨_,rfl⟩
    · omega
    · exact hv⟩
structure RulesH (H:Nat→Option Obj) (ws:List Value) (rs:List Rl):Prop where
  len:ws.length=rs.length
  at_:∀ (i:Nat) (w:Value) (r:Rl),ws[i]? = some w→rs[i]? = some r→∃ (ead:Option Addr) (ecap:Nat),w = .slice ead r.ex.length ecap∧CodesIn H ead r.ex
theorem RulesH.nil {H:Nat→Option Obj}:RulesH H [] []:=⟨rfl,fun i v c h=>by simp at h⟩
theorem RulesH.mono {H H':Nat→Option Obj} (hH:∀ b o,H b=some o→H' b=some o) {vs:List Value} {cs:List Rl} (G:RulesH H vs cs):RulesH H' vs cs:=⟨G.len,fun i v c hv hc=>by
  obtain ⟨vad,vcap,h1,h2⟩:=G.at_ i v c hv hc
  exact ⟨vad,vcap,h1,h2.mono hH⟩⟩
theorem RulesH.push {H:Nat→Option Obj} {vs:List Value} {cs:List Rl} (G:RulesH H vs cs) {v:Value} {c:Rl} (hv:∃ (vad:Option Addr) (vcap:Nat),v = .slice vad c.ex.length vcap∧CodesIn H vad c.ex):RulesH H (vs++[v]) (cs++[c]):=⟨by rw [cQ,cQ,G.len];rfl,fun i w d hw hd=>by
  have hl:=G.len
  rcases snoc_get hw with ⟨h1,h2⟩|⟨h1,rfl⟩
  · rcases snoc_get hd with ⟨h3,h4⟩|⟨h3,_⟩
    · exact G.at_ i w d h2 h4
    · omega
  · rcases snoc_get hd with ⟨h3,_⟩|⟨_,rfl⟩
    · omega
    · exact hv⟩
theorem forms_block {Y:Nat→Option Obj} {blk:Nat} {arr:Array Value} {el:TypeId} {fr:Nat×Nat} {vs sp:List Value} {cs:List (List Ins)} (hY:Y blk=some (.cells arr el fr)) (h:arr.toList=vs++sp) (G:FormsH Y vs cs):CodesIn Y (some ⟨blk,0,none⟩) cs:=⟨fun i c hc=>by
  have hi:=(List.getElem?_eq_some_iff.1 hc).1
  have hl:=G.len
  obtain ⟨v,hv⟩:∃ v,vs[i]? = some v:=⟨_,cS (by omega)⟩
  obtain ⟨vad,vcap,h1,h2⟩:=G.at_ i v c hv hc
  have hsz:arr.size=vs.length+sp.length:=by rw [← Array.length_toList,h,cQ]
  refine ⟨blk,0,arr,el,fr,vad,vcap,O,hY,by omega,?_,h2⟩
  rw [← Array.getElem?_toList,h,Nat.zero_add,dL (by omega),hv,h1]⟩
theorem rules_block {Y:Nat→Option Obj} {blk:Nat} {arr:Array Value} {el:TypeId} {fr:Nat×Nat} {ws sp:List Value} {rs:List Rl} (hY:Y blk=some (.cells arr el fr)) (h:arr.toList=rwZ rs ws++sp) (G:RulesH Y ws rs) (hs:∀ r∈rs,smallR r):RulesIn Y (some ⟨blk,0,none⟩) rs:=⟨fun i r hr=>by
  have hi:=(List.getElem?_eq_some_iff.1 hr).1
  have hl:=G.len
  obtain ⟨v,hv⟩:∃ v,ws[i]? = some v:=⟨_,cS (by omega)⟩
  obtain ⟨ead,ecap,h1,h2⟩:=G.at_ i v r hv hr
  have hsz:arr.size=rs.length*3+sp.length:=by rw [← Array.length_toList,h,cQ,rwZ_len hl]
  refine ⟨blk,0,arr,el,fr,ead,ecap,O,hY,by omega,?_,h2⟩
  rw [h,Nat.zero_add,rwZ_at hr hv,h1],hs⟩
def rlR (t:TypeId) (rs:List Rl):Rsc:=⟨fun ρ H=>(∃ (arr:Array Value) (fr:Nat×Nat),H ρ.1=some (.cells arr t fr)∧arr.size=ρ.2)∧RulesIn H (some ⟨ρ.1,0,none⟩) rs⟩
abbrev rlB (t:TypeId) (k:Nat) (rs:List Rl):Nat×Option Box:=(k,some ⟨0,[],.res (rlR t rs)⟩)
section
variable {n:Nat} {C:Ctx} {X:Nat→Option Obj} {s:List (Nat×LV)} {bx:List (Nat×Option Box)} {k:Nat}
theorem rl_shut {Mid:St→Prop} {t:TypeId} {rs:List Rl} {H:Nat→Option Obj} {ws sp:List Value} (hO:OwnedM C X H) (G:RulesH H ws rs) (hs:∀ r∈rs,smallR r)
    (h:Leads n C Mid ⟨s,rlB t k rs::bx,X⟩):Leads n C Mid ⟨s,(k,some ⟨t,(rwZ rs ws++sp).map .val,false⟩)::bx,joinM X H⟩:=by
  refine Leads.closeRes (vals:=rwZ rs ws++sp) hO (fun ρ fr h1 h2 h3 => ?_) h
  refine ⟨⟨_,fr,cH _ _ _,by rw [h3];simp⟩,?_⟩
  exact rules_block (cH _ _ _) (by simp;rfl) (G.mono (cE h1)) hs
end
theorem ins_leads {H:Nat→Option Obj} {b:Nat} {v:Value} {el:TypeId} {c:List Ins} (h:LeadsTo H b v el 6 (inssV c)) (hs:∀ x∈c,smallI x):∃ (vad:Option Addr) (vcap:Nat),v = .slice vad c.length vcap∧InsIn H vad c:=by
  obtain ⟨len,cap,arr,fr,h1,h2,_,_,h5,h6⟩:=h
  have hl:=inssV_len c
  rw [cR] at hl
  have e:len=c.length:=by omega
  subst e
  exact ⟨_,cap,h1,ins_in h5 hs h6⟩
variable (X:Nat→Option Obj)
end Go.Proofs.YtnfbccfghgmfiaaGreat
end
