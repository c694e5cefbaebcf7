/- A piece of a proof over this program: contracts of its functions, and a logic to prove them by. -/
import Derived.Test.YtopiioklkkiedaaGreatDoorW5b
section
set_option maxHeartbeats 12800000
set_option maxRecDepth 100000
namespace Go.Proofs.YtopiioklkkiedaaGreatDoor
open Go Go.Lg Go.Lg.Arith
variable (X:Nat→Option Obj)
def lzOf (y:Int):Nat:=64-Lib.bitLen y.toNat
theorem lzOf_spec {y:Int} (hy:0<y∧y<18446744073709551616):lzOf y≤63∧9223372036854775808≤y*2^lzOf y∧y*2^lzOf y<18446744073709551616:=by
 obtain ⟨n,rfl⟩:=Int.eq_ofNat_of_zero_le (Int.le_of_lt hy.1)
 have hb:=Lib.bitLenAux_bounds 64 n (by have:=hy.2;omega) (by have:=hy.1;omega)
 have hle:Lib.bitLen n≤64:=Lib.bitLen_le n 64 VA (by have:=hy.2;omega)
 change 1≤Lib.bitLen n∧2^(Lib.bitLen n-1)≤n∧n<2^Lib.bitLen n at hb
 have e:lzOf (n:Int)=64-Lib.bitLen n:=by simp [lzOf]
 rw [e]
 generalize Lib.bitLen n=k at *
 obtain ⟨h1,h2,h3⟩:=hb
 have m1:=Nat.mul_le_mul_right (2^(64-k)) h2
 have m2:=Nat.mul_lt_mul_of_pos_right h3 (Nat.two_pow_pos (64-k))
 rw [← Nat.pow_add,show k-1+(64-k)=63 by omega] at m1
 rw [← Nat.pow_add,show k+(64-k)=64 by omega] at m2
 have ec:((n:Int)*2^(64-k))=((n*2^(64-k):Nat):Int):=by rw [Int.natCast_mul,Int.natCast_pow];rfl
 rw [ec]
 exact ⟨by omega,by omega,by omega⟩
theorem lz_spec (y:Int) (hy:0≤y∧y<18446744073709551616):PSpec Tryz.prog X 240 [Ln .u64 y] (Ln .i64 (lzOf y:Nat)):=by
 refine PSpec.ofCalls (vals:=[.int .u64 y]) (v:=.int .i64 (lzOf y:Nat)) V5 O O (fun w _ => ?_)
 refine (Tryz.bits_LeadingZeros64 y w hy.1 V3).mono ?_
 rintro e w' ⟨rfl,rfl⟩
 refine ⟨?_,O⟩
 have hle:Lib.bitLen y.toNat≤64:=Lib.bitLen_le _ 64 VA (by have:=hy.2;omega)
 have:((lzOf y:Nat):Int)=64-(Lib.bitLen y.toNat:Int):=by unfold lzOf;omega
 rw [this]
set_option maxHeartbeats 1000000 in
theorem Div64_spec (hi lo y:Int) (hh:0≤hi∧hi<y) (hl:0≤lo∧lo<18446744073709551616) (hy:y<18446744073709551616):
  PSpec Tryz.prog X 234 [Ln .u64 hi,Ln .u64 lo,Ln .u64 y] (.tup [Sn .u64 ((hi*18446744073709551616+lo)/y),Sn .u64 ((hi*18446744073709551616+lo)%y)]):=by
 have hlz:=lz_spec X y V3
 obtain ⟨hs,hY1,hY2⟩:=lzOf_spec (y:=y) V3
 generalize lzOf y=s at hlz hs hY1 hY2
 have hE:(0:Int)<2^s:=Int.pow_pos VA
 have hF:(0:Int)<2^(64-s):=Int.pow_pos VA
 have hEF:=pow_split (s:=s) V3
 have hsh:=shift2 (hi:=hi) (lo:=lo) hE hF hEF hl.1
 have hsc:=scale (N:=hi*18446744073709551616+lo) (y:=y) hE V3
 have hlo2:0≤lo/2^(64-s)∧lo/2^(64-s)<2^s:=by
  refine ⟨Int.ediv_nonneg hl.1 (Int.le_of_lt hF),?_⟩
  rw [Int.ediv_lt_iff_lt_mul hF,hEF];exact hl.2
 have hhi2:0≤hi∧hi*2^s<18446744073709551616:=by
  refine ⟨hh.1,?_⟩
  have:=Int.mul_le_mul_of_nonneg_right (Int.le_of_lt hh.2) (Int.le_of_lt hE)
  omega
 have hhi3:0≤hi*2^s:=Int.mul_nonneg hh.1 (Int.le_of_lt hE)
 obtain ⟨Y,hY⟩:∃ Y,y*2^s=Y:=⟨_,rfl⟩
 obtain ⟨U,hU⟩:∃ U,hi*2^s+lo/2^(64-s)=U:=⟨_,rfl⟩
 obtain ⟨V,hV⟩:∃ V,lo*2^s%18446744073709551616=V:=⟨_,rfl⟩
 have hV0:0≤V∧V<18446744073709551616:=by omega
 have hUY:U<Y:=by
  have h1:(hi*18446744073709551616+lo)*2^s<(y*18446744073709551616)*2^s:=Int.mul_lt_mul_of_pos_right V3 hE
  rw [Int.mul_right_comm] at h1
  rw [hY] at h1
  rw [hsh,hU,hV] at h1
  omega
 have hU0:0≤U:=by omega
 rw [hsh,hU,hV,hY] at hsc
 rw [hY] at hY1 hY2
 have ka1:KArg (Y/4294967296) (Y%4294967296) U (V/4294967296):=⟨by omega,by omega,by omega,by omega⟩
 have eY:Y/4294967296*4294967296+Y%4294967296=Y:=by omega
 have ks1:=k_start ka1
 have kq1:∀ q r,KInv (Y/4294967296) (Y%4294967296) U (V/4294967296) q r→q*Y≤U*4294967296+V/4294967296→q=(U*4294967296+V/4294967296)/Y∧U*4294967296+V/4294967296-q*Y=(U*4294967296+V/4294967296)%Y:=by
  intro q r k he
  have:=k_quo ka1 k (by rw [eY];exact he)
  rw [eY] at this
  exact this
 refine cF Tryz.func234 rfl V5 rfl rfl ?_
 intro C
 by_cases hz:hi=0
 ·subst hz
  (refine aA<|rgN<|kas O<|kas O<|RunK.nil<|aA<|aA<|rgN<|kmv O<|keq O O (cS V3)<|RunK.nil<|LWP.condF O ?_;refine LWP.skip ?_;refine aA<|aA<|rgN<|kmv O<|kmv O<|K.leq O O (cO V3) dS<|RunK.nil<|LWP.condF O ?_;refine LWP.skip ?_;refine aA<|aA<|rgN<|kmv O<|keq O O (cV V3)<|RunK.nil<|LWP.condT O ?_;refine aA<|rgD mixed<|kmv O<|kmv O<|K.quo O O V3 (quo_u64 V3 V3) dS<|kmv O<|kmv O<|K.rem O O V3 (rem_pos V3) dS<|kas O<|kas O<|RunK.nil<|rgA ?_;refine LWP.ret ?_)
  exact ⟨[_,_],⟨rfl,rfl,trivial⟩,by simp [resOf]⟩
 ·have hm1:0≤U/(Y/4294967296)*(Y/4294967296)∧U/(Y/4294967296)*(Y/4294967296)≤U:=by have:=ks1.r0;have:=ks1.eq;exact ⟨Int.mul_nonneg ks1.q0 V3,by omega⟩
  (refine aA<|rgN<|kas O<|kas O<|RunK.nil<|aA<|aA<|rgN<|kmv O<|keq O O (cS V3)<|RunK.nil<|LWP.condF O ?_;refine LWP.skip ?_;refine aA<|aA<|rgN<|kmv O<|kmv O<|K.leq O O (cO V3) dS<|RunK.nil<|LWP.condF O ?_;refine LWP.skip ?_;refine aA<|aA<|rgN<|kmv O<|keq O O (cS V3)<|RunK.nil<|LWP.condF O ?_;refine LWP.skip ?_;refine aA<|rgN<|kmv O<|kca O O (hlz)<|kcv O V2C ?_;refine kas O<|RunK.nil<|aA<|rgN<|kmv O<|kmv O<|K.shl O O V3 (shl_s V3 hY V3) dS<|kas O<|RunK.nil<|aA<|rgN<|kmv O<|bO O O V3 (shr_32 _) dS<|kas O ?_;refine RunK.nil<|aA<|rgN<|kmv O<|K.bitop V21 O O (and_32 V3) dS<|kas O<|RunK.nil<|aA<|rgN<|kmv O<|kmv O<|K.shl O O V3 (shl_s V3 O ⟨hhi3,hhi2.2⟩) dS<|kmv O<|kmv O ?_;refine bA O O (wrap_u64 V3) dS<|bO O O V3 (shr_64s V3) dS<|K.bitop V21 O O (or_apart' V3 hhi2 hlo2 hU) dS<|kas O<|RunK.nil<|aA<|rgN<|kmv O<|kmv O<|K.shl O O V3 ((shl_mod V3).trans hV) dS<|kas O<|RunK.nil<|aA<|rgN ?_;refine kmv O<|bO O O V3 (shr_32 _) dS<|kas O<|RunK.nil<|aA<|rgN<|kmv O<|K.bitop V21 O O (and_32 V3) dS<|kas O<|RunK.nil<|aA<|rgN<|kmv O<|kmv O ?_;refine K.quo O O V3 (quo_u64 V3 V3) dS<|kas O<|RunK.nil<|aA<|rgN<|kmv O<|kmv O<|kmv O<|bL O O (wrap_u64 V3) dS<|bA O O (wrap_u64 V3) dS<|kas O<|RunK.nil<|aA<|LWP.block ?_)
  have hy1:U-U/(Y/4294967296)*(Y/4294967296)<Y/4294967296:=by
   have h2:=Int.emod_add_mul_ediv U (Y/4294967296)
   have h3:=Int.emod_lt_of_pos U (show 0<Y/4294967296 by omega)
   rw [Int.mul_comm] at h2
   omega
  refine LWP.meet (fun σ=>∃ q r:Int,q=(U*4294967296+V/4294967296)/Y∧σ=⟨[(2,Ln .u64 Y),(8,Ln .u64 s),(9,Ln .u64 (Y/4294967296)),(10,Ln .u64 (Y%4294967296)),(11,Ln .u64 U),(13,Ln .u64 (V/4294967296)),(14,Ln .u64 (V%4294967296)),(15,Ln .u64 q),(16,Ln .u64 r)],[],X⟩) ?_ ?_
  ·refine cL (fun m σ=>∃ q r:Int,KInv (Y/4294967296) (Y%4294967296) U (V/4294967296) q r∧r<4294967296∧m=q.toNat∧σ=⟨[(2,Ln .u64 Y),(8,Ln .u64 s),(9,Ln .u64 (Y/4294967296)),(10,Ln .u64 (Y%4294967296)),(11,Ln .u64 U),(13,Ln .u64 (V/4294967296)),(14,Ln .u64 (V%4294967296)),(15,Ln .u64 q),(16,Ln .u64 r)],[],X⟩) (U/(Y/4294967296)).toNat
    ⟨_,Le.of V1B VC V2 V2 V2,_,_,ks1,by omega,rfl,rfl⟩ ?_
   rintro m σ ⟨q,r,k,hr,rfl,rfl⟩
   have hq0:=k.q0
   have hr0:=k.r0
   have hqU:q≤U:=by
    have:=k.eq
    have:=Int.mul_le_mul_of_nonneg_left (show (1:Int)≤Y/4294967296 by omega) hq0
    omega
   have next:∀ q' r',KInv (Y/4294967296) (Y%4294967296) U (V/4294967296) q' r'→4294967296≤r'→q'=(U*4294967296+V/4294967296)/Y:=fun q' r' k' h'=>(kq1 q' r' k' (by have:=k_break ka1 k' h';rwa [eY] at this)).1
   by_cases hq:4294967296≤q
   ·have k':=k_big ka1 k hq
    have hrn:=next _ _ k'
    by_cases hr2:4294967296≤r+Y/4294967296
    ·(refine aA<|aA<|rgN<|kmv O<|bD O O (cP V3) dS<|kmv O<|RunK.passed O O O<|RunK.passed O O O<|RunK.passed O O O<|RunK.passed O O O<|RunK.passed O O O<|RunK.passed O O O<|RunK.passed O O O<|RunK.passed O O O ?_;refine kpt O O<|RunK.nil<|LWP.condT O ?_;refine LWP.skip ?_;refine LWP.block<|aA<|rgN<|kmv O<|bA O O (wrap_u64 V3) dS<|kas O<|RunK.nil<|aA<|rgN<|kmv O<|kmv O<|kad O O (wrap_u64 V3)<|kas O<|RunK.nil ?_;refine aA<|rgN<|kmv O<|bD O O (cP V3) dS<|RunK.nil<|LWP.condT O ?_;refine LWP.exit ?_)
     exact ⟨_,Le.of V1B VC V2 V2 V2,_,_,hrn hr2,O⟩
    ·(refine aA<|aA<|rgN<|kmv O<|bD O O (cP V3) dS<|kmv O<|RunK.passed O O O<|RunK.passed O O O<|RunK.passed O O O<|RunK.passed O O O<|RunK.passed O O O<|RunK.passed O O O<|RunK.passed O O O<|RunK.passed O O O ?_;refine kpt O O<|RunK.nil<|LWP.condT O ?_;refine LWP.skip ?_;refine LWP.block<|aA<|rgN<|kmv O<|bA O O (wrap_u64 V3) dS<|kas O<|RunK.nil<|aA<|rgN<|kmv O<|kmv O<|kad O O (wrap_u64 V3)<|kas O<|RunK.nil ?_;refine aA<|rgN<|kmv O<|bD O O (cO V3) dS<|RunK.nil<|LWP.condF O ?_;refine LWP.skip ?_)
     exact ⟨_,_,by omega,Le.of V1B VC V2 V2 V2,_,_,k',by omega,O,O⟩
   ·have hqy:=mul_bound (a:=q) (b:=Y%4294967296) (A:=4294967295) (B:=4294967295) ⟨hq0,by omega⟩ ⟨by omega,by omega⟩
    by_cases hb:4294967296*r+V/4294967296<q*(Y%4294967296)
    ·have k':=k_high ka1 k hb
     have hrn:=next _ _ k'
     have hq1:1≤q:=by have:=k'.q0;omega
     by_cases hr2:4294967296≤r+Y/4294967296
     ·(refine aA<|aA<|rgN<|kmv O<|bD O O (cO V3) dS<|kmv O<|gmv O O O<|gmv O O O<|bL O O (wrap_u64 V3) (dT O O) ?_;refine gmv O O O<|bL O O (wrap_u64 V3) (dT O O) ?_;refine gmv O O O<|K.add O O (wrap_u64 V3) (dT O O) ?_;refine aS O O (cP V3) (dT O O) ?_;refine kpf O O<|RunK.nil<|LWP.condT O ?_;refine LWP.skip ?_;refine LWP.block<|aA<|rgN<|kmv O<|bA O O (wrap_u64 V3) dS<|kas O<|RunK.nil<|aA<|rgN<|kmv O<|kmv O<|kad O O (wrap_u64 V3)<|kas O<|RunK.nil ?_;refine aA<|rgN<|kmv O<|bD O O (cP V3) dS<|RunK.nil<|LWP.condT O ?_;refine LWP.exit ?_)
      exact ⟨_,Le.of V1B VC V2 V2 V2,_,_,hrn hr2,O⟩
     ·(refine aA<|aA<|rgN<|kmv O<|bD O O (cO V3) dS<|kmv O<|gmv O O O<|gmv O O O<|bL O O (wrap_u64 V3) (dT O O) ?_;refine gmv O O O<|bL O O (wrap_u64 V3) (dT O O) ?_;refine gmv O O O<|K.add O O (wrap_u64 V3) (dT O O) ?_;refine aS O O (cP V3) (dT O O) ?_;refine kpf O O<|RunK.nil<|LWP.condT O ?_;refine LWP.skip ?_;refine LWP.block<|aA<|rgN<|kmv O<|bA O O (wrap_u64 V3) dS<|kas O<|RunK.nil<|aA<|rgN<|kmv O<|kmv O<|kad O O (wrap_u64 V3)<|kas O<|RunK.nil ?_;refine aA<|rgN<|kmv O<|bD O O (cO V3) dS<|RunK.nil<|LWP.condF O ?_;refine LWP.skip ?_)
      exact ⟨_,_,by omega,Le.of V1B VC V2 V2 V2,_,_,k',by omega,O,O⟩
    ·(refine aA<|aA<|rgN<|kmv O<|bD O O (cO V3) dS<|kmv O<|gmv O O O<|gmv O O O<|bL O O (wrap_u64 V3) (dT O O) ?_;refine gmv O O O<|bL O O (wrap_u64 V3) (dT O O) ?_;refine gmv O O O<|K.add O O (wrap_u64 V3) (dT O O) ?_;refine aS O O (cO V3) (dT O O) ?_;refine kpf O O<|RunK.nil<|LWP.condF O ?_;refine LWP.exit ?_)
     exact ⟨_,Le.of V1B VC V2 V2 V2,_,_,(kq1 q r k (by have:=k_end k V3;rwa [eY] at this)).1,O⟩
  ·rintro σ ⟨q1,r1,hq1,rfl⟩
   have hYp:0<Y:=by omega
   have hq1B:=digit_lt hYp hUY (show V/4294967296<4294967296 by omega) hq1
   obtain ⟨R,hR⟩:∃ R,(U*4294967296+V/4294967296)%Y=R:=⟨_,rfl⟩
   have hR0:=Int.emod_nonneg (U*4294967296+V/4294967296) (show Y≠0 by omega)
   have hR1:=Int.emod_lt_of_pos (U*4294967296+V/4294967296) hYp
   have hRe:=Int.emod_add_mul_ediv (U*4294967296+V/4294967296) Y
   rw [← hq1,Int.mul_comm Y q1] at hRe
   rw [hR] at hR0 hR1 hRe
   have hq10:0≤q1:=by rw [hq1];exact Int.ediv_nonneg V3 V3
   have hsub1:IntKind.u64.wrap (IntKind.u64.wrap (IntKind.u64.wrap (U*4294967296)+V/4294967296)-IntKind.u64.wrap (q1*Y))=R:=by rw [wrap3 V3];omega
   have ka2:KArg (Y/4294967296) (Y%4294967296) R (V%4294967296):=⟨by omega,by omega,by omega,by omega⟩
   have ks2:=k_start ka2
   have kq2:∀ q r,KInv (Y/4294967296) (Y%4294967296) R (V%4294967296) q r→q*Y≤R*4294967296+V%4294967296→q=(R*4294967296+V%4294967296)/Y∧R*4294967296+V%4294967296-q*Y=(R*4294967296+V%4294967296)%Y:=by
    intro q r k he
    have:=k_quo ka2 k (by rw [eY];exact he)
    rw [eY] at this
    exact this
   have hm2:0≤R/(Y/4294967296)*(Y/4294967296)∧R/(Y/4294967296)*(Y/4294967296)≤R:=by have:=ks2.r0;have:=ks2.eq;exact ⟨Int.mul_nonneg ks2.q0 V3,by omega⟩
   have hy2:R-R/(Y/4294967296)*(Y/4294967296)<Y/4294967296:=by
    have h2:=Int.emod_add_mul_ediv R (Y/4294967296)
    have h3:=Int.emod_lt_of_pos R (show 0<Y/4294967296 by omega)
    rw [Int.mul_comm] at h2
    omega
   (refine aA<|rgN<|kmv O<|bL O O O dS<|kmv O<|kad O O O<|kmv O<|kmv O<|bL O O O dS<|bA O O hsub1 dS<|kas O<|RunK.nil<|aA<|rgN ?_;refine kmv O<|kmv O<|K.quo O O V3 (quo_u64 V3 V3) dS<|kas O<|RunK.nil<|aA<|rgN<|kmv O<|kmv O<|kmv O<|bL O O (wrap_u64 V3) dS<|bA O O (wrap_u64 V3) dS<|kas O<|RunK.nil ?_;refine aA<|LWP.block ?_)
   refine LWP.meet (fun σ=>∃ q r:Int,q=(R*4294967296+V%4294967296)/Y∧σ=⟨[(2,Ln .u64 Y),(8,Ln .u64 s),(14,Ln .u64 (V%4294967296)),(15,Ln .u64 q1),(17,Ln .u64 R),(18,Ln .u64 q),(16,Ln .u64 r)],[],X⟩) ?_ ?_
   ·refine cL (fun m σ=>∃ q r:Int,KInv (Y/4294967296) (Y%4294967296) R (V%4294967296) q r∧r<4294967296∧m=q.toNat∧σ=⟨[(2,Ln .u64 Y),(8,Ln .u64 s),(9,Ln .u64 (Y/4294967296)),(10,Ln .u64 (Y%4294967296)),(14,Ln .u64 (V%4294967296)),(15,Ln .u64 q1),(17,Ln .u64 R),(18,Ln .u64 q),(16,Ln .u64 r)],[],X⟩) (R/(Y/4294967296)).toNat
     ⟨_,Le.of V1B VC V2 V2 V2,_,_,ks2,by omega,rfl,rfl⟩ ?_
    rintro m σ ⟨q,r,k,hr,rfl,rfl⟩
    have hq0:=k.q0
    have hr0:=k.r0
    have hqU:q≤R:=by
     have:=k.eq
     have:=Int.mul_le_mul_of_nonneg_left (show (1:Int)≤Y/4294967296 by omega) hq0
     omega
    have next:∀ q' r',KInv (Y/4294967296) (Y%4294967296) R (V%4294967296) q' r'→4294967296≤r'→q'=(R*4294967296+V%4294967296)/Y:=fun q' r' k' h'=>(kq2 q' r' k' (by have:=k_break ka2 k' h';rwa [eY] at this)).1
    by_cases hq:4294967296≤q
    ·have k':=k_big ka2 k hq
     have hrn:=next _ _ k'
     by_cases hr2:4294967296≤r+Y/4294967296
     ·(refine aA<|aA<|rgN<|kmv O<|bD O O (cP V3) dS<|kmv O<|RunK.passed O O O<|RunK.passed O O O<|RunK.passed O O O<|RunK.passed O O O<|RunK.passed O O O<|RunK.passed O O O<|RunK.passed O O O<|RunK.passed O O O ?_;refine kpt O O<|RunK.nil<|LWP.condT O ?_;refine LWP.skip ?_;refine LWP.block<|aA<|rgN<|kmv O<|bA O O (wrap_u64 V3) dS<|kas O<|RunK.nil<|aA<|rgN<|kmv O<|kmv O<|kad O O (wrap_u64 V3)<|kas O<|RunK.nil ?_;refine aA<|rgN<|kmv O<|bD O O (cP V3) dS<|RunK.nil<|LWP.condT O ?_;refine LWP.exit ?_)
      exact ⟨_,Le.of V14 VC V2 V2 V2,_,_,hrn hr2,O⟩
     ·(refine aA<|aA<|rgN<|kmv O<|bD O O (cP V3) dS<|kmv O<|RunK.passed O O O<|RunK.passed O O O<|RunK.passed O O O<|RunK.passed O O O<|RunK.passed O O O<|RunK.passed O O O<|RunK.passed O O O<|RunK.passed O O O ?_;refine kpt O O<|RunK.nil<|LWP.condT O ?_;refine LWP.skip ?_;refine LWP.block<|aA<|rgN<|kmv O<|bA O O (wrap_u64 V3) dS<|kas O<|RunK.nil<|aA<|rgN<|kmv O<|kmv O<|kad O O (wrap_u64 V3)<|kas O<|RunK.nil ?_;refine aA<|rgN<|kmv O<|bD O O (cO V3) dS<|RunK.nil<|LWP.condF O ?_;refine LWP.skip ?_)
      exact ⟨_,_,by omega,Le.of V1B VC V2 V2 V2,_,_,k',by omega,O,O⟩
    ·have hqy:=mul_bound (a:=q) (b:=Y%4294967296) (A:=4294967295) (B:=4294967295) ⟨hq0,by omega⟩ ⟨by omega,by omega⟩
     by_cases hb:4294967296*r+V%4294967296<q*(Y%4294967296)
     ·have k':=k_high ka2 k hb
      have hrn:=next _ _ k'
      have hq1:1≤q:=by have:=k'.q0;omega
      by_cases hr2:4294967296≤r+Y/4294967296
      ·(refine aA<|aA<|rgN<|kmv O<|bD O O (cO V3) dS<|kmv O<|gmv O O O<|gmv O O O<|bL O O (wrap_u64 V3) (dT O O) ?_;refine gmv O O O<|bL O O (wrap_u64 V3) (dT O O) ?_;refine gmv O O O<|K.add O O (wrap_u64 V3) (dT O O) ?_;refine aS O O (cP V3) (dT O O) ?_;refine kpf O O<|RunK.nil<|LWP.condT O ?_;refine LWP.skip ?_;refine LWP.block<|aA<|rgN<|kmv O<|bA O O (wrap_u64 V3) dS<|kas O<|RunK.nil<|aA<|rgN<|kmv O<|kmv O<|kad O O (wrap_u64 V3)<|kas O<|RunK.nil ?_;refine aA<|rgN<|kmv O<|bD O O (cP V3) dS<|RunK.nil<|LWP.condT O ?_;refine LWP.exit ?_)
       exact ⟨_,Le.of V14 VC V2 V2 V2,_,_,hrn hr2,O⟩
      ·(refine aA<|aA<|rgN<|kmv O<|bD O O (cO V3) dS<|kmv O<|gmv O O O<|gmv O O O<|bL O O (wrap_u64 V3) (dT O O) ?_;refine gmv O O O<|bL O O (wrap_u64 V3) (dT O O) ?_;refine gmv O O O<|K.add O O (wrap_u64 V3) (dT O O) ?_;refine aS O O (cP V3) (dT O O) ?_;refine kpf O O<|RunK.nil<|LWP.condT O ?_;refine LWP.skip ?_;refine LWP.block<|aA<|rgN<|kmv O<|bA O O (wrap_u64 V3) dS<|kas O<|RunK.nil<|aA<|rgN<|kmv O<|kmv O<|kad O O (wrap_u64 V3)<|kas O<|RunK.nil ?_;refine aA<|rgN<|kmv O<|bD O O (cO V3) dS<|RunK.nil<|LWP.condF O ?_;refine LWP.skip ?_)
       exact ⟨_,_,by omega,Le.of V1B VC V2 V2 V2,_,_,k',by omega,O,O⟩
     ·(refine aA<|aA<|rgN<|kmv O<|bD O O (cO V3) dS<|kmv O<|gmv O O O<|gmv O O O<|bL O O (wrap_u64 V3) (dT O O) ?_;refine gmv O O O<|bL O O (wrap_u64 V3) (dT O O) ?_;refine gmv O O O<|K.add O O (wrap_u64 V3) (dT O O) ?_;refine aS O O (cO V3) (dT O O) ?_;refine kpf O O<|RunK.nil<|LWP.condF O ?_;refine LWP.exit ?_)
      exact ⟨_,Le.of V14 VC V2 V2 V2,_,_,(kq2 q r k (by have:=k_end k V3;rwa [eY] at this)).1,O⟩
   ·rintro σ ⟨q2,r2,hq2,rfl⟩
    have hend:=quo_end hYp hq1 hR.symm hq2
    have hq2B:=digit_lt hYp hR1 (show V%4294967296<4294967296 by omega) hq2
    have hq20:0≤q2:=by rw [hq2];exact Int.ediv_nonneg V3 V3
    obtain ⟨T,hT⟩:∃ T,(R*4294967296+V%4294967296)%Y=T:=⟨_,rfl⟩
    have hT0:=Int.emod_nonneg (R*4294967296+V%4294967296) (show Y≠0 by omega)
    have hT1:=Int.emod_lt_of_pos (R*4294967296+V%4294967296) hYp
    have hTe:=Int.emod_add_mul_ediv (R*4294967296+V%4294967296) Y
    rw [← hq2,Int.mul_comm Y q2] at hTe
    rw [hT] at hT0 hT1 hTe hend
    have hsub2:IntKind.u64.wrap (IntKind.u64.wrap (IntKind.u64.wrap (R*4294967296)+V%4294967296)-IntKind.u64.wrap (q2*Y))=T:=by rw [wrap3 V3];omega
    (refine aA<|rgN<|kmv O<|bL O O (wrap_u64 V3) dS<|kmv O<|kad O O (wrap_u64 V3)<|kmv O<|bL O O O dS<|kmv O<|kad O O O<|kmv O<|kmv O<|bL O O O dS<|bA O O hsub2 dS ?_;refine kmv O<|bO O O V3 (shr_s V3) dS<|kas O<|kas O<|RunK.nil<|LWP.ret ?_)
    rw [← hsc.1,← hsc.2,← hend.1,← hend.2]
    exact V1E
end Go.Proofs.YtopiioklkkiedaaGreatDoor
end
section
set_option maxHeartbeats 12800000
set_option maxRecDepth 100000
namespace Go.Proofs.YtopiioklkkiedaaGreatDoor
open Go Go.Lg Go.Lg.Arith
variable (X:Nat→Option Obj)
theorem LZ_word {g:Int} (h:0≤g∧g<18446744073709551616):LZ g=Lz 0 g:=by
 unfold LZ
 rw [show g/18446744073709551616=0 by omega,show g%18446744073709551616=g by omega]
set_option maxHeartbeats 1000000 in
theorem divideLong_spec (M N:Int) (hM:Lim M) (hN:18446744073709551616≤N∧N<170141183460469231731687303715884105728):
  PSpec Tryz.prog X 233 [LZ M,LZ N] (.tup [SZ (M/N),SZ (M%N)]):=by
 obtain ⟨hM0,hM1⟩:=hM
 obtain ⟨H,hH⟩:∃ H,N/18446744073709551616=H:=⟨_,rfl⟩
 obtain ⟨l,hl⟩:∃ l,N%18446744073709551616=l:=⟨_,rfl⟩
 have hH1:0<H∧H<9223372036854775808:=by omega
 have hl1:0≤l∧l<18446744073709551616:=by omega
 have hlz:=lz_spec X H V3
 obtain ⟨hs,hY1,hY2⟩:=lzOf_spec (y:=H) V3
 generalize lzOf H=s at hlz hs hY1 hY2
 have hs1:1≤s:=by
  rcases Nat.eq_zero_or_pos s with h|h
  ·subst h;simp at hY1;omega
  ·exact h
 have hE:(0:Int)<2^s:=Int.pow_pos VA
 have hF:(0:Int)<2^(64-s):=Int.pow_pos VA
 have hEF:=pow_split (s:=s) V3
 have hF2:(2:Int)≤2^(64-s):=by
  rw [show 64-s=(63-s)+1 by omega,Int.pow_succ]
  have:(0:Int)<2^(63-s):=Int.pow_pos VA
  omega
 have hlo2:0≤l/2^(64-s)∧l/2^(64-s)<2^s:=by
  refine ⟨Int.ediv_nonneg hl1.1 (Int.le_of_lt hF),?_⟩
  rw [Int.ediv_lt_iff_lt_mul hF,hEF];exact hl1.2
 have hH2:0≤H*2^s:=Int.mul_nonneg V3 (Int.le_of_lt hE)
 obtain ⟨L,hL⟩:∃ L,H*2^s+l/2^(64-s)=L:=⟨_,rfl⟩
 have hLW:L<18446744073709551616:=by
  have h1:H<2^(64-s):=by
   rcases Int.lt_or_le H (2^(64-s)) with h|h
   ·exact h
   ·have:=Int.mul_le_mul_of_nonneg_right h (Int.le_of_lt hE)
    rw [Int.mul_comm ((2:Int)^(64-s)),hEF] at this
    omega
  have h2:=Int.mul_le_mul_of_nonneg_right (show H≤2^(64-s)-1 by omega) (Int.le_of_lt hE)
  rw [Int.sub_mul,Int.one_mul,Int.mul_comm ((2:Int)^(64-s)),hEF] at h2
  omega
 have hNL:∃ r0,N=L*2^(64-s)+r0∧0≤r0∧r0<2^(64-s):=by
  have h1:=Int.emod_add_mul_ediv l (2^(64-s))
  have h2:=Int.emod_nonneg l (show (2:Int)^(64-s)≠0 by omega)
  have h3:=Int.emod_lt_of_pos l hF
  refine ⟨l%2^(64-s),?_,h2,h3⟩
  have h4:H*2^s*2^(64-s)=H*18446744073709551616:=by rw [Int.mul_assoc,hEF]
  rw [← hL,Int.add_mul,h4,Int.mul_comm (l/2^(64-s))]
  omega
 obtain ⟨r0,hNL,hr0⟩:=hNL
 obtain ⟨g,hg⟩:∃ g,M/(L*2^(64-s))=g:=⟨_,rfl⟩
 obtain ⟨hg0,hgz,hgp⟩:=long_guess (M:=M) (N:=N) ⟨hM0,hM1⟩ (show 9223372036854775808≤L by omega) hF2 hNL hr0 hg.symm
 have hd3:=div3 (M:=M) (L:=L) (P:=2^(64-s)) (s:=s) hs rfl V3
 rw [hg] at hd3
 have hNne:0<N:=by omega
 have hq0:=Int.emod_nonneg M (show N≠0 by omega)
 have hq1:=Int.emod_lt_of_pos M hNne
 have hq2:=Int.emod_add_mul_ediv M N
 have hqq:0≤M/N:=Int.ediv_nonneg hM0 V3
 have hqW:M/N<18446744073709551616:=by
  rw [Int.ediv_lt_iff_lt_mul hNne];omega
 have hgW:g<18446744073709551617:=by
  rcases Int.lt_or_le g 18446744073709551617 with h|h
  ·exact h
  ·have h1:=(hgp V3).1
   have:=Int.mul_le_mul (show (18446744073709551616:Int)≤g-1 by omega) hN.1 VA V3
   omega
 have hLZl:LZ N=Lz H l:=by unfold LZ;rw [hH,hl]
 have hor2:M/18446744073709551616%2*2^63+M%18446744073709551616/2=M/2%18446744073709551616:=by
  show M/18446744073709551616%2*9223372036854775808+M%18446744073709551616/2=_
  omega
 have hdiv:=Div64_spec X (M/18446744073709551616/2) (M/2%18446744073709551616) L V3 V3 hLW
 rw [show M/18446744073709551616/2*18446744073709551616+M/2%18446744073709551616=M/2 by omega] at hdiv
 have hMz:0≤M/2/L:=Int.ediv_nonneg V3 V3
 have hcall:=compare_spec X
 rw [hLZl]
 refine cF Tryz.func233 rfl V5 rfl rfl ?_
 intro C
 by_cases hg00:g=0
 ·have hMN:=hgz hg00
  subst hg00
  have e1:M/N=0:=Int.ediv_eq_zero_of_lt hM0 hMN
  have e2:M%N=M:=Int.emod_eq_of_lt hM0 hMN
  rw [e1,e2]
  have ht:=times_spec X N 0 ⟨by omega,by omega⟩ ⟨by omega,by omega⟩ V3 true V21
  rw [LZ_word (g:=0) (by omega),Int.mul_zero,hLZl] at ht
  have hmi:=minus_spec X M 0 ⟨by omega,by omega⟩ ⟨by omega,by omega⟩ hM0
  rw [Int.sub_zero] at hmi
  have hcm:=compare_spec X M N (-1) (by simp [cmpI,hMN])
  rw [hLZl] at hcm
  ((refine U12 ?_;refine kcv O V2C ?_;refine U7 ?_;refine K.shl O O V3 (shl_s V3 O ⟨hH2,hY2⟩) dS ?_;refine U4 ?_;refine bO O O V3 (shr_64s V3) dS<|K.bitop V21 O O (or_apart' V3 ⟨by omega,hY2⟩ hlo2 hL) dS ?_;refine U6 ?_;refine bO O O V3 (shr_1 _) dS ?_;refine U2 ?_;refine K.shl O O V3 (shl_63 _) dS ?_;refine U2 ?_;refine bO O O V3 (shr_1 _) dS<|K.bitop V21 O O (or_apart' VA V3 V3 hor2) dS ?_;refine U13 ?_;refine bO O O V3 ((shr_63s hs).trans hd3) dS ?_;refine U10 ?_);(refine U31 ?_);(refine aA<|rgD mixed ?_;refine U8 ?_))
  exact V1A
 ·obtain ⟨h1,h2⟩:=hgp hg00
  obtain ⟨G,hG⟩:∃ G,g-1=G:=⟨_,rfl⟩
  rw [hG] at h1 h2
  have hGN:0≤G*N:=Int.mul_nonneg V3 V3
  have ht:=times_spec X N G ⟨by omega,by omega⟩ ⟨by omega,by omega⟩ V3 true (cP (by rw [Int.mul_comm];omega))
  rw [LZ_word (g:=G) (by omega),Int.mul_comm N G,show G*N%340282366920938463463374607431768211456=G*N by omega,hLZl] at ht
  have hmi:=minus_spec X M (G*N) ⟨by omega,by omega⟩ ⟨by omega,by omega⟩ h1
  have huse:∀ q:Int,q*N≤M→M<q*N+N→M/N=q∧M%N=M-q*N:=by
   intro q a b
   have e:M/N=q:=by rw [Int.ediv_eq_iff_of_pos hNne];exact ⟨a,b⟩
   rw [e,Int.mul_comm] at hq2
   exact ⟨e,by omega⟩
  by_cases hlt:M-G*N<N
  ·obtain ⟨e1,e2⟩:=huse G h1 V3
   rw [e1,e2]
   have hcm:=compare_spec X (M-G*N) N (-1) (by simp [cmpI,hlt])
   rw [hLZl] at hcm
   ((refine U12 ?_;refine kcv O V2C ?_;refine U7 ?_;refine K.shl O O V3 (shl_s V3 O ⟨hH2,hY2⟩) dS ?_;refine U4 ?_;refine bO O O V3 (shr_64s V3) dS<|K.bitop V21 O O (or_apart' V3 ⟨by omega,hY2⟩ hlo2 hL) dS ?_;refine U6 ?_;refine bO O O V3 (shr_1 _) dS ?_;refine U2 ?_;refine K.shl O O V3 (shl_63 _) dS ?_;refine U2 ?_;refine bO O O V3 (shr_1 _) dS<|K.bitop V21 O O (or_apart' VA V3 V3 hor2) dS ?_;refine U13 ?_;refine bO O O V3 ((shr_63s hs).trans hd3) dS ?_;refine U11 ?_;refine bA O O ((wrap_u64 V3).trans hG) dS ?_;refine U5 ?_);(refine U29 ?_;refine rgD mixed ?_;refine U2 ?_);(refine U6 ?_))
   rw [show SZ G = .agg [.val (.int .u64 0),.val (.int .u64 G)] by unfold SZ;rw [show G/18446744073709551616=0 by omega,show G%18446744073709551616=G by omega]]
   exact V1A
  ·have hG1:(G+1)*N=G*N+N:=by rw [Int.add_mul,Int.one_mul]
   obtain ⟨e1,e2⟩:=huse (G+1) V3 V3
   rw [e1] at hqW
   rw [e1,e2,hG1,show M-(G*N+N)=M-G*N-N by omega]
   have hcm:∃ r,(r=0∨r=1)∧cmpI (M-G*N) N=r:=⟨_,by unfold cmpI;(repeat' split)<;>omega,rfl⟩
   obtain ⟨r,hr,hcm⟩:=hcm
   have hcm:=compare_spec X (M-G*N) N r hcm
   have hmi2:=minus_spec X (M-G*N) N ⟨by omega,by omega⟩ ⟨by omega,by omega⟩ V3
   rw [hLZl] at hcm hmi2
   ((refine U12 ?_;refine kcv O V2C ?_;refine U7 ?_;refine K.shl O O V3 (shl_s V3 O ⟨hH2,hY2⟩) dS ?_;refine U4 ?_;refine bO O O V3 (shr_64s V3) dS<|K.bitop V21 O O (or_apart' V3 ⟨by omega,hY2⟩ hlo2 hL) dS ?_;refine U6 ?_;refine bO O O V3 (shr_1 _) dS ?_;refine U2 ?_;refine K.shl O O V3 (shl_63 _) dS ?_;refine U2 ?_;refine bO O O V3 (shr_1 _) dS<|K.bitop V21 O O (or_apart' VA V3 V3 hor2) dS ?_;refine U13 ?_;refine bO O O V3 ((shr_63s hs).trans hd3) dS ?_;refine U11 ?_;refine bA O O ((wrap_u64 V3).trans hG) dS ?_;refine U5 ?_);(refine U30 ?_;refine kad O O (wrap_u64 V3) ?_;refine U5 ?_);(refine U4 ?_;refine rgD mixed ?_;refine U8 ?_))
   rw [show SZ (G+1) = .agg [.val (.int .u64 0),.val (.int .u64 (G+1))] by unfold SZ;rw [show (G+1)/18446744073709551616=0 by omega,show (G+1)%18446744073709551616=G+1 by omega]]
   exact V1A
end Go.Proofs.YtopiioklkkiedaaGreatDoor
end
section
set_option maxHeartbeats 12800000
set_option maxRecDepth 100000
namespace Go.Proofs.YtopiioklkkiedaaGreatDoor
open Go Go.Lg Go.Lg.Arith
variable (X:Nat→Option Obj)
theorem two_word {T d Y:Int} (hY:0<Y) (hd:0≤d∧d<18446744073709551616) (hT:0≤T):
  (T*18446744073709551616+d)/Y=T/Y*18446744073709551616+(T%Y*18446744073709551616+d)/Y∧(T*18446744073709551616+d)%Y=(T%Y*18446744073709551616+d)%Y ∧
  0≤(T%Y*18446744073709551616+d)/Y∧(T%Y*18446744073709551616+d)/Y<18446744073709551616∧0≤T%Y∧T%Y<Y∧0≤T/Y:=by
 have h:=Int.emod_add_mul_ediv T Y
 have h0:=Int.emod_nonneg T (show Y≠0 by omega)
 have h1:=Int.emod_lt_of_pos T hY
 have e:T*18446744073709551616+d=(T%Y*18446744073709551616+d)+Y*(T/Y*18446744073709551616):=by
  rw [← Int.mul_assoc]
  generalize Y*(T/Y)=a at *
  omega
 have hq0:0≤(T%Y*18446744073709551616+d)/Y:=Int.ediv_nonneg V3 V3
 have hq1:(T%Y*18446744073709551616+d)/Y<18446744073709551616:=by rw [Int.ediv_lt_iff_lt_mul hY];omega
 refine ⟨?_,?_,hq0,hq1,h0,h1,Int.ediv_nonneg hT V3⟩
 ·rw [e,Int.add_mul_ediv_left _ _ V3];omega
 ·rw [e,Int.add_mul_emod_self_left]
theorem divide_spec (M N:Int) (hM:Lim M) (hN:0<N∧N<170141183460469231731687303715884105728):
  PSpec Tryz.prog X 217 [LZ M,LZ N] (.tup [SZ (M/N),SZ (M%N)]):=by
 obtain ⟨hM0,hM1⟩:=hM
 refine cF Tryz.func217 rfl V5 rfl rfl ?_
 intro C
 by_cases hl:18446744073709551616≤N
 ·(refine U19 ?_;refine kca rfl rfl (divideLong_spec _ _ _ ⟨hM0,hM1⟩ ⟨hl,hN.2⟩) ?_;refine U6 ?_)
  exact V1A
 ·obtain ⟨t1,t2,t3,t4,t5,t6,t7⟩:=two_word (T:=M/18446744073709551616) (d:=M%18446744073709551616) (Y:=N) hN.1 V3 V3
  rw [show M/18446744073709551616*18446744073709551616+M%18446744073709551616=M by omega] at t1 t2
  have eN:N%18446744073709551616=N:=by omega
  have hd:=Div64_spec X (M/18446744073709551616%N) (M%18446744073709551616) N ⟨t5,t6⟩ V3 V3
  have hr0:=Int.emod_nonneg M (show N≠0 by omega)
  have hr1:=Int.emod_lt_of_pos M hN.1
  rw [← t2] at hd
  rw [← eN] at hd
  rw [LZ_word (g:=N) (by omega)]
  rw [eN] at hd
  have hq:M/18446744073709551616/N<18446744073709551616:=by
   have:=Int.ediv_le_self N (show 0≤M/18446744073709551616 by omega);omega
  (refine U17 ?_;refine rgD mixed ?_;refine U4 ?_;refine K.quo O O V3 (quo_u64 V3 V3) dS ?_;refine U4 ?_;refine K.rem O O V3 (rem_pos V3) dS ?_;refine U29 ?_)
  rw [show SZ (M/N) = .agg [.val (.int .u64 (M/18446744073709551616/N)),.val (.int .u64 ((M/18446744073709551616%N*18446744073709551616+M%18446744073709551616)/N))] by
    unfold SZ;rw [show M/N/18446744073709551616=M/18446744073709551616/N by omega,show M/N%18446744073709551616=(M/18446744073709551616%N*18446744073709551616+M%18446744073709551616)/N by omega],
   show SZ (M%N) = .agg [.val (.int .u64 0),.val (.int .u64 (M%N))] by unfold SZ;rw [show M%N/18446744073709551616=0 by omega,show M%N%18446744073709551616=M%N by omega]]
  exact V1A
theorem divisible_spec (b c:Bool) (M N:Int) (hM:In2 M) (hN:In2 N) (r:Bool) (hr:((formB b M&&formB c N) && !(N==0))=r):PSpec Tryz.prog X 216 [LI b M,LI c N] (Lb r):=by
 subst hr
 refine cF Tryz.func216 rfl V5 rfl rfl ?_
 intro C
 cases hf:(formB b M&&formB c N)
 ·(refine U10 ?_;refine kca rfl rfl (bothForm_spec _ _ _ _ _ hM hN _ hf) ?_;refine U9 ?_)
  exact ⟨[_],⟨rfl,trivial⟩,by simp [resOf]⟩
 ·(refine U10 ?_;refine kca rfl rfl (bothForm_spec _ _ _ _ _ hM hN _ hf) ?_;refine U2 ?_;refine gca rfl rfl (sizeOf_spec _ _ _ _) rfl rfl<|gca rfl rfl (zero_spec _ _ hN _ rfl) rfl rfl ?_;refine U5 ?_)
  exact ⟨[_],⟨rfl,trivial⟩,by simp [resOf]⟩
theorem Quo_arg (b c:Bool) (M N:Int) (hM:In2 M) (hN:In2 N) (hf:((formB b M&&formB c N) && !(N==0))=false):PSpec Tryz.prog X 186 [LI b M,LI c N] (.tup [S0,Sn .i64 1]):=by
 refine cF Tryz.func186 rfl V5 rfl rfl ?_
 intro C
 (refine U12 ?_;refine kca rfl rfl (divisible_spec _ _ _ _ _ hM hN _ hf) ?_;refine U10 ?_)
 exact V4
theorem Rem_arg (b c:Bool) (M N:Int) (hM:In2 M) (hN:In2 N) (hf:((formB b M&&formB c N) && !(N==0))=false):PSpec Tryz.prog X 187 [LI b M,LI c N] (.tup [S0,Sn .i64 1]):=by
 refine cF Tryz.func187 rfl V5 rfl rfl ?_
 intro C
 (refine U12 ?_;refine kca rfl rfl (divisible_spec _ _ _ _ _ hM hN _ hf) ?_;refine U10 ?_)
 exact V4
theorem mg_zero {y:Int} (hy:y≠0):0<mg y:=by unfold mg;split<;>omega
theorem zv_quo (x y:Int) (hy:y≠0):zv (decide (x<0) != decide (y<0)) (mg x/mg y)=x.tdiv y∧zv (decide (x<0)) (mg x%mg y)=x.tmod y:=by
 unfold zv mg
 by_cases cx:x<0<;>by_cases cy:y<0
 all_goals simp only [cx,cy,decide_true,decide_false,if_true,if_false,bne_self_eq_false,Bool.false_eq_true,Bool.true_bne,Bool.false_bne,Bool.not_false]
 ·obtain ⟨a,rfl⟩:∃ a,x = -a:=⟨-x,by omega⟩
  obtain ⟨b,rfl⟩:∃ b,y = -b:=⟨-y,by omega⟩
  simp only [Int.neg_neg,Int.neg_tdiv,Int.tdiv_neg,Int.neg_tmod,Int.tmod_neg]
  rw [Int.tdiv_eq_ediv_of_nonneg (by omega),Int.tmod_eq_emod_of_nonneg (by omega)]
  exact V30
 ·obtain ⟨a,rfl⟩:∃ a,x = -a:=⟨-x,by omega⟩
  simp only [Int.neg_neg,Int.neg_tdiv,Int.neg_tmod]
  rw [Int.tdiv_eq_ediv_of_nonneg (by omega),Int.tmod_eq_emod_of_nonneg (by omega)]
  exact V30
 ·obtain ⟨b,rfl⟩:∃ b,y = -b:=⟨-y,by omega⟩
  simp only [Int.neg_neg,Int.tdiv_neg,Int.tmod_neg]
  rw [Int.tdiv_eq_ediv_of_nonneg (by omega),Int.tmod_eq_emod_of_nonneg (by omega)]
  exact V30
 ·rw [Int.tdiv_eq_ediv_of_nonneg V3,Int.tmod_eq_emod_of_nonneg V3]
  exact V30
theorem mg_zero' {y:Int} (hy:y≠0):(mg y==0)=false:=by
 have:=mg_zero hy
 exact cS V3
theorem Quo_q (x y:Int) (hx:R127 x) (hy:R127 y) (h0:y≠0):PSpec Tryz.prog X 186 [LQ x,LQ y] (.tup [SQ (x.tdiv y),Sn .i64 0]):=by
 have hB:=divisible_spec X _ _ _ _ (mg_in2 hx) (mg_in2 hy) true (by rw [both_q hx hy,mg_zero' h0];rfl)
 have hd:=divide_spec X (mg x) (mg y) ⟨mg_nonneg x,mg_lim hx⟩ ⟨mg_zero h0,mg_lim hy⟩
 have hq0:0≤mg x/mg y:=Int.ediv_nonneg (mg_nonneg x) (mg_nonneg y)
 have hq1:=Int.ediv_le_self (mg y) (mg_nonneg x)
 have hl:=mg_lim hx
 have hn:=number_spec X (decide (x<0) != decide (y<0)) (mg x/mg y) ⟨hq0,by omega⟩ _ rfl
 rw [← tup_q hq0 (zv_quo x y h0).1]
 refine cF Tryz.func186 rfl V5 rfl rfl ?_
 intro C
 (refine U18 ?_;refine rgD mixed ?_;refine U1 ?_;refine kca O O (sizeOf_spec _ _ _ _) ?_;refine U1 ?_;refine kca O O (sizeOf_spec _ _ _ _) ?_;refine U16 ?_;refine K.neqB O O O dS ?_;refine U6 ?_)
 exact V4
theorem Rem_q (x y:Int) (hx:R127 x) (hy:R127 y) (h0:y≠0):PSpec Tryz.prog X 187 [LQ x,LQ y] (.tup [SQ (x.tmod y),Sn .i64 0]):=by
 have hB:=divisible_spec X _ _ _ _ (mg_in2 hx) (mg_in2 hy) true (by rw [both_q hx hy,mg_zero' h0];rfl)
 have hd:=divide_spec X (mg x) (mg y) ⟨mg_nonneg x,mg_lim hx⟩ ⟨mg_zero h0,mg_lim hy⟩
 have hq0:0≤mg x%mg y:=Int.emod_nonneg _ (by have:=mg_zero h0;omega)
 have hq1:=Int.emod_lt_of_pos (mg x) (mg_zero h0)
 have hl:=mg_lim hy
 have hn:=number_spec X (decide (x<0)) (mg x%mg y) ⟨hq0,by omega⟩ _ rfl
 rw [← tup_q hq0 (zv_quo x y h0).2]
 refine cF Tryz.func187 rfl V5 rfl rfl ?_
 intro C
 (refine U18 ?_;refine rgD mixed ?_;refine U1 ?_;refine kca rfl rfl (sizeOf_spec _ _ _ _) ?_;refine U1 ?_;refine kca rfl rfl (sizeOf_spec _ _ _ _) ?_;refine U20 ?_)
 exact V4
end Go.Proofs.YtopiioklkkiedaaGreatDoor
end
section
set_option maxHeartbeats 12800000
set_option maxRecDepth 100000
namespace Go.Lg.Dec
open Go Go.Lib
def pad:Nat→Nat→List UInt8
 | 0,_=>[]
 | k+1,u=>pad k (u/10)++[UInt8.ofNat (48+u%10)]
end Go.Lg.Dec
namespace Go.Proofs.YtopiioklkkiedaaGreatDoor
open Go Go.Lg Go.Lg.Arith Go.Lg.Dec Go.RowKit
variable (X:Nat→Option Obj)
end Go.Proofs.YtopiioklkkiedaaGreatDoor
end
section
set_option maxHeartbeats 12800000
set_option maxRecDepth 100000
namespace Go.Proofs.YtopiioklkkiedaaGreatDoor
open Go Go.Lg Go.Lg.Arith Go.Lg.Dec Go.Lg.Dig Go.RowKit
variable (X:Nat→Option Obj)
theorem dg_words (n i:Nat) (hi:i<8):dg n i=dg (n%18446744073709551616) i∧dg n (8+i)=dg (n/18446744073709551616%18446744073709551616) i:=by
 have e64:18446744073709551616=256^8:=by decide
 rw [e64]
 exact ⟨(dg_mod hi).symm,by rw [dg_shift,dg_mod hi]⟩
def toR (a:Bool) (n:Nat):LV:=if n<170141183460469231731687303715884105728 then .tup [SI (sg a (n:Nat)) (n:Nat),Sb true] else .tup [S0,Sb false]
theorem To_spec (a:Bool) (n:Nat) (hn:n<T40):PSpec Tryz.prog X 203 [LN a (dg n)] (toR a n):=by
 refine cF Tryz.func203 rfl V5 rfl (by unfold toR;split<;>rfl) ?_
 intro C
 refine U18 ?_
 obtain ⟨l,hl⟩:∃ l,n%18446744073709551616=l:=⟨_,rfl⟩
 obtain ⟨h,hh⟩:∃ h,n/18446744073709551616%18446744073709551616=h:=⟨_,rfl⟩
 have hl64:l<18446744073709551616:=by omega
 have hh64:h<18446744073709551616:=by omega
 refine LWP.meet (fun σ=>σ=⟨[(1,.sv (.one (.ptr 1 0))),(2,.sv (.one (.ptr 2 0))),(4,.sv (.one (.ptr 4 0)))],[(1,some { elem:=202,cells:=num a (dg n) }),(2,some { elem:=86,cells:=[.val (.bool false),.val (.int .u64 0),.val (.int .u64 0)] }),(4,some { elem:=86,cells:=[.val (.bool false),.val (.int .u64 (h:Nat)),.val (.int .u64 (l:Nat))] })],X⟩) ?_ ?_
 ·refine cL (fun m σ=>m≤8∧∃ z:Int,z=(m:Int)-1∧σ=⟨[(1,.sv (.one (.ptr 1 0))),(2,.sv (.one (.ptr 2 0))),(4,.sv (.one (.ptr 4 0))),(5,Ln .i64 z)],[(1,some { elem:=202,cells:=num a (dg n) }),(2,some { elem:=86,cells:=[.val (.bool false),.val (.int .u64 0),.val (.int .u64 0)] }),(4,some { elem:=86,cells:=[.val (.bool false),.val (.int .u64 ((h/256^m:Nat):Int)),.val (.int .u64 ((l/256^m:Nat):Int))] })],X⟩) 8
   ⟨_,Le.of V8 (by exact ⟨rfl,rfl,by rw [Nat.div_eq_of_lt (show h<256^8 from hh64),Nat.div_eq_of_lt (show l<256^8 from hl64)];rfl,trivial⟩) V2 V2 V2,by omega,7,by omega,rfl⟩ ?_
  rintro m σ ⟨hm,z,rfl,rfl⟩
  cases m with
  | zero =>
   rw [Nat.pow_zero,Nat.div_one,Nat.div_one]
   refine U8 ?_
   exact ⟨_,Le.of V9 V9 V2 V2 V2,O⟩
  | succ i =>
   rw [show (((i+1:Nat):Int)-1)=(i:Int) by omega]
   have hi:i<8:=by omega
   obtain ⟨q1,q2⟩:=dg_words n i hi
   rw [hl] at q1
   rw [hh] at q2
   have dl:=div_next l i
   have dh:=div_next h i
   have bl:l/256^i≤l:=Nat.div_le_self _ _
   have bh:h/256^i≤h:=Nat.div_le_self _ _
   generalize l/256^(i+1)=u at *
   generalize h/256^(i+1)=v at *
   have w1:IntKind.u64.wrap ((dg n i:Nat):Int)=((dg n i:Nat):Int):=by have:=dg_lt n i;exact wrap_u64 V3
   have w2:IntKind.u64.wrap ((dg n (8+i):Nat):Int)=((dg n (8+i):Nat):Int):=by have:=dg_lt n (8+i);exact wrap_u64 V3
   have a1:IntKind.u64.wrap ((u:Int)*256+(dg n i:Nat))=((l/256^i:Nat):Int):=by rw [dl,q1,wrap_u64 V3];omega
   have a2:IntKind.u64.wrap ((v:Int)*256+(dg n (8+i):Nat))=((h/256^i:Nat):Int):=by rw [dh,q2,wrap_u64 V3];omega
   have m1:IntKind.u64.wrap ((u:Int)*256)=(u:Int)*256:=wrap_u64 V3
   have m2:IntKind.u64.wrap ((v:Int)*256)=(v:Int)*256:=wrap_u64 V3
   (refine U11 ?_;refine rgD mixed ?_;refine U2 ?_;refine bL O O m1 dS ?_;refine U3 ?_;refine kl1 O O (num_at (i:=i) V3) ?_;refine U6 ?_;refine rgD mixed ?_;refine U2 ?_;refine bL O O m2 dS ?_;refine U4 ?_;refine kl1 O O (num_at (i:=8+i) V3) ?_;refine U8 ?_;refine bA O O (cH V3) dS ?_;refine U2 ?_)
   exact ⟨i,_,by omega,Le.of V8 V9 V2 V2 V2,by omega,_,O,O⟩
 ·rintro σ rfl
  have no:¬ n<170141183460469231731687303715884105728→toR a n = .tup [S0,Sb false]:=fun h=>if_neg h
  have e15:(256:Nat)^15=1329227995784915872903807060280344576:=by decide
  have e16:(256:Nat)^16=340282366920938463463374607431768211456:=by decide
  refine U6 ?_
  refine cL (fun m σ=>∃ i:Nat,16≤i∧i≤40∧(∀ j,16≤j→j<i→dg n j=0)∧m=40-i∧σ=⟨[(1,.sv (.one (.ptr 1 0))),(2,.sv (.one (.ptr 2 0))),(4,.sv (.one (.ptr 4 0))),(6,Ln .i64 (i:Nat))],[(1,some { elem:=202,cells:=num a (dg n) }),(2,some { elem:=86,cells:=[.val (.bool false),.val (.int .u64 0),.val (.int .u64 0)] }),(4,some { elem:=86,cells:=[.val (.bool false),.val (.int .u64 (h:Nat)),.val (.int .u64 (l:Nat))] })],X⟩) 24
   ⟨_,Le.of V8 V9 V2 V2 V2,16,by omega,by omega,fun j h1 h2=>absurd h2 V3,rfl,rfl⟩ ?_
  rintro m σ ⟨i,h16,h40,hz,rfl,rfl⟩
  by_cases c:i<40
  ·by_cases d:dg n i=0
   ·(refine U15 ?_;refine kl1 rfl rfl (num_at (i:=i) c) ?_;refine U9 ?_)
    refine ⟨_,_,by omega,Le.of V8 V9 V2 V2 V2,i+1,by omega,by omega,?_,O,O⟩
    intro j h1 h2
    by_cases e:j=i
    ·rw [e];exact d
    ·exact hz j h1 V3
   ·have e:=no (fun hlt=>d (dg_high (Nat.lt_of_lt_of_le (Nat.lt_trans hlt (by decide:170141183460469231731687303715884105728<256^16)) (Nat.pow_le_pow_right VA h16))))
    (refine U15 ?_;refine kl1 rfl rfl (num_at (i:=i) c) ?_;refine U10 ?_)
    exact ⟨[_,_],⟨⟨_,_,rfl,rfl,rfl,.inl ⟨AggT.h,rfl⟩⟩,rfl,trivial⟩,by rw [e];rfl⟩
  ·have e40:i=40:=by omega
   subst e40
   have n16:n<256^16:=all_zero 24 hn hz
   rw [e16] at n16
   have d15:dg n 15=n/1329227995784915872903807060280344576%256:=by unfold dg;rw [e15]
   by_cases hlt:n<170141183460469231731687303715884105728
   ·have yes:toR a n = .tup [SI (sg a (n:Nat)) (n:Nat),Sb true]:=if_pos hlt
    rw [show ((h:Nat):Int)=(n:Int)/18446744073709551616 by omega,show ((l:Nat):Int)=(n:Int)%18446744073709551616 by omega]
    cases a with
    | false =>
     have hs:sg false (n:Nat)=false:=rfl
     (refine U13 ?_;refine kl1 rfl rfl (num_at (i:=15) VA) ?_;refine U28 ?_)
     exact ⟨[_,_],⟨⟨_,_,rfl,rfl,rfl,.inl ⟨AggT.h,rfl⟩⟩,rfl,trivial⟩,by rw [yes,hs];rfl⟩
    | true =>
     by_cases zh:(n:Int)/18446744073709551616=0
     ·by_cases zl:(n:Int)%18446744073709551616=0
      ·have hs:sg true (n:Nat)=false:=by unfold sg;rw [show (((n:Nat):Int)==0)=true from cV V3];rfl
       (refine U13 ?_;refine kl1 O O (num_at (i:=15) VA) ?_;refine U11 ?_;refine aX O O ((cT V3)) (dT O O) ?_;refine U3 ?_;refine aX O O ((cT V3)) (dT O O) ?_;refine U12 ?_)
       exact ⟨[_,_],⟨⟨_,_,rfl,rfl,rfl,.inl ⟨AggT.h,rfl⟩⟩,rfl,trivial⟩,by rw [yes,hs];rfl⟩
      ·have hs:sg true (n:Nat)=true:=by unfold sg;rw [show (((n:Nat):Int)==0)=false from cS V3];rfl
       (refine U13 ?_;refine kl1 O O (num_at (i:=15) VA) ?_;refine U11 ?_;refine aX O O ((cT V3)) (dT O O) ?_;refine U3 ?_;refine aX O O (cU V3) (dT O O) ?_;refine U12 ?_)
       exact ⟨[_,_],⟨⟨_,_,rfl,rfl,rfl,.inl ⟨AggT.h,rfl⟩⟩,rfl,trivial⟩,by rw [yes,hs];rfl⟩
     ·have hs:sg true (n:Nat)=true:=by unfold sg;rw [show (((n:Nat):Int)==0)=false from cS V3];rfl
      (refine U13 ?_;refine kl1 O O (num_at (i:=15) VA) ?_;refine U11 ?_;refine aX O O (cU V3) (dT O O) ?_;refine U16 ?_)
      exact ⟨[_,_],⟨⟨_,_,rfl,rfl,rfl,.inl ⟨AggT.h,rfl⟩⟩,rfl,trivial⟩,by rw [yes,hs];rfl⟩
   ·have e:=no hlt
    (refine U13 ?_;refine kl1 rfl rfl (num_at (i:=15) VA) ?_;refine U10 ?_)
    exact ⟨[_,_],⟨⟨_,_,rfl,rfl,rfl,.inl ⟨AggT.h,rfl⟩⟩,rfl,trivial⟩,by rw [e];rfl⟩
end Go.Proofs.YtopiioklkkiedaaGreatDoor
end
section
set_option maxHeartbeats 12800000
set_option maxRecDepth 100000
namespace Go.Proofs.YtopiioklkkiedaaGreatDoor
open Go Go.Lg Go.Lg.Arith Go.Lg.Dec Go.Lg.Dig Go.RowKit
variable (X:Nat→Option Obj)
def part (M N i j:Nat):Nat:=M%256^i*N+dg M i*(N%256^j)*256^i
theorem part_next (M N i j:Nat):part M N i (j+1)=part M N i j+dg M i*dg N j*256^(i+j):=by
 unfold part
 rw [mod_next,Nat.mul_add,Nat.add_mul,Nat.pow_add,← Nat.add_assoc]
 congr 1
 rw [Nat.mul_comm (256^i),← Nat.mul_assoc,← Nat.mul_assoc]
theorem part_zero (M N i:Nat):part M N i 0=M%256^i*N:=by
 unfold part
 rw [Nat.pow_zero,Nat.mod_one,Nat.mul_zero,Nat.zero_mul,Nat.add_zero]
theorem part_le (M N i j:Nat):part M N i j≤M%256^(i+1)*N:=by
 unfold part
 rw [mod_next,Nat.add_mul]
 refine Nat.add_le_add_left ?_ _
 rw [Nat.mul_assoc,Nat.mul_assoc,Nat.mul_comm (N%256^j)]
 exact Nat.mul_le_mul_left _ (Nat.mul_le_mul_left _ (Nat.mod_le _ _))
theorem part_all {M N i j:Nat} (h:N<256^j):part M N i j=M%256^(i+1)*N:=by
 unfold part
 rw [mod_next,Nat.add_mul,Nat.mod_eq_of_lt h,Nat.mul_assoc,Nat.mul_assoc,Nat.mul_comm N]
set_option maxHeartbeats 6400000 in
theorem Times_spec (a b s:Bool) (hs:(a != b)=s) (M N:Nat) (hM:M<256^16) (hN:N<256^16):PSpec Tryz.prog X 201 [LN a (dg M),LN b (dg N)] (LN s (dg (M*N))):=by
 have hMN:M*N<256^32:=by
  rw [show (256:Nat)^32=256^16*256^16 by decide]
  exact Nat.mul_lt_mul'' hM hN
 refine cF Tryz.func201 rfl V5 rfl rfl ?_
 intro C
 (refine U12 ?_;refine K.neqB O O hs dS ?_;refine U10 ?_)
 refine cL (fun m σ=>∃ i:Nat,i≤16∧m=16-i∧σ=⟨[(2,.sv (.one (.ptr 2 0))),(3,.sv (.one (.ptr 3 0))),(4,.sv (.one (.ptr 4 0))),(5,.sv (.one (.ptr 5 0))),(6,Ln .i64 (i:Nat))],[(2,some { elem:=202,cells:=num a (dg M) }),(3,some { elem:=202,cells:=num b (dg N) }),(4,some { elem:=202,cells:=num false (fun _=>0) }),(5,some { elem:=202,cells:=num s (dg (M%256^i*N)) })],X⟩) 16
  ⟨_,Le.of V10 (by exact ⟨rfl,rfl,rfl,by rw [show num s (dg (M%256^0*N))=num s (fun _=>0) from num_congr fun x _=>by rw [Nat.pow_zero,Nat.mod_one,Nat.zero_mul,dg_zero]];rfl,trivial⟩) V2 V2 V2,0,by omega,rfl,rfl⟩ ?_
 rintro m σ ⟨i,hi,rfl,rfl⟩
 by_cases h16:i<16
 ·refine U19 ?_
  ·refine cL (fun m σ=>∃ j c:Nat,j≤32∧m=40-j∧c=part M N i j/256^(i+j)-M%256^i*N/256^(i+j)∧c≤511∧σ=⟨[(2,.sv (.one (.ptr 2 0))),(3,.sv (.one (.ptr 3 0))),(4,.sv (.one (.ptr 4 0))),(5,.sv (.one (.ptr 5 0))),(6,Ln .i64 (i:Nat)),(7,Ln .i64 (c:Nat)),(8,Ln .i64 (j:Nat))],[(2,some { elem:=202,cells:=num a (dg M) }),(3,some { elem:=202,cells:=num b (dg N) }),(4,some { elem:=202,cells:=num false (fun _=>0) }),(5,some { elem:=202,cells:=num s (mix (part M N i j) (M%256^i*N) (i+j)) })],X⟩) 40
    ⟨_,Le.of V14 (by exact ⟨rfl,rfl,rfl,by rw [part_zero,mix_all s rfl];rfl,trivial⟩) V2 V2 V2,0,0,by omega,rfl,by rw [part_zero,Nat.sub_self],by omega,rfl⟩ ?_
   rintro m σ ⟨j,c,hj,rfl,hc,hc5,rfl⟩
   have hST:M%256^i*N≤part M N i j:=by rw [← part_zero M N i];exact Nat.add_le_add_left (Nat.mul_le_mul_right _ (Nat.mul_le_mul_left _ (by rw [Nat.pow_zero,Nat.mod_one];exact Nat.zero_le _))) _
   have hT:part M N i j<256^32:=Nat.lt_of_le_of_lt (part_le M N i j) (Nat.lt_of_le_of_lt (Nat.mul_le_mul_right _ (Nat.mod_le _ _)) hMN)
   have hcj:0<c→i+j<32:=by
    intro h
    have h1:part M N i j/256^(i+j)≠0:=by intro e;rw [e,Nat.zero_sub] at hc;omega
    have h2:256^(i+j)≤part M N i j:=by
     rcases Nat.lt_or_ge (part M N i j) (256^(i+j)) with h3|h3
     ·exact absurd (Nat.div_eq_of_lt h3) h1
     ·exact h3
    rcases Nat.lt_or_ge (i+j) 32 with h3|h3
    ·exact h3
    ·have:=Nat.pow_le_pow_right (show 0<256 by decide) h3
     omega
   have hnext:=part_next M N i j
   obtain ⟨k1,k2⟩:=mul_step (y:=dg M i*dg N j) hST hc
   rw [← hnext] at k1 k2
   have hset:=mix_step s (T:=part M N i j) (S:=M%256^i*N) (k:=i+j) (y:=dg M i*dg N j) (d:=(dg (M%256^i*N) (i+j)+c+dg M i*dg N j)%256) (by rw [← hnext];exact k1)
   rw [← hnext] at hset
   have hy:dg M i*dg N j≤255*255:=Nat.mul_le_mul (Nat.le_of_lt_succ (dg_lt M i)) (Nat.le_of_lt_succ (dg_lt N j))
   have hD:=dg_lt (M%256^i*N) (i+j)
   have hmx:mix (part M N i j) (M%256^i*N) (i+j) (i+j)=dg (M%256^i*N) (i+j):=if_neg V3
   have wy:IntKind.i64.wrap (((dg M i:Nat):Int)*(dg N j:Nat))=((dg M i*dg N j:Nat):Int):=by rw [← Int.natCast_mul,cH V3]
   have hat:∀ h:i+j<40,(num s (mix (part M N i j) (M%256^i*N) (i+j)))[1+(i+j)*1]? = some (dv (dg (M%256^i*N) (i+j))):=fun h=>by rw [num_at h,hmx]
   have hz:16≤j→dg M i*dg N j=0:=by
    intro h
    rw [dg_high (Nat.lt_of_lt_of_le hN (Nat.pow_le_pow_right (by decide) h)),Nat.mul_zero]
   have hend:16≤j→c=0→num s (mix (part M N i j) (M%256^i*N) (i+j))=num s (dg (M%256^(i+1)*N)):=by
    intro h h0
    have hle:M%256^i*N/256^(i+j)≤part M N i j/256^(i+j):=Nat.div_le_div_right hST
    have hall:=part_all (M:=M) (i:=i) (Nat.lt_of_lt_of_le hN (Nat.pow_le_pow_right (show 0<256 by decide) h))
    rw [← hall,mix_all s (by omega)]
   clear hnext hmx hST hT hMN hM hN
   generalize hp:part M N i (j+1)/256^(i+j+1)-M%256^i*N/256^(i+j+1)=c' at *
   generalize dg (M%256^i*N) (i+j)=D at *
   generalize hy':dg M i*dg N j=y at *
   generalize hk:dg (part M N i (j+1)) (i+j)=E5 at *
   by_cases j16:j<16
   ·have w1:((D:Int)+(c:Nat)+(y:Nat)).tmod 256=(((D+c+y)%256:Nat):Int):=by rw [rem_pos V3];omega
    have w2:IntKind.i64.wrap (((D:Int)+(c:Nat)+(y:Nat)).tdiv 256)=(c':Int):=by rw [quo_i64 V3 V3];omega
    (refine U21 ?_;refine kl1 O O (hat V3) ?_;refine U11 ?_;refine rgD mixed ?_;refine U4 ?_;refine kl1 O O (num_at (i:=i) V3) ?_;refine U3 ?_;refine kl1 O O (num_at (i:=j) V3)<|bL O O wy dS ?_;refine U10 ?_;refine K.rem O O V3 w1 dS ?_;refine U2 ?_;refine bG O O O O (num_blt (i:=i+j) V3) ((num_set (i:=i+j) V3).trans hset) dS ?_;refine U3 ?_;refine K.quo O O V3 w2 dS ?_;refine U7 ?_)
    exact ⟨_,_,by omega,Le.of V14 V8 V2 V2 V2,j+1,c',by omega,O,hp.symm,by omega,O⟩
   ·have y0:y=0:=hz V3
    by_cases c0:c=0
    ·have he:=hend V3 c0
     rw [he]
     refine U17 ?_
     exact ⟨_,_,by omega,Le.of V10 V8 V2 V2 V2,i+1,by omega,O,O⟩
    ·have hij:=hcj V3
     have w1:((D:Int)+(c:Nat)).tmod 256=(((D+c+y)%256:Nat):Int):=by rw [rem_pos V3];omega
     have w2:IntKind.i64.wrap (((D:Int)+(c:Nat)).tdiv 256)=(c':Int):=by rw [quo_i64 V3 V3];omega
     (refine U21 ?_;refine kl1 O O (hat V3) ?_;refine U18 ?_;refine K.rem O O V3 w1 dS ?_;refine U2 ?_;refine bG O O O O (num_blt (i:=i+j) V3) ((num_set (i:=i+j) V3).trans hset) dS ?_;refine U3 ?_;refine K.quo O O V3 w2 dS ?_;refine U7 ?_)
     exact ⟨_,_,by omega,Le.of V14 V8 V2 V2 V2,j+1,c',by omega,O,hp.symm,by omega,O⟩
 ·have e:i=16:=by omega
  subst e
  rw [Nat.mod_eq_of_lt hM]
  refine U14 ?_
  exact VF
end Go.Proofs.YtopiioklkkiedaaGreatDoor
end
section
set_option maxHeartbeats 12800000
set_option maxRecDepth 100000
namespace Go.Proofs.YtopiioklkkiedaaGreatDoor
open Go Go.Lg Go.Lg.Arith Go.Lg.Dec Go.Lg.Dig Go.RowKit
variable (X:Nat→Option Obj)
abbrev bxN (f:List CV):Option Box:=some { elem:=202,cells:=f }
set_option maxHeartbeats 6400000 in
theorem Parted_spec (a b:Bool) (A B:Nat) (hA:A<T40) (hB:0<B) (hB2:B<340282366920938463463374607431768211456):PSpec Tryz.prog X 202 [LN a (dg A),LN b (dg B)] (.tup [SN false (dg (A/B)),SN false (dg (A%B))]):=by
 have big:=pow40
 refine cF Tryz.func202 rfl V5 rfl rfl ?_
 intro C
 (refine U10 ?_;refine bG O O O O num_blt0 num_sign dS ?_;refine U19 ?_)
 refine cL (fun m σ=>m≤40∧∃ z:Int,z=(m:Int)-1∧σ=⟨[(2,.sv (.one (.ptr 2 0))),(3,.sv (.one (.ptr 3 0))),(4,.sv (.one (.ptr 4 0))),(5,.sv (.one (.ptr 5 0))),(6,.sv (.one (.ptr 6 0))),(7,.sv (.one (.ptr 7 0))),(8,Ln .i64 z)],[(2,bxN (num a (dg A))),(3,bxN (num false (dg B))),(4,bxN (num false (fun _=>0))),(5,bxN (num false (fun _=>0))),(6,bxN (num false (dg (A/256^m/B*256^m)))),(7,bxN (num false (dg (A/256^m%B))))],X⟩) 40
  ⟨_,Le.of V14 (by exact ⟨rfl,rfl,rfl,rfl,by rw [Nat.div_eq_of_lt hA,Nat.zero_div,Nat.zero_mul,show num false (dg 0)=num false (fun _=>0) from num_congr fun x _=>dg_zero x];rfl,by rw [Nat.div_eq_of_lt hA,Nat.zero_mod,show num false (dg 0)=num false (fun _=>0) from num_congr fun x _=>dg_zero x];rfl,trivial⟩) V2 V2 V2,by omega,39,by omega,rfl⟩ ?_
 rintro m σ ⟨hm,z,rfl,rfl⟩
 cases m with
 | zero =>
  rw [Nat.pow_zero,Nat.div_one,Nat.mul_one]
  (refine U9 ?_;refine rgD mixed ?_;refine U7 ?_)
  exact V1A
 | succ i =>
  rw [show (((i+1:Nat):Int)-1)=(i:Int) by omega]
  have hi:i<40:=by omega
  have hR:=Nat.mod_lt (A/256^(i+1)) hB
  have hd:=dg_lt A i
  have hq:=fun t V=>quo_step (A:=A) (i:=i) (t:=t) (V:=V) hB
  generalize A/256^(i+1)/B=Q at *
  generalize A/256^(i+1)%B=R at *
  refine U16 ?_
  refine cL (fun m σ=>m≤39∧σ=⟨[(2,.sv (.one (.ptr 2 0))),(3,.sv (.one (.ptr 3 0))),(4,.sv (.one (.ptr 4 0))),(5,.sv (.one (.ptr 5 0))),(6,.sv (.one (.ptr 6 0))),(7,.sv (.one (.ptr 7 0))),(8,Ln .i64 (i:Nat)),(9,Ln .i64 (m:Nat))],[(2,bxN (num a (dg A))),(3,bxN (num false (dg B))),(4,bxN (num false (fun _=>0))),(5,bxN (num false (fun _=>0))),(6,bxN (num false (dg (Q*256^(i+1))))),(7,bxN (num false (shf R m)))],X⟩) 39
   ⟨_,Le.of V15 (by exact ⟨rfl,rfl,rfl,rfl,rfl,by rw [shf_start];rfl,trivial⟩) V2 V2 V2,by omega,rfl⟩ ?_
  rintro m σ ⟨hm2,rfl⟩
  cases m with
  | succ t =>
   have ht:t<40:=by omega
   have ht1:t+1<40:=by omega
   have w:IntKind.i64.wrap (((t+1:Nat):Int)-1)=(t:Int):=by rw [cH V3];omega
   have hat:(num false (shf R (t+1)))[1+t*1]? = some (dv (dg R t)):=by rw [num_at ht];unfold shf;rw [if_neg V3]
   (refine U13 ?_;refine bA O O w dS ?_;refine U2 ?_;refine kl1 O O hat ?_;refine U2 ?_;refine bG O O O O (num_blt (i:=t+1) ht1) ((num_set (i:=t+1) ht1).trans (shf_step false R t)) dS ?_;refine U3 ?_;refine bA O O w dS ?_;refine U2 ?_)
   exact ⟨t,_,by omega,Le.of V15 V11 V2 V2 V2,by omega,O⟩
  | zero =>
   (refine U13 ?_;refine kl1 O O (num_at (i:=i) hi) ?_;refine U2 ?_;refine bG O O O O (num_blt (i:=0) VA) ((num_set (i:=0) VA).trans (shf_end false R (dg A i) hd)) dS ?_;refine U2 ?_)
   refine cL (fun m σ=>∃ t V:Nat,V+t*B=R*256+dg A i∧t≤255∧m=V∧σ=⟨[(2,.sv (.one (.ptr 2 0))),(3,.sv (.one (.ptr 3 0))),(4,.sv (.one (.ptr 4 0))),(5,.sv (.one (.ptr 5 0))),(6,.sv (.one (.ptr 6 0))),(7,.sv (.one (.ptr 7 0))),(8,Ln .i64 (i:Nat))],[(2,bxN (num a (dg A))),(3,bxN (num false (dg B))),(4,bxN (num false (fun _=>0))),(5,bxN (num false (fun _=>0))),(6,bxN (num false (dg (Q*256^(i+1)+t*256^i)))),(7,bxN (num false (dg V)))],X⟩) (R*256+dg A i)
    ⟨_,Le.of V14 (by exact ⟨rfl,rfl,rfl,rfl,by rw [Nat.zero_mul,Nat.add_zero];rfl,rfl,trivial⟩) V2 V2 V2,0,_,by rw [Nat.zero_mul,Nat.add_zero],by omega,rfl,rfl⟩ ?_
   rintro m σ ⟨t,V,hV,ht,hmV,rfl⟩
   have hVle:V≤R*256+dg A i:=by rw [← hV];exact Nat.le_add_right _ _
   have hV40:V<T40:=by unfold T40;rw [big];omega
   have hB40:B<T40:=by unfold T40;rw [big];omega
   obtain ⟨r,hr,c1,c2,c3⟩:=cmp_facts_0 V B
   have hS:=Size_spec X false false V B hV40 hB40 r hr
   by_cases hlt:V<B
   ·obtain ⟨q1,q2⟩:=hq t V hV hlt
    (refine U12 ?_;refine bA O O (cH V3) dS ?_;refine U2 ?_)
    exact ⟨i,_,by omega,Le.of V14 (by exact ⟨rfl,rfl,rfl,rfl,by rw [q1];rfl,by rw [q2];rfl,trivial⟩) V2 V2 V2,by omega,_,rfl,rfl⟩
   ·have hm:=less_spec X false false V B V3
    have ht1:t+1<256:=by
     have h1:(t+1)*B<256*B:=by rw [Nat.add_mul];omega
     exact Nat.lt_of_mul_lt_mul_right h1
    have hat:(num false (dg (Q*256^(i+1)+t*256^i)))[1+i*1]? = some (dv t):=by rw [num_at hi,mid_at V3]
    have w:IntKind.i64.wrap ((t:Int)+1)=((t+1:Nat):Int):=by rw [cH V3];rfl
    (refine U22 ?_;refine kl1 O O hat<|kad O O w ?_;refine U2 ?_;refine bG O O O O (num_blt (i:=i) hi) ((num_set (i:=i) hi).trans (mid_step false ht1)) dS ?_;refine U1 ?_)
    exact ⟨_,_,by omega,Le.of V14 V11 V2 V2 V2,t+1,V-B,by rw [Nat.add_mul];omega,by omega,rfl,rfl⟩
end Go.Proofs.YtopiioklkkiedaaGreatDoor
end
section
set_option maxHeartbeats 12800000
set_option maxRecDepth 100000
namespace Go.Proofs.YtopiioklkkiedaaGreatDoor
open Go Go.Lg Go.Lg.Arith Go.Lg.Dec Go.Lg.Dig Go.RowKit
variable (X:Nat→Option Obj)
theorem Sum_any (a b:Bool) (M N:Nat) (hM:M<340282366920938463463374607431768211456) (hN:N<340282366920938463463374607431768211456):
  ∃ (s:Bool) (n:Nat),PSpec Tryz.prog X 200 [LN a (dg M),LN b (dg N)] (LN s (dg n))∧zv s (n:Nat)=zv a (M:Nat)+zv b (N:Nat)∧n<T40:=by
 have big:=pow40
 have l40:∀ n:Nat,n<680564733841876926926749214863536422912→n<T40:=fun n h=>by unfold T40;rw [big];omega
 cases h:(a != b) with
 | false =>
  have e:a=b:=by simpa using h
  subst e
  refine ⟨a,M+N,Sum_same X a a h M N,?_,l40 _ V3⟩
  cases a
  ·show (((M+N:Nat):Int))=(M:Int)+N;omega
  ·show -(((M+N:Nat):Int)) = -(M:Int) + -(N:Int);omega
 | true =>
  by_cases c:N≤M
  ·refine ⟨a,M-N,Sum_more X a b h M N (l40 _ V3) (l40 _ V3) c,?_,l40 _ V3⟩
   cases a<;>cases b<;>first|cases h|skip
   ·show (((M-N:Nat):Int))=(M:Int) + -(N:Int);omega
   ·show -(((M-N:Nat):Int)) = -(M:Int)+(N:Int);omega
  ·refine ⟨b,N-M,Sum_less X a b h M N (l40 _ V3) (l40 _ V3) V3,?_,l40 _ V3⟩
   cases a<;>cases b<;>first|cases h|skip
   ·show -(((N-M:Nat):Int))=(M:Int) + -(N:Int);omega
   ·show (((N-M:Nat):Int)) = -(M:Int)+(N:Int);omega
theorem toR_iff {s:Bool} {n:Nat} {z:Int} (h:zv s (n:Nat)=z):R127 z↔n<170141183460469231731687303715884105728:=by
 obtain ⟨_,h2⟩:=sg_q (b:=s) (N:=(n:Nat)) V3 h
 unfold R127
 unfold mg at h2
 split at h2<;>omega
theorem toR_in {s:Bool} {n:Nat} {z:Int} (h:zv s (n:Nat)=z) (hR:R127 z):toR s n = .tup [SQ z,Sb true]:=by
 obtain ⟨h1,h2⟩:=sg_q (b:=s) (N:=(n:Nat)) V3 h
 unfold toR
 rw [if_pos ((toR_iff h).1 hR),h1]
 unfold SQ
 rw [← h2]
theorem toR_out {s:Bool} {n:Nat} {z:Int} (h:zv s (n:Nat)=z) (hR:¬ R127 z):toR s n = .tup [S0,Sb false]:=by
 unfold toR
 rw [if_neg (fun c=>hR ((toR_iff h).2 c))]
theorem zv_q (x:Int):zv (decide (x<0)) (((mg x).toNat:Nat):Int)=x:=by
 rw [mg_nat]
 by_cases c:x<0
 ·rw [cP c,mg_neg c];show - -x=x;omega
 ·rw [cO c,mg_pos (Int.not_lt.1 c)];rfl
theorem zv_not (b:Bool) (N:Int):zv (!b) N = -zv b N:=by
 cases b
 ·rfl
 ·show N = - -N;omega
theorem zv_prod (a b:Bool) (M N:Nat):zv (a != b) ((M*N:Nat):Int)=zv a (M:Nat)*zv b (N:Nat):=by
 rw [Int.natCast_mul]
 cases a<;>cases b
 ·rfl
 ·show -((M:Int)*N)=(M:Int) * -(N:Int);rw [Int.mul_neg]
 ·show -((M:Int)*N) = -(M:Int)*(N:Int);rw [Int.neg_mul]
 ·show (M:Int)*N = -(M:Int) * -(N:Int);rw [Int.neg_mul_neg]
theorem mg_128 {x:Int} (hx:R127 x):(mg x).toNat<340282366920938463463374607431768211456:=by have:=mg_lim hx;have:=mg_nonneg x;omega
theorem Do_1 (x y:Int) (hx:R127 x) (hy:R127 y) (z:Int) (hz:(if 1=1 then x+y else x-y)=z):PSpec Tryz.prog X 152 [Ln .i64 1,LQ x,LQ y] (addR z):=by
 have hF1:=Good_spec X _ _ (mg_in2 hx) true (formB_q hx)
 have hF2:=Good_spec X _ _ (mg_in2 hy) true (formB_q hy)
 have f1:=From_q X x hx
 have f2:=From_q X y hy
 obtain ⟨s,n,hA,hv,hn⟩:=Sum_any X (decide (x<0)) (if 1=1 then decide (y<0) else !decide (y<0)) (mg x).toNat (mg y).toNat (mg_128 hx) (mg_128 hy)
 have hv':zv s (n:Nat)=z:=by
  rw [hv,← hz]
  first
   | (show zv (decide (x<0)) _+zv (decide (y<0)) _=x+y;rw [zv_q,zv_q])
   | (show zv (decide (x<0)) _+zv (!decide (y<0)) _=x-y;rw [zv_not,zv_q,zv_q];omega)
 have hT:=To_spec X s n hn
 by_cases hr:R127 z
 ·rw [toR_in hv' hr] at hT
  rw [addR_in hr]
  refine cF Tryz.func152 rfl V5 rfl rfl ?_
  intro C
  ((refine U41 ?_);(refine U40 ?_);(refine U18 ?_))
  exact V4
 ·rw [toR_out hv' hr] at hT
  rw [addR_out hr]
  refine cF Tryz.func152 rfl V5 rfl rfl ?_
  intro C
  ((refine U41 ?_);(refine U40 ?_);(refine U17 ?_))
  exact V4
theorem Do_3 (x y:Int) (hx:R127 x) (hy:R127 y):PSpec Tryz.prog X 152 [Ln .i64 3,LQ x,LQ y] (addR (x*y)):=by
 have hF1:=Good_spec X _ _ (mg_in2 hx) true (formB_q hx)
 have hF2:=Good_spec X _ _ (mg_in2 hy) true (formB_q hy)
 have f1:=From_q X x hx
 have f2:=From_q X y hy
 have e16:(256:Nat)^16=340282366920938463463374607431768211456:=by decide
 have hA:=Times_spec X (decide (x<0)) (decide (y<0)) _ rfl (mg x).toNat (mg y).toNat (by rw [e16];exact mg_128 hx) (by rw [e16];exact mg_128 hy)
 have hv:zv (decide (x<0) != decide (y<0)) (((mg x).toNat*(mg y).toNat:Nat):Int)=x*y:=by rw [zv_prod,zv_q,zv_q]
 have hn:(mg x).toNat*(mg y).toNat<T40:=by
  refine Nat.lt_of_lt_of_le (Nat.mul_lt_mul'' (mg_128 hx) (mg_128 hy)) ?_
  unfold T40
  decide
 have hT:=To_spec X (decide (x<0) != decide (y<0)) _ hn
 by_cases hr:R127 (x*y)
 ·rw [toR_in hv hr] at hT
  rw [addR_in hr]
  refine cF Tryz.func152 rfl V5 rfl rfl ?_
  intro C
  ((refine U41 ?_);(refine U43 ?_);(refine U27 ?_))
  exact V4
 ·rw [toR_out hv hr] at hT
  rw [addR_out hr]
  refine cF Tryz.func152 rfl V5 rfl rfl ?_
  intro C
  ((refine U41 ?_);(refine U43 ?_);(refine U26 ?_))
  exact V4
end Go.Proofs.YtopiioklkkiedaaGreatDoor
end
section
set_option maxHeartbeats 12800000
set_option maxRecDepth 100000
namespace Go.Lg
open Go Go.RowKit Go.Lg.Dig
end Go.Lg
namespace Go.Proofs.YtopiioklkkiedaaGreatDoor
open Go Go.Lg Go.Lg.Arith Go.Lg.Dec Go.Lg.Dig Go.RowKit
variable (X:Nat→Option Obj)
instance:ArrB Tryz.prog 200 (List.replicate 40 (.int .i64 0)) 1:=⟨by kernel_rfl⟩
end Go.Proofs.YtopiioklkkiedaaGreatDoor
end
section
set_option maxHeartbeats 12800000
set_option maxRecDepth 100000
namespace Go.Proofs.YtopiioklkkiedaaGreatDoor
open Go Go.Lg Go.Lg.Arith Go.Lg.Dec Go.Lg.Dig Go.RowKit
variable (X:Nat→Option Obj)
structure Half (M n:Nat) (s:List UInt8):Prop where
 more:s=[]∨n≠0→Lib.decDigits M=Lib.decDigits n++s
 done:s≠[]→n=0→Lib.decDigits M=s
end Go.Proofs.YtopiioklkkiedaaGreatDoor
end
section
set_option maxHeartbeats 12800000
set_option maxRecDepth 100000
namespace Go.Proofs.YtopiioklkkiedaaGreatDoor
open Go Go.Lg Go.Lg.Fml Go.Lg.Fld
structure CodesIn (X:Nat→Option Obj) (ad:Option Addr) (cs:List (List Ins)):Prop where
 at_:∀ (i:Nat) (c:List Ins),cs[i]? = some c→∃ (blk off:Nat) (arr:Array Value) (el:TypeId) (fr:Nat×Nat) (vad:Option Addr) (vcap:Nat),ad=some ⟨blk,off,none⟩∧X blk=some (.cells arr el fr)∧off+i*1+1≤arr.size∧arr[off+i]? = some (.slice vad c.length vcap)∧InsIn X vad c
theorem CodesIn.mono {X Y:Nat→Option Obj} (hXY:∀ b o,X b=some o→Y b=some o) {ad:Option Addr} {cs:List (List Ins)} (h:CodesIn X ad cs):CodesIn Y ad cs:=⟨fun i c hc=>by
 obtain ⟨blk,off,arr,el,fr,vad,vcap,h1,h2,h3,h4,h5⟩:=h.at_ i c hc
 exact ⟨blk,off,arr,el,fr,vad,vcap,h1,hXY _ _ h2,h3,h4,h5.mono hXY⟩⟩
theorem CodesIn.nil {X:Nat→Option Obj} {ad:Option Addr}:CodesIn X ad []:=⟨fun i c h=>by simp at h⟩
def smallR (r:Rl):Prop:=(-9223372036854775808≤r.nw∧r.nw<9223372036854775808)∧(-9223372036854775808≤r.old∧r.old<9223372036854775808)
structure RulesIn (X:Nat→Option Obj) (ad:Option Addr) (rs:List Rl):Prop where
 at_:∀ (i:Nat) (r:Rl),rs[i]? = some r→∃ (blk off:Nat) (arr:Array Value) (el:TypeId) (fr:Nat×Nat) (ead:Option Addr) (ecap:Nat),ad=some ⟨blk,off,none⟩∧X blk=some (.cells arr el fr)∧off+i*3+3≤arr.size∧(arr.toList.drop (off+i*3)).take 3=[.int .i64 r.nw,.int .i64 r.old,.slice ead r.ex.length ecap]∧CodesIn X ead r.ex
 small:∀ r∈rs,smallR r
theorem RulesIn.mono {X Y:Nat→Option Obj} (hXY:∀ b o,X b=some o→Y b=some o) {ad:Option Addr} {rs:List Rl} (h:RulesIn X ad rs):RulesIn Y ad rs:=⟨fun i c hc=>by
 obtain ⟨blk,off,arr,el,fr,vad,vcap,h1,h2,h3,h4,h5⟩:=h.at_ i c hc
 exact ⟨blk,off,arr,el,fr,vad,vcap,h1,hXY _ _ h2,h3,h4,h5.mono hXY⟩,h.small⟩
theorem RulesIn.nil {X:Nat→Option Obj} {ad:Option Addr}:RulesIn X ad []:=⟨fun i c h=>by simp at h,fun r hr=>by cases hr⟩
theorem RulesIn.get {X:Nat→Option Obj} {ad:Option Addr} {rs:List Rl} (h:RulesIn X ad rs) {i:Nat} {r:Rl} (hr:rs[i]? = some r):∃ (blk off:Nat) (arr:Array Value) (el:TypeId) (fr:Nat×Nat) (ead:Option Addr) (ecap:Nat),ad=some ⟨blk,off,none⟩∧X blk=some (.cells arr el fr)∧off+i*3+3≤arr.size ∧
  ((arr.toList.drop (off+i*3)).take 3).map CV.val=[.val (.int .i64 r.nw),.val (.int .i64 r.old),.val (.slice ead r.ex.length ecap)]∧arr[off+i*3]? = some (.int .i64 r.nw)∧arr[off+i*3+1]? = some (.int .i64 r.old)∧arr[off+i*3+2]? = some (.slice ead r.ex.length ecap)∧CodesIn X ead r.ex:=by
 obtain ⟨blk,off,arr,el,fr,ead,ecap,h1,h2,h3,h4,h5⟩:=h.at_ i r hr
 have key:∀ j,j<3→arr[off+i*3+j]? = ([.int .i64 r.nw,.int .i64 r.old,.slice ead r.ex.length ecap]:List Value)[j]? := fun j hj=>by
  rw [← h4,List.getElem?_take,if_pos hj,List.getElem?_drop,Array.getElem?_toList]
 exact ⟨blk,off,arr,el,fr,ead,ecap,h1,h2,h3,by rw [h4];rfl,key 0 V3,key 1 V3,key 2 V3,h5⟩
def sizeR (rs:List Rl):Prop := ∀ r∈rs,r.ex.length<1152921504606846976∧∀ c∈r.ex,c.length<1152921504606846976
end Go.Proofs.YtopiioklkkiedaaGreatDoor
end
section
set_option maxHeartbeats 12800000
set_option maxRecDepth 100000
namespace Go.Proofs.YtopiioklkkiedaaGreatDoor
open Go Go.Lg Go.Lg.Fml Go.Lg.Fld Go.Lg.Arith
set_option maxRecDepth 100000
variable (X:Nat→Option Obj)
theorem wrap_o8 (n:Int):IntKind.u8.wrap n=((o8 n).toNat:Nat):=by
 unfold o8
 rw [UInt8.toNat_ofNat',IntKind.wrap_u8]
 omega
set_option maxHeartbeats 1600000 in
theorem rWord_spec (n:Nat) (hn:n<18446744073709551616):PSpec Tryz.prog X 173 [Ln .u64 (n:Nat)] (Ls (leB 8 n)):=by
 refine cF Tryz.func173 rfl V5 rfl rfl ?_
 intro C
 (refine U6 ?_;refine aZ (zs:=[]) (sz:=1) (e:=5) V5 O O O O O O dS ?_;refine U8 ?_)
 refine cL (fun m σ=>∃ (i:Nat) (row:Bool),i≤8∧m=8-i∧σ=⟨[(0,Ln .u64 (n/256^i:Nat)),(3,.sv (.one (.slc 500 0 i))),(4,Ln .i64 (i:Nat))],[(500,some ⟨5,((leB 8 n).take i).map bc,row⟩)],X⟩) 8
  ⟨_,Le.ofR [(500,5)] (by exact ⟨by rw [Nat.pow_zero,Nat.div_one];rfl,rfl,rfl,trivial⟩) V1 V2 V2 V0 V2 V2,0,false,Nat.zero_le _,rfl,rfl⟩ ?_
 rintro m σ ⟨i,row,hi,rfl,rfl⟩
 by_cases hlt:i<8
 ·have hle:n/256^i≤n:=Nat.div_le_self _ _
  have hd:n/256^i/256=n/256^(i+1):=by rw [Nat.pow_succ,Nat.div_div_eq_div_mul]
  have hnc:=take_next (n:=n) hlt
  have hcl:(((leB 8 n).take i).map bc).length=i*1:=by rw [cX,dA,leB_length];omega
  have hv:IntKind.u8.wrap (((n/256^i:Nat):Int)%256)=((UInt8.ofNat (n/256^i%256)).toNat:Nat):=by
   rw [UInt8.toNat_ofNat',Nat.mod_eq_of_lt (Nat.mod_lt _ (by decide)),IntKind.wrap_u8]
   omega
  have hq:IntKind.u64.wrap (((n/256^i:Nat):Int).tdiv 256)=((n/256^(i+1):Nat):Int):=by
   rw [← hd]
   clear hv hnc hd
   generalize n/256^i=q at *
   rw [quo_u64 (by omega) (by omega)];omega
  have hadd:IntKind.i64.wrap ((i:Int)+1)=((i+1:Nat):Int):=by rw [cH V3];omega
  (refine U14 ?_;refine K.rem O O V3 O dS ?_;refine U1 ?_;refine aZ (zs:=[.int .u8 0]) (sz:=1) (e:=5) V5 O O O O O O dS<|bQ (by_:=1) (e2:=5) (l2:=[bc (UInt8.ofNat (n/256^i%256))]) O O hcl O O (dO _) O O V5 V5 V3 V3 O O hnc dS ?_;refine U4 ?_;refine K.quo O O V3 hq dS ?_;refine U7 ?_)
  exact ⟨_,⟨[(0,Ln .u64 (n/256^(i+1):Nat)),(3,.sv (.one (.slc 500 0 (i+1)))),(4,Ln .i64 (i+1:Nat))],[(500,some ⟨5,((leB 8 n).take (i+1)).map bc,true⟩)],X⟩,by omega,Le.ofR [(500,15)] V9 V1 V2 V2 V0 V2 V2,i+1,true,by omega,O,O⟩
 ·have e:i=8:=by omega
  subst e
  have hta:(leB 8 n).take 8=leB 8 n:=List.take_of_length_le (by rw [leB_length];exact dO _)
  rw [hta]
  have hlen:0+8≤((leB 8 n).map bc).length:=by rw [cX,leB_length];omega
  have hend:(((leB 8 n).map bc).drop 0).take 8=(leB 8 n).map bc:=by rw [List.drop_zero,List.take_of_length_le (by rw [cX,leB_length];exact dO _)]
  generalize leB 8 n=s at *
  (refine U4 ?_;refine klt O O (r:=false) O ?_;refine U6 ?_;refine bS O O V5 StrT.u hlen hend dS ?_;refine U3 ?_)
  exact V6
end Go.Proofs.YtopiioklkkiedaaGreatDoor
end
