/- A piece of a proof over this program: contracts of its functions, and a logic to prove them by. -/
import Derived.Test.YtopiioklkkiedaaGreatDoorW2
import Derived.Test.YtopiioklkkiedaaGreatDoorW3
import Derived.Lib.TrimByte
import Derived.Lib.SmallJoins
import Derived.Test.YtopiioklkkiedaaGreatDoorRows
section
set_option maxHeartbeats 12800000
set_option maxRecDepth 100000
namespace Go.Proofs.YtopiioklkkiedaaGreatDoor
open Go Go.Lg
variable (X:Nat→Option Obj)
theorem low_1 (n:Nat) (hn:n<18446744073709551616):PSpec Tryz.prog X 170 [Ln .i64 1,Ln .u64 (n:Nat)] (Ls (leB 1 n)):=by
 refine cF Tryz.func170 rfl V5 rfl rfl ?_
 intro C
 (refine U7 ?_;refine K.makeSlc (m:=1) (zs:=List.replicate 1 (.int .u8 0)) (sz:=1) (e:=5) (bytes:=1) (zc:=(lo 1 n 0).map bc) O O V5 V5 VA O O dS ?_;refine U10 ?_)
 refine cL (fun m σ=>∃ i:Nat,i≤1∧m=1-i∧σ=⟨[(1,Ln .u64 (n:Nat)),(5,.sv (.one (.slc 8 0 1))),(10,Ln .i64 1),(11,Ln .i64 (i:Nat))],[(8,some ⟨5,(lo 1 n i).map bc,false⟩)],X⟩) 1
  ⟨_,Le.of V8 V13 V2 V2 V0,0,Nat.zero_le _,rfl,rfl⟩ ?_
 rintro m σ ⟨i,hi,rfl,rfl⟩
 by_cases hlt:i<1
 ·have w8:IntKind.i64.wrap (8*(i:Int))=((8*i:Nat):Int):=by rw [cH V3];omega
  have ed:((n:Nat):Int)/2^(8*i)=((n/256^i:Nat):Int):=by rw [p256,Int.natCast_ediv,Int.natCast_pow];rfl
  have hs:=(shr_s (a:=((n:Nat):Int)) (s:=8*i) V3).trans ed
  have hv:IntKind.u8.wrap ((n/256^i:Nat):Int)=((UInt8.ofNat (n/256^i%256)).toNat:Nat):=by
   rw [UInt8.toNat_ofNat',Nat.mod_eq_of_lt (Nat.mod_lt _ (by decide)),IntKind.wrap_u8]
   omega
  have hbl:Nat.blt (0+i*1) ((lo 1 n i).map bc).length=true:=by rw [lo_len _ _ _ hi,Nat.blt_eq];omega
  (refine U19 ?_;refine bL O O w8 dS<|bO O O V3 hs dS ?_;refine U1 ?_;refine K.indexSlc O O V3 O dS ?_;refine bG O O O O hbl (lo_set hlt) dS ?_;refine U5 ?_)
  exact ⟨_,_,by omega,Le.of V8 V13 V2 V2 V0,i+1,by omega,O,O⟩
 ·have e:i=1:=by omega
  subst e
  have hlen:0+1≤((lo 1 n 1).map bc).length:=by rw [lo_len _ _ _ (dO _)];omega
  have hcut:(((lo 1 n 1).map bc).drop 0).take 1=(leB 1 n).map bc:=by
   rw [List.drop_zero,List.take_of_length_le (by rw [lo_len _ _ _ (dO _)];exact dO _),lo_all]
  (refine U10 ?_;refine bS O O V5 StrT.u hlen hcut dS ?_;refine U3 ?_)
  exact V6
theorem low_2 (n:Nat) (hn:n<18446744073709551616):PSpec Tryz.prog X 170 [Ln .i64 2,Ln .u64 (n:Nat)] (Ls (leB 2 n)):=by
 refine cF Tryz.func170 rfl V5 rfl rfl ?_
 intro C
 (refine U7 ?_;refine K.makeSlc (m:=2) (zs:=List.replicate 2 (.int .u8 0)) (sz:=1) (e:=5) (bytes:=1) (zc:=(lo 2 n 0).map bc) O O V5 V5 VA O O dS ?_;refine U10 ?_)
 refine cL (fun m σ=>∃ i:Nat,i≤2∧m=2-i∧σ=⟨[(1,Ln .u64 (n:Nat)),(5,.sv (.one (.slc 8 0 2))),(10,Ln .i64 2),(11,Ln .i64 (i:Nat))],[(8,some ⟨5,(lo 2 n i).map bc,false⟩)],X⟩) 2
  ⟨_,Le.of V8 V13 V2 V2 V0,0,Nat.zero_le _,rfl,rfl⟩ ?_
 rintro m σ ⟨i,hi,rfl,rfl⟩
 by_cases hlt:i<2
 ·have w8:IntKind.i64.wrap (8*(i:Int))=((8*i:Nat):Int):=by rw [cH V3];omega
  have ed:((n:Nat):Int)/2^(8*i)=((n/256^i:Nat):Int):=by rw [p256,Int.natCast_ediv,Int.natCast_pow];rfl
  have hs:=(shr_s (a:=((n:Nat):Int)) (s:=8*i) V3).trans ed
  have hv:IntKind.u8.wrap ((n/256^i:Nat):Int)=((UInt8.ofNat (n/256^i%256)).toNat:Nat):=by
   rw [UInt8.toNat_ofNat',Nat.mod_eq_of_lt (Nat.mod_lt _ (by decide)),IntKind.wrap_u8]
   omega
  have hbl:Nat.blt (0+i*1) ((lo 2 n i).map bc).length=true:=by rw [lo_len _ _ _ hi,Nat.blt_eq];omega
  (refine U19 ?_;refine bL O O w8 dS<|bO O O V3 hs dS ?_;refine U1 ?_;refine K.indexSlc O O V3 O dS ?_;refine bG O O O O hbl (lo_set hlt) dS ?_;refine U5 ?_)
  exact ⟨_,_,by omega,Le.of V8 V13 V2 V2 V0,i+1,by omega,O,O⟩
 ·have e:i=2:=by omega
  subst e
  have hlen:0+2≤((lo 2 n 2).map bc).length:=by rw [lo_len _ _ _ (dO _)];omega
  have hcut:(((lo 2 n 2).map bc).drop 0).take 2=(leB 2 n).map bc:=by
   rw [List.drop_zero,List.take_of_length_le (by rw [lo_len _ _ _ (dO _)];exact dO _),lo_all]
  (refine U10 ?_;refine bS O O V5 StrT.u hlen hcut dS ?_;refine U3 ?_)
  exact V6
theorem low_4 (n:Nat) (hn:n<18446744073709551616):PSpec Tryz.prog X 170 [Ln .i64 4,Ln .u64 (n:Nat)] (Ls (leB 4 n)):=by
 refine cF Tryz.func170 rfl V5 rfl rfl ?_
 intro C
 (refine U7 ?_;refine K.makeSlc (m:=4) (zs:=List.replicate 4 (.int .u8 0)) (sz:=1) (e:=5) (bytes:=1) (zc:=(lo 4 n 0).map bc) O O V5 V5 VA O O dS ?_;refine U10 ?_)
 refine cL (fun m σ=>∃ i:Nat,i≤4∧m=4-i∧σ=⟨[(1,Ln .u64 (n:Nat)),(5,.sv (.one (.slc 8 0 4))),(10,Ln .i64 4),(11,Ln .i64 (i:Nat))],[(8,some ⟨5,(lo 4 n i).map bc,false⟩)],X⟩) 4
  ⟨_,Le.of V8 V13 V2 V2 V0,0,Nat.zero_le _,rfl,rfl⟩ ?_
 rintro m σ ⟨i,hi,rfl,rfl⟩
 by_cases hlt:i<4
 ·have w8:IntKind.i64.wrap (8*(i:Int))=((8*i:Nat):Int):=by rw [cH V3];omega
  have ed:((n:Nat):Int)/2^(8*i)=((n/256^i:Nat):Int):=by rw [p256,Int.natCast_ediv,Int.natCast_pow];rfl
  have hs:=(shr_s (a:=((n:Nat):Int)) (s:=8*i) V3).trans ed
  have hv:IntKind.u8.wrap ((n/256^i:Nat):Int)=((UInt8.ofNat (n/256^i%256)).toNat:Nat):=by
   rw [UInt8.toNat_ofNat',Nat.mod_eq_of_lt (Nat.mod_lt _ (by decide)),IntKind.wrap_u8]
   omega
  have hbl:Nat.blt (0+i*1) ((lo 4 n i).map bc).length=true:=by rw [lo_len _ _ _ hi,Nat.blt_eq];omega
  (refine U19 ?_;refine bL O O w8 dS<|bO O O V3 hs dS ?_;refine U1 ?_;refine K.indexSlc O O V3 O dS ?_;refine bG O O O O hbl (lo_set hlt) dS ?_;refine U5 ?_)
  exact ⟨_,_,by omega,Le.of V8 V13 V2 V2 V0,i+1,by omega,O,O⟩
 ·have e:i=4:=by omega
  subst e
  have hlen:0+4≤((lo 4 n 4).map bc).length:=by rw [lo_len _ _ _ (dO _)];omega
  have hcut:(((lo 4 n 4).map bc).drop 0).take 4=(leB 4 n).map bc:=by
   rw [List.drop_zero,List.take_of_length_le (by rw [lo_len _ _ _ (dO _)];exact dO _),lo_all]
  (refine U10 ?_;refine bS O O V5 StrT.u hlen hcut dS ?_;refine U3 ?_)
  exact V6
theorem low_8 (n:Nat) (hn:n<18446744073709551616):PSpec Tryz.prog X 170 [Ln .i64 8,Ln .u64 (n:Nat)] (Ls (leB 8 n)):=by
 refine cF Tryz.func170 rfl V5 rfl rfl ?_
 intro C
 (refine U7 ?_;refine K.makeSlc (m:=8) (zs:=List.replicate 8 (.int .u8 0)) (sz:=1) (e:=5) (bytes:=1) (zc:=(lo 8 n 0).map bc) O O V5 V5 VA O O dS ?_;refine U10 ?_)
 refine cL (fun m σ=>∃ i:Nat,i≤8∧m=8-i∧σ=⟨[(1,Ln .u64 (n:Nat)),(5,.sv (.one (.slc 8 0 8))),(10,Ln .i64 8),(11,Ln .i64 (i:Nat))],[(8,some ⟨5,(lo 8 n i).map bc,false⟩)],X⟩) 8
  ⟨_,Le.of V8 V13 V2 V2 V0,0,Nat.zero_le _,rfl,rfl⟩ ?_
 rintro m σ ⟨i,hi,rfl,rfl⟩
 by_cases hlt:i<8
 ·have w8:IntKind.i64.wrap (8*(i:Int))=((8*i:Nat):Int):=by rw [cH V3];omega
  have ed:((n:Nat):Int)/2^(8*i)=((n/256^i:Nat):Int):=by rw [p256,Int.natCast_ediv,Int.natCast_pow];rfl
  have hs:=(shr_s (a:=((n:Nat):Int)) (s:=8*i) V3).trans ed
  have hv:IntKind.u8.wrap ((n/256^i:Nat):Int)=((UInt8.ofNat (n/256^i%256)).toNat:Nat):=by
   rw [UInt8.toNat_ofNat',Nat.mod_eq_of_lt (Nat.mod_lt _ (by decide)),IntKind.wrap_u8]
   omega
  have hbl:Nat.blt (0+i*1) ((lo 8 n i).map bc).length=true:=by rw [lo_len _ _ _ hi,Nat.blt_eq];omega
  (refine U19 ?_;refine bL O O w8 dS<|bO O O V3 hs dS ?_;refine U1 ?_;refine K.indexSlc O O V3 O dS ?_;refine bG O O O O hbl (lo_set hlt) dS ?_;refine U5 ?_)
  exact ⟨_,_,by omega,Le.of V8 V13 V2 V2 V0,i+1,by omega,O,O⟩
 ·have e:i=8:=by omega
  subst e
  have hlen:0+8≤((lo 8 n 8).map bc).length:=by rw [lo_len _ _ _ (dO _)];omega
  have hcut:(((lo 8 n 8).map bc).drop 0).take 8=(leB 8 n).map bc:=by
   rw [List.drop_zero,List.take_of_length_le (by rw [lo_len _ _ _ (dO _)];exact dO _),lo_all]
  (refine U10 ?_;refine bS O O V5 StrT.u hlen hcut dS ?_;refine U3 ?_)
  exact V6
end Go.Proofs.YtopiioklkkiedaaGreatDoor
end
section
set_option maxHeartbeats 12800000
set_option maxRecDepth 100000
namespace Go.Proofs.YtopiioklkkiedaaGreatDoor
open Go Go.Lg
variable (X:Nat→Option Obj)
abbrev w0 (k:Nat):List (Nat×Option Box):=[(k,some ⟨214,[.val (.pointer none),.val (.int .i64 0)],false⟩)]
abbrev w1 (k ks kb:Nat) (l:List UInt8):List (Nat×Option Box):=
 [(k,some ⟨214,[.ptr ks 0,.val (.int .i64 (l.length:Nat))],false⟩),(ks,some ⟨262,[.slc kb 0 l.length],false⟩),(kb,some ⟨5,l.map bc,true⟩)]
theorem String_0:MSpec Tryz.prog X 125 [Lp 1000000] (w0 1000000) (Ls []) (w0 1000000):=by
 refine cG Tryz.func125 rfl V5 rfl rfl rfl rfl rfl ?_
 intro C
 (refine U8 ?_;refine K.ptrNil O V5 (.inl ⟨O,O⟩) dS ?_;refine U2 ?_;refine bI O (dT O O) ?_;refine U2 ?_;refine K.nilNil O V5 (.inl ⟨O,O⟩) (dT O O) ?_;refine U8 ?_)
 exact V20
theorem String_1 (l:List UInt8):MSpec Tryz.prog X 125 [Lp 1000000] (w1 1000000 1000001 1000002 l) (Ls l) (w1 1000000 1000001 1000002 l):=by
 refine cG Tryz.func125 rfl V5 rfl rfl V0 rfl rfl ?_
 intro C
 have hlen:0+l.length≤(l.map bc).length:=by rw [cX];omega
 have hcut:((l.map bc).drop 0).take l.length=l.map bc:=by rw [List.drop_zero,List.take_of_length_le (by rw [cX];exact dO _)]
 (refine U8 ?_;refine K.ptrNil O V5 (.inl ⟨O,O⟩) dS ?_;refine U2 ?_;refine bI O (dT O O) ?_;refine U2 ?_;refine K.ptrNil O V5 (.inl ⟨O,O⟩) (dT O O) ?_;refine U5 ?_;refine rgD mixed ?_;refine U11 ?_;refine K.cutSlc O O cC (dO _) dS<|bS O O V5 StrT.u hlen hcut dS ?_;refine U4 ?_)
 exact ⟨[],⟨[_],⟨O,trivial⟩,O⟩,V1,O,O⟩
theorem WRaw_0 (s:List UInt8) (hs:s.length<1000000000):MSpec Tryz.prog X 169 [Lp 1000000,Ls s] (w0 1000000) (Lb true) (w1 1000000 1000001 1000002 s):=by
 refine cG Tryz.func169 rfl V5 rfl rfl V0 rfl rfl ?_
 intro C
 (refine U8 ?_;refine K.ptrNil O V5 (.inl ⟨O,O⟩) dS ?_;refine U5 ?_;refine rgD mixed ?_;refine U4 ?_;refine K.nilNil O V5 (.inl ⟨O,O⟩) dS ?_;refine U21 ?_;refine aU [] (w0 1000000) (String_0 X) O O V17 V16 O O O O V19 dS<|K.strBytes (e:=5) O StrT.u V5 V5 O dS<|aT O O V2 (by exact nl1 O O) dS ?_;refine U3 ?_;refine bG O O O O O (nl2 O O O) dS ?_;refine U2 ?_;refine rgD mixed ?_;refine U12 ?_;refine K.appendStr (by_:=1) O O O O V5 StrT.u (by simp only [dP];omega) (by simp only [dP];omega) O (Nat.zero_add _) (List.nil_append _) dS ?_;refine U2 ?_;refine bG O O O O O (nl1 O O) dS ?_;refine U15 ?_;refine bG O O O O O (nl2 O O O) dS ?_;refine U6 ?_)
 exact ⟨[(1000001,32),(1000002,47)],⟨[_],⟨O,trivial⟩,O⟩,V1,O,O⟩
theorem WRaw_1 (l s:List UInt8) (hs:l.length+s.length<1000000000):MSpec Tryz.prog X 169 [Lp 1000000,Ls s] (w1 1000000 1000001 1000002 l) (Lb true) (w1 1000000 1000001 1000003 (l++s)++[(1000002,none)]):=by
 refine cG Tryz.func169 rfl V5 rfl rfl V0 rfl rfl ?_
 intro C
 ((refine U8 ?_;refine K.ptrNil O V5 (.inl ⟨O,O⟩) dS ?_;refine U5 ?_;refine rgD mixed ?_;refine U4 ?_;refine K.ptrNil O V5 (.inl ⟨O,O⟩) dS ?_;refine U2 ?_;refine bI O (dT O O) ?_;refine U3 ?_;refine bI O (dT O O) ?_;refine U2 ?_;refine bI O (dT O O) ?_;refine U2 ?_);(refine K.lenSlc O cC O (dT O O) ?_;refine aX O O ((cT V3)) (dT O O) ?_;refine U6 ?_;refine rgD mixed ?_;refine U12 ?_;refine K.appendStr (by_:=1) O O (cX _) O V5 StrT.u V3 V3 O (cW).symm (dI).symm dS ?_;refine U2 ?_;refine bG O O O O O (nl1 O O) dS ?_;refine U11 ?_);(refine U4 ?_;refine bG O O O O O (nl2 O O O) dS ?_;refine U6 ?_))
 exact ⟨[(1000003,47)],⟨[_],⟨O,trivial⟩,O⟩,V1,O,O⟩
end Go.Proofs.YtopiioklkkiedaaGreatDoor
end
section
set_option maxHeartbeats 12800000
set_option maxRecDepth 100000
namespace Go.Proofs.YtopiioklkkiedaaGreatDoor
open Go Go.Lg
variable (X:Nat→Option Obj)
theorem oshr_1 (n:Nat):((n:Nat):Int).fdiv (2^(min (((8*1:Nat):Int)).toNat IntKind.u64.bits))=((n/256^1:Nat):Int):=by
 have ed:((n:Nat):Int)/2^(8*1)=((n/256^1:Nat):Int):=by rw [p256,Int.natCast_ediv,Int.natCast_pow];rfl
 exact (shr_s (a:=((n:Nat):Int)) (s:=8*1) V3).trans ed
theorem WNum_0_1 (n:Nat) (hn:n<18446744073709551616) (h:n<256^1):MSpec Tryz.prog X 123 [Lp 1000000,Ln .i64 1,Ln .u64 (n:Nat)] (w0 1000000) (Lb true) (w1 1000000 1000001 1000002 (leB 1 n)):=by
 refine cG Tryz.func123 rfl V5 rfl rfl V0 rfl rfl ?_
 intro C
 have hz:((n/256^1:Nat):Int)=0:=by rw [Nat.div_eq_of_lt h];rfl
 have hs:=(oshr_1 n).trans hz
 (refine U8 ?_;refine kca O O (isWidth_spec X _ true O) ?_;refine U4 ?_;refine bL O O (c:=((8*1:Nat):Int)) O (dT O O) ?_;refine bO O O VA hs (dT O O) ?_;refine aX O O ((cT V3)) (dT O O) ?_;refine U9 ?_;refine kca O O (low_1 X n hn)<|aU [(1000001,501),(1000002,502)] (w1 1000000 501 502 (leB 1 n)) (WRaw_0 X _ (by rw [leB_length];decide)) O O V17 V16 O O O O V23 dS ?_;refine U3 ?_)
 exact ⟨[(1000001,501),(1000002,502)],⟨[_],⟨O,trivial⟩,O⟩,V1,O,O⟩
theorem WNum_1_1 (l:List UInt8) (n:Nat) (hn:n<18446744073709551616) (h:n<256^1) (hl:l.length<900000000):MSpec Tryz.prog X 123 [Lp 1000000,Ln .i64 1,Ln .u64 (n:Nat)] (w1 1000000 1000001 1000002 l) (Lb true) (w1 1000000 1000001 1000003 (l++leB 1 n)++[(1000002,none)]):=by
 refine cG Tryz.func123 rfl V5 rfl rfl V0 rfl rfl ?_
 intro C
 have hz:((n/256^1:Nat):Int)=0:=by rw [Nat.div_eq_of_lt h];rfl
 have hs:=(oshr_1 n).trans hz
 (refine U8 ?_;refine kca O O (isWidth_spec X _ true O) ?_;refine U4 ?_;refine bL O O (c:=((8*1:Nat):Int)) O (dT O O) ?_;refine bO O O VA hs (dT O O) ?_;refine aX O O ((cT V3)) (dT O O) ?_;refine U9 ?_;refine kca O O (low_1 X n hn)<|aU [(1000003,503)] (w1 1000000 1000001 503 (l++leB 1 n)++[(1000002,none)]) (WRaw_1 X l _ (by rw [leB_length];omega)) O O VD VB O O O O V12 dS ?_;refine U3 ?_)
 exact ⟨[(1000003,503)],⟨[_],⟨O,trivial⟩,O⟩,V1,O,O⟩
theorem oshr_2 (n:Nat):((n:Nat):Int).fdiv (2^(min (((8*2:Nat):Int)).toNat IntKind.u64.bits))=((n/256^2:Nat):Int):=by
 have ed:((n:Nat):Int)/2^(8*2)=((n/256^2:Nat):Int):=by rw [p256,Int.natCast_ediv,Int.natCast_pow];rfl
 exact (shr_s (a:=((n:Nat):Int)) (s:=8*2) V3).trans ed
theorem WNum_0_2 (n:Nat) (hn:n<18446744073709551616) (h:n<256^2):MSpec Tryz.prog X 123 [Lp 1000000,Ln .i64 2,Ln .u64 (n:Nat)] (w0 1000000) (Lb true) (w1 1000000 1000001 1000002 (leB 2 n)):=by
 refine cG Tryz.func123 rfl V5 rfl rfl V0 rfl rfl ?_
 intro C
 have hz:((n/256^2:Nat):Int)=0:=by rw [Nat.div_eq_of_lt h];rfl
 have hs:=(oshr_2 n).trans hz
 (refine U8 ?_;refine kca O O (isWidth_spec X _ true O) ?_;refine U4 ?_;refine bL O O (c:=((8*2:Nat):Int)) O (dT O O) ?_;refine bO O O VA hs (dT O O) ?_;refine aX O O ((cT V3)) (dT O O) ?_;refine U9 ?_;refine kca O O (low_2 X n hn)<|aU [(1000001,501),(1000002,502)] (w1 1000000 501 502 (leB 2 n)) (WRaw_0 X _ (by rw [leB_length];decide)) O O V17 V16 O O O O V23 dS ?_;refine U3 ?_)
 exact ⟨[(1000001,501),(1000002,502)],⟨[_],⟨O,trivial⟩,O⟩,V1,O,O⟩
theorem oshr_4 (n:Nat):((n:Nat):Int).fdiv (2^(min (((8*4:Nat):Int)).toNat IntKind.u64.bits))=((n/256^4:Nat):Int):=by
 have ed:((n:Nat):Int)/2^(8*4)=((n/256^4:Nat):Int):=by rw [p256,Int.natCast_ediv,Int.natCast_pow];rfl
 exact (shr_s (a:=((n:Nat):Int)) (s:=8*4) V3).trans ed
theorem WNum_0_4 (n:Nat) (hn:n<18446744073709551616) (h:n<256^4):MSpec Tryz.prog X 123 [Lp 1000000,Ln .i64 4,Ln .u64 (n:Nat)] (w0 1000000) (Lb true) (w1 1000000 1000001 1000002 (leB 4 n)):=by
 refine cG Tryz.func123 rfl V5 rfl rfl V0 rfl rfl ?_
 intro C
 have hz:((n/256^4:Nat):Int)=0:=by rw [Nat.div_eq_of_lt h];rfl
 have hs:=(oshr_4 n).trans hz
 (refine U8 ?_;refine kca O O (isWidth_spec X _ true O) ?_;refine U4 ?_;refine bL O O (c:=((8*4:Nat):Int)) O (dT O O) ?_;refine bO O O VA hs (dT O O) ?_;refine aX O O ((cT V3)) (dT O O) ?_;refine U9 ?_;refine kca O O (low_4 X n hn)<|aU [(1000001,501),(1000002,502)] (w1 1000000 501 502 (leB 4 n)) (WRaw_0 X _ (by rw [leB_length];decide)) O O V17 V16 O O O O V23 dS ?_;refine U3 ?_)
 exact ⟨[(1000001,501),(1000002,502)],⟨[_],⟨O,trivial⟩,O⟩,V1,O,O⟩
theorem oshr_8 (n:Nat):((n:Nat):Int).fdiv (2^(min (((8*8:Nat):Int)).toNat IntKind.u64.bits))=((n/256^8:Nat):Int):=by
 have ed:((n:Nat):Int)/2^(8*8)=((n/256^8:Nat):Int):=by rw [p256,Int.natCast_ediv,Int.natCast_pow];rfl
 exact (shr_s (a:=((n:Nat):Int)) (s:=8*8) V3).trans ed
theorem WNum_0_8 (n:Nat) (hn:n<18446744073709551616) (h:n<256^8):MSpec Tryz.prog X 123 [Lp 1000000,Ln .i64 8,Ln .u64 (n:Nat)] (w0 1000000) (Lb true) (w1 1000000 1000001 1000002 (leB 8 n)):=by
 refine cG Tryz.func123 rfl V5 rfl rfl V0 rfl rfl ?_
 intro C
 have hz:((n/256^8:Nat):Int)=0:=by rw [Nat.div_eq_of_lt h];rfl
 have hs:=(oshr_8 n).trans hz
 (refine U8 ?_;refine kca O O (isWidth_spec X _ true O) ?_;refine U4 ?_;refine bL O O (c:=((8*8:Nat):Int)) O (dT O O) ?_;refine bO O O VA hs (dT O O) ?_;refine aX O O ((cT V3)) (dT O O) ?_;refine U9 ?_;refine kca O O (low_8 X n hn)<|aU [(1000001,501),(1000002,502)] (w1 1000000 501 502 (leB 8 n)) (WRaw_0 X _ (by rw [leB_length];decide)) O O V17 V16 O O O O V23 dS ?_;refine U3 ?_)
 exact ⟨[(1000001,501),(1000002,502)],⟨[_],⟨O,trivial⟩,O⟩,V1,O,O⟩
theorem WNum_1_8 (l:List UInt8) (n:Nat) (hn:n<18446744073709551616) (h:n<256^8) (hl:l.length<900000000):MSpec Tryz.prog X 123 [Lp 1000000,Ln .i64 8,Ln .u64 (n:Nat)] (w1 1000000 1000001 1000002 l) (Lb true) (w1 1000000 1000001 1000003 (l++leB 8 n)++[(1000002,none)]):=by
 refine cG Tryz.func123 rfl V5 rfl rfl V0 rfl rfl ?_
 intro C
 have hz:((n/256^8:Nat):Int)=0:=by rw [Nat.div_eq_of_lt h];rfl
 have hs:=(oshr_8 n).trans hz
 (refine U8 ?_;refine kca O O (isWidth_spec X _ true O) ?_;refine U4 ?_;refine bL O O (c:=((8*8:Nat):Int)) O (dT O O) ?_;refine bO O O VA hs (dT O O) ?_;refine aX O O ((cT V3)) (dT O O) ?_;refine U9 ?_;refine kca O O (low_8 X n hn)<|aU [(1000003,503)] (w1 1000000 1000001 503 (l++leB 8 n)++[(1000002,none)]) (WRaw_1 X l _ (by rw [leB_length];omega)) O O VD VB O O O O V12 dS ?_;refine U3 ?_)
 exact ⟨[(1000003,503)],⟨[_],⟨O,trivial⟩,O⟩,V1,O,O⟩
end Go.Proofs.YtopiioklkkiedaaGreatDoor
end
section
set_option maxHeartbeats 12800000
set_option maxRecDepth 100000
namespace Go.Proofs.YtopiioklkkiedaaGreatDoor
open Go Go.Lg
variable (X:Nat→Option Obj)
theorem rlen (l:List UInt8):(⟨l.toArray⟩:ByteArray).size=l.length:=rfl
theorem Left_spec (l:List UInt8) (b:Bool):MSpec Tryz.prog X 205 [Lp 1000000] (rd 1000000 l b) (Ln .i64 (if b=true then 0 else (l.length:Nat))) (rd 1000000 l b):=by
 refine cG Tryz.func205 rfl V5 rfl rfl rfl rfl rfl ?_
 intro C
 cases b with
 | false =>
  (refine U8 ?_;refine aU [] (rd 1000000 l false) (Bad_spec X l false) O O V17 V16 O O O O V19 dS ?_;refine U13 ?_)
  exact V20
 | true =>
  (refine U8 ?_;refine aU [] (rd 1000000 l true) (Bad_spec X l true) O O V17 V16 O O O O V19 dS ?_;refine U7 ?_)
  exact V20
theorem Done_spec (l:List UInt8) (b:Bool) (e:Bool) (he:(l==[])=e):MSpec Tryz.prog X 121 [Lp 1000000] (rd 1000000 l b) (Lb (!b&&e)) (rd 1000000 l b):=by
 refine cG Tryz.func121 rfl V5 rfl rfl rfl rfl rfl ?_
 intro C
 cases b with
 | false =>
  (refine U7 ?_;refine aU [] (rd 1000000 l false) (Bad_spec X l false) O O V17 V16 O O O O V19 dS ?_;refine U3 ?_;refine bI O (dT O O) ?_;refine U2 ?_;refine K.strEq O O (strs_eq he) (dT O O) ?_;refine U4 ?_)
  exact V20
 | true =>
  (refine U7 ?_;refine aU [] (rd 1000000 l true) (Bad_spec X l true) O O V17 V16 O O O O V19 dS ?_;refine U11 ?_)
  exact V20
theorem Raw_ok (l:List UInt8) (n:Nat) (hn:n≤l.length) (hl:l.length<4611686018427387904):MSpec Tryz.prog X 160 [Lp 1000000,Ln .i64 (n:Nat)] (rd 1000000 l false) (Ls (l.take n)) (rd 1000000 (l.drop n) false):=by
 refine cG Tryz.func160 rfl V5 rfl rfl rfl rfl rfl ?_
 intro C
 have hz:=rlen l
 have c1:(⟨l.toArray⟩:ByteArray).extract 0 n=⟨(l.take n).toArray⟩:=by rw [str_cut,List.drop_zero,Nat.sub_zero]
 have c2:(⟨l.toArray⟩:ByteArray).extract n (⟨l.toArray⟩:ByteArray).size=⟨(l.drop n).toArray⟩:=by
  rw [str_cut,hz,List.take_of_length_le (by rw [dC];exact dO _)]
 have hL:=Left_spec X l false
 rw [if_neg (by simp)] at hL
 (refine U12 ?_;refine aU [] (rd 1000000 l false) (hL) O O V17 V16 O O O O V19 (dT O O) ?_;refine U9 ?_;refine aU [] (rd 1000000 l false) (Bad_spec X l false) O O V17 V16 O O O O V19 dS ?_;refine U10 ?_;refine bN (l:=0) (h:=n) (kl:=.i64) (kh:=.i64) O StrT.u O O ⟨V3,V3⟩ c1 dS ?_;refine U10 ?_;refine bN (l:=n) (h:=(⟨l.toArray⟩:ByteArray).size) (kl:=.i64) (kh:=.i64) O StrT.u O O ⟨V3,V3⟩ c2 dS ?_;refine U2 ?_;refine bG O O O O O (nl2 O O O) dS ?_;refine U7 ?_)
 exact V20
end Go.Proofs.YtopiioklkkiedaaGreatDoor
end
section
set_option maxHeartbeats 12800000
set_option maxRecDepth 100000
namespace Go.Proofs.YtopiioklkkiedaaGreatDoor
open Go Go.Lg
variable (X:Nat→Option Obj)
theorem isW_bound {n:Int} (h:isW n=true):1≤n∧n≤8:=by
 unfold isW at h
 simp only [Bool.or_eq_true,decide_eq_true_eq] at h
 omega
theorem Num_ok (l:List UInt8) (w:Nat) (hw:isW (w:Int)=true) (hn:w≤l.length) (hl:l.length<4611686018427387904):MSpec Tryz.prog X 120 [Lp 1000000,Ln .i64 (w:Nat)] (rd 1000000 l false) (Ln .u64 (le (l.take w):Nat)) (rd 1000000 (l.drop w) false):=by
 have hb:=isW_bound hw
 refine cG Tryz.func120 rfl V5 rfl rfl rfl rfl rfl ?_
 intro C
 (refine U8 ?_;refine kca O O (isWidth_spec X _ true hw) ?_;refine U8 ?_;refine aU [] (rd 1000000 (l.drop w) false) (Raw_ok X l w hn hl) O O V17 V16 O O O O V19 dS<|kca O O (onumber_spec X _ (by rw [dA];omega)) ?_;refine U3 ?_)
 exact V20
end Go.Proofs.YtopiioklkkiedaaGreatDoor
end
section
set_option maxHeartbeats 12800000
set_option maxRecDepth 100000
namespace Go.Lg.Fld
open Go Go.Lg
def kN (k:Int):List UInt8:=if k=1 then [98,111,111,108] else if k=2 then [105,56] else if k=3 then [105,49,54] else if k=4 then [105,51,50] else if k=5 then [105,54,52] else if k=6 then [117,56] else if k=7 then [117,49,54] else if k=8 then [117,51,50] else if k=9 then [117,54,52] else if k=10 then [114,101,102] else []
def kW (k:Int):Nat:=if k=1 then 1 else if k=2 then 1 else if k=3 then 2 else if k=4 then 4 else if k=5 then 8 else if k=6 then 1 else if k=7 then 2 else if k=8 then 4 else if k=9 then 8 else if k=10 then 8 else 0
def kB (k:Int):Int:=if k=1 then 0 else if k=2 then 128 else if k=3 then 32768 else if k=4 then 2147483648 else if k=5 then 9223372036854775808 else if k=6 then 0 else if k=7 then 0 else if k=8 then 0 else if k=9 then 0 else if k=10 then 0 else 0
def kA (k:Int):Int:=if k=1 then 1 else if k=2 then 127 else if k=3 then 32767 else if k=4 then 2147483647 else if k=5 then 9223372036854775807 else if k=6 then 255 else if k=7 then 65535 else if k=8 then 4294967295 else if k=9 then 18446744073709551615 else if k=10 then 18446744073709551615 else 0
def kK (k:Int):Bool:=decide (1≤k)&&decide (k≤10)
theorem kcases (k:Int):k=1∨k=2∨k=3∨k=4∨k=5∨k=6∨k=7∨k=8∨k=9∨k=10∨(k<1∨10<k):=by omega
theorem kin {k:Int} (h:kK k=true):k=1∨k=2∨k=3∨k=4∨k=5∨k=6∨k=7∨k=8∨k=9∨k=10:=by
 simp only [kK,Bool.and_eq_true,decide_eq_true_eq] at h;omega
theorem knot {k:Int} (h:kK k=false):k<1∨10<k:=by
 by_cases h1:1≤k<;>by_cases h2:k≤10<;>first|omega|(rw [kK,cP h1,cP h2] at h;cases h)
theorem kK_iff (k:Int):kK k=true↔1≤k∧k≤10:=by simp only [kK,Bool.and_eq_true,decide_eq_true_eq]
theorem kN_no {k:Int} (h:k<1∨10<k):kN k=[]:=by
 unfold kN
 rw [if_neg (show ¬ k=1 by omega),if_neg (show ¬ k=2 by omega),if_neg (show ¬ k=3 by omega),if_neg (show ¬ k=4 by omega),if_neg (show ¬ k=5 by omega),if_neg (show ¬ k=6 by omega),if_neg (show ¬ k=7 by omega),if_neg (show ¬ k=8 by omega),if_neg (show ¬ k=9 by omega),if_neg (show ¬ k=10 by omega)]
theorem kW_no {k:Int} (h:k<1∨10<k):kW k=0:=by
 unfold kW
 rw [if_neg (show ¬ k=1 by omega),if_neg (show ¬ k=2 by omega),if_neg (show ¬ k=3 by omega),if_neg (show ¬ k=4 by omega),if_neg (show ¬ k=5 by omega),if_neg (show ¬ k=6 by omega),if_neg (show ¬ k=7 by omega),if_neg (show ¬ k=8 by omega),if_neg (show ¬ k=9 by omega),if_neg (show ¬ k=10 by omega)]
theorem kB_no {k:Int} (h:k<1∨10<k):kB k=0:=by
 unfold kB
 rw [if_neg (show ¬ k=1 by omega),if_neg (show ¬ k=2 by omega),if_neg (show ¬ k=3 by omega),if_neg (show ¬ k=4 by omega),if_neg (show ¬ k=5 by omega),if_neg (show ¬ k=6 by omega),if_neg (show ¬ k=7 by omega),if_neg (show ¬ k=8 by omega),if_neg (show ¬ k=9 by omega),if_neg (show ¬ k=10 by omega)]
theorem kA_no {k:Int} (h:k<1∨10<k):kA k=0:=by
 unfold kA
 rw [if_neg (show ¬ k=1 by omega),if_neg (show ¬ k=2 by omega),if_neg (show ¬ k=3 by omega),if_neg (show ¬ k=4 by omega),if_neg (show ¬ k=5 by omega),if_neg (show ¬ k=6 by omega),if_neg (show ¬ k=7 by omega),if_neg (show ¬ k=8 by omega),if_neg (show ¬ k=9 by omega),if_neg (show ¬ k=10 by omega)]
theorem kfacts (k:Int):0≤kB k∧kB k≤9223372036854775808∧0≤kA k∧kA k<18446744073709551616∧kW k≤8:=by
 rcases kcases k with rfl|rfl|rfl|rfl|rfl|rfl|rfl|rfl|rfl|rfl|h
 all_goals first|(rw [kW_no h,kB_no h,kA_no h];omega)|decide
theorem kW_in {k:Int} (h:kK k=true):kW k=1∨kW k=2∨kW k=4∨kW k=8:=by
 rcases kin h with rfl|rfl|rfl|rfl|rfl|rfl|rfl|rfl|rfl|rfl<;>decide
theorem kW_zero (k:Int):kW k=0↔kK k=false:=by
 cases h:kK k with
 | false=>simp [kW_no (knot h)]
 | true=>rcases kW_in h with e|e|e|e<;>simp [e]
end Go.Lg.Fld
namespace Go.Proofs.YtopiioklkkiedaaGreatDoor
open Go Go.Lg Go.Lg.Fld
set_option maxRecDepth 100000
variable (X:Nat→Option Obj)
theorem shapeOf_spec (k:Int):PSpec Tryz.prog X 154 [Ln .i64 k] (.sv (.agg [.val (.string ⟨(kN k).toArray⟩),.val (.int .i64 (kW k:Nat)),.val (.int .u64 (kB k)),.val (.int .u64 (kA k))])):=by
 refine cF Tryz.func154 rfl V5 rfl rfl ?_
 intro C
 rcases kcases k with rfl|rfl|rfl|rfl|rfl|rfl|rfl|rfl|rfl|rfl|h
 ·(refine U18 ?_;refine aT O O V2 V26 dS ?_;refine U3 ?_)
  exact VF
 ·(refine U24 ?_;refine aT O O V2 V26 dS ?_;refine U3 ?_)
  exact VF
 ·(refine U30 ?_;refine aT O O V2 V26 dS ?_;refine U3 ?_)
  exact VF
 ·(refine U36 ?_;refine aT O O V2 V26 dS ?_;refine U3 ?_)
  exact VF
 ·(refine U42 ?_;refine aT O O V2 V26 dS ?_;refine U3 ?_)
  exact VF
 ·(refine U48 ?_;refine aT O O V2 V26 dS ?_;refine U3 ?_)
  exact VF
 ·(refine U54 ?_;refine aT O O V2 V26 dS ?_;refine U3 ?_)
  exact VF
 ·(refine U60 ?_;refine aT O O V2 V26 dS ?_;refine U3 ?_)
  exact VF
 ·(refine U60 ?_;refine U6 ?_;refine aT O O V2 V26 dS ?_;refine U3 ?_)
  exact VF
 ·(refine U60 ?_;refine U12 ?_;refine aT O O V2 V26 dS ?_;refine U3 ?_)
  exact VF
 ·rw [kN_no h,kW_no h,kB_no h,kA_no h]
  (refine U60 ?_;refine U13 ?_;refine aT O O V2 V26 dS ?_;refine U3 ?_)
  exact VF
theorem fSize_spec (k:Int):PSpec Tryz.prog X 116 [Ln .i64 k] (Ln .i64 (kW k:Nat)):=by
 refine cF Tryz.func116 rfl V5 rfl rfl ?_
 intro C
 (refine U7 ?_;refine kca O O (shapeOf_spec X k)<|K.fieldOne O Tryz.underlying245 O V5 O dS ?_;refine U3 ?_)
 exact V6
theorem OfWord_q (n:Int) (hn:0≤n∧n<18446744073709551616):PSpec Tryz.prog X 64 [Ln .u64 n] (LQ n):=by
 have h:=OfWord_spec X n
 unfold LQ LI
 rw [mg_pos hn.1,cO (by omega),show n/18446744073709551616=0 by omega,show n%18446744073709551616=n by omega]
 exact h
theorem Greatest_spec (k:Int):PSpec Tryz.prog X 149 [Ln .i64 k] (LQ (kA k)):=by
 obtain ⟨_,_,h2,h3,_⟩:=kfacts k
 refine cF Tryz.func149 rfl V5 rfl rfl ?_
 intro C
 (refine U7 ?_;refine kca O O (shapeOf_spec X k)<|K.fieldOne O Tryz.underlying245 O V5 O dS<|kca O O (OfWord_q X (kA k) ⟨h2,h3⟩) ?_;refine U3 ?_)
 exact VF
theorem kB_R (k:Int):R127 (kB k):=by
 have:=kfacts k
 unfold R127;omega
theorem kBn_R (k:Int):R127 (-kB k):=by
 have:=kfacts k
 unfold R127;omega
theorem kA_R (k:Int):R127 (kA k):=by
 have:=kfacts k
 unfold R127;omega
theorem Least_spec (k:Int):PSpec Tryz.prog X 148 [Ln .i64 k] (LQ (-kB k)):=by
 obtain ⟨h0,h1,_⟩:=kfacts k
 refine cF Tryz.func148 rfl V5 rfl rfl ?_
 intro C
 (refine U7 ?_;refine kca O O (shapeOf_spec X k)<|K.fieldOne O Tryz.underlying245 O V5 O dS<|kca O O (OfWord_q X (kB k) ⟨h0,by omega⟩)<|kca O O (Neg_q X (kB k) (kB_R k)) ?_;refine U3 ?_)
 exact VF
theorem isKind_spec (k:Int) (r:Bool) (hr:kK k=r):PSpec Tryz.prog X 107 [Ln .i64 k] (Lb r):=by
 subst hr
 refine cF Tryz.func107 rfl V5 rfl rfl ?_
 intro C
 by_cases h1:1≤k
 ·(refine U7 ?_;refine K.leq O O (cP V3) dS ?_;refine U2 ?_;refine K.leq O O O (dT O O) ?_;refine U4 ?_)
  exact ⟨[_],⟨rfl,trivial⟩,by unfold kK;rw [cP h1];rfl⟩
 ·refine U15 ?_
  exact ⟨[_],⟨rfl,trivial⟩,by unfold kK;rw [cO h1];rfl⟩
end Go.Proofs.YtopiioklkkiedaaGreatDoor
end
section
set_option maxHeartbeats 12800000
set_option maxRecDepth 100000
namespace Go.Lg.Fld
open Go Go.Lg
def clampK (k x:Int):Int:=if x < -kB k then -kB k else if kA k<x then kA k else x
def fitZ (k x:Int):Bool:=decide (-kB k≤x)&&decide (x≤kA k)
theorem fitZ_iff (k x:Int):fitZ k x=true ↔ -kB k≤x∧x≤kA k:=by simp only [fitZ,Bool.and_eq_true,decide_eq_true_eq]
theorem clamp_same (k x:Int):decide (clampK k x=x)=fitZ k x:=by
 obtain ⟨h0,_,h2,_,_⟩:=kfacts k
 rw [Bool.eq_iff_iff,decide_eq_true_eq,fitZ_iff]
 unfold clampK
 (repeat' split)<;>omega
end Go.Lg.Fld
namespace Go.Proofs.YtopiioklkkiedaaGreatDoor
open Go Go.Lg Go.Lg.Fld
set_option maxRecDepth 100000
variable (X:Nat→Option Obj)
theorem Clamp_bad (k:Int) (b:Bool) (N:Int) (hN:In2 N) (hf:formB b N=false):PSpec Tryz.prog X 108 [Ln .i64 k,LI b N] (.sv S0):=by
 refine cF Tryz.func108 rfl V5 rfl rfl ?_
 intro C
 (refine U8 ?_;refine kca O O (Least_spec X k)<|kmv O<|kca O O (Greatest_spec X k) ?_;refine U10 ?_;refine kca O O (Form_spec X b N hN false hf) ?_;refine U10 ?_)
 exact VF
theorem Clamp_spec (k x:Int) (hx:R127 x):PSpec Tryz.prog X 108 [Ln .i64 k,LQ x] (LQ (clampK k x)):=by
 have hF:=Form_spec X (decide (x<0)) (mg x) (mg_in2 hx) true (formB_q hx)
 have c1:=Cmp_q X x (-kB k) hx (kBn_R k)
 have c2:=Cmp_q X x (kA k) hx (kA_R k)
 have hL:=Least_spec X k
 have hG:=Greatest_spec X k
 have hk:=kfacts k
 refine cF Tryz.func108 rfl V5 rfl rfl ?_
 intro C
 by_cases h1:x < -kB k
 ·have e:clampK k x = -kB k:=if_pos h1
  rw [e]
  have c1':=c1 (-1) (by unfold cmpI;rw [if_pos h1])
  refine U41 ?_
  exact VF
 ·have c1':∃ r:Int,0≤r∧cmpI x (-kB k)=r:=⟨_,(by unfold cmpI;rw [if_neg h1];split<;>decide),rfl⟩
  obtain ⟨r,hr0,hr⟩:=c1'
  have c1':=c1 r hr
  by_cases h2:kA k<x
  ·have e:clampK k x=kA k:=by unfold clampK;rw [if_neg h1,if_pos h2]
   rw [e]
   have c2':=c2 1 (by unfold cmpI;rw [if_neg (show ¬ x<kA k by omega),if_pos h2])
   refine U50 ?_
   exact VF
  ·have e:clampK k x=x:=by unfold clampK;rw [if_neg h1,if_neg h2]
   rw [e]
   obtain ⟨s,hs0,hs⟩:∃ s:Int,s≤0∧cmpI x (kA k)=s:=⟨_,(by unfold cmpI;rw [if_neg h2];split<;>decide),rfl⟩
   have c2':=c2 s hs
   refine U51 ?_
   exact VF
def fitB (k:Int) (b:Bool) (N:Int):Bool:=kK k&&(formB b N&&fitZ k (zv b N))
theorem Fits_no (k:Int) (b:Bool) (N:Int) (hk:kK k=false):PSpec Tryz.prog X 71 [Ln .i64 k,LI b N] (Lb false):=by
 refine cF Tryz.func71 rfl V5 rfl rfl ?_
 intro C
 (refine U6 ?_;refine rgD mixed<|kmv O<|kca O O (isKind_spec X k false hk) ?_;refine U11 ?_)
 exact V6
theorem Fits_bad (k:Int) (b:Bool) (N:Int) (hk:kK k=true) (hN:In2 N) (hf:formB b N=false):PSpec Tryz.prog X 71 [Ln .i64 k,LI b N] (Lb false):=by
 have hC:=Clamp_bad X k b N hN hf
 have hq:(false==b&&((0:Int)==N/18446744073709551616&&(0:Int)==N%18446744073709551616))=false:=by
  cases hb:(false==b&&((0:Int)==N/18446744073709551616&&(0:Int)==N%18446744073709551616)) with
  | false=>rfl
  | true =>
   simp only [Bool.and_eq_true,beq_iff_eq] at hb
   obtain ⟨rfl,h1,h2⟩:=hb
   have:N=0:=by omega
   subst this
   cases hf
 refine cF Tryz.func71 rfl V5 rfl rfl ?_
 intro C
 (refine U6 ?_;refine rgD mixed<|kmv O<|kca O O (isKind_spec X k true hk) ?_;refine U5 ?_;refine bR O O O O V5 (eqI false hq) (.inl ⟨O,O⟩) (dT O O) ?_;refine U5 ?_)
 exact V6
theorem Fits_q (k x:Int) (hk:kK k=true) (hx:R127 x) (r:Bool) (hr:fitZ k x=r):PSpec Tryz.prog X 71 [Ln .i64 k,LQ x] (Lb r):=by
 have hC:=Clamp_spec X k x hx
 have hq:=clamp_same k x
 rw [hr] at hq
 refine cF Tryz.func71 rfl V5 rfl rfl ?_
 intro C
 (refine U6 ?_;refine rgD mixed<|kmv O<|kca O O (isKind_spec X k true hk) ?_;refine U5 ?_;refine bR O O O O V5 (eqQ _ _ r hq) (.inl ⟨O,O⟩) (dT O O) ?_;refine U5 ?_)
 exact V6
theorem Fits_spec (k:Int) (b:Bool) (N:Int) (hN:In2 N) (r:Bool) (hr:fitB k b N=r):PSpec Tryz.prog X 71 [Ln .i64 k,LI b N] (Lb r):=by
 subst hr
 unfold fitB
 cases hk:kK k with
 | false=>exact Fits_no X k b N hk
 | true =>
  cases hf:formB b N with
  | false=>exact Fits_bad X k b N hk hN hf
  | true =>
   rw [LI_q hN hf]
   exact Fits_q X k (zv b N) hk (zv_in hN hf).1 _ O
end Go.Proofs.YtopiioklkkiedaaGreatDoor
end
section
set_option maxHeartbeats 12800000
set_option maxRecDepth 100000
namespace Go.Lg.Fld
open Go Go.Lg
def kM (k:Int):Nat:=256^kW k
def wdK (k x:Int):Nat:=(x%(kM k:Int)).toNat
def nbK (k:Int) (v:Nat):Int:=if kA k<v then (v:Int)-(kM k:Int) else v
theorem kM_facts {k:Int} (h:kK k=true):kB k+kA k<(kM k:Int)∧(kM k:Int)≤18446744073709551616∧0<kM k:=by
 rcases kin h with rfl|rfl|rfl|rfl|rfl|rfl|rfl|rfl|rfl|rfl<;>decide
theorem wd_lt {k:Int} (h:kK k=true) (x:Int):wdK k x<256^kW k:=by
 have:=kM_facts h
 have h1:=Int.emod_nonneg x (show (kM k:Int)≠0 by omega)
 have h2:=Int.emod_lt_of_pos x (show 0<(kM k:Int) by omega)
 show wdK k x<kM k
 unfold wdK
 omega
theorem wd_of {k x:Int} (h:kK k=true) (hx:fitZ k x=true):(wdK k x:Int)=if x<0 then x+kM k else x:=by
 obtain ⟨h1,h2,h3⟩:=kM_facts h
 obtain ⟨f1,f2,f3,f4,_⟩:=kfacts k
 obtain ⟨x1,x2⟩:=(fitZ_iff k x).1 hx
 unfold wdK
 by_cases c:x<0
 ·rw [if_pos c]
  have e:x%(kM k:Int)=x+kM k:=by
   rw [← Int.add_emod_right]
   exact Int.emod_eq_of_lt V3 V3
  rw [e];omega
 ·rw [if_neg c,Int.emod_eq_of_lt V3 V3];omega
end Go.Lg.Fld
namespace Go.Proofs.YtopiioklkkiedaaGreatDoor
open Go Go.Lg Go.Lg.Fld
set_option maxRecDepth 100000
variable (X:Nat→Option Obj)
theorem fit_R {k x:Int} (h:fitZ k x=true):R127 x:=by
 have:=kfacts k
 rw [fitZ_iff] at h
 unfold R127;omega
theorem nb_R {k:Int} {v:Nat} (h:kK k=true) (hv:v<256^kW k):R127 (nbK k v):=by
 have:=kM_facts h
 have hv:v<kM k:=hv
 unfold R127 nbK
 split<;>omega
theorem opposite_1 (k:Int) (hk:kW k=1) (v:Int) (hv:0≤v∧v<18446744073709551616):PSpec Tryz.prog X 156 [Ln .i64 k,Ln .u64 v] (Ln .u64 ((-v)%((256^1:Nat):Int))):=by
 have hS:=fSize_spec X k
 rw [hk] at hS
 have p1:((2:Int)^(min (Int.toNat 56) IntKind.u64.bits))=72057594037927936:=by decide
 have p2:((256^1:Nat):Int)=256:=by decide
 rw [p2]
 have n1:IntKind.u64.wrap (0-v)=(0-v)%18446744073709551616:=by rw [IntKind.wrap_u64]
 have s1:IntKind.u64.wrap ((0-v)%18446744073709551616*(2:Int)^(min (Int.toNat 56) IntKind.u64.bits))=(0-v)%18446744073709551616*72057594037927936%18446744073709551616:=by rw [p1,IntKind.wrap_u64]
 have s2:((0-v)%18446744073709551616*72057594037927936%18446744073709551616).fdiv ((2:Int)^(min (Int.toNat 56) IntKind.u64.bits))=(-v)%256:=by
  rw [p1,Int.fdiv_eq_ediv_of_nonneg _ (by decide)]
  omega
 refine cF Tryz.func156 rfl V5 rfl rfl ?_
 intro C
 (refine U8 ?_;refine bL O O (c:=8) O dS<|bA O O (c:=56) O dS ?_;refine U5 ?_;refine K.neg O n1 dS<|kmv O<|K.shl O O VA s1 dS<|kmv O<|bO O O VA s2 dS ?_;refine U3 ?_)
 exact V6
theorem opposite_2 (k:Int) (hk:kW k=2) (v:Int) (hv:0≤v∧v<18446744073709551616):PSpec Tryz.prog X 156 [Ln .i64 k,Ln .u64 v] (Ln .u64 ((-v)%((256^2:Nat):Int))):=by
 have hS:=fSize_spec X k
 rw [hk] at hS
 have p1:((2:Int)^(min (Int.toNat 48) IntKind.u64.bits))=281474976710656:=by decide
 have p2:((256^2:Nat):Int)=65536:=by decide
 rw [p2]
 have n1:IntKind.u64.wrap (0-v)=(0-v)%18446744073709551616:=by rw [IntKind.wrap_u64]
 have s1:IntKind.u64.wrap ((0-v)%18446744073709551616*(2:Int)^(min (Int.toNat 48) IntKind.u64.bits))=(0-v)%18446744073709551616*281474976710656%18446744073709551616:=by rw [p1,IntKind.wrap_u64]
 have s2:((0-v)%18446744073709551616*281474976710656%18446744073709551616).fdiv ((2:Int)^(min (Int.toNat 48) IntKind.u64.bits))=(-v)%65536:=by
  rw [p1,Int.fdiv_eq_ediv_of_nonneg _ (by decide)]
  omega
 refine cF Tryz.func156 rfl V5 rfl rfl ?_
 intro C
 (refine U8 ?_;refine bL O O (c:=16) O dS<|bA O O (c:=48) O dS ?_;refine U5 ?_;refine K.neg O n1 dS<|kmv O<|K.shl O O VA s1 dS<|kmv O<|bO O O VA s2 dS ?_;refine U3 ?_)
 exact V6
theorem opposite_4 (k:Int) (hk:kW k=4) (v:Int) (hv:0≤v∧v<18446744073709551616):PSpec Tryz.prog X 156 [Ln .i64 k,Ln .u64 v] (Ln .u64 ((-v)%((256^4:Nat):Int))):=by
 have hS:=fSize_spec X k
 rw [hk] at hS
 have p1:((2:Int)^(min (Int.toNat 32) IntKind.u64.bits))=4294967296:=by decide
 have p2:((256^4:Nat):Int)=4294967296:=by decide
 rw [p2]
 have n1:IntKind.u64.wrap (0-v)=(0-v)%18446744073709551616:=by rw [IntKind.wrap_u64]
 have s1:IntKind.u64.wrap ((0-v)%18446744073709551616*(2:Int)^(min (Int.toNat 32) IntKind.u64.bits))=(0-v)%18446744073709551616*4294967296%18446744073709551616:=by rw [p1,IntKind.wrap_u64]
 have s2:((0-v)%18446744073709551616*4294967296%18446744073709551616).fdiv ((2:Int)^(min (Int.toNat 32) IntKind.u64.bits))=(-v)%4294967296:=by
  rw [p1,Int.fdiv_eq_ediv_of_nonneg _ (by decide)]
  omega
 refine cF Tryz.func156 rfl V5 rfl rfl ?_
 intro C
 (refine U8 ?_;refine bL O O (c:=32) O dS<|bA O O (c:=32) O dS ?_;refine U5 ?_;refine K.neg O n1 dS<|kmv O<|K.shl O O VA s1 dS<|kmv O<|bO O O VA s2 dS ?_;refine U3 ?_)
 exact V6
theorem opposite_8 (k:Int) (hk:kW k=8) (v:Int) (hv:0≤v∧v<18446744073709551616):PSpec Tryz.prog X 156 [Ln .i64 k,Ln .u64 v] (Ln .u64 ((-v)%((256^8:Nat):Int))):=by
 have hS:=fSize_spec X k
 rw [hk] at hS
 have p1:((2:Int)^(min (Int.toNat 0) IntKind.u64.bits))=1:=by decide
 have p2:((256^8:Nat):Int)=18446744073709551616:=by decide
 rw [p2]
 have n1:IntKind.u64.wrap (0-v)=(0-v)%18446744073709551616:=by rw [IntKind.wrap_u64]
 have s1:IntKind.u64.wrap ((0-v)%18446744073709551616*(2:Int)^(min (Int.toNat 0) IntKind.u64.bits))=(0-v)%18446744073709551616*1%18446744073709551616:=by rw [p1,IntKind.wrap_u64]
 have s2:((0-v)%18446744073709551616*1%18446744073709551616).fdiv ((2:Int)^(min (Int.toNat 0) IntKind.u64.bits))=(-v)%18446744073709551616:=by
  rw [p1,Int.fdiv_eq_ediv_of_nonneg _ (by decide)]
  omega
 refine cF Tryz.func156 rfl V5 rfl rfl ?_
 intro C
 (refine U8 ?_;refine bL O O (c:=64) O dS<|bA O O (c:=0) O dS ?_;refine U5 ?_;refine K.neg O n1 dS<|kmv O<|K.shl O O VA s1 dS<|kmv O<|bO O O VA s2 dS ?_;refine U3 ?_)
 exact V6
theorem opposite_spec (k:Int) (hk:kK k=true) (v:Int) (hv:0≤v∧v<18446744073709551616) (r:Int) (hr:(-v)%(kM k:Int)=r):PSpec Tryz.prog X 156 [Ln .i64 k,Ln .u64 v] (Ln .u64 r):=by
 subst hr
 unfold kM
 rcases kW_in hk with e|e|e|e
 ·rw [e];exact opposite_1 X k e v hv
 ·rw [e];exact opposite_2 X k e v hv
 ·rw [e];exact opposite_4 X k e v hv
 ·rw [e];exact opposite_8 X k e v hv
theorem wordOf_spec (k x:Int) (hk:kK k=true) (hx:fitZ k x=true):PSpec Tryz.prog X 124 [Ln .i64 k,LQ x] (Ln .u64 (wdK k x:Nat)):=by
 obtain ⟨h1,h2,h3⟩:=kM_facts hk
 obtain ⟨f1,f2,f3,f4,_⟩:=kfacts k
 obtain ⟨x1,x2⟩:=(fitZ_iff k x).1 hx
 have e:=wd_of hk hx
 refine cF Tryz.func124 rfl V5 rfl rfl ?_
 intro C
 by_cases c:x<0
 ·have hm:mg x%18446744073709551616 = -x:=by rw [mg_neg c];omega
  have hO:=opposite_spec X k hk (-x) V3 (wdK k x:Nat) (by
   rw [if_pos c] at e
   rw [e,Int.neg_neg,← Int.add_emod_right]
   exact Int.emod_eq_of_lt V3 V3)
  unfold LQ LI
  rw [hm,cP c]
  refine U21 ?_
  exact V6
 ·have hm:mg x%18446744073709551616=x:=by rw [mg_pos V3];omega
  rw [if_neg c] at e
  rw [e]
  unfold LQ LI
  rw [hm,cO c]
  refine U20 ?_
  exact V6
theorem numberOf_spec (k:Int) (v:Nat) (hk:kK k=true) (hv:v<256^kW k):PSpec Tryz.prog X 119 [Ln .i64 k,Ln .u64 (v:Nat)] (LQ (nbK k v)):=by
 obtain ⟨h1,h2,h3⟩:=kM_facts hk
 obtain ⟨f1,f2,f3,f4,_⟩:=kfacts k
 have hv':v<kM k:=hv
 refine cF Tryz.func119 rfl V5 rfl rfl ?_
 intro C
 by_cases c:kA k<v
 ·have hO:=opposite_spec X k hk v V3 ((kM k:Int)-v) (by
   rw [← Int.add_emod_right]
   rw [Int.emod_eq_of_lt (by omega) (by omega)];omega)
  have hW:=OfWord_q X ((kM k:Int)-v) V3
  have hN:=Neg_q X ((kM k:Int)-v) V2A
  have e:nbK k v = -((kM k:Int)-v):=by unfold nbK;rw [if_pos c];omega
  rw [e]
  (refine U9 ?_;refine kca O O (shapeOf_spec X k)<|K.fieldOne O Tryz.underlying245 O V5 O dS ?_;refine U13 ?_)
  exact VF
 ·have hW:=OfWord_q X (v:Int) V3
  have e:nbK k v=v:=by unfold nbK;rw [if_neg c]
  rw [e]
  (refine U9 ?_;refine kca O O (shapeOf_spec X k)<|K.fieldOne O Tryz.underlying245 O V5 O dS ?_;refine U11 ?_)
  exact VF
theorem WNum_k (k:Int) (hk:kK k=true) (n:Nat) (h:n<256^kW k):MSpec Tryz.prog X 123 [Lp 1000000,Ln .i64 (kW k:Nat),Ln .u64 (n:Nat)] (w0 1000000) (Lb true) (w1 1000000 1000001 1000002 (leB (kW k) n)):=by
 have hn:n<18446744073709551616:=by
  have:=(kM_facts hk).2.1
  have h:n<kM k:=h
  omega
 rcases kW_in hk with e|e|e|e<;>rw [e] at h ⊢
 ·exact WNum_0_1 X n hn h
 ·exact WNum_0_2 X n hn h
 ·exact WNum_0_4 X n hn h
 ·exact WNum_0_8 X n hn h
theorem Put_q (k x:Int) (hk:kK k=true) (hx:fitZ k x=true):PSpec Tryz.prog X 83 [Ln .i64 k,LQ x] (.tup [Ss (leB (kW k) (wdK k x)),Sn .i64 0]):=by
 have hF:=Fits_q X k x hk (fit_R hx) true hx
 have hW:=wordOf_spec X k x hk hx
 have hN:=WNum_k X k hk (wdK k x) (wd_lt hk x)
 have hS:=fSize_spec X k
 refine cF Tryz.func83 rfl V5 rfl rfl ?_
 intro C
 (refine U10 ?_;refine kca O O (isKind_spec X k true hk) ?_;refine U21 ?_;refine rgD mixed ?_;refine U6 ?_;refine aU [(1000000,15),(1000001,501),(1000002,502)] (w1 15 501 502 (leB (kW k) (wdK k x))) (hN) O O V17 V16 O O O O (by exact (.box O O (.box O O (.box O (Box.ren_bytes _ _ _ _) .nil)))) dS ?_;refine U5 ?_;refine K.callR [(1000000,15),(1000001,501),(1000002,502)] (String_1 X (leB (kW k) (wdK k x))) O O VD VB O O O O dS ?_;refine U4 ?_)
 exact V1E
end Go.Proofs.YtopiioklkkiedaaGreatDoor
end
section
set_option maxHeartbeats 12800000
set_option maxRecDepth 100000
namespace Go.Lg.Fld
open Go Go.Lg
end Go.Lg.Fld
namespace Go.Proofs.YtopiioklkkiedaaGreatDoor
open Go Go.Lg Go.Lg.Fld
set_option maxRecDepth 100000
variable (X:Nat→Option Obj)
theorem isW_k {k:Int} (h:kK k=true):isW (kW k:Nat)=true:=by
 rcases kW_in h with e|e|e|e<;>rw [e]<;>rfl
theorem Get_q (k:Int) (l:List UInt8) (hk:kK k=true) (hn:l.length=kW k):PSpec Tryz.prog X 80 [Ln .i64 k,Ls l] (if fitZ k (nbK k (le l))=true then .tup [SQ (nbK k (le l)),Sn .i64 0] else .tup [S0,Sn .i64 4]):=by
 have hS:=fSize_spec X k
 have hw:=isW_k hk
 have hR:=Read_spec X l
 have hk8:=(kfacts k).2.2.2.2
 have hN:=Num_ok X l (kW k) hw V3 V3
 rw [List.take_of_length_le (by omega),List.drop_of_length_le (by omega)] at hN
 have hb:=le_lt l
 rw [hn] at hb
 have hO:=numberOf_spec X k (le l) hk hb
 have hR':=nb_R hk hb
 have hD:MSpec Tryz.prog X 121 [Lp 1000000] (rd 1000000 [] false) (Lb true) (rd 1000000 [] false):=Done_spec X [] false true rfl
 have hF:=Fits_q X k (nbK k (le l)) hk hR' _ rfl
 generalize nbK k (le l)=z at *
 generalize le l=n at *
 cases hf:fitZ k z with
 | true =>
  rw [hf] at hF
  rw [if_pos rfl]
  refine cF Tryz.func80 rfl V5 rfl rfl ?_
  intro C
  (refine U9 ?_;refine kca O O (isKind_spec X k true hk) ?_;refine U7 ?_;refine bE [(1000001,501)] (Lp 501) (rd 501 l false) (hR) O O VC O O O O O V19 dS ?_;refine U8 ?_;refine aU [(1000000,501)] (rd 501 [] false) (hN) O O V17 V16 O O O O V19 dS ?_;refine U8 ?_;refine K.callR [(1000000,501)] (hD) O O V17 V16 O O O O dS ?_;refine U17 ?_)
  exact V4
 | false =>
  rw [hf] at hF
  rw [if_neg (by simp)]
  refine cF Tryz.func80 rfl V5 rfl rfl ?_
  intro C
  (refine U9 ?_;refine kca O O (isKind_spec X k true hk) ?_;refine U7 ?_;refine bE [(1000001,501)] (Lp 501) (rd 501 l false) (hR) O O VC O O O O O V19 dS ?_;refine U8 ?_;refine aU [(1000000,501)] (rd 501 [] false) (hN) O O V17 V16 O O O O V19 dS ?_;refine U8 ?_;refine K.callR [(1000000,501)] (hD) O O V17 V16 O O O O dS ?_;refine U16 ?_)
  exact V4
end Go.Proofs.YtopiioklkkiedaaGreatDoor
end
section
set_option maxHeartbeats 12800000
set_option maxRecDepth 100000
namespace Go.Proofs.YtopiioklkkiedaaGreatDoor
open Go Go.Lg Go.Lg.Fld
set_option maxRecDepth 100000
variable (X:Nat→Option Obj)
abbrev cI (b:Bool) (n:Int):List CV:=[.val (.bool b),.val (.int .u64 (n/18446744073709551616)),.val (.int .u64 (n%18446744073709551616))]
abbrev cQ (z:Int):List CV:=[.val (.bool (decide (z<0))),.val (.int .u64 (mg z/18446744073709551616)),.val (.int .u64 (mg z%18446744073709551616))]
end Go.Proofs.YtopiioklkkiedaaGreatDoor
end
section
namespace Go.Lg.Dig
open Go Go.Lg
def dg (n j:Nat):Nat:=n/256^j%256
def dv (d:Nat):CV:=.val (.int .i64 (d:Nat))
def dlf (f:Nat→Nat):List Nat:=(List.range 40).map f
def num (b:Bool) (f:Nat→Nat):List CV:=.val (.bool b)::(dlf f).map dv
theorem dlf_congr {f g:Nat→Nat} (h:∀ j,j<40→f j=g j):dlf f=dlf g:=by
 unfold dlf
 exact List.map_congr_left fun j hj=>h j (List.mem_range.1 hj)
theorem num_congr {b:Bool} {f g:Nat→Nat} (h:∀ j,j<40→f j=g j):num b f=num b g:=by
 unfold num
 rw [dlf_congr h]
theorem num_at {b:Bool} {f:Nat→Nat} {i:Nat} (hi:i<40):(num b f)[1+i*1]? = some (dv (f i)):=by
 rw [Nat.mul_one,Nat.add_comm]
 simp [num,dlf,hi]
theorem num_set {b:Bool} {f:Nat→Nat} {i d:Nat} (hi:i<40):(num b f).set (1+i*1) (dv d)=num b (fun j=>if j=i then d else f j):=by
 rw [Nat.mul_one,Nat.add_comm]
 unfold num
 rw [List.set_cons_succ]
 congr 1
 apply List.ext_getElem?
 intro j
 rw [List.getElem?_set]
 by_cases h:i=j
 ·subst h
  simp [dlf,hi]
 ·rw [if_neg h]
  by_cases hj:j<40
  ·simp [dlf,hj,show ¬ j=i from fun e=>h e.symm]
  ·simp [dlf,hj]
theorem num_sign {b c:Bool} {f:Nat→Nat}:(num b f).set 0 (.val (.bool c))=num c f:=rfl
theorem dg_lt (n j:Nat):dg n j<256:=Nat.mod_lt _ (by decide)
theorem pow_pos (j:Nat):0<256^j:=Nat.pow_pos (by decide)
theorem dg_high {n j:Nat} (h:n<256^j):dg n j=0:=by
 unfold dg
 rw [Nat.div_eq_of_lt h]
theorem dg_zero (j:Nat):dg 0 j=0:=by
 unfold dg
 rw [Nat.zero_div]
theorem mod_next (n i:Nat):n%256^(i+1)=n%256^i+dg n i*256^i:=by
 unfold dg
 rw [Nat.pow_succ,Nat.mod_mul,Nat.mul_comm (256^i)]
theorem div_next (n i:Nat):n/256^i=n/256^(i+1)*256+dg n i:=by
 unfold dg
 rw [Nat.pow_succ,← Nat.div_div_eq_div_mul]
 omega
theorem pow40:256^40=2135987035920910082395021706169552114602704522356652769947041607822219725780640550022962086936576:=by decide
end Go.Lg.Dig
namespace Go.Lg.Dig
open Go Go.Lg
theorem num_length {b:Bool} {f:Nat→Nat}:(num b f).length=41:=by simp [num,dlf]
theorem num_blt {b:Bool} {f:Nat→Nat} {i:Nat} (hi:i<40):Nat.blt (1+i*1) (num b f).length=true:=by
 rw [num_length,Nat.blt_eq]
 omega
theorem div_div (n i:Nat):n/256^i/256=n/256^(i+1):=by rw [Nat.pow_succ,Nat.div_div_eq_div_mul]
end Go.Lg.Dig
namespace Go.Lg.Dig
def bor (M N i:Nat):Nat:=if M%256^i<N%256^i then 1 else 0
def car (M N i:Nat):Nat:=(M%256^i+N%256^i)/256^i
theorem bor_le (M N i:Nat):bor M N i≤1:=by unfold bor;split<;>omega
theorem sub_div {M N i:Nat} (h:N≤M):(M-N)/256^i=M/256^i-N/256^i-bor M N i∧N/256^i+bor M N i≤M/256^i:=by
 have hp:=pow_pos i
 have e1:=Nat.div_add_mod M (256^i)
 have e2:=Nat.div_add_mod N (256^i)
 have m1:=Nat.mod_lt M hp
 have m2:=Nat.mod_lt N hp
 unfold bor
 generalize 256^i=p at *
 have hle:N/p≤M/p:=Nat.div_le_div_right h
 generalize M/p=A at *
 generalize N/p=B at *
 generalize M%p=m at *
 generalize N%p=n at *
 by_cases c:m<n
 ·rw [if_pos c]
  have hlt:B+1≤A:=by
   by_cases e:A=B
   ·subst e;omega
   ·omega
  refine ⟨Nat.div_eq_of_lt_le ?_ ?_,hlt⟩
  ·obtain ⟨k,rfl⟩:∃ k,A=B+1+k:=⟨A-(B+1),by omega⟩
   rw [show B+1+k-B-1=k by omega,Nat.mul_comm k]
   rw [Nat.mul_add,Nat.mul_add] at e1
   omega
  ·obtain ⟨k,rfl⟩:∃ k,A=B+1+k:=⟨A-(B+1),by omega⟩
   rw [show B+1+k-B-1+1=k+1 by omega,Nat.mul_comm (k+1),Nat.mul_add]
   rw [Nat.mul_add,Nat.mul_add] at e1
   omega
 ·rw [if_neg c]
  refine ⟨Nat.div_eq_of_lt_le ?_ ?_,by omega⟩
  ·obtain ⟨k,rfl⟩:∃ k,A=B+k:=⟨A-B,by omega⟩
   rw [show B+k-B-0=k by omega,Nat.mul_comm k]
   rw [Nat.mul_add] at e1
   omega
  ·obtain ⟨k,rfl⟩:∃ k,A=B+k:=⟨A-B,by omega⟩
   rw [show B+k-B-0+1=k+1 by omega,Nat.mul_comm (k+1),Nat.mul_add]
   rw [Nat.mul_add] at e1
   omega
theorem bor_next (M N i:Nat):bor M N (i+1)=if dg M i<dg N i+bor M N i then 1 else 0:=by
 have hp:=pow_pos i
 have m1:=Nat.mod_lt M hp
 have m2:=Nat.mod_lt N hp
 unfold bor
 rw [mod_next,mod_next]
 generalize 256^i=p at *
 generalize M%p=m at *
 generalize N%p=n at *
 generalize dg M i=a
 generalize dg N i=b
 rcases Nat.lt_trichotomy a b with h|h|h
 ·obtain ⟨k,rfl⟩:∃ k,b=a+1+k:=⟨b-(a+1),by omega⟩
  rw [if_pos (by rw [Nat.add_mul,Nat.add_mul];omega),if_pos (by omega)]
 ·subst h
  by_cases c:m<n
  ·rw [if_pos (by omega),if_pos c,if_pos (by omega)]
  ·rw [if_neg (by omega),if_neg c,if_neg (by omega)]
 ·obtain ⟨k,rfl⟩:∃ k,a=b+1+k:=⟨a-(b+1),by omega⟩
  rw [if_neg (by rw [Nat.add_mul,Nat.add_mul];omega),if_neg (by split<;>omega)]
theorem sub_digit {M N i:Nat} (h:N≤M):
  (dg M i<dg N i+bor M N i→dg (M-N) i+dg N i+bor M N i=dg M i+256)∧(dg N i+bor M N i≤dg M i→dg (M-N) i+dg N i+bor M N i=dg M i):=by
 obtain ⟨e,hle⟩:=sub_div (i:=i) h
 have hb:=bor_le M N i
 unfold dg
 rw [e]
 generalize M/256^i=A at *
 generalize N/256^i=B at *
 generalize bor M N i=c at *
 omega
theorem add_div (M N i:Nat):(M+N)/256^i=M/256^i+N/256^i+car M N i:=by
 have hp:=pow_pos i
 have e1:=Nat.div_add_mod M (256^i)
 have e2:=Nat.div_add_mod N (256^i)
 unfold car
 generalize 256^i=p at *
 conv=>lhs;rw [← e1,← e2]
 rw [show p*(M/p)+M%p+(p*(N/p)+N%p)=(M%p+N%p)+p*(M/p+N/p) by rw [Nat.mul_add];omega,Nat.add_mul_div_left _ _ hp]
 omega
theorem car_next (M N i:Nat):car M N (i+1)=(dg M i+dg N i+car M N i)/256:=by
 have h1:=add_div M N i
 have h2:=add_div M N (i+1)
 have d1:=div_next M i
 have d2:=div_next N i
 have d3:=div_div (M+N) i
 have l1:=dg_lt M i
 have l2:=dg_lt N i
 omega
theorem add_digit (M N i:Nat):dg (M+N) i=(dg M i+dg N i+car M N i)%256:=by
 have h1:=add_div M N i
 unfold dg
 rw [h1]
 omega
theorem car_le (M N i:Nat):car M N i≤1:=by
 have hp:=pow_pos i
 have m1:=Nat.mod_lt M hp
 have m2:=Nat.mod_lt N hp
 unfold car
 generalize 256^i=p at *
 have:(M%p+N%p)/p<2:=by rw [Nat.div_lt_iff_lt_mul hp];omega
 omega
theorem lt_digit {M N i:Nat} (h:M/256^(i+1)=N/256^(i+1)) (hd:dg M i<dg N i):M<N:=by
 have d1:=div_next M i
 have d2:=div_next N i
 rcases Nat.lt_or_ge M N with c|c
 ·exact c
 ·have:=Nat.div_le_div_right (c:=256^i) c
  omega
end Go.Lg.Dig
namespace Go.Lg.Dig
theorem dg_mod {n i k:Nat} (h:i<k):dg (n%256^k) i=dg n i:=by
 obtain ⟨t,rfl⟩:∃ t,k=i+1+t:=⟨k-(i+1),by omega⟩
 unfold dg
 rw [Nat.pow_add,Nat.pow_succ,Nat.mul_assoc,Nat.mod_mul_right_div_self,Nat.mod_mul_right_mod]
theorem dg_shift (n k i:Nat):dg n (k+i)=dg (n/256^k) i:=by
 unfold dg
 rw [Nat.pow_add,Nat.div_div_eq_div_mul]
theorem top_zero {n k:Nat} (h:n<256^(k+1)) (hd:dg n k=0):n<256^k:=by
 have hp:=pow_pos k
 unfold dg at hd
 rw [Nat.pow_succ] at h
 have:n/256^k<256:=by rw [Nat.div_lt_iff_lt_mul hp];rw [Nat.mul_comm];exact h
 have key:∀ q:Nat,q<256→q%256=0→q=0:=by omega
 exact (Nat.div_eq_zero_iff_lt hp).1 (key _ this hd)
theorem all_zero {n k:Nat}:∀ t,n<256^(k+t)→(∀ j,k≤j→j<k+t→dg n j=0)→n<256^k
 | 0,h,_=>h
 | t+1,h,hz=>all_zero t (top_zero h (hz (k+t) (by omega) (by omega))) fun j h1 h2=>hz j h1 (by omega)
end Go.Lg.Dig
namespace Go.Lg.Dig
open Go Go.Lg
theorem dg_add_mul {T y k x:Nat} (h:x<k):dg (T+y*256^k) x=dg T x:=by
 rw [← dg_mod h,Nat.add_mul_mod_self_right,dg_mod h]
def mix (T S k x:Nat):Nat:=if x<k then dg T x else dg S x
theorem mix_step (s:Bool) {T S k y:Nat} {d:Nat} (hd:d=dg (T+y*256^k) k):
  num s (fun x=>if x=k then d else mix T S k x)=num s (mix (T+y*256^k) S (k+1)):=num_congr fun x _=>by
 unfold mix
 by_cases c:x=k
 ·subst c
  rw [if_pos rfl,if_pos (by omega),hd]
 ·rw [if_neg c]
  by_cases c2:x<k
  ·rw [if_pos c2,if_pos (by omega),dg_add_mul c2]
  ·rw [if_neg c2,if_neg (by omega)]
theorem mix_all (s:Bool) {T S k:Nat} (h:T/256^k=S/256^k):num s (mix T S k)=num s (dg T):=num_congr fun x _=>by
 unfold mix
 by_cases c:x<k
 ·rw [if_pos c]
 ·obtain ⟨y,rfl⟩:∃ y,x=k+y:=⟨x-k,by omega⟩
  rw [if_neg c,dg_shift,dg_shift,h]
theorem mul_step {T S k y c:Nat} (hST:S≤T) (hc:c=T/256^k-S/256^k):
  (dg S k+c+y)%256=dg (T+y*256^k) k∧(dg S k+c+y)/256=(T+y*256^k)/256^(k+1)-S/256^(k+1):=by
 have hp:=pow_pos k
 have h1:(T+y*256^k)/256^k=T/256^k+y:=by rw [Nat.add_mul_div_right _ _ hp]
 have h2:=div_next S k
 have h3:=div_div (T+y*256^k) k
 have hle:S/256^k≤T/256^k:=Nat.div_le_div_right hST
 have h4:dg (T+y*256^k) k=(T+y*256^k)/256^k%256:=rfl
 rw [h4,← h3,h1]
 generalize T/256^k=A at *
 generalize S/256^k=B at *
 generalize S/256^(k+1)=C at *
 generalize dg S k=D at *
 omega
theorem dg_mid {C t i x:Nat} (ht:t<256):dg (C*256^(i+1)+t*256^i) x=if x<i then 0 else if x=i then t else dg C (x-(i+1)):=by
 have hp:=pow_pos i
 have e:C*256^(i+1)+t*256^i=0+(C*256+t)*256^i:=by rw [Nat.pow_succ,Nat.add_mul,Nat.mul_assoc,Nat.mul_comm 256,Nat.zero_add]
 by_cases c:x<i
 ·rw [if_pos c,e,dg_add_mul c,dg_zero]
 ·rw [if_neg c]
  obtain ⟨y,rfl⟩:∃ y,x=i+y:=⟨x-i,by omega⟩
  rw [dg_shift,e,Nat.zero_add,Nat.mul_div_cancel _ hp]
  by_cases c2:i+y=i
  ·have:y=0:=by omega
   subst this
   rw [if_pos c2]
   unfold dg
   rw [Nat.pow_zero,Nat.div_one]
   omega
  ·rw [if_neg c2]
   obtain ⟨z,rfl⟩:∃ z,y=1+z:=⟨y-1,by omega⟩
   rw [dg_shift,show i+(1+z)-(i+1)=z by omega]
   congr 1
   rw [Nat.pow_one]
   omega
end Go.Lg.Dig
namespace Go.Lg.Dig
open Go Go.Lg
theorem num_blt0 {b:Bool} {f:Nat→Nat}:Nat.blt 0 (num b f).length=true:=by rw [num_length];rfl
def shf (R t x:Nat):Nat:=if t<x then dg R (x-1) else dg R x
theorem shf_start (s:Bool) (R:Nat):num s (shf R 39)=num s (dg R):=num_congr fun x hx=>by unfold shf;rw [if_neg (by omega)]
theorem shf_step (s:Bool) (R t:Nat):num s (fun x=>if x=t+1 then dg R t else shf R (t+1) x)=num s (shf R t):=num_congr fun x _=>by
 unfold shf
 by_cases c:x=t+1
 ·subst c
  rw [if_pos rfl,if_pos (by omega),show t+1-1=t by omega]
 ·rw [if_neg c]
  simp only [show (t+1<x↔t<x) by omega]
theorem shf_end (s:Bool) (R d:Nat) (hd:d<256):num s (fun x=>if x=0 then d else shf R 0 x)=num s (dg (R*256+d)):=num_congr fun x _=>by
 unfold shf
 cases x with
 | zero =>
  rw [if_pos rfl]
  unfold dg
  rw [Nat.pow_zero,Nat.div_one]
  omega
 | succ y =>
  rw [if_neg (by omega),if_pos (by omega),Nat.add_comm y 1,dg_shift,show 1+y-1=y by omega,Nat.pow_one,show (R*256+d)/256=R by omega]
theorem mid_step (s:Bool) {C t i:Nat} (ht:t+1<256):num s (fun x=>if x=i then t+1 else dg (C*256^(i+1)+t*256^i) x)=num s (dg (C*256^(i+1)+(t+1)*256^i)):=num_congr fun x _=>by
 rw [dg_mid (by omega),dg_mid ht]
 by_cases c:x=i
 ·rw [if_pos c,if_neg (by omega),if_pos c]
 ·rw [if_neg c]
  by_cases c2:x<i
  ·rw [if_pos c2,if_pos c2]
  ·rw [if_neg c2,if_neg c2,if_neg c,if_neg c]
theorem mid_at {C t i:Nat} (ht:t<256):dg (C*256^(i+1)+t*256^i) i=t:=by rw [dg_mid ht,if_neg (by omega),if_pos rfl]
theorem quo_step {A B i t V:Nat} (hB:0<B) (h:V+t*B=A/256^(i+1)%B*256+dg A i) (hV:V<B):
  A/256^i/B*256^i=A/256^(i+1)/B*256^(i+1)+t*256^i∧A/256^i%B=V:=by
 have e1:=div_next A i
 have e2:=Nat.div_add_mod (A/256^(i+1)) B
 have e3:A/256^i=V+B*(A/256^(i+1)/B*256+t):=by
  rw [e1,Nat.mul_add,Nat.mul_comm B t,← Nat.mul_assoc]
  generalize B*(A/256^(i+1)/B)=x at *
  omega
 constructor
 ·rw [e3,Nat.add_mul_div_left _ _ hB,Nat.div_eq_of_lt hV,Nat.zero_add,Nat.add_mul,Nat.pow_succ,Nat.mul_assoc,Nat.mul_comm 256]
 ·rw [e3,Nat.add_mul_mod_self_left,Nat.mod_eq_of_lt hV]
end Go.Lg.Dig
end
section
set_option maxHeartbeats 12800000
set_option maxRecDepth 100000
namespace Go.Proofs.YtopiioklkkiedaaGreatDoor
open Go Go.Lg Go.Lg.Arith Go.Lg.Dig Go.RowKit
variable (X:Nat→Option Obj)
abbrev LN (b:Bool) (f:Nat→Nat):LV:=.sv (.agg (num b f))
abbrev SN (b:Bool) (f:Nat→Nat):SV:=.agg (num b f)
def two (l h i:Nat) (j:Nat):Nat:=if j<i then dg l j else if 8≤j∧j<8+i then dg h (j-8) else 0
theorem two_dg {l h:Nat} (hl:l<18446744073709551616) (hh:h<18446744073709551616) (j:Nat):two l h 8 j=dg (h*18446744073709551616+l) j:=by
 have e64:18446744073709551616=256^8:=by decide
 unfold two dg
 by_cases h1:j<8
 ·rw [if_pos h1]
  obtain ⟨k,hk⟩:∃ k,8=j+1+k:=⟨7-j,by omega⟩
  have hp:=pow_pos j
  rw [e64,hk,Nat.pow_add,Nat.pow_succ]
  generalize 256^k=q
  generalize 256^j=p at *
  rw [show h*(p*256*q)+l=l+p*(256*(q*h)) by rw [Nat.mul_comm h,Nat.mul_assoc,Nat.mul_assoc,Nat.add_comm],Nat.add_mul_div_left _ _ hp]
  omega
 ·rw [if_neg h1]
  obtain ⟨k,rfl⟩:∃ k,j=8+k:=⟨j-8,by omega⟩
  have e:(h*18446744073709551616+l)/256^(8+k)=h/256^k:=by
   rw [Nat.pow_add,← e64,← Nat.div_div_eq_div_mul]
   congr 1
   omega
  rw [e]
  by_cases h2:8+k<16
  ·rw [if_pos ⟨by omega,by omega⟩,show 8+k-8=k by omega]
  ·rw [if_neg V3]
   have:h<256^k:=Nat.lt_of_lt_of_le hh (by rw [e64];exact Nat.pow_le_pow_right VA V3)
   rw [Nat.div_eq_of_lt this]
theorem From_raw (b:Bool) (h l:Nat) (hh:h<18446744073709551616) (hl:l<18446744073709551616):
  PSpec Tryz.prog X 114 [Li b (h:Nat) (l:Nat)] (LN b (two l h 8)):=by
 refine cF Tryz.func114 rfl V5 rfl V5 ?_
 intro C
 refine U31 ?_
 refine cL (fun m σ=>∃ i:Nat,i≤8∧m=8-i∧σ=⟨[(2,.sv (.one (.ptr 2 0))),(3,.sv (.one (.ptr 3 0))),(4,Ln .u64 ((h/256^i:Nat):Int)),(5,Ln .u64 ((l/256^i:Nat):Int)),(6,Ln .i64 (i:Nat))],[(2,some { elem:=202,cells:=num false (fun _=>0) }),(3,some { elem:=202,cells:=num b (two l h i) })],X⟩) 8
  ⟨_,Le.of (by exact ⟨rfl,rfl,by rw [Nat.pow_zero,Nat.div_one];rfl,by rw [Nat.pow_zero,Nat.div_one];rfl,rfl,trivial⟩) VE V2 V2 V2,0,by omega,rfl,rfl⟩ ?_
 rintro m σ ⟨i,hi,rfl,rfl⟩
 by_cases h8:i<8
 ·have bl:l/256^i≤l:=Nat.div_le_self _ _
  have bh:h/256^i≤h:=Nat.div_le_self _ _
  have el:dg l i=l/256^i%256:=rfl
  have eh:dg h i=h/256^i%256:=rfl
  have nl:=div_div l i
  have nh:=div_div h i
  have step:num b (fun j=>if j=8+i then dg h i else if j=i then dg l i else two l h i j)=num b (two l h (i+1)):=by
   refine num_congr fun j _ => ?_
   unfold two
   by_cases c1:j=i
   ·subst c1
    rw [if_neg (by omega),if_pos rfl,if_pos (by omega)]
   ·by_cases c2:j=8+i
    ·subst c2
     rw [if_pos rfl,if_neg (by omega),if_pos ⟨by omega,by omega⟩,show 8+i-8=i by omega]
    ·rw [if_neg c2,if_neg c1]
     simp only [show (j<i+1↔j<i) by omega,show (8≤j∧j<8+(i+1)↔8≤j∧j<8+i) by omega]
  generalize hu':l/256^(i+1)=u' at *
  generalize hv':h/256^(i+1)=v' at *
  generalize l/256^i=u at *
  generalize h/256^i=v at *
  have wl:IntKind.i64.wrap ((u:Int)%256)=((dg l i:Nat):Int):=by rw [cH V3];omega
  have wh:IntKind.i64.wrap ((v:Int)%256)=((dg h i:Nat):Int):=by rw [cH V3];omega
  have ql:IntKind.u64.wrap ((u:Int).tdiv 256)=(u':Int):=by rw [quo_u64 V3 V3];omega
  have qh:IntKind.u64.wrap ((v:Int).tdiv 256)=(v':Int):=by rw [quo_u64 V3 V3];omega
  (refine U14 ?_;refine K.rem O O V3 (rem_pos V3) dS<|kcv O wl ?_;refine U2 ?_;refine bG O O O O (num_blt (i:=i) V3) (num_set (i:=i) (d:=dg l i) V3) dS ?_;refine U6 ?_;refine K.rem O O V3 (rem_pos V3) dS<|kcv O wh ?_;refine U2 ?_;refine bG O O O O (num_blt (i:=8+i) V3) (num_set (i:=8+i) (d:=dg h i) V3) dS ?_;refine U4 ?_;refine K.quo O O V3 ql dS ?_;refine U4 ?_;refine K.quo O O V3 qh dS ?_;refine U7 ?_)
  exact ⟨_,_,by omega,Le.of (by exact ⟨rfl,rfl,by rw [hv'];rfl,by rw [hu'];rfl,rfl,trivial⟩) (by exact ⟨rfl,by rw [← step];rfl,trivial⟩) V2 V2 V2,i+1,by omega,rfl,rfl⟩
 ·have e:i=8:=by omega
  subst e
  refine U14 ?_
  exact VF
end Go.Proofs.YtopiioklkkiedaaGreatDoor
end
section
set_option maxHeartbeats 12800000
set_option maxRecDepth 100000
namespace Go.Proofs.YtopiioklkkiedaaGreatDoor
open Go Go.Lg Go.Lg.Arith Go.Lg.Dig Go.RowKit
variable (X:Nat→Option Obj)
theorem From_spec (b:Bool) (n:Nat) (hn:n<340282366920938463463374607431768211456):PSpec Tryz.prog X 114 [LI b (n:Nat)] (LN b (dg n)):=by
 have h:=From_raw X b (n/18446744073709551616) (n%18446744073709551616) V3 V3
 have e:num b (two (n%18446744073709551616) (n/18446744073709551616) 8)=num b (dg n):=num_congr fun j _=>by
  rw [two_dg (by omega) (by omega),show n/18446744073709551616*18446744073709551616+n%18446744073709551616=n by omega]
 unfold LN at h ⊢
 rw [e] at h
 exact h
abbrev T40:Nat:=256^40
theorem cmp_facts_0 (x y:Int):∃ r,cmpI x y=r∧(x<y→r = -1)∧(x=y→r=0)∧(y<x→r=1):=by
 refine ⟨_,rfl,?_,?_,?_⟩<;>intro h<;>unfold cmpI
 ·rw [if_pos h]
 ·rw [if_neg V3,if_neg V3]
 ·rw [if_neg V3,if_pos h]
theorem Size_spec (a b:Bool) (M N:Nat) (hM:M<T40) (hN:N<T40) (r:Int) (hr:cmpI M N=r):
  PSpec Tryz.prog X 113 [LN a (dg M),LN b (dg N)] (Ln .i64 r):=by
 refine cF Tryz.func113 rfl V5 rfl rfl ?_
 intro C
 refine U12 ?_
 refine cL (fun m σ=>∃ z:Int,m≤40∧z=(m:Int)-1∧M/256^m=N/256^m∧σ=⟨[(2,.sv (.one (.ptr 2 0))),(3,.sv (.one (.ptr 3 0))),(5,Ln .i64 z)],[(2,some { elem:=202,cells:=num a (dg M) }),(3,some { elem:=202,cells:=num b (dg N) })],X⟩) 40
  ⟨_,Le.of V9 VE V2 V2 V2,39,by omega,rfl,by rw [Nat.div_eq_of_lt hM,Nat.div_eq_of_lt hN],rfl⟩ ?_
 rintro m σ ⟨z,hm,rfl,hq,rfl⟩
 cases m with
 | zero =>
  have e:M=N:=by simpa using hq
  have hr':r=0:=by rw [← hr,e];unfold cmpI;rw [if_neg V3,if_neg V3]
  refine U13 ?_
  exact ⟨[_],⟨rfl,trivial⟩,by rw [hr'];rfl⟩
 | succ i =>
  rw [show (((i+1:Nat):Int)-1)=(i:Int) by omega]
  have hi:i<40:=by omega
  rcases Nat.lt_trichotomy (dg M i) (dg N i) with h|h|h
  ·have hlt:=lt_digit hq h
   have hr':r = -1:=by rw [← hr];unfold cmpI;rw [if_pos V3]
   (refine U12 ?_;refine rgD mixed ?_;refine U3 ?_;refine kl1 rfl rfl (num_at (i:=i) hi) ?_;refine U3 ?_;refine kl1 rfl rfl (num_at (i:=i) hi) ?_;refine U6 ?_;refine rgD mixed ?_;refine U3 ?_;refine kl1 rfl rfl (num_at (i:=i) hi) ?_;refine U3 ?_;refine kl1 rfl rfl (num_at (i:=i) hi) ?_;refine U9 ?_)
   exact ⟨[_],⟨rfl,trivial⟩,by rw [hr'];rfl⟩
  ·have hq':M/256^i=N/256^i:=by rw [div_next M i,div_next N i,hq,h]
   (refine U12 ?_;refine rgD mixed ?_;refine U3 ?_;refine kl1 O O (num_at (i:=i) hi) ?_;refine U3 ?_;refine kl1 O O (num_at (i:=i) hi) ?_;refine U6 ?_;refine rgD mixed ?_;refine U3 ?_;refine kl1 O O (num_at (i:=i) hi) ?_;refine U3 ?_;refine kl1 O O (num_at (i:=i) hi) ?_;refine U7 ?_;refine bA O O (cH V3) dS ?_;refine U2 ?_)
   exact ⟨i,_,by omega,Le.of V9 VE V2 V2 V2,_,by omega,O,hq',O⟩
  ·have hlt:=lt_digit hq.symm h
   have hr':r=1:=by rw [← hr];unfold cmpI;rw [if_neg V3,if_pos V3]
   (refine U12 ?_;refine rgD mixed ?_;refine U3 ?_;refine kl1 rfl rfl (num_at (i:=i) hi) ?_;refine U3 ?_;refine kl1 rfl rfl (num_at (i:=i) hi) ?_;refine U9 ?_)
   exact ⟨[_],⟨rfl,trivial⟩,by rw [hr'];rfl⟩
def low (n i j:Nat):Nat:=if j<i then dg n j else 0
theorem low_step (b:Bool) (n i:Nat):num b (fun j=>if j=i then dg n i else low n i j)=num b (low n (i+1)):=num_congr fun j _=>by
 unfold low
 by_cases c:j=i
 ·subst c;rw [if_pos rfl,if_pos V3]
 ·rw [if_neg c]
  simp only [show (j<i+1↔j<i) by omega]
theorem low_all (b:Bool) (n:Nat):num b (low n 40)=num b (dg n):=num_congr fun j hj=>by unfold low;rw [if_pos hj]
theorem less_spec (a b:Bool) (M N:Nat) (hMN:N≤M):PSpec Tryz.prog X 226 [LN a (dg M),LN b (dg N)] (LN a (dg (M-N))):=by
 refine cF Tryz.func226 rfl V5 rfl rfl ?_
 intro C
 refine U24 ?_
 refine cL (fun m σ=>∃ i:Nat,i≤40∧m=40-i∧σ=⟨[(2,.sv (.one (.ptr 2 0))),(3,.sv (.one (.ptr 3 0))),(4,.sv (.one (.ptr 4 0))),(5,.sv (.one (.ptr 5 0))),(6,Ln .i64 (bor M N i:Nat)),(7,Ln .i64 (i:Nat))],[(2,some { elem:=202,cells:=num a (dg M) }),(3,some { elem:=202,cells:=num b (dg N) }),(4,some { elem:=202,cells:=num false (fun _=>0) }),(5,some { elem:=202,cells:=num a (low (M-N) i) })],X⟩) 40
  ⟨_,Le.of (by exact ⟨rfl,rfl,rfl,rfl,by rw [show bor M N 0=0 by unfold bor;rw [Nat.pow_zero,Nat.mod_one,Nat.mod_one,if_neg V3]];rfl,rfl,trivial⟩) V8 V2 V2 V2,0,by omega,rfl,rfl⟩ ?_
 rintro m σ ⟨i,hi,rfl,rfl⟩
 by_cases h40:i<40
 ·obtain ⟨s1,s2⟩:=sub_digit (i:=i) hMN
  have hb:=bor_le M N i
  have hn:=bor_next M N i
  have l1:=dg_lt M i
  have l2:=dg_lt N i
  by_cases c:dg M i<dg N i+bor M N i
  ·have s:=s1 c
   rw [if_pos c] at hn
   have w:∀ k:Int,k=(dg M i:Int)-dg N i-bor M N i→IntKind.i64.wrap (k+256)=((dg (M-N) i:Nat):Int):=fun k hk=>by rw [cH V3];omega
   (refine U11 ?_;refine rgD mixed ?_;refine U3 ?_;refine kl1 O O (num_at (i:=i) h40) ?_;refine U3 ?_;refine kl1 O O (num_at (i:=i) h40)<|bA O O (cH V3) dS<|kmv O<|bA O O (cH V3) dS ?_;refine U17 ?_;refine kad O O (w _ O) ?_;refine U10 ?_;refine bG O O O O (num_blt (i:=i) h40) ((num_set (i:=i) h40).trans (low_step a (M-N) i)) dS ?_;refine U6 ?_)
   exact ⟨_,_,by omega,Le.of (by exact ⟨rfl,rfl,rfl,rfl,by rw [hn];rfl,rfl,trivial⟩) V8 V2 V2 V2,i+1,by omega,rfl,rfl⟩
  ·have s:=s2 V3
   rw [if_neg c] at hn
   have w:IntKind.i64.wrap (((dg M i:Nat):Int)-(dg N i:Nat)-(bor M N i:Nat))=((dg (M-N) i:Nat):Int):=by rw [cH V3];omega
   (refine U11 ?_;refine rgD mixed ?_;refine U3 ?_;refine kl1 O O (num_at (i:=i) h40) ?_;refine U3 ?_;refine kl1 O O (num_at (i:=i) h40)<|bA O O (cH V3) dS<|kmv O<|bA O O w dS ?_;refine U20 ?_;refine bG O O O O (num_blt (i:=i) h40) ((num_set (i:=i) h40).trans (low_step a (M-N) i)) dS ?_;refine U6 ?_)
   exact ⟨_,_,by omega,Le.of (by exact ⟨rfl,rfl,rfl,rfl,by rw [hn];rfl,rfl,trivial⟩) V8 V2 V2 V2,i+1,by omega,rfl,rfl⟩
 ·have e:i=40:=by omega
  subst e
  refine U14 ?_
  exact ⟨[_],⟨⟨_,_,rfl,rfl,rfl,.inl ⟨AggT.h,rfl⟩⟩,trivial⟩,by unfold LN;rw [← low_all];rfl⟩
end Go.Proofs.YtopiioklkkiedaaGreatDoor
end
section
set_option maxHeartbeats 12800000
set_option maxRecDepth 100000
namespace Go.Proofs.YtopiioklkkiedaaGreatDoor
open Go Go.Lg Go.Lg.Arith Go.Lg.Dig Go.RowKit
variable (X:Nat→Option Obj)
theorem Sum_more (a b:Bool) (hab:(a != b)=true) (M N:Nat) (hM:M<T40) (hN:N<T40) (h:N≤M):PSpec Tryz.prog X 200 [LN a (dg M),LN b (dg N)] (LN a (dg (M-N))):=by
 obtain ⟨r,hr,c1,c2,c3⟩:=cmp_facts_0 M N
 have hS:=Size_spec X a b M N hM hN r hr
 refine cF Tryz.func200 rfl V5 rfl rfl ?_
 intro C
 (refine U13 ?_;refine K.neqB O O hab dS ?_;refine U15 ?_;refine kca O O (less_spec _ a b M N h) ?_;refine U3 ?_)
 exact VF
theorem Sum_less (a b:Bool) (hab:(a != b)=true) (M N:Nat) (hM:M<T40) (hN:N<T40) (h:M<N):PSpec Tryz.prog X 200 [LN a (dg M),LN b (dg N)] (LN b (dg (N-M))):=by
 obtain ⟨r,hr,c1,c2,c3⟩:=cmp_facts_0 M N
 have hS:=Size_spec X a b M N hM hN r hr
 refine cF Tryz.func200 rfl V5 rfl rfl ?_
 intro C
 (refine U13 ?_;refine K.neqB O O hab dS ?_;refine U16 ?_;refine kca O O (less_spec _ b a N M V3) ?_;refine U3 ?_)
 exact VF
theorem Sum_same (a b:Bool) (hab:(a != b)=false) (M N:Nat):PSpec Tryz.prog X 200 [LN a (dg M),LN b (dg N)] (LN a (dg (M+N))):=by
 refine cF Tryz.func200 rfl V5 rfl rfl ?_
 intro C
 (refine U13 ?_;refine K.neqB O O hab dS ?_;refine U21 ?_)
 refine cL (fun m σ=>∃ i:Nat,i≤40∧m=40-i∧σ=⟨[(2,.sv (.one (.ptr 2 0))),(3,.sv (.one (.ptr 3 0))),(4,.sv (.one (.ptr 4 0))),(5,.sv (.one (.ptr 5 0))),(6,Ln .i64 (car M N i:Nat)),(7,Ln .i64 (i:Nat))],[(2,some { elem:=202,cells:=num a (dg M) }),(3,some { elem:=202,cells:=num b (dg N) }),(4,some { elem:=202,cells:=num false (fun _=>0) }),(5,some { elem:=202,cells:=num a (low (M+N) i) })],X⟩) 40
  ⟨_,Le.of (by exact ⟨rfl,rfl,rfl,rfl,by rw [show car M N 0=0 by unfold car;rw [Nat.pow_zero,Nat.mod_one,Nat.mod_one]];rfl,rfl,trivial⟩) V8 V2 V2 V2,0,by omega,rfl,rfl⟩ ?_
 rintro m σ ⟨i,hi,rfl,rfl⟩
 by_cases h40:i<40
 ·have s:=add_digit M N i
  have hb:=car_le M N i
  have hn:=car_next M N i
  have l1:=dg_lt M i
  have l2:=dg_lt N i
  have w1:(((dg M i:Nat):Int)+(dg N i:Nat)+(car M N i:Nat)).tmod 256=((dg (M+N) i:Nat):Int):=by rw [rem_pos V3];omega
  have w2:IntKind.i64.wrap ((((dg M i:Nat):Int)+(dg N i:Nat)+(car M N i:Nat)).tdiv 256)=((car M N (i+1):Nat):Int):=by rw [quo_i64 V3 V3];omega
  (refine U11 ?_;refine rgD mixed ?_;refine U3 ?_;refine kl1 O O (num_at (i:=i) h40) ?_;refine U3 ?_;refine kl1 O O (num_at (i:=i) h40) ?_;refine U10 ?_;refine K.rem O O V3 w1 dS ?_;refine U2 ?_;refine bG O O O O (num_blt (i:=i) h40) ((num_set (i:=i) h40).trans (low_step a (M+N) i)) dS ?_;refine U3 ?_;refine K.quo O O V3 w2 dS ?_;refine U7 ?_)
  exact ⟨_,_,by omega,Le.of V11 V8 V2 V2 V2,i+1,by omega,O,O⟩
 ·have e:i=40:=by omega
  subst e
  refine U14 ?_
  exact ⟨[_],⟨⟨_,_,rfl,rfl,rfl,.inl ⟨AggT.h,rfl⟩⟩,trivial⟩,by unfold LN;rw [← low_all];rfl⟩
end Go.Proofs.YtopiioklkkiedaaGreatDoor
end
section
set_option maxHeartbeats 12800000
set_option maxRecDepth 100000
namespace Go.Proofs.YtopiioklkkiedaaGreatDoor
open Go Go.Lg Go.Lg.Arith Go.Lg.Dig Go.RowKit
variable (X:Nat→Option Obj)
theorem Good_spec (b:Bool) (N:Int) (hN:In2 N) (r:Bool) (hr:formB b N=r):PSpec Tryz.prog X 75 [LI b N] (Lb r):=by
 obtain ⟨h0,h1⟩:=hN
 refine cF Tryz.func75 rfl V5 rfl rfl ?_
 intro C
 by_cases ha:N<170141183460469231731687303715884105728
 ·cases b with
  | false =>
   have e:r=true:=by rw [← hr];simp [formB,ha]
   refine U28 ?_
   exact ⟨[_],⟨rfl,trivial⟩,by rw [e];rfl⟩
  | true =>
   by_cases hh:N/18446744073709551616=0
   ·by_cases hl:N%18446744073709551616=0
    ·have e:r=false:=by rw [← hr];unfold formB;rw [show (N==0)=true from cV V3];simp
     refine U28 ?_
     exact ⟨[_],⟨rfl,trivial⟩,by rw [e];rfl⟩
    ·have e:r=true:=by rw [← hr];unfold formB;rw [show (N==0)=false from cS V3];simp [ha]
     refine U28 ?_
     exact ⟨[_],⟨rfl,trivial⟩,by rw [e];rfl⟩
   ·have e:r=true:=by rw [← hr];unfold formB;rw [show (N==0)=false from cS V3];simp [ha]
    refine U28 ?_
    exact ⟨[_],⟨rfl,trivial⟩,by rw [e];rfl⟩
 ·have e:r=false:=by rw [← hr];simp [formB,ha]
  refine U28 ?_
  exact ⟨[_],⟨rfl,trivial⟩,by rw [e];rfl⟩
theorem mg_nat (x:Int):(((mg x).toNat:Nat):Int)=mg x:=by have:=mg_nonneg x;omega
theorem From_q (x:Int) (hx:R127 x):PSpec Tryz.prog X 114 [LQ x] (LN (decide (x<0)) (dg (mg x).toNat)):=by
 have h:=From_spec X (decide (x<0)) (mg x).toNat (by have:=mg_lim hx;have:=mg_nonneg x;omega)
 rw [mg_nat] at h
 exact h
theorem lim40 {n:Nat} (h:n<340282366920938463463374607431768211456):n<T40:=by
 unfold T40
 rw [pow40]
 omega
theorem RCmp_spec (x y:Int) (hx:R127 x) (hy:R127 y) (r:Int) (hr:cmpI x y=r):PSpec Tryz.prog X 77 [LQ x,LQ y] (Ln .i64 r):=by
 have f1:=From_q X x hx
 have f2:=From_q X y hy
 have n1:=mg_nonneg x
 have n2:=mg_nonneg y
 have m1:=mg_lim hx
 have m2:=mg_lim hy
 obtain ⟨s,hs,c1,c2,c3⟩:=cmp_facts_0 ((mg x).toNat:Nat) ((mg y).toNat:Nat)
 have hS:=Size_spec X (decide (x<0)) (decide (y<0)) (mg x).toNat (mg y).toNat (lim40 V3) (lim40 V3) s hs
 rw [mg_nat,mg_nat] at c1 c2 c3
 refine cF Tryz.func77 rfl V5 rfl rfl ?_
 intro C
 by_cases cx:x<0
 ·by_cases cy:y<0
  ·have hb:(decide (x<0) != decide (y<0))=false:=by rw [cP cx,cP cy];rfl
   have e:r=0-s:=by
    rw [mg_neg cx,mg_neg cy] at c1 c2 c3
    rw [← hr]
    unfold cmpI
    rcases Int.lt_trichotomy x y with h|h|h
    ·rw [if_pos h];omega
    ·rw [if_neg V3,if_neg V3];omega
    ·rw [if_neg V3,if_pos h];omega
   have sb : -1≤s∧s≤1:=by rcases Int.lt_trichotomy (mg x) (mg y) with h|h|h<;>omega
   (refine U13 ?_;refine K.neqB O O hb dS ?_;refine U4 ?_;refine rgD mixed ?_;refine U14 ?_;refine LWP.condT (ev_bool (cP cx)) ?_;refine U3 ?_;refine K.neg O (cH V3) dS ?_;refine U3 ?_)
   exact ⟨[_],⟨rfl,trivial⟩,by rw [e];rfl⟩
  ·have hb:(decide (x<0) != decide (y<0))=true:=by rw [cP cx,cO cy];rfl
   have e:r = -1:=by rw [← hr];unfold cmpI;rw [if_pos V3]
   (refine U13 ?_;refine K.neqB O O hb dS ?_;refine U8 ?_;refine LWP.condT (ev_bool (cP cx)) ?_;refine U5 ?_)
   exact ⟨[_],⟨rfl,trivial⟩,by rw [e];rfl⟩
 ·by_cases cy:y<0
  ·have hb:(decide (x<0) != decide (y<0))=true:=by rw [cO cx,cP cy];rfl
   have e:r=1:=by rw [← hr];unfold cmpI;rw [if_neg V3,if_pos V3]
   (refine U13 ?_;refine K.neqB O O hb dS ?_;refine U8 ?_;refine LWP.condF (ev_bool (cO cx)) ?_;refine U6 ?_)
   exact ⟨[_],⟨rfl,trivial⟩,by rw [e];rfl⟩
  ·have hb:(decide (x<0) != decide (y<0))=false:=by rw [cO cx,cO cy];rfl
   have e:r=s:=by
    rw [mg_pos (Int.not_lt.1 cx),mg_pos (Int.not_lt.1 cy)] at c1 c2 c3
    rw [← hr]
    unfold cmpI
    rcases Int.lt_trichotomy x y with h|h|h
    ·rw [if_pos h];omega
    ·rw [if_neg V3,if_neg V3];omega
    ·rw [if_neg V3,if_pos h];omega
   (refine U13 ?_;refine K.neqB O O hb dS ?_;refine U4 ?_;refine rgD mixed ?_;refine U14 ?_;refine LWP.condF (ev_bool (cO cx)) ?_;refine U7 ?_)
   exact ⟨[_],⟨rfl,trivial⟩,by rw [e];rfl⟩
end Go.Proofs.YtopiioklkkiedaaGreatDoor
end
section
set_option maxHeartbeats 12800000
set_option maxRecDepth 100000
namespace Go.Lg.Fld
open Go Go.Lg
abbrev tabW:List CV:=[.val (.int .i64 0),.val (.int .i64 1),.val (.int .i64 1),.val (.int .i64 2),.val (.int .i64 4),.val (.int .i64 8),.val (.int .i64 1),.val (.int .i64 2),.val (.int .i64 4),.val (.int .i64 8),.val (.int .i64 8)]
abbrev tabB:List CV:=[.val (.int .u64 0),.val (.int .u64 0),.val (.int .u64 128),.val (.int .u64 32768),.val (.int .u64 2147483648),.val (.int .u64 9223372036854775808),.val (.int .u64 0),.val (.int .u64 0),.val (.int .u64 0),.val (.int .u64 0),.val (.int .u64 0)]
abbrev tabA:List CV:=[.val (.int .u64 0),.val (.int .u64 1),.val (.int .u64 127),.val (.int .u64 32767),.val (.int .u64 2147483647),.val (.int .u64 9223372036854775807),.val (.int .u64 255),.val (.int .u64 65535),.val (.int .u64 4294967295),.val (.int .u64 18446744073709551615),.val (.int .u64 18446744073709551615)]
theorem tabW_at {k:Int} (h:kK k=true):tabW[0+k.toNat*1]? = some (.val (.int .i64 (kW k:Nat))):=by
 rcases kin h with rfl|rfl|rfl|rfl|rfl|rfl|rfl|rfl|rfl|rfl<;>rfl
theorem tabB_at {k:Int} (h:kK k=true):tabB[0+k.toNat*1]? = some (.val (.int .u64 (kB k))):=by
 rcases kin h with rfl|rfl|rfl|rfl|rfl|rfl|rfl|rfl|rfl|rfl<;>rfl
theorem tabA_at {k:Int} (h:kK k=true):tabA[0+k.toNat*1]? = some (.val (.int .u64 (kA k))):=by
 rcases kin h with rfl|rfl|rfl|rfl|rfl|rfl|rfl|rfl|rfl|rfl<;>rfl
end Go.Lg.Fld
namespace Go.Proofs.YtopiioklkkiedaaGreatDoor
open Go Go.Lg Go.Lg.Fld
set_option maxRecDepth 100000
variable (X:Nat→Option Obj)
instance:ArrB Tryz.prog 164 (List.replicate 11 (.int .i64 0)) 1:=⟨by kernel_rfl⟩
instance:ArrB Tryz.prog 198 (List.replicate 11 (.int .u64 0)) 1:=⟨by kernel_rfl⟩
theorem refBytes_spec (k:Int):PSpec Tryz.prog X 43 [Ln .i64 k] (Ln .i64 (kW k:Nat)):=by
 refine cF Tryz.func43 rfl V5 rfl rfl ?_
 intro C
 cases hk:kK k with
 | false =>
  rcases knot hk with h|h
  ·rw [kW_no (.inl h)]
   refine U20 ?_
   exact V6
  ·rw [kW_no (.inr h)]
   refine U20 ?_
   exact V6
 | true =>
  have hb:=(kK_iff k).1 hk
  (refine U18 ?_;refine K.buildArr (cs':=tabW) O O V2 O dS ?_;refine U7 ?_;refine kl1 O O (tabW_at hk) ?_;refine U3 ?_)
  exact V6
theorem SQ_pos {p:Int} (h:0≤p∧p<18446744073709551616):SQ p = .agg [.val (.bool false),.val (.int .u64 0),.val (.int .u64 p)]:=by
 unfold SQ SI
 rw [mg_pos h.1,cO (by omega),show p/18446744073709551616=0 by omega,show p%18446744073709551616=p by omega]
theorem SQ_neg {p:Int} (h:0<p∧p<18446744073709551616):SQ (-p) = .agg [.val (.bool true),.val (.int .u64 0),.val (.int .u64 p)]:=by
 unfold SQ SI
 rw [mg_neg (by omega),cP (by omega),Int.neg_neg,show p/18446744073709551616=0 by omega,show p%18446744073709551616=p by omega]
theorem SQ_low (k:Int):SQ (-kB k) = .agg [.val (.bool (decide (0<kB k))),.val (.int .u64 0),.val (.int .u64 (kB k))]:=by
 have hb:=kfacts k
 by_cases h:0<kB k
 ·rw [SQ_neg ⟨h,by omega⟩,cP h]
 ·rw [cO h,show -kB k=kB k by omega,SQ_pos ⟨by omega,by omega⟩]
theorem Bounds_spec (k:Int):PSpec Tryz.prog X 76 [Ln .i64 k] (.tup [SQ (-kB k),SQ (kA k)]):=by
 have hf:=kfacts k
 rw [SQ_low k,SQ_pos ⟨hf.2.2.1,hf.2.2.2.1⟩]
 refine cF Tryz.func76 rfl V5 rfl rfl ?_
 intro C
 cases hk:kK k with
 | false =>
  rw [kB_no (knot hk),kA_no (knot hk)]
  rcases knot hk with h|h
  ·refine U24 ?_
   exact V1A
  ·refine U24 ?_
   exact V1A
 | true =>
  have hb:=(kK_iff k).1 hk
  (refine U19 ?_;refine K.buildArr (cs':=tabB) O O V2 O dS ?_;refine U5 ?_;refine K.buildArr (cs':=tabA) O O V2 O dS ?_;refine U4 ?_;refine rgD mixed ?_;refine U2 ?_;refine kl1 O O (tabB_at hk)<|aS O O O dS ?_;refine U2 ?_;refine kl1 O O (tabB_at hk) ?_;refine U3 ?_;refine kl1 O O (tabA_at hk) ?_;refine U6 ?_)
  exact V1A
theorem cmp_le (x y:Int) (h:x≤y):∃ r,cmpI x y=r∧r≤0:=⟨_,rfl,by unfold cmpI;rw [if_neg (Int.not_lt.2 h)];split<;>decide⟩
theorem cmp_ge (x y:Int) (h:y≤x):∃ r,cmpI x y=r∧0≤r:=⟨_,rfl,by unfold cmpI;rw [if_neg (Int.not_lt.2 h)];split<;>decide⟩
theorem cmp_lt (x y:Int) (h:x<y):cmpI x y = -1:=by unfold cmpI;rw [if_pos h]
theorem cmp_gt (x y:Int) (h:y<x):cmpI x y=1:=by unfold cmpI;rw [if_neg (Int.not_lt.2 (Int.le_of_lt h)),if_pos h]
theorem refFits_spec (k:Int) (b:Bool) (N:Int) (hN:In2 N) (r:Bool) (hr:fitB k b N=r):PSpec Tryz.prog X 40 [Ln .i64 k,LI b N] (Lb r):=by
 subst hr
 have hB:=refBytes_spec X k
 have hBd:=Bounds_spec X k
 have hG:=Good_spec X b N hN _ rfl
 unfold fitB
 refine cF Tryz.func40 rfl V5 rfl rfl ?_
 intro C
 cases hk:kK k with
 | false =>
  rw [kW_no (knot hk)] at hB
  refine U23 ?_
  exact V6
 | true =>
  have hk0:kW k≠0:=fun e=>by rw [kW_zero] at e;rw [hk] at e;cases e
  cases hf:formB b N with
  | false =>
   rw [hf] at hG
   refine U23 ?_
   exact V6
  | true =>
   rw [hf] at hG
   have hR:=(zv_in hN hf).1
   rw [LI_q hN hf] at hG ⊢
   generalize zv b N=x at *
   have c1:=RCmp_spec X x (-kB k) hR (kBn_R k)
   have c2:=RCmp_spec X x (kA k) hR (kA_R k)
   by_cases h1 : -kB k≤x
   ·obtain ⟨r,hr,hr0⟩:=cmp_ge x (-kB k) h1
    have c1':=c1 r hr
    by_cases h2:x≤kA k
    ·obtain ⟨s,hs,hs0⟩:=cmp_le x (kA k) h2
     have c2':=c2 s hs
     rw [(fitZ_iff k x).2 ⟨h1,h2⟩]
     (refine U41 ?_;refine K.leq O O (cP V3) (dT O O) ?_;refine U4 ?_)
     exact V6
    ·have c2':=c2 1 (cmp_gt x (kA k) V3)
     rw [show fitZ k x=false by rw [fitZ,cO h2,Bool.and_false]]
     (refine U41 ?_;refine K.leq O O (cO V3) (dT O O) ?_;refine U4 ?_)
     exact V6
   ·have c1':=c1 (-1) (cmp_lt x (-kB k) V3)
    rw [show fitZ k x=false by rw [fitZ,cO h1,Bool.false_and]]
    refine U46 ?_
    exact V6
end Go.Proofs.YtopiioklkkiedaaGreatDoor
end
section
set_option maxHeartbeats 12800000
set_option maxRecDepth 100000
namespace Go.Lg.Fld
open Go Go.Lg
structure Fl where
 nm:List UInt8
 kind:Int
 count:Int
def Fl.vals (f:Fl):List Value:=[.string ⟨f.nm.toArray⟩,.int .i64 f.kind,.int .i64 f.count]
def Fl.w (f:Fl):Nat:=kW f.kind
def Fl.n (f:Fl):Nat:=f.count.toNat
def Fl.ok (f:Fl):Bool:=kK f.kind&&(decide (1≤f.count)&&decide (f.count≤8))
def roundUp (a n:Nat):Nat:=a+(n-a%n)%n
def startsAt:Nat→List Fl→List Nat
 | _,[]=>[]
 | a,f::t=>roundUp a f.w::startsAt (roundUp a f.w+f.w*f.n) t
def endAt:Nat→List Fl→Nat
 | a,[]=>a
 | a,f::t=>endAt (roundUp a f.w+f.w*f.n) t
def elemsAt:Nat→List Fl→List (Int×Nat)
 | _,[]=>[]
 | a,f::t=>(List.range f.n).map (fun i=>(f.kind,roundUp a f.w+f.w*i))++elemsAt (roundUp a f.w+f.w*f.n) t
def greatW (l:List Fl):Nat:=l.foldl (fun g f=>max g f.w) 1
def rowSize (l:List Fl):Nat:=roundUp (endAt 0 l) (greatW l)
def layErr (l:List Fl):Int:=if 8<l.length then 1 else if l.all Fl.ok=true then (if 256<rowSize l then 5 else 0) else 1
theorem starts_snoc (f:Fl):∀ (l:List Fl) (a:Nat),startsAt a (l++[f])=startsAt a l++[roundUp (endAt a l) f.w]
 | [],_=>rfl
 | g::t,a=>by simp only [List.cons_append,startsAt,endAt,starts_snoc f t]
theorem end_snoc (f:Fl):∀ (l:List Fl) (a:Nat),endAt a (l++[f])=roundUp (endAt a l) f.w+f.w*f.n
 | [],_=>rfl
 | g::t,a=>by simp only [List.cons_append,endAt,end_snoc f t]
theorem elems_snoc (f:Fl):∀ (l:List Fl) (a:Nat),elemsAt a (l++[f])=elemsAt a l++(List.range f.n).map (fun i=>(f.kind,roundUp (endAt a l) f.w+f.w*i))
 | [],_=>by simp [elemsAt,endAt]
 | g::t,a=>by simp only [List.cons_append,elemsAt,endAt,elems_snoc f t,dN]
theorem great_snoc (f:Fl) (l:List Fl):greatW (l++[f])=max (greatW l) f.w:=by simp [greatW,List.foldl_append]
theorem take_snoc {α:Type} {l:List α} {i:Nat} {f:α} (h:l[i]? = some f):l.take (i+1)=l.take i++[f]:=by
 rw [List.take_add_one,h];rfl
theorem ok_w {f:Fl} (h:f.ok=true):(f.w=1∨f.w=2∨f.w=4∨f.w=8)∧1≤f.n∧f.n≤8∧(f.n:Int)=f.count:=by
 simp only [Fl.ok,Bool.and_eq_true,decide_eq_true_eq] at h
 refine ⟨kW_in h.1,?_,?_,?_⟩<;>unfold Fl.n<;>omega
def isWd (n:Nat):Prop:=n=1∨n=2∨n=4∨n=8
theorem round_facts {n:Nat} (h:isWd n) (a:Nat):roundUp a n%n=0∧a≤roundUp a n∧roundUp a n<a+n∧∀ b,a≤b→b≤roundUp a n→b%n=0→b=roundUp a n:=by
 unfold roundUp
 rcases h with rfl|rfl|rfl|rfl<;>refine ⟨by omega,by omega,by omega,fun b h1 h2 h3=>by omega⟩
theorem great_wd:∀ (l:List Fl),l.all Fl.ok=true→isWd (greatW l):=by
 have key:∀ (l:List Fl) (g:Nat),isWd g→l.all Fl.ok=true→isWd (l.foldl (fun g f=>max g f.w) g):=by
  intro l
  induction l with
  | nil=>intro g hg _;exact hg
  | cons f t ih =>
   intro g hg h
   simp only [List.all_cons,Bool.and_eq_true] at h
   refine ih _ ?_ h.2
   have hf:isWd f.w:=(ok_w h.1).1
   show isWd (max g f.w)
   rcases Nat.le_total g f.w with h3|h3
   ·rw [Nat.max_eq_right h3];exact hf
   ·rw [Nat.max_eq_left h3];exact hg
 exact fun l h=>key l 1 (.inl O) h
theorem end_le:∀ (l:List Fl) (a:Nat),l.all Fl.ok=true→a≤endAt a l∧endAt a l≤a+72*l.length
 | [],a,_=>by simp [endAt]
 | f::t,a,h=>by
  simp only [List.all_cons,Bool.and_eq_true] at h
  obtain ⟨hw,h1,h8,_⟩:=ok_w h.1
  have hr:=round_facts hw a
  have hi:=end_le t (roundUp a f.w+f.w*f.n) h.2
  have hm:f.w*f.n≤64:=by rcases hw with e|e|e|e<;>rw [e]<;>omega
  have hw8:f.w≤8:=by rcases hw with e|e|e|e<;>omega
  simp only [endAt,dJ]
  omega
theorem elems_len:∀ (l:List Fl) (a:Nat),l.all Fl.ok=true→l.length≤(elemsAt a l).length∧(elemsAt a l).length≤8*l.length
 | [],a,_=>by simp [elemsAt]
 | f::t,a,h=>by
  simp only [List.all_cons,Bool.and_eq_true] at h
  obtain ⟨hw,h1,h8,_⟩:=ok_w h.1
  have hi:=elems_len t (roundUp a f.w+f.w*f.n) h.2
  simp only [elemsAt,cW,cX,List.length_range,dJ]
  omega
theorem starts_len:∀ (l:List Fl) (a:Nat),(startsAt a l).length=l.length
 | [],_=>rfl
 | f::t,a=>by simp [startsAt,starts_len t]
def elV (e:Int×Nat):List Value:=[.int .i64 e.1,.int .i64 (e.2:Nat)]
def elVs (l:List (Int×Nat)):List Value:=(l.map elV).flatten
theorem elVs_len (l:List (Int×Nat)):(elVs l).length=l.length*2:=by
 induction l with
 | nil=>rfl
 | cons e t ih=>simp only [elVs,List.map_cons,List.flatten_cons,cW] at ih ⊢;rw [ih];simp [elV];omega
theorem elVs_app (l m:List (Int×Nat)):elVs (l++m)=elVs l++elVs m:=by simp [elVs]
def ntV (l:List Nat):List Value:=l.map fun n=>.int .i64 (n:Nat)
structure FieldsIn (X:Nat→Option Obj) (ad:Option Addr) (fs:List Fl):Prop where
 rows:RowsIn X ad 3 (fs.map Fl.vals)
 small:∀ f∈fs,(-9223372036854775808≤f.kind∧f.kind<9223372036854775808)∧(-9223372036854775808≤f.count∧f.count<9223372036854775808)
theorem FieldsIn.at {X:Nat→Option Obj} {ad:Option Addr} {fs:List Fl} (h:FieldsIn X ad fs) {i:Nat} {f:Fl} (hf:fs[i]? = some f):
  ∃ (blk off:Nat) (arr:Array Value) (el:TypeId) (fr:Nat×Nat),ad=some ⟨blk,off,none⟩∧X blk=some (.cells arr el fr)∧off+i*3+3≤arr.size∧((arr.toList.drop (off+i*3)).take 3).map CV.val=f.vals.map CV.val:=by
 obtain ⟨blk,off,arr,el,fr,h1,h2,h3,h4⟩:=h.rows i f.vals (by rw [dM,hf];rfl)
 exact ⟨blk,off,arr,el,fr,h1,h2,h3,by rw [h4]⟩
end Go.Lg.Fld
end
section
set_option maxHeartbeats 12800000
set_option maxRecDepth 100000
namespace Go.Proofs.YtopiioklkkiedaaGreatDoor
open Go Go.Lg Go.Lg.Fld
set_option maxRecDepth 100000
variable (X:Nat→Option Obj)
abbrev Lx (ad:Option Addr) (n cap:Nat):LV:=.sv (.one (.val (.slice ad n cap)))
abbrev Vnil:SV:=.one (.val (.slice none 0 0))
def layR (fs:List Fl):LV:=if layErr fs=0 then .tup [.one (.slc 1000001 0 (elemsAt 0 fs).length 2),Sn .i64 (rowSize fs:Nat),.one (.slc 1000002 0 fs.length 1),Sn .i64 0] else .tup [Vnil,Sn .i64 0,Vnil,Sn .i64 (layErr fs)]
def layBx (fs:List Fl):List (Nat×Option Box):=if layErr fs=0 then [(1000001,some ⟨114,(elVs (elemsAt 0 fs)).map .val,Nat.blt 0 (elemsAt 0 fs).length⟩),(1000002,some ⟨3,(ntV (startsAt 0 fs)).map .val,Nat.blt 0 fs.length⟩)] else []
theorem layErr_long {fs:List Fl} (h:8<fs.length):layErr fs=1:=if_pos h
theorem layErr_bad {fs:List Fl} (h:fs.length≤8) {f:Fl} (hf:f∈fs) (hb:f.ok=false):layErr fs=1:=by
 unfold layErr
 rw [if_neg (by omega),if_neg]
 intro ha
 rw [List.all_eq_true.1 ha f hf] at hb
 cases hb
theorem layErr_all {fs:List Fl} (h:fs.length≤8) (ha:fs.all Fl.ok=true):layErr fs=if 256<rowSize fs then 5 else 0:=by
 unfold layErr
 rw [if_neg (by omega),if_pos ha]
theorem take_all {fs:List Fl} {i:Nat} {f:Fl} (h:(fs.take i).all Fl.ok=true) (hf:fs[i]? = some f) (hk:f.ok=true):(fs.take (i+1)).all Fl.ok=true:=by
 rw [take_snoc hf,List.all_append,h]
 simp [hk]
set_option maxHeartbeats 3200000 in
theorem Lay_spec (ad:Option Addr) (cap:Nat) (fs:List Fl) (hin:FieldsIn X ad fs) (hbig:fs.length<4611686018427387904):MSpec Tryz.prog X 37 [Lx ad fs.length cap] [] (layR fs) (layBx fs):=by
 refine cG Tryz.func37 rfl V5 rfl (by unfold layR layBx;split<;>rfl) (by unfold layBx;split<;>exact V0) rfl rfl ?_
 intro C
 by_cases hlong:8<fs.length
 ·unfold layR layBx
  rw [layErr_long hlong,if_neg (by decide),if_neg (by decide)]
  refine U23 ?_
  exact ⟨[],⟨[_,_,_,_],⟨O,O,O,O,trivial⟩,O⟩,trivial,O,O⟩
 have h8:fs.length≤8:=by omega
 (refine U18 ?_;refine aZ (zs:=[]) (sz:=2) (e:=114) V5 O O O O O O dS ?_;refine U4 ?_;refine aZ (zs:=[]) (sz:=1) (e:=3) V5 O O O O O O dS ?_;refine U16 ?_)
 refine cL (fun m σ=>∃ i:Nat,i≤fs.length∧m=fs.length-i∧(fs.take i).all Fl.ok=true∧σ=⟨[(0,Lx ad fs.length cap),(6,.sv (.one (.slc 500 0 (elemsAt 0 (fs.take i)).length 2))),(7,.sv (.one (.slc 501 0 i 1))),(8,Ln .i64 (endAt 0 (fs.take i):Nat)),(9,Ln .i64 (greatW (fs.take i):Nat)),(10,Ln .i64 (i:Nat))],[(500,some ⟨114,(elVs (elemsAt 0 (fs.take i))).map .val,Nat.blt 0 (elemsAt 0 (fs.take i)).length⟩),(501,some ⟨3,(ntV (startsAt 0 (fs.take i))).map .val,Nat.blt 0 i⟩)],X⟩) fs.length
  ⟨_,Le.ofR [(500,17),(501,18)] V11 V1 V2 V2 V0 V2 V2,0,by omega,by omega,rfl,rfl⟩ ?_
 rintro m σ ⟨i,hi,rfl,hall,rfl⟩
 have hEl:=elems_len (fs.take i) 0 hall
 have hSl:=starts_len (fs.take i) 0
 have hend:=end_le (fs.take i) 0 hall
 have hgw:=great_wd (fs.take i) hall
 have htl:(fs.take i).length=i:=by rw [dA];omega
 rw [htl] at hEl hSl hend
 by_cases hlt:i<fs.length
 ·obtain ⟨f,hf⟩:=wg hlt
  obtain ⟨blk,off,arr,el,fr,rfl,hX,hsz,hcells⟩:=hin.at hf
  have hio:=wo off i 3
  have hmem:f∈fs:=dE hf
  have hsm:=hin.small f hmem
  have hB:=refBytes_spec X f.kind
  have hE:elemsAt 0 (fs.take (i+1))=elemsAt 0 (fs.take i)++(List.range f.n).map (fun j=>(f.kind,roundUp (endAt 0 (fs.take i)) f.w+f.w*j)):=by rw [take_snoc hf,elems_snoc]
  have hS:startsAt 0 (fs.take (i+1))=startsAt 0 (fs.take i)++[roundUp (endAt 0 (fs.take i)) f.w]:=by rw [take_snoc hf,starts_snoc]
  have hA:endAt 0 (fs.take (i+1))=roundUp (endAt 0 (fs.take i)) f.w+f.w*f.n:=by rw [take_snoc hf,end_snoc]
  have hG:greatW (fs.take (i+1))=max (greatW (fs.take i)) f.w:=by rw [take_snoc hf,great_snoc]
  cases hok:f.ok with
  | false =>
   have hbad:=layErr_bad h8 hmem hok
   unfold layR layBx
   rw [hbad,if_neg (by decide),if_neg (by decide)]
   clear hE hS hA hG
   generalize elemsAt 0 (fs.take i)=E at *
   generalize startsAt 0 (fs.take i)=S at *
   generalize endAt 0 (fs.take i)=a at *
   generalize greatW (fs.take i)=g at *
   by_cases h0:kW f.kind=0
   ·rw [h0] at hB
    refine U53 ?_
    exact ⟨[],⟨[_,_,_,_],⟨O,O,O,O,trivial⟩,O⟩,trivial,O,O⟩
   ·have hk:kK f.kind=true:=by
     cases e:kK f.kind with
     | true=>rfl
     | false=>exact absurd ((kW_zero f.kind).2 e) h0
    by_cases h1:f.count<1
    ·(refine U36 ?_;refine bK O O (cP V3) (dT O O) ?_;refine U16 ?_)
     exact ⟨[],⟨[_,_,_,_],⟨O,O,O,O,trivial⟩,O⟩,trivial,O,O⟩
    ·have h2:8<f.count:=by
      unfold Fl.ok at hok
      rw [hk,cP (show 1≤f.count by omega)] at hok
      simpa using hok
     refine U53 ?_
     exact ⟨[],⟨[_,_,_,_],⟨O,O,O,O,trivial⟩,O⟩,trivial,O,O⟩
  | true =>
   have hall':=take_all hall hf hok
   obtain ⟨hw,hn1,hn8,hnc⟩:=ok_w hok
   have hR:=round_facts hw (endAt 0 (fs.take i))
   have hwk:kW f.kind=f.w:=rfl
   have hw8:1≤f.w∧f.w≤8:=by rcases hw with e|e|e|e<;>omega
   have hg8:greatW (fs.take i)≤8:=by rcases hgw with e|e|e|e<;>omega
   rw [hwk] at hB
   generalize elemsAt 0 (fs.take i)=E at *
   generalize startsAt 0 (fs.take i)=S at *
   generalize endAt 0 (fs.take i)=a at *
   generalize greatW (fs.take i)=g at *
   have hfc:f.vals.map CV.val=[.val (.string ⟨f.nm.toArray⟩),.val (.int .i64 f.kind),.val (.int .i64 (f.n:Nat))]:=by rw [hnc];rfl
   rw [hfc] at hcells
   generalize f.w=w at *
   generalize hT:roundUp a w=T at *
   generalize f.n=n at *
   refine U48 ?_
   generalize hmx:max g w=mx at *
   refine LWP.cut (fun σ=>σ=⟨[(0,Lx (some ⟨blk,off,none⟩) fs.length cap),(6,.sv (.one (.slc 500 0 (E.length) 2))),(7,.sv (.one (.slc 501 0 (i) 1))),(8,Ln .i64 (a:Nat)),(9,Ln .i64 (mx:Nat)),(10,Ln .i64 (i:Nat)),(11,.sv (.one (.ptr 11 0))),(12,Ln .i64 (w:Nat))],[(500,some ⟨114,(elVs E).map .val,Nat.blt 0 E.length⟩),(501,some ⟨3,(ntV (S)).map .val,Nat.blt 0 i⟩),(11,some ⟨83,[.val (.string ⟨f.nm.toArray⟩),.val (.int .i64 f.kind),.val (.int .i64 (n:Nat))],false⟩)],X⟩) ?_ ?_
   ·by_cases hgl:g<w
    ·have e:mx=w:=by omega
     refine U10 ?_
     exact ⟨_,Le.of (by exact ⟨rfl,rfl,rfl,rfl,by rw [e];rfl,rfl,rfl,rfl,trivial⟩) V9 V2 V2 V0,rfl⟩
    ·have e:mx=g:=by omega
     refine U7 ?_
     exact ⟨_,Le.of (by exact ⟨rfl,rfl,rfl,rfl,by rw [e];rfl,rfl,rfl,rfl,trivial⟩) V9 V2 V2 V0,rfl⟩
   rintro σ rfl
   refine U2 ?_
   refine cL (fun m σ=>∃ b:Nat,a≤b∧b≤T∧m=T-b∧σ=⟨[(0,Lx (some ⟨blk,off,none⟩) fs.length cap),(6,.sv (.one (.slc 500 0 (E.length) 2))),(7,.sv (.one (.slc 501 0 (i) 1))),(8,Ln .i64 (b:Nat)),(9,Ln .i64 (mx:Nat)),(10,Ln .i64 (i:Nat)),(11,.sv (.one (.ptr 11 0))),(12,Ln .i64 (w:Nat))],[(500,some ⟨114,(elVs E).map .val,Nat.blt 0 E.length⟩),(501,some ⟨3,(ntV (S)).map .val,Nat.blt 0 i⟩),(11,some ⟨83,[.val (.string ⟨f.nm.toArray⟩),.val (.int .i64 f.kind),.val (.int .i64 (n:Nat))],false⟩)],X⟩) (T-a)
    ⟨_,Le.of V15 V9 V2 V2 V0,a,dO _,hR.2.1,rfl,rfl⟩ ?_
   rintro m σ ⟨b,hb1,hb2,rfl,rfl⟩
   have hrem:((b:Nat):Int).tmod ((w:Nat):Int)=((b%w:Nat):Int):=by rw [Int.tmod_eq_emod_of_nonneg V3];exact (Int.natCast_emod b w).symm
   by_cases hz:b%w=0
   ·have hbT:=hR.2.2.2 b hb1 hb2 hz
    subst hbT
    rw [hz] at hrem
    have hcl:((ntV S).map CV.val).length=i*1:=by simp [ntV,hSl]
    have hnc1:(ntV S).map CV.val++[.val (.int .i64 (b:Nat))]=(ntV (S++[b])).map CV.val:=by simp [ntV]
    (refine U5 ?_;refine K.rem O O V3 hrem dS ?_;refine U8 ?_;refine aZ (zs:=[.int .i64 0]) (sz:=1) (e:=3) V5 O O O O O O dS<|bQ (by_:=8) (e2:=3) (l2:=[.val (.int .i64 (b:Nat))]) O O hcl O O (dO _) O O V5 V5 V3 V3 O O hnc1 dS ?_;refine U7 ?_)
    refine cL (fun m σ=>∃ j:Nat,j≤n∧m=n-j∧σ=⟨[(0,Lx (some ⟨blk,off,none⟩) fs.length cap),(6,.sv (.one (.slc 500 0 (E.length+j) 2))),(7,.sv (.one (.slc 501 0 (i+1) 1))),(8,Ln .i64 (b+w*j:Nat)),(9,Ln .i64 (mx:Nat)),(10,Ln .i64 (i:Nat)),(11,.sv (.one (.ptr 11 0))),(12,Ln .i64 (w:Nat)),(13,Ln .i64 (j:Nat))],[(500,some ⟨114,(elVs (E++(List.range j).map (fun q=>(f.kind,b+w*q)))).map .val,Nat.blt 0 (E.length+j)⟩),(501,some ⟨3,(ntV (S++[b])).map .val,true⟩),(11,some ⟨83,[.val (.string ⟨f.nm.toArray⟩),.val (.int .i64 f.kind),.val (.int .i64 (n:Nat))],false⟩)],X⟩) n
     ⟨_,Le.ofR [(501,57)] V1B (by rw [List.range_zero,List.map_nil,dK];exact V1) V2 V2 V0 V2 V2,0,by omega,rfl,rfl⟩ ?_
    rintro m σ ⟨j,hj,rfl,rfl⟩
    have hwj:w*j≤64:=Nat.le_trans (Nat.mul_le_mul hw8.2 (Nat.le_trans hj hn8)) VA
    by_cases hjn:j<n
    ·have hrg:(List.range (j+1)).map (fun q=>(f.kind,b+w*q))=(List.range j).map (fun q=>(f.kind,b+w*q))++[(f.kind,b+w*j)]:=by rw [List.range_succ,dI];rfl
     have hcl2:((elVs (E++(List.range j).map (fun q=>(f.kind,b+w*q)))).map CV.val).length=(E.length+j)*2:=by rw [cX,elVs_len];simp
     have hnc2:(elVs (E++(List.range j).map (fun q=>(f.kind,b+w*q)))).map CV.val++[.val (.int .i64 f.kind),.val (.int .i64 (b+w*j:Nat))]=(elVs (E++(List.range (j+1)).map (fun q=>(f.kind,b+w*q)))).map CV.val:=by
      rw [hrg,← dN,elVs_app (E++_) [_],dI]
      rfl
     have hadd:((b+w*j:Nat):Int)+((w:Nat):Int)=((b+w*(j+1):Nat):Int):=by rw [Nat.mul_add,Nat.mul_one];omega
     have hwr:IntKind.i64.wrap (((b+w*j:Nat):Int)+((w:Nat):Int))=((b+w*(j+1):Nat):Int):=by rw [cH V3];exact hadd
     (refine U19 ?_;refine aZ (zs:=[.int .i64 0,.int .i64 0]) (sz:=2) (e:=114) V5 O O O O O O dS<|bQ (by_:=16) (e2:=114) (l2:=[.val (.int .i64 f.kind),.val (.int .i64 (b+w*j:Nat))]) (nl:=E.length+(j+1)) O O hcl2 O O (dO _) O O V5 V5 V3 V3 O O hnc2 dS ?_;refine U13 ?_)
     exact ⟨_,_,by omega,Le.ofR [(500,70)] V1B V1 V2 V2 V0 V2 V2,j+1,by omega,O,O⟩
    ·have e:j=n:=by omega
     subst e
     have hEn:(E++(List.range j).map (fun q=>(f.kind,b+w*q))).length=E.length+j:=by simp
     refine U15 ?_
     exact ⟨_,_,by omega,Le.ofR [] (by exact ⟨rfl,by rw [hE,hEn];rfl,rfl,by rw [hA];rfl,by rw [hG];rfl,rfl,trivial⟩) (by rw [hE,hS,hEn];exact V1) V2 V2 V0 V2 V2,i+1,by omega,rfl,hall',rfl⟩
   ·have hbT:b≠T:=fun e=>hz (by rw [e];exact hR.1)
    (refine U5 ?_;refine K.rem O O V3 hrem dS ?_;refine U10 ?_)
    exact ⟨_,_,by omega,Le.of V15 V9 V2 V2 V0,b+1,by omega,by omega,O,O⟩
 ·have e:i=fs.length:=by omega
  subst e
  rw [dG] at *
  have hR:=round_facts hgw (endAt 0 fs)
  have hg8:1≤greatW fs∧greatW fs≤8:=by rcases hgw with e|e|e|e<;>omega
  have hrs:roundUp (endAt 0 fs) (greatW fs)=rowSize fs:=rfl
  have hle:=layErr_all h8 hall
  refine U12 ?_
  refine cL (fun m σ=>∃ b:Nat,endAt 0 fs≤b∧b≤rowSize fs∧m=rowSize fs-b∧σ=⟨[(6,.sv (.one (.slc 500 0 (elemsAt 0 fs).length 2))),(7,.sv (.one (.slc 501 0 fs.length 1))),(8,Ln .i64 (b:Nat)),(9,Ln .i64 (greatW fs:Nat))],[(500,some ⟨114,(elVs (elemsAt 0 fs)).map .val,Nat.blt 0 (elemsAt 0 fs).length⟩),(501,some ⟨3,(ntV (startsAt 0 fs)).map .val,Nat.blt 0 fs.length⟩)],X⟩) (rowSize fs-endAt 0 fs)
   ⟨_,Le.of V8 VE V2 V2 V0,endAt 0 fs,dO _,hR.2.1,rfl,rfl⟩ ?_
  rintro m σ ⟨b,hb1,hb2,rfl,rfl⟩
  rw [hrs] at hR
  unfold layR layBx
  rw [hle]
  generalize rowSize fs=T at *
  generalize endAt 0 fs=a at *
  generalize elemsAt 0 fs=E at *
  generalize startsAt 0 fs=S at *
  generalize greatW fs=w at *
  have hrem:((b:Nat):Int).tmod ((w:Nat):Int)=((b%w:Nat):Int):=by rw [Int.tmod_eq_emod_of_nonneg V3];exact (Int.natCast_emod b w).symm
  by_cases hz:b%w=0
  ·have hbT:=hR.2.2.2 b hb1 hb2 hz
   subst hbT
   rw [hz] at hrem
   by_cases h256:256<b
   ·rw [if_pos h256,if_neg VA,if_neg VA]
    (refine U5 ?_;refine K.rem O O V3 hrem dS ?_;refine U19 ?_)
    exact ⟨[],⟨[_,_,_,_],⟨O,O,O,O,trivial⟩,O⟩,trivial,O,O⟩
   ·rw [if_neg h256,if_pos rfl,if_pos rfl]
    (refine U5 ?_;refine K.rem O O V3 hrem dS ?_;refine U23 ?_)
    exact ⟨[(1000001,500),(1000002,501)],⟨[_,_,_,_],⟨O,O,O,O,trivial⟩,O⟩,V1,O,O⟩
  ·have hbT:b≠T:=fun e=>hz (by rw [e];exact hR.1)
   (refine U5 ?_;refine K.rem O O V3 hrem dS ?_;refine U10 ?_)
   exact ⟨_,_,by omega,Le.of V8 VE V2 V2 V0,b+1,by omega,by omega,O,O⟩
end Go.Proofs.YtopiioklkkiedaaGreatDoor
end
section
set_option maxHeartbeats 12800000
set_option maxRecDepth 100000
namespace Go.Lg.Fld
open Go Go.Lg
theorem elVs_at:∀ {l:List (Int×Nat)} {i:Nat} {e:Int×Nat},l[i]? = some e→((elVs l).map CV.val)[i*2]? = some (.val (.int .i64 e.1))∧((elVs l).map CV.val)[i*2+1]? = some (.val (.int .i64 (e.2:Nat)))
 | [],i,e,h=>by simp at h
 | d::t,0,e,h=>by
  simp only [List.getElem?_cons_zero,Option.some.injEq] at h
  subst h
  exact V30
 | d::t,i+1,e,h=>by
  have ih:=elVs_at (l:=t) (i:=i) (e:=e) V2E
  have e1:(elVs (d::t)).map CV.val = .val (.int .i64 d.1) :: .val (.int .i64 (d.2:Nat))::(elVs t).map CV.val:=rfl
  rw [e1,Nat.add_mul,Nat.one_mul]
  exact ih
def nmV (n:Bool×Int):List Value:=[.bool n.1,.int .u64 (n.2/18446744073709551616),.int .u64 (n.2%18446744073709551616)]
end Go.Lg.Fld
namespace Go.Proofs.YtopiioklkkiedaaGreatDoor
open Go Go.Lg Go.Lg.Fld
set_option maxRecDepth 100000
variable (X:Nat→Option Obj)
structure NumsIn (X:Nat→Option Obj) (ad:Option Addr) (ns:List (Bool×Int)):Prop where
 rows:Go.Lg.RowsIn X ad 3 (ns.map nmV)
 in2:∀ n∈ns,In2 n.2
theorem NumsIn.at {X:Nat→Option Obj} {ad:Option Addr} {ns:List (Bool×Int)} (h:NumsIn X ad ns) {i:Nat} {b:Bool} {N:Int} (hf:ns[i]? = some (b,N)):
  In2 N∧∃ (blk off:Nat) (arr:Array Value) (el:TypeId) (fr:Nat×Nat),ad=some ⟨blk,off,none⟩∧X blk=some (.cells arr el fr)∧off+i*3+3≤arr.size∧((arr.toList.drop (off+i*3)).take 3).map CV.val=cI b N:=by
 obtain ⟨blk,off,arr,el,fr,h1,h2,h3,h4⟩:=h.rows i (nmV (b,N)) (by rw [dM,hf];rfl)
 exact ⟨h.in2 (b,N) (dE hf),blk,off,arr,el,fr,h1,h2,h3,by rw [h4];rfl⟩
theorem Lay_ok (ad:Option Addr) (cap:Nat) (fs:List Fl) (hin:FieldsIn X ad fs) (hbig:fs.length<4611686018427387904) (h:layErr fs=0):
  MSpec Tryz.prog X 37 [Lx ad fs.length cap] [] (.tup [.one (.slc 1000001 0 (elemsAt 0 fs).length 2),Sn .i64 (rowSize fs:Nat),.one (.slc 1000002 0 fs.length 1),Sn .i64 0])
   [(1000001,some ⟨114,(elVs (elemsAt 0 fs)).map .val,Nat.blt 0 (elemsAt 0 fs).length⟩),(1000002,some ⟨3,(ntV (startsAt 0 fs)).map .val,Nat.blt 0 fs.length⟩)]:=by
 have:=Lay_spec X ad cap fs hin hbig
 unfold layR layBx at this
 rw [if_pos h,if_pos h] at this
 exact this
theorem Lay_no (ad:Option Addr) (cap:Nat) (fs:List Fl) (hin:FieldsIn X ad fs) (hbig:fs.length<4611686018427387904) (h:layErr fs≠0):
  MSpec Tryz.prog X 37 [Lx ad fs.length cap] [] (.tup [Vnil,Sn .i64 0,Vnil,Sn .i64 (layErr fs)]) []:=by
 have:=Lay_spec X ad cap fs hin hbig
 unfold layR layBx at this
 rw [if_neg h,if_neg h] at this
 exact this
theorem layErr_facts {fs:List Fl} (h:layErr fs=0):fs.length≤8∧fs.all Fl.ok=true∧rowSize fs≤256:=by
 unfold layErr at h
 split at h
 ·cases h
 ·split at h
  ·split at h
   ·cases h
   ·rename_i h1 h2 h3;exact ⟨by omega,h2,by omega⟩
  ·cases h
def fitAll (es:List (Int×Nat)) (ns:List (Bool×Int)):Bool:=(es.zip ns).all fun p=>fitB p.1.1 p.2.1 p.2.2
def fitErr (fs:List Fl) (ns:List (Bool×Int)):Int:=if layErr fs=0 then (if (elemsAt 0 fs).length=ns.length then (if fitAll (elemsAt 0 fs) ns=true then 0 else 3) else 4) else layErr fs
theorem zip_at {α β:Type} {es:List α} {ns:List β} {i:Nat} {e:α} {n:β} (h1:es[i]? = some e) (h2:ns[i]? = some n):(es.zip ns)[i]? = some (e,n):=List.getElem?_zip_eq_some.2 ⟨h1,h2⟩
set_option maxHeartbeats 1600000 in
theorem refFit_spec (ad ad2:Option Addr) (cap cap2:Nat) (fs:List Fl) (ns:List (Bool×Int)) (hin:FieldsIn X ad fs) (hbig:fs.length<4611686018427387904) (hns:NumsIn X ad2 ns) (hnb:ns.length<4611686018427387904):
  PSpec Tryz.prog X 36 [Lx ad fs.length cap,Lx ad2 ns.length cap2] (Ln .i64 (fitErr fs ns)):=by
 refine cF Tryz.func36 rfl V5 rfl rfl ?_
 intro C
 unfold fitErr
 by_cases hl:layErr fs=0
 ·have hL:=Lay_ok X ad cap fs hin hbig hl
  obtain ⟨h8,hall,_⟩:=layErr_facts hl
  have hEl:=elems_len fs 0 hall
  rw [if_pos hl]
  generalize elemsAt 0 fs=E at *
  generalize startsAt 0 fs=S at *
  generalize rowSize fs=T at *
  by_cases hn:E.length=ns.length
  ·rw [if_pos hn]
   (refine U7 ?_;refine bE [(1000001,501),(1000002,502)] (.tup [.one (.slc 501 0 E.length 2),Sn .i64 (T:Nat),.one (.slc 502 0 fs.length 1),Sn .i64 0]) [(501,some ⟨114,(elVs E).map .val,Nat.blt 0 E.length⟩),(502,some ⟨3,(ntV S).map .val,Nat.blt 0 fs.length⟩)] (hL) O O VC O O O O O V1D dS ?_;refine U35 ?_)
   refine cL (fun m σ=>∃ i:Nat,i≤E.length∧m=E.length-i∧((E.zip ns).take i).all (fun p=>fitB p.1.1 p.2.1 p.2.2)=true∧σ=⟨[(1,Lx ad2 ns.length cap2),(5,.sv (.one (.slc 501 0 E.length 2))),(9,Ln .i64 (i:Nat))],[(501,some ⟨114,(elVs E).map .val,Nat.blt 0 E.length⟩)],X⟩) E.length
    ⟨_,Le.of V9 V13 V2 V2 V0,0,by omega,rfl,rfl,rfl⟩ ?_
   rintro m σ ⟨i,hi,rfl,hpre,rfl⟩
   by_cases hlt:i<E.length
   ·obtain ⟨e,he⟩:=wg hlt
    obtain ⟨⟨b,N⟩,hv⟩:∃ v,ns[i]? = some v:=wg V3
    obtain ⟨hN,blk,off,arr,el,fr,rfl,hX,hsz,hcells⟩:=hns.at hv
    have hio:=wo off i 3
    have hie:0+Int.toNat (i:Int)*2=i*2:=by simp
    have hc:=(elVs_at he).1
    have hzip:=zip_at he hv
    have hF:=refFits_spec X e.1 b N hN
    cases hf:fitB e.1 b N with
    | true =>
     have hF':=hF true hf
     (refine U13 ?_;refine rgD mixed ?_;refine U4 ?_;refine kl1 rfl rfl hc ?_;refine U15 ?_)
     exact ⟨_,_,by omega,Le.of V9 V13 V2 V2 V0,i+1,by omega,rfl,by rw [take_snoc hzip,List.all_append,hpre];simp [hf],rfl⟩
    | false =>
     have hF':=hF false hf
     have hno:fitAll E ns=false:=by
      unfold fitAll
      cases h:(E.zip ns).all (fun p=>fitB p.1.1 p.2.1 p.2.2) with
      | false=>rfl
      | true=>have:=List.all_eq_true.1 h _ (dE hzip);rw [hf] at this;cases this
     rw [hno]
     (refine U13 ?_;refine rgD mixed ?_;refine U4 ?_;refine kl1 rfl rfl hc ?_;refine U14 ?_)
     exact V6
   ·have e:i=E.length:=by omega
    subst e
    have hyes:fitAll E ns=true:=by
     rw [List.take_of_length_le (by rw [List.length_zip];omega)] at hpre
     exact hpre
    rw [hyes]
    refine U15 ?_
    exact V6
  ·rw [if_neg hn]
   (refine U7 ?_;refine bE [(1000001,501),(1000002,502)] (.tup [.one (.slc 501 0 E.length 2),Sn .i64 (T:Nat),.one (.slc 502 0 fs.length 1),Sn .i64 0]) [(501,some ⟨114,(elVs E).map .val,Nat.blt 0 E.length⟩),(502,some ⟨3,(ntV S).map .val,Nat.blt 0 fs.length⟩)] (hL) O O VC O O O O O V1D dS ?_;refine U33 ?_)
   exact V6
 ·have hL:=Lay_no X ad cap fs hin hbig hl
  rw [if_neg hl]
  generalize layErr fs=e at *
  (refine U7 ?_;refine aU [] [] (hL) O O VC O O O O O V2B dS ?_;refine U23 ?_)
  exact V6
end Go.Proofs.YtopiioklkkiedaaGreatDoor
end
section
set_option maxHeartbeats 12800000
set_option maxRecDepth 100000
namespace Go.Lg.Fld
open Go Go.Lg
def setAt (b:List UInt8) (p:Nat) (s:List UInt8):List UInt8:=b.take p++s++b.drop (p+s.length)
theorem setAt_len {b s:List UInt8} {p:Nat} (h:p+s.length≤b.length):(setAt b p s).length=b.length:=by
 simp only [setAt,cW,dA,dC];omega
end Go.Lg.Fld
namespace Go.Proofs.YtopiioklkkiedaaGreatDoor
open Go Go.Lg Go.Lg.Fld
set_option maxRecDepth 100000
variable (X:Nat→Option Obj)
def numB (k:Int) (n:Bool×Int):List UInt8:=leB (kW k) (wdK k (zv n.1 n.2))
def packE:List (Int×Nat)→List (Bool×Int)→List UInt8→List UInt8
 | e::t,v::u,b=>packE t u (setAt b e.2 (numB e.1 v))
 | _,_,b=>b
theorem packE_snoc (e:Int×Nat) (v:Bool×Int):∀ (l:List (Int×Nat)) (m:List (Bool×Int)) (b:List UInt8),l.length=m.length→packE (l++[e]) (m++[v]) b=setAt (packE l m b) e.2 (numB e.1 v)
 | [],[],b,_=>rfl
 | e'::t,v'::u,b,h=>packE_snoc e v t u _ V2E
 | [],_::_,_,h=>by simp at h
 | _::_,[],_,h=>by simp at h
def Within (es:List (Int×Nat)) (T:Nat):Prop := ∀ e∈es,kK e.1=true∧e.2+kW e.1≤T
theorem elems_in:∀ (l:List Fl) (a:Nat),l.all Fl.ok=true→∀ e∈elemsAt a l,kK e.1=true∧a≤e.2∧e.2+kW e.1≤endAt a l
 | [],a,_,e,he=>by simp [elemsAt] at he
 | f::t,a,h,e,he=>by
  simp only [List.all_cons,Bool.and_eq_true] at h
  obtain ⟨hw,h1,h8,hc⟩:=ok_w h.1
  have hr:=round_facts hw a
  have hi:=end_le t (roundUp a f.w+f.w*f.n) h.2
  simp only [elemsAt,List.mem_append,List.mem_map,List.mem_range] at he
  rcases he with ⟨i,hin,rfl⟩|he
  ·have hk:kK f.kind=true:=by have:=h.1;simp only [Fl.ok,Bool.and_eq_true] at this;exact this.1
   have hm:f.w*i+f.w≤f.w*f.n:=by rw [← Nat.mul_succ];exact Nat.mul_le_mul_left _ hin
   refine ⟨hk,by simp only;omega,?_⟩
   show roundUp a f.w+f.w*i+f.w≤endAt (roundUp a f.w+f.w*f.n) t
   omega
  ·have:=elems_in t _ h.2 e he
   refine ⟨this.1,by omega,?_⟩
   exact this.2.2
theorem within_row {fs:List Fl} (h:fs.all Fl.ok=true):Within (elemsAt 0 fs) (rowSize fs):=fun e he=>by
 have h1:=elems_in fs 0 h e he
 have h2:=round_facts (great_wd fs h) (endAt 0 fs)
 refine ⟨h1.1,Nat.le_trans h1.2.2 h2.2.1⟩
theorem numB_len (k:Int) (n:Bool×Int):(numB k n).length=kW k:=leB_length _ _
theorem packE_len {T:Nat}:∀ {es:List (Int×Nat)} {ns:List (Bool×Int)} {b:List UInt8},Within es T→b.length=T→(packE es ns b).length=T
 | [],_,b,_,hb=>hb
 | _::_,[],b,_,hb=>hb
 | e::t,v::u,b,hw,hb=>by
  have h1:=(hw e V21).2
  exact packE_len (es:=t) (ns:=u) (fun x hx=>hw x (by simp [hx])) (by rw [setAt_len (by rw [numB_len];omega)];exact hb)
def packB (fs:List Fl) (ns:List (Bool×Int)):List UInt8:=packE (elemsAt 0 fs) ns (List.replicate (rowSize fs) 0)
theorem fitErr_facts {fs:List Fl} {ns:List (Bool×Int)} (h:fitErr fs ns=0):layErr fs=0∧(elemsAt 0 fs).length=ns.length∧fitAll (elemsAt 0 fs) ns=true:=by
 unfold fitErr at h
 split at h
 ·rename_i h0
  split at h
  ·rename_i h1
   split at h
   ·rename_i h2;exact ⟨h0,h1,h2⟩
   ·cases h
  ·cases h
 ·contradiction
theorem fitAll_at {es:List (Int×Nat)} {ns:List (Bool×Int)} (h:fitAll es ns=true) {i:Nat} {e:Int×Nat} {b:Bool} {N:Int} (he:es[i]? = some e) (hv:ns[i]? = some (b,N)):formB b N=true∧kK e.1=true∧fitZ e.1 (zv b N)=true:=by
 have:=List.all_eq_true.1 h _ (dE (zip_at he hv))
 simp only [fitB,Bool.and_eq_true] at this
 exact ⟨this.2.1,this.1,this.2.2⟩
end Go.Proofs.YtopiioklkkiedaaGreatDoor
end
section
set_option maxHeartbeats 12800000
set_option maxRecDepth 100000
namespace Go.Proofs.YtopiioklkkiedaaGreatDoor
open Go Go.Lg Go.Lg.Fld
set_option maxRecDepth 100000
variable (X:Nat→Option Obj)
def qn (z:Int):Bool×Int:=(decide (z<0),mg z)
theorem zv_qn (z:Int):zv (qn z).1 (qn z).2=z:=by
 unfold qn zv mg
 by_cases h:z<0
 ·simp [h]
 ·simp [h]
def rdE (s:List UInt8) (e:Int×Nat):Int:=nbK e.1 (le ((s.drop e.2).take (kW e.1)))
def readOk (es:List (Int×Nat)) (s:List UInt8):Bool:=es.all fun e=>fitZ e.1 (rdE s e)
def unpZ (fs:List Fl) (s:List UInt8):List Int:=(elemsAt 0 fs).map (rdE s)
def unpOk (fs:List Fl) (s:List UInt8):Bool:=decide (s.length=rowSize fs)&&(readOk (elemsAt 0 fs) s&&(packB fs ((unpZ fs s).map qn)==s))
def unpErr (fs:List Fl) (s:List UInt8):Int:=if layErr fs=0 then (if unpOk fs s=true then 0 else 4) else layErr fs
def nsV (zs:List Int):List Value:=(zs.map fun z=>nmV (qn z)).flatten
theorem nsV_len (zs:List Int):(nsV zs).length=zs.length*3:=by
 induction zs with
 | nil=>rfl
 | cons z t ih=>simp only [nsV,List.map_cons,List.flatten_cons,cW] at ih ⊢;rw [ih];simp [nmV];omega
theorem read_R {es:List (Int×Nat)} {s:List UInt8} {T:Nat} (hW:Within es T) (hs:s.length=T) {e:Int×Nat} (he:e∈es):((s.drop e.2).take (kW e.1)).length=kW e.1∧R127 (rdE s e):=by
 have h:=hW e he
 have hl:((s.drop e.2).take (kW e.1)).length=kW e.1:=by rw [dA,dC];omega
 refine ⟨hl,?_⟩
 have hb:=le_lt ((s.drop e.2).take (kW e.1))
 rw [hl] at hb
 exact nb_R h.1 hb
theorem nums_in2 {zs:List Int} (h:∀ z∈zs,R127 z):∀ n∈zs.map qn,In2 n.2:=fun n hn=>by
 obtain ⟨z,hz,rfl⟩:=List.mem_map.1 hn
 exact mg_in2 (h z hz)
def unpR (fs:List Fl) (s:List UInt8):LV:=if unpErr fs s=0 then .tup [.one (.slc 1000001 0 (unpZ fs s).length 3),Sn .i64 0] else .tup [Vnil,Sn .i64 (unpErr fs s)]
end Go.Proofs.YtopiioklkkiedaaGreatDoor
end
section
set_option maxHeartbeats 12800000
set_option maxRecDepth 100000
namespace Go.Lg.Fld
open Go Go.Lg
def elemsN (fs:List Fl):Nat:=if layErr fs=0 then (elemsAt 0 fs).length else 0
def sumC (fs:List Fl):Nat:=(fs.map Fl.n).sum
def startN (fs:List Fl) (i:Int):Nat:=if layErr fs=0∧0≤i∧i<fs.length then sumC (fs.take i.toNat) else 0
abbrev planV (size:Int) (c:CV):SV:=.agg [.val (.int .i64 size),c]
theorem elems_sum:∀ (l:List Fl) (a:Nat),(elemsAt a l).length=sumC l
 | [],_=>rfl
 | f::t,a=>by
  simp only [elemsAt,cW,cX,List.length_range,elems_sum t]
  simp [sumC]
theorem sum_snoc (l:List Fl) (f:Fl):sumC (l++[f])=sumC l+f.n:=by simp [sumC]
theorem sum_le:∀ (l:List Fl),l.all Fl.ok=true→sumC l≤8*l.length:=fun l h=>by
 have:=(elems_len l 0 h).2
 rw [elems_sum] at this
 exact this
def canB (fs:List Fl):Bool:=decide (fs.length≤8)&&fs.all Fl.ok
theorem canB_err {fs:List Fl} (h:canB fs=false):layErr fs=1:=by
 unfold canB at h
 unfold layErr
 by_cases h8:8<fs.length
 ·rw [if_pos h8]
 ·rw [if_neg h8]
  rw [cP (show fs.length≤8 by omega),Bool.true_and] at h
  rw [h,if_neg (by simp)]
theorem canB_ok {fs:List Fl} (h:canB fs=true):fs.length≤8∧fs.all Fl.ok=true∧layErr fs=if 256<rowSize fs then 5 else 0:=by
 unfold canB at h
 rw [Bool.and_eq_true,decide_eq_true_eq] at h
 refine ⟨h.1,h.2,?_⟩
 unfold layErr
 rw [if_neg (by omega),if_pos h.2]
theorem round_up {n:Nat} (h:isWd n) (a:Nat):(a+n-1)/n*n=roundUp a n:=by
 unfold roundUp
 rcases h with rfl|rfl|rfl|rfl<;>omega
def blankB (l:List UInt8):Bool:=l.all fun c=>c==0
theorem dropWhile_nil {l:List UInt8}:l.dropWhile (· == (0:UInt8))=[]↔l.all (fun c=>c==0)=true:=by
 induction l with
 | nil=>simp
 | cons c t ih =>
  rw [List.dropWhile_cons]
  cases hc:(c==0) with
  | true=>rw [if_pos rfl,ih,List.all_cons,hc,Bool.true_and]
  | false=>rw [if_neg V21,List.all_cons,hc,Bool.false_and];simp
theorem trim_blank (l:List UInt8):(Lib.trimB l 0==[])=blankB l:=by
 unfold blankB
 have h1:Lib.trimB l 0=[]↔l.all (fun c=>c==0)=true:=by
  unfold Lib.trimB Lib.trimLeftB Lib.trimRightB
  rw [dropWhile_nil,List.all_reverse]
  constructor
  ·intro h
   have h2:l.reverse.dropWhile (· == (0:UInt8))=[]:=by
    cases e:l.reverse.dropWhile (· == (0:UInt8)) with
    | nil=>rfl
    | cons c t =>
     have h3:=List.head_dropWhile_not (fun x=>x==(0:UInt8)) (l:=l.reverse) (by rw [e];simp)
     rw [e] at h
     simp only [List.all_cons,Bool.and_eq_true] at h
     simp only [e,List.head_cons] at h3
     rw [h.1] at h3
     cases h3
   rw [dropWhile_nil,List.all_reverse] at h2
   exact h2
  ·intro h
   have h2:l.reverse.dropWhile (· == (0:UInt8))=[]:=by rw [dropWhile_nil,List.all_reverse];exact h
   rw [h2];rfl
 cases hb:l.all (fun c=>c==0) with
 | true=>rw [h1.2 hb];rfl
 | false =>
  refine cS fun e => ?_
  rw [h1.1 e] at hb
  cases hb
end Go.Lg.Fld
namespace Go.Proofs.YtopiioklkkiedaaGreatDoor
open Go Go.Lg Go.Lg.Fld
set_option maxRecDepth 100000
variable (X:Nat→Option Obj)
theorem trimRight_spec (l:List UInt8) (hl:l.length<4611686018427387904):PSpec Tryz.prog X 163 [Ls l,Ln .u8 0] (Ls (Lib.trimRightB l 0)):=by
 refine cF Tryz.func163 rfl V5 rfl rfl ?_
 intro C
 refine U6 ?_
 refine cL (fun m σ=>∃ k:Nat,k≤l.length∧m=k∧(∀ (j:Nat) b,k≤j→l[j]? = some b→b=0)∧σ=⟨[(0,Ls (l.take k)),(1,Ln .u8 0)],[],X⟩) l.length
  ⟨_,Le.of (by exact ⟨by rw [dG];rfl,rfl,trivial⟩) VC V2 V2 V2,l.length,by omega,rfl,(fun j b hj hb=>by rw [List.getElem?_eq_none hj] at hb;cases hb),rfl⟩ ?_
 rintro m σ ⟨k,hk,rfl,hz,rfl⟩
 have hlen:(⟨(l.take m).toArray⟩:ByteArray).size=m:=by show (l.take m).length=m;rw [dA];omega
 by_cases h0:m=0
 ·subst h0
  rw [Lib.trimRightB_take l 0 0 hk hz (fun _ h=>absurd h (by omega))]
  refine U24 ?_
  exact V6
 ·obtain ⟨c,hc⟩:∃ c,l[m-1]? = some c:=wg V3
  have hc':(l.take m)[m-1]? = some c:=by rw [List.getElem?_take,if_pos V3];exact hc
  have hm1:((m:Nat):Int)-1=((m-1:Nat):Int):=by omega
  have hw:IntKind.i64.wrap (((⟨(l.take m).toArray⟩:ByteArray).size:Nat)-1:Int)=((m-1:Nat):Int):=by rw [hlen,cH V3];omega
  by_cases hcz:c=0
  ·have hcut:(⟨(l.take m).toArray⟩:ByteArray).extract 0 (m-1)=⟨(l.take (m-1)).toArray⟩:=by rw [str_cut,List.drop_zero,List.take_take];congr 3;omega
   have hz':∀ (j:Nat) b,m-1≤j→l[j]? = some b→b=0:=fun j b hj hb=>by
    by_cases e:j=m-1
    ·subst e;rw [hc] at hb;cases hb;exact hcz
    ·exact hz j b V3 hb
   have heq:(((c.toNat:Nat):Int)==0)=true:=by rw [hcz];rfl
   (refine U5 ?_;refine aS O O (cP V22) dS ?_;refine U3 ?_;refine K.lenStr O (dT O O) ?_;refine bA O O hw (dT O O) ?_;refine bB O O V3 (str_at (by rw [dH];exact hc')) (dT O O) ?_;refine U12 ?_;refine bN (l:=0) (h:=m-1) (kl:=.i64) (kh:=.i64) O StrT.u O O ⟨V3,V3⟩ hcut dS ?_;refine U2 ?_)
   exact ⟨m-1,_,by omega,Le.of VE VC V2 V2 V2,m-1,by omega,O,hz',O⟩
  ·have heq:(((c.toNat:Nat):Int)==0)=false:=cS fun e=>hcz (by
    have h5:c.toNat=0:=by omega
    exact UInt8.toNat_inj.1 h5)
   rw [Lib.trimRightB_take l 0 m hk hz (fun b _ hb=>by rw [hc] at hb;cases hb;exact hcz)]
   (refine U5 ?_;refine aS O O (cP V22) dS ?_;refine U3 ?_;refine K.lenStr O (dT O O) ?_;refine bA O O hw (dT O O) ?_;refine bB O O V3 (str_at (by rw [dH];exact hc')) (dT O O) ?_;refine U12 ?_)
   exact V6
theorem trimLeft_spec (l:List UInt8) (hl:l.length<4611686018427387904):PSpec Tryz.prog X 162 [Ls l,Ln .u8 0] (Ls (Lib.trimLeftB l 0)):=by
 refine cF Tryz.func162 rfl V5 rfl rfl ?_
 intro C
 refine U6 ?_
 refine cL (fun m σ=>∃ k:Nat,k≤l.length∧m=l.length-k∧(∀ (j:Nat) b,j<k→l[j]? = some b→b=0)∧σ=⟨[(0,Ls (l.drop k)),(1,Ln .u8 0)],[],X⟩) l.length
  ⟨_,Le.of VE VC V2 V2 V2,0,by omega,rfl,(fun j b hj=>absurd hj V3),rfl⟩ ?_
 rintro m σ ⟨k,hk,rfl,hz,rfl⟩
 have hlen:(⟨(l.drop k).toArray⟩:ByteArray).size=l.length-k:=by show (l.drop k).length=_;rw [dC]
 by_cases h0:k=l.length
 ·subst h0
  rw [Lib.trimLeftB_drop l 0 l.length hk hz (fun b hb=>by rw [List.getElem?_eq_none (dO _)] at hb;cases hb)]
  (refine U5 ?_;refine aS O O (cO V22) dS ?_;refine U15 ?_)
  exact V6
 ·obtain ⟨c,hc⟩:∃ c,l[k]? = some c:=wg V3
  have hc':(l.drop k)[0]? = some c:=by rw [List.getElem?_drop];exact hc
  by_cases hcz:c=0
  ·have hcut:(⟨(l.drop k).toArray⟩:ByteArray).extract 1 (l.length-k)=⟨(l.drop (k+1)).toArray⟩:=by rw [str_cut,List.drop_drop,List.take_of_length_le (by rw [dC];omega)]
   have hz':∀ (j:Nat) b,j<k+1→l[j]? = some b→b=0:=fun j b hj hb=>by
    by_cases e:j=k
    ·subst e;rw [hc] at hb;cases hb;exact hcz
    ·exact hz j b V3 hb
   have heq:(((c.toNat:Nat):Int)==0)=true:=by rw [hcz];rfl
   (refine U5 ?_;refine aS O O (cP V22) dS ?_;refine U2 ?_;refine bB O O V3 (str_at hc') (dT O O) ?_;refine U9 ?_;refine bN (l:=1) (h:=l.length-k) (kl:=.i64) (kh:=.i64) O StrT.u O hlen.symm ⟨V3,V22⟩ hcut dS ?_;refine U2 ?_)
   exact ⟨_,_,by omega,Le.of VE VC V2 V2 V2,k+1,by omega,O,hz',O⟩
  ·have heq:(((c.toNat:Nat):Int)==0)=false:=cS fun e=>hcz (by
    have h5:c.toNat=0:=by omega
    exact UInt8.toNat_inj.1 h5)
   rw [Lib.trimLeftB_drop l 0 k hk hz (fun b hb=>by rw [hc] at hb;cases hb;exact hcz)]
   (refine U5 ?_;refine aS O O (cP V22) dS ?_;refine U2 ?_;refine bB O O V3 (str_at hc') (dT O O) ?_;refine U12 ?_)
   exact V6
theorem trimRight_len (l:List UInt8):(Lib.trimRightB l 0).length≤l.length:=by
 unfold Lib.trimRightB
 rw [List.length_reverse]
 exact Nat.le_trans (List.dropWhile_sublist _).length_le (by rw [List.length_reverse];exact dO _)
theorem trim_spec (l:List UInt8) (hl:l.length<4611686018427387904):PSpec Tryz.prog X 122 [Ls l,Ls [0]] (Ls (Lib.trimB l 0)):=by
 refine cF Tryz.func122 rfl V5 rfl rfl ?_
 intro C
 by_cases h:l=[]
 ·subst h
  (refine U8 ?_;refine kse rfl rfl (strs_eq (r:=true) VA) ?_;refine U12 ?_)
  exact V6
 ·have hR:=trimRight_spec X l hl
  have hL:=trimLeft_spec X (Lib.trimRightB l 0) (Nat.lt_of_le_of_lt (trimRight_len l) hl)
  (refine U8 ?_;refine kse O O (strs_eq (r:=false) (cS h)) ?_;refine U2 ?_;refine K.strEq O O (strs_eq (r:=false) VA) (dT O O) ?_;refine U9 ?_;refine keq O O O ?_;refine U2 ?_;refine bB O O V3 (str_at O) (dT O O) ?_;refine bK O O O (dT O O) ?_;refine U4 ?_;refine rgD mixed ?_;refine U2 ?_;refine bB O O V3 (str_at O) dS ?_;refine U2 ?_;refine bB O O V3 (str_at O) dS ?_;refine U5 ?_)
  exact V6
theorem isBlank_spec (l:List UInt8) (hl:l.length<4611686018427387904) (r:Bool) (hr:blankB l=r):PSpec Tryz.prog X 82 [Ls l] (Lb r):=by
 subst hr
 have hT:=trim_spec X l hl
 rw [← trim_blank]
 refine cF Tryz.func82 rfl V5 rfl rfl ?_
 intro C
 (refine U8 ?_;refine kse rfl rfl (strs_eq rfl) ?_;refine U3 ?_)
 exact V6
theorem multipleFrom_spec (a w:Nat) (hw:isWd w) (ha:a<1000000):PSpec Tryz.prog X 117 [Ln .i64 (a:Nat),Ln .i64 (w:Nat)] (Ln .i64 (roundUp a w:Nat)):=by
 rw [← round_up hw]
 have hw8:1≤w∧w≤8:=by rcases hw with e|e|e|e<;>omega
 have hq:((a+w-1:Nat):Int)/((w:Nat):Int)=(((a+w-1)/w:Nat):Int):=(Int.natCast_ediv _ _).symm
 have hs:IntKind.i64.wrap ((a:Nat)+(w:Nat)-1:Int)=((a+w-1:Nat):Int):=by rw [cH V3];omega
 have hd:IntKind.i64.wrap (((a+w-1:Nat):Int).tdiv ((w:Nat):Int))=(((a+w-1)/w:Nat):Int):=by rw [quo_i64 V3 V3];exact hq
 have hb:(a+w-1)/w*w≤a+w-1:=Nat.div_mul_le_self _ _
 have hm:IntKind.i64.wrap ((((a+w-1)/w:Nat):Int)*((w:Nat):Int))=(((a+w-1)/w*w:Nat):Int):=by
  rw [← Int.natCast_mul,cH (by omega)]
 refine cF Tryz.func117 rfl V5 rfl rfl ?_
 intro C
 (refine U11 ?_;refine K.quo O O V3 hd dS<|kmv O<|bL O O hm dS ?_;refine U3 ?_)
 exact V6
theorem sumOfCounts_spec (ad:Option Addr) (cap:Nat) (fs:List Fl) (hin:FieldsIn X ad fs) (h8:fs.length≤8) (hall:fs.all Fl.ok=true):PSpec Tryz.prog X 69 [Lx ad fs.length cap] (Ln .i64 (sumC fs:Nat)):=by
 refine cF Tryz.func69 rfl V5 rfl rfl ?_
 intro C
 refine U16 ?_
 refine cL (fun m σ=>∃ i:Nat,i≤fs.length∧m=fs.length-i∧σ=⟨[(3,Ln .i64 (sumC (fs.take i):Nat)),(6,Lx ad fs.length cap),(7,Ln .i64 (fs.length:Nat)),(8,Ln .i64 (i:Nat))],[],X⟩) fs.length
  ⟨_,Le.of V8 VC V2 V2 V2,0,by omega,by omega,rfl⟩ ?_
 rintro m σ ⟨i,hi,rfl,rfl⟩
 have hs:=sum_le (fs.take i) (by rw [List.all_eq_true] at hall ⊢;exact fun f hf=>hall f (List.mem_of_mem_take hf))
 rw [dA] at hs
 by_cases hlt:i<fs.length
 ·obtain ⟨f,hf⟩:=wg hlt
  obtain ⟨blk,off,arr,el,fr,rfl,hX,hsz,hcells⟩:=hin.at hf
  have hio:=wo off i 3
  obtain ⟨hw,hn1,hn8,hnc⟩:=ok_w (List.all_eq_true.1 hall f (dE hf))
  have hfc:f.vals.map CV.val=[.val (.string ⟨f.nm.toArray⟩),.val (.int .i64 f.kind),.val (.int .i64 (f.n:Nat))]:=by rw [hnc];rfl
  rw [hfc] at hcells
  have hadd:IntKind.i64.wrap (((sumC (fs.take i):Nat):Int)+((f.n:Nat):Int))=((sumC (fs.take (i+1)):Nat):Int):=by
   rw [take_snoc hf,sum_snoc,cH (by omega)];omega
  refine U27 ?_
  exact ⟨_,_,by omega,Le.of V8 VC V2 V2 V2,i+1,by omega,O,O⟩
 ·have e:i=fs.length:=by omega
  subst e
  rw [dG]
  refine U13 ?_
  exact V6
end Go.Proofs.YtopiioklkkiedaaGreatDoor
end
section
set_option maxHeartbeats 12800000
set_option maxRecDepth 100000
namespace Go.Lg.Fld
open Go Go.Lg
theorem take_ok {fs:List Fl} (h:fs.all Fl.ok=true) (i:Nat):(fs.take i).all Fl.ok=true:=by
 rw [List.all_eq_true] at h ⊢
 exact fun f hf=>h f (List.mem_of_mem_take hf)
theorem drop_at {α:Type} {l:List α} {i:Nat} {x:α} (h:l[i]? = some x):l.drop i=x::l.drop (i+1):=by
 obtain ⟨hi,e⟩:=List.getElem?_eq_some_iff.1 h
 rw [List.drop_eq_getElem_cons hi,e]
theorem fill_set {α:Type} {S:List α} {z x:α} {n i:Nat} (hS:S.length=i) (hi:i<n):(S++List.replicate (n-i) z).set i x=(S++[x])++List.replicate (n-(i+1)) z:=by
 rw [List.set_append_right _ _ (by omega),hS,Nat.sub_self]
 have:n-i=(n-(i+1))+1:=by omega
 rw [this,List.replicate_succ,List.set_cons_zero,dN]
 rfl
theorem fill_at {α:Type} {S:List α} {z x:α} {n i:Nat} (hS:S.length=i):((S++[x])++List.replicate n z)[i]? = some x:=by
 rw [dN,List.getElem?_append_right (by omega),hS,Nat.sub_self]
 rfl
theorem fields_take {X:Nat→Option Obj} {ad:Option Addr} {fs:List Fl} (h:FieldsIn X ad fs) (i:Nat):FieldsIn X ad (fs.take i):=
 ⟨fun j r hr=>h.rows j r (by
  rw [List.map_take,List.getElem?_take] at hr
  split at hr
  ·exact hr
  ·cases hr),fun f hf=>h.small f (List.mem_of_mem_take hf)⟩
end Go.Lg.Fld
namespace Go.Proofs.YtopiioklkkiedaaGreatDoor
open Go Go.Lg Go.Lg.Fld
set_option maxRecDepth 100000
variable (X:Nat→Option Obj)
theorem canBe_spec (ad:Option Addr) (cap:Nat) (fs:List Fl) (hin:FieldsIn X ad fs) (hbig:fs.length<4611686018427387904) (r:Bool) (hr:canB fs=r):PSpec Tryz.prog X 115 [Lx ad fs.length cap] (Lb r):=by
 subst hr
 refine cF Tryz.func115 rfl V5 rfl rfl ?_
 intro C
 by_cases hlong:8<fs.length
 ·have hc:canB fs=false:=by unfold canB;rw [cO V3,Bool.false_and]
  rw [hc]
  refine U17 ?_
  exact V6
 have h8:fs.length≤8:=by omega
 have hcb:canB fs=fs.all Fl.ok:=by unfold canB;rw [cP h8,Bool.true_and]
 rw [hcb]
 refine U21 ?_
 refine cL (fun m σ=>∃ i:Nat,i≤fs.length∧m=fs.length-i∧(fs.take i).all Fl.ok=true∧σ=⟨[(8,Lx ad fs.length cap),(9,Ln .i64 (fs.length:Nat)),(10,Ln .i64 (i:Nat))],[],X⟩) fs.length
  ⟨_,Le.of V9 VC V2 V2 V2,0,by omega,by omega,rfl,rfl⟩ ?_
 rintro m σ ⟨i,hi,rfl,hall,rfl⟩
 by_cases hlt:i<fs.length
 ·obtain ⟨f,hf⟩:=wg hlt
  obtain ⟨blk,off,arr,el,fr,rfl,hX,hsz,hcells⟩:=hin.at hf
  have hio:=wo off i 3
  have hmem:f∈fs:=dE hf
  have hsm:=hin.small f hmem
  have hB:=fSize_spec X f.kind
  cases hok:f.ok with
  | false =>
   have hno:fs.all Fl.ok=false:=by
    cases e:fs.all Fl.ok with
    | false=>rfl
    | true=>rw [List.all_eq_true.1 e f hmem] at hok;cases hok
   rw [hno]
   by_cases h0:kW f.kind=0
   ·rw [h0] at hB
    refine U39 ?_
    exact V6
   ·have hk:kK f.kind=true:=by
     cases e:kK f.kind with
     | true=>rfl
     | false=>exact absurd ((kW_zero f.kind).2 e) h0
    by_cases h1:f.count<1
    ·(refine U25 ?_;refine bK O O (cP V3) (dT O O) ?_;refine U13 ?_)
     exact V6
    ·have h2:8<f.count:=by
      unfold Fl.ok at hok
      rw [hk,cP (show 1≤f.count by omega)] at hok
      simpa using hok
     refine U39 ?_
     exact V6
  | true =>
   have hall':=take_all hall hf hok
   obtain ⟨hw,hn1,hn8,hnc⟩:=ok_w hok
   have hw1:1≤kW f.kind:=by have hwk:kW f.kind=f.w:=rfl;rcases hw with e|e|e|e<;>omega
   refine U39 ?_
   exact ⟨_,_,by omega,Le.of V9 VC V2 V2 V2,i+1,by omega,O,hall',O⟩
 ·have e:i=fs.length:=by omega
  subst e
  rw [dG] at hall
  rw [hall]
  refine U12 ?_
  exact V6
theorem Of_no (ad:Option Addr) (cap:Nat) (fs:List Fl) (hin:FieldsIn X ad fs) (hbig:fs.length<4611686018427387904) (h:canB fs=false):
  PSpec Tryz.prog X 78 [Lx ad fs.length cap] (.tup [planV 0 (.val (.slice none 0 0)),Sn .i64 1]):=by
 have hc:=canBe_spec X ad cap fs hin hbig false h
 refine cF Tryz.func78 rfl V5 rfl rfl ?_
 intro C
 refine U20 ?_
 exact V4
def ofR (fs:List Fl):LV:=if layErr fs=0 then .tup [planV (rowSize fs:Nat) (.slc 1000001 0 fs.length 1),Sn .i64 0] else .tup [planV 0 (.val (.slice none 0 0)),Sn .i64 (layErr fs)]
def ofBx (fs:List Fl):List (Nat×Option Box):=if layErr fs=0 then [(1000001,some ⟨3,(ntV (startsAt 0 fs)).map .val,false⟩)] else []
set_option maxHeartbeats 3200000 in
theorem Of_can (ad:Option Addr) (cap:Nat) (fs:List Fl) (hin:FieldsIn X ad fs) (hbig:fs.length<4611686018427387904) (h:canB fs=true):
  MSpec Tryz.prog X 78 [Lx ad fs.length cap] [] (ofR fs) (ofBx fs):=by
 have hc:=canBe_spec X ad cap fs hin hbig true h
 obtain ⟨h8,hall,hle⟩:=canB_ok h
 refine cG Tryz.func78 rfl V5 rfl (by unfold ofR ofBx;split<;>rfl) (by unfold ofBx;split<;>exact V0) rfl rfl ?_
 intro C
 have hmk:slcBuild Tryz.prog 103 fs.length=some (List.replicate fs.length (.int .i64 0),1,3):=slcBuild_one V5 V5 V3
 (refine U18 ?_;refine K.makeSlc (m:=fs.length) (bytes:=8) O O hmk V5 V3 O O dS ?_;refine U15 ?_)
 refine cL (fun m σ=>∃ i:Nat,i≤fs.length∧m=fs.length-i∧σ=⟨[(2,.sv (.one (.ptr 2 0))),(4,.sv (.one (.slc 17 0 fs.length 1))),(5,Ln .i64 (endAt 0 (fs.take i):Nat)),(6,Ln .i64 (greatW (fs.take i):Nat)),(18,Lx ad fs.length cap),(19,Ln .i64 (fs.length:Nat)),(20,Ln .i64 (i:Nat))],[(2,some ⟨155,[.val (.int .i64 0),.val (.slice none 0 0)],false⟩),(17,some ⟨3,(ntV (startsAt 0 (fs.take i))++List.replicate (fs.length-i) (Value.int .i64 0)).map .val,false⟩)],X⟩) fs.length
  ⟨_,Le.of V14 VE V2 V2 V0,0,by omega,by omega,rfl⟩ ?_
 rintro m σ ⟨i,hi,rfl,rfl⟩
 have ht:=take_ok hall i
 have hSl:=starts_len (fs.take i) 0
 have hend:=end_le (fs.take i) 0 ht
 have hgw:=great_wd (fs.take i) ht
 have htl:(fs.take i).length=i:=by rw [dA];omega
 rw [htl] at hSl hend
 by_cases hlt:i<fs.length
 ·obtain ⟨f,hf⟩:=wg hlt
  obtain ⟨blk,off,arr,el,fr,rfl,hX,hsz,hcells⟩:=hin.at hf
  have hio:=wo off i 3
  have hi1:0+Int.toNat (i:Int)*1=i:=by simp
  have hB:=fSize_spec X f.kind
  have hS:startsAt 0 (fs.take (i+1))=startsAt 0 (fs.take i)++[roundUp (endAt 0 (fs.take i)) f.w]:=by rw [take_snoc hf,starts_snoc]
  have hA:endAt 0 (fs.take (i+1))=roundUp (endAt 0 (fs.take i)) f.w+f.w*f.n:=by rw [take_snoc hf,end_snoc]
  have hG:greatW (fs.take (i+1))=max (greatW (fs.take i)) f.w:=by rw [take_snoc hf,great_snoc]
  obtain ⟨hw,hn1,hn8,hnc⟩:=ok_w (List.all_eq_true.1 hall f (dE hf))
  have hM:=multipleFrom_spec X (endAt 0 (fs.take i)) f.w hw V3
  have hR:=round_facts hw (endAt 0 (fs.take i))
  have hwk:kW f.kind=f.w:=rfl
  rw [hwk] at hB
  have hw8:1≤f.w∧f.w≤8:=by rcases hw with e|e|e|e<;>omega
  have hwn:f.w*f.n≤64:=Nat.le_trans (Nat.mul_le_mul hw8.2 hn8) VA
  have hfc:f.vals.map CV.val=[.val (.string ⟨f.nm.toArray⟩),.val (.int .i64 f.kind),.val (.int .i64 (f.n:Nat))]:=by rw [hnc];rfl
  rw [hfc] at hcells
  generalize startsAt 0 (fs.take i)=S at *
  generalize endAt 0 (fs.take i)=a at *
  generalize greatW (fs.take i)=g at *
  generalize f.w=w at *
  generalize f.n=n at *
  generalize hT:roundUp a w=T at *
  have hnS:(ntV S).length=i:=by simp [ntV,hSl]
  have hlt2:Nat.blt i (((ntV S++List.replicate (fs.length-i) (Value.int .i64 0)).map CV.val).length)=true:=by rw [Nat.blt_eq,cX,cW,hnS,dF];omega
  have hset:((ntV S++List.replicate (fs.length-i) (Value.int .i64 0)).map CV.val).set i (.val (.int .i64 (T:Nat)))=(ntV (S++[T])++List.replicate (fs.length-(i+1)) (Value.int .i64 0)).map CV.val:=by
   rw [← List.map_set,fill_set hnS hlt];simp [ntV]
  have hget:((ntV (S++[T])++List.replicate (fs.length-(i+1)) (Value.int .i64 0)).map CV.val)[i]? = some (.val (.int .i64 (T:Nat))):=by
   rw [dM,show ntV (S++[T])=ntV S++[.int .i64 (T:Nat)] by simp [ntV],fill_at hnS];rfl
  have hmul:IntKind.i64.wrap (((w:Nat):Int)*((n:Nat):Int))=((w*n:Nat):Int):=by rw [← Int.natCast_mul,cH V3]
  have hadd:IntKind.i64.wrap (((T:Nat):Int)+((w*n:Nat):Int))=((T+w*n:Nat):Int):=by rw [cH V3];omega
  have hmx:(if ((w:Nat):Int)>((g:Nat):Int) then ((w:Nat):Int) else ((g:Nat):Int))=((max g w:Nat):Int):=by split<;>omega
  (refine U33 ?_;refine bG O O O O hlt2 hset dS ?_;refine U2 ?_;refine rgD mixed ?_;refine U3 ?_;refine kl1 O O hget ?_;refine U3 ?_;refine bL O O hmul dS ?_;refine U7 ?_;refine K.max2 O O hmx dS ?_;refine U6 ?_)
  exact ⟨_,_,by omega,Le.of (by exact ⟨rfl,rfl,by rw [hA];rfl,by rw [hG];rfl,rfl,rfl,rfl,trivial⟩) (by exact ⟨rfl,by rw [hS];rfl,trivial⟩) V2 V2 V0,i+1,by omega,rfl,rfl⟩
 ·have e:i=fs.length:=by omega
  subst e
  rw [dG] at *
  have hM:=multipleFrom_spec X (endAt 0 fs) (greatW fs) hgw V3
  rw [show roundUp (endAt 0 fs) (greatW fs)=rowSize fs from rfl] at hM
  unfold ofR ofBx
  rw [hle]
  have hz:(ntV (startsAt 0 fs)++List.replicate (fs.length-fs.length) (Value.int .i64 0)).map CV.val=(ntV (startsAt 0 fs)).map CV.val:=by rw [Nat.sub_self,List.replicate_zero,dK]
  rw [hz]
  have hT:rowSize fs<1000000:=by
   have h1:=round_facts hgw (endAt 0 fs)
   have h2:greatW fs≤8:=by rcases hgw with e|e|e|e<;>omega
   have h3:rowSize fs=roundUp (endAt 0 fs) (greatW fs):=rfl
   omega
  generalize rowSize fs=T at *
  by_cases h256:256<T
  ·rw [if_pos h256,if_neg VA,if_neg VA]
   refine U28 ?_
   exact ⟨[],⟨[_,_],⟨⟨_,_,O,O,O,.inl ⟨AggT.h,O⟩⟩,O,trivial⟩,O⟩,trivial,O,O⟩
  ·rw [if_neg h256,if_pos rfl,if_pos rfl]
   refine U31 ?_
   exact ⟨[(1000001,17)],⟨[_,_],⟨⟨_,_,O,O,O,.inl ⟨AggT.h,O⟩⟩,O,trivial⟩,O⟩,V1,O,O⟩
end Go.Proofs.YtopiioklkkiedaaGreatDoor
end
section
set_option maxHeartbeats 12800000
set_option maxRecDepth 100000
namespace Go.Lg.Fld
open Go Go.Lg
theorem elVs_fit {l:List (Int×Nat)} {i:Nat} {e:Int×Nat} (h:l[i]? = some e):Nat.ble (i*2+2) ((elVs l).map CV.val).length=true:=by
 have:=(wl h)
 rw [Nat.ble_eq,cX,elVs_len];omega
theorem elVs_row {l:List (Int×Nat)} {i:Nat} {e:Int×Nat} (h:l[i]? = some e):(((elVs l).map CV.val).drop (i*2)).take 2=[.val (.int .i64 e.1),.val (.int .i64 (e.2:Nat))]:=by
 obtain ⟨h1,h2⟩:=elVs_at h
 rw [drop_at h1,List.take_succ_cons,drop_at h2]
 rfl
end Go.Lg.Fld
namespace Go.Proofs.YtopiioklkkiedaaGreatDoor
open Go Go.Lg Go.Lg.Fld
set_option maxRecDepth 100000
variable (X:Nat→Option Obj)
theorem Of_err (ad:Option Addr) (cap:Nat) (fs:List Fl) (hin:FieldsIn X ad fs) (hbig:fs.length<4611686018427387904) (h:layErr fs≠0):
  PSpec Tryz.prog X 78 [Lx ad fs.length cap] (.tup [planV 0 (.val (.slice none 0 0)),Sn .i64 (layErr fs)]):=by
 cases hc:canB fs with
 | false=>rw [canB_err hc];exact Of_no X ad cap fs hin hbig hc
 | true =>
  have:=Of_can X ad cap fs hin hbig hc
  unfold ofR ofBx at this
  rw [if_neg h,if_neg h] at this
  exact this.plain
theorem Of_ok (ad:Option Addr) (cap:Nat) (fs:List Fl) (hin:FieldsIn X ad fs) (hbig:fs.length<4611686018427387904) (h:layErr fs=0):
  MSpec Tryz.prog X 78 [Lx ad fs.length cap] [] (.tup [planV (rowSize fs:Nat) (.slc 1000001 0 fs.length 1),Sn .i64 0]) [(1000001,some ⟨3,(ntV (startsAt 0 fs)).map .val,false⟩)]:=by
 cases hc:canB fs with
 | false=>rw [canB_err hc] at h;exact absurd h VA
 | true =>
  have:=Of_can X ad cap fs hin hbig hc
  unfold ofR ofBx at this
  rw [if_pos h,if_pos h] at this
  exact this
theorem Check_spec (ad:Option Addr) (cap:Nat) (fs:List Fl) (hin:FieldsIn X ad fs) (hbig:fs.length<4611686018427387904):PSpec Tryz.prog X 66 [Lx ad fs.length cap] (Ln .i64 (layErr fs)):=by
 refine cF Tryz.func66 rfl V5 rfl rfl ?_
 intro C
 by_cases h:layErr fs=0
 ·have hO:=Of_ok X ad cap fs hin hbig h
  rw [h]
  generalize rowSize fs=T at *
  generalize startsAt 0 fs=S at *
  (refine U7 ?_;refine bE [(1000001,501)] (.tup [planV (T:Nat) (.slc 501 0 fs.length 1),Sn .i64 0]) [(501,some ⟨3,(ntV S).map .val,false⟩)] (hO) O O VC O O O O O V18 dS ?_;refine U13 ?_)
  exact V6
 ·have hO:=Of_err X ad cap fs hin hbig h
  generalize layErr fs=e at *
  refine U21 ?_
  exact V6
theorem Elems_spec (ad:Option Addr) (cap:Nat) (fs:List Fl) (hin:FieldsIn X ad fs) (hbig:fs.length<4611686018427387904):PSpec Tryz.prog X 34 [Lx ad fs.length cap] (Ln .i64 (elemsN fs:Nat)):=by
 have hC:=Check_spec X ad cap fs hin hbig
 refine cF Tryz.func34 rfl V5 rfl rfl ?_
 intro C
 unfold elemsN
 rw [elems_sum]
 by_cases h:layErr fs=0
 ·obtain ⟨h8,hall,_⟩:=layErr_facts h
  have hS:=sumOfCounts_spec X ad cap fs hin h8 hall
  rw [if_pos h]
  rw [h] at hC
  refine U20 ?_
  exact V6
 ·rw [if_neg h]
  generalize layErr fs=e at *
  refine U17 ?_
  exact V6
theorem Start_spec (ad:Option Addr) (cap:Nat) (fs:List Fl) (hcap:fs.length≤cap) (i:Int) (hi : -9223372036854775808≤i∧i<9223372036854775808) (hin:FieldsIn X ad fs) (hbig:fs.length<4611686018427387904):PSpec Tryz.prog X 68 [Lx ad fs.length cap,Ln .i64 i] (Ln .i64 (startN fs i:Nat)):=by
 have hC:=Check_spec X ad cap fs hin hbig
 refine cF Tryz.func68 rfl V5 rfl rfl ?_
 intro C
 unfold startN
 by_cases h0:0≤i
 ·by_cases h1:i<fs.length
  ·by_cases h:layErr fs=0
   ·obtain ⟨h8,hall,_⟩:=layErr_facts h
    obtain ⟨j,rfl⟩:∃ j:Nat,i=(j:Nat):=⟨i.toNat,by omega⟩
    rw [dH]
    have hj:j<fs.length:=by omega
    obtain ⟨f,hf⟩:=wg hj
    obtain ⟨blk,off,arr,el,fr,rfl,_⟩:=hin.at hf
    have hS:=sumOfCounts_spec X (some ⟨blk,off,none⟩) cap (fs.take j) (fields_take hin j) (by rw [dA];omega) (take_ok hall j)
    rw [dA,Nat.min_eq_left (Nat.le_of_lt hj)] at hS
    rw [if_pos ⟨h,by omega,by omega⟩]
    rw [h] at hC
    (refine U18 ?_;refine aX O O ((cT V3)) (dT O O) ?_;refine U8 ?_;refine K.cutX (h:=j) (kh:=.i64) O O cC V3 V3 dS ?_;refine U4 ?_)
    exact V6
   ·rw [if_neg (fun hc=>h hc.1)]
    generalize layErr fs=e at *
    (refine U18 ?_;refine aX O O (cU V3) (dT O O) ?_;refine U8 ?_)
    exact V6
  ·rw [if_neg (fun hc=>h1 hc.2.2)]
   (refine U13 ?_;refine bD O O (cP V3) (dT O O) ?_;refine U13 ?_)
   exact V6
 ·rw [if_neg (fun hc=>h0 hc.2.1)]
  refine U27 ?_
  exact V6
theorem zeroNums (n:Nat):(List.replicate n (nmV (qn 0))).flatten=nsV (List.replicate n 0):=by
 unfold nsV
 rw [List.map_replicate]
theorem starts_at:∀ {l:List Fl} {a i:Nat} {f:Fl},l[i]? = some f→(startsAt a l)[i]? = some (roundUp (endAt a (l.take i)) f.w)
 | [],_,i,f,h=>by simp at h
 | g::t,a,0,f,h=>by
  simp only [List.getElem?_cons_zero,Option.some.injEq] at h
  subst h;rfl
 | g::t,a,i+1,f,h=>by
  have:=starts_at (l:=t) (a:=roundUp a g.w+g.w*g.n) (i:=i) (f:=f) V2E
  simpa [startsAt,endAt] using this
set_option maxHeartbeats 3200000 in
theorem slotsOf_spec (ad:Option Addr) (cap:Nat) (fs:List Fl) (T:Nat) (hin:FieldsIn X ad fs) (h8:fs.length≤8) (hall:fs.all Fl.ok=true):
  MSpec Tryz.prog X 79 [Lx ad fs.length cap,.sv (planV (T:Nat) (.slc 1000001 0 fs.length 1))] [(1000001,some ⟨3,(ntV (startsAt 0 fs)).map .val,false⟩)] (.sv (.one (.slc 1000002 0 (elemsAt 0 fs).length 2)))
   [(1000001,some ⟨3,(ntV (startsAt 0 fs)).map .val,false⟩),(1000002,some ⟨161,(elVs (elemsAt 0 fs)).map .val,Nat.blt 0 (elemsAt 0 fs).length⟩)]:=by
 have hst:∀ {i:Nat} {f:Fl},fs[i]? = some f→(startsAt 0 fs)[i]? = some (roundUp (endAt 0 (fs.take i)) f.w):=fun h=>starts_at h
 refine cG Tryz.func79 rfl V5 rfl rfl V7 rfl rfl ?_
 intro C
 generalize startsAt 0 fs=S at *
 (refine U7 ?_;refine aZ (zs:=[]) (sz:=2) (e:=161) V5 O O O O O O dS ?_;refine U10 ?_)
 refine cL (fun m σ=>∃ i:Nat,i≤fs.length∧m=fs.length-i∧σ=⟨[(3,.sv (.one (.ptr 3 0))),(5,.sv (.one (.slc 500 0 (elemsAt 0 (fs.take i)).length 2))),(10,Lx ad fs.length cap),(11,Ln .i64 (fs.length:Nat)),(12,Ln .i64 (i:Nat))],[(1000001,some ⟨3,(ntV S).map .val,false⟩),(3,some ⟨155,[.val (.int .i64 (T:Nat)),.slc 1000001 0 fs.length 1],false⟩),(500,some ⟨161,(elVs (elemsAt 0 (fs.take i))).map .val,Nat.blt 0 (elemsAt 0 (fs.take i)).length⟩)],X⟩) fs.length
  ⟨_,Le.ofR [(500,9)] V10 V1 V2 V2 V0 V2 V2,0,by omega,by omega,rfl⟩ ?_
 rintro m σ ⟨i,hi,rfl,rfl⟩
 have ht:=take_ok hall i
 have hend:=end_le (fs.take i) 0 ht
 have hEl:=elems_len (fs.take i) 0 ht
 have htl:(fs.take i).length=i:=by rw [dA];omega
 rw [htl] at hend hEl
 by_cases hlt:i<fs.length
 ·obtain ⟨f,hf⟩:=wg hlt
  obtain ⟨blk,off,arr,el,fr,rfl,hX,hsz,hcells⟩:=hin.at hf
  have hio:=wo off i 3
  have hi1:0+Int.toNat (i:Int)*1=i:=by simp
  have hB:=fSize_spec X f.kind
  obtain ⟨hw,hn1,hn8,hnc⟩:=ok_w (List.all_eq_true.1 hall f (dE hf))
  have hR:=round_facts hw (endAt 0 (fs.take i))
  have hwk:kW f.kind=f.w:=rfl
  rw [hwk] at hB
  have hw8:1≤f.w∧f.w≤8:=by rcases hw with e|e|e|e<;>omega
  have hE:elemsAt 0 (fs.take (i+1))=elemsAt 0 (fs.take i)++(List.range f.n).map (fun j=>(f.kind,roundUp (endAt 0 (fs.take i)) f.w+f.w*j)):=by rw [take_snoc hf,elems_snoc]
  have hfc:f.vals.map CV.val=[.val (.string ⟨f.nm.toArray⟩),.val (.int .i64 f.kind),.val (.int .i64 (f.n:Nat))]:=by rw [hnc];rfl
  rw [hfc] at hcells
  have hgetS:((ntV S).map CV.val)[i]? = some (.val (.int .i64 (roundUp (endAt 0 (fs.take i)) f.w:Nat))):=by
   rw [dM,show ntV S=S.map (fun n:Nat=>Value.int .i64 (n:Nat)) from rfl,dM,hst hf];rfl
  generalize elemsAt 0 (fs.take i)=E at *
  generalize hT:roundUp (endAt 0 (fs.take i)) f.w=b at *
  generalize endAt 0 (fs.take i)=a at *
  generalize f.w=w at *
  generalize f.n=n at *
  refine U25 ?_
  refine cL (fun m σ=>∃ j:Nat,j≤n∧m=n-j∧σ=⟨[(3,.sv (.one (.ptr 3 0))),(5,.sv (.one (.slc 500 0 (E.length+j) 2))),(6,Ln .i64 (i:Nat)),(7,.sv (.one (.ptr 7 0))),(10,Lx (some ⟨blk,off,none⟩) fs.length cap),(11,Ln .i64 (fs.length:Nat)),(12,Ln .i64 (i:Nat)),(18,Ln .i64 (n:Nat)),(19,Ln .i64 (j:Nat))],[(1000001,some ⟨3,(ntV S).map .val,false⟩),(3,some ⟨155,[.val (.int .i64 (T:Nat)),.slc 1000001 0 fs.length 1],false⟩),(500,some ⟨161,(elVs (E++(List.range j).map (fun q=>(f.kind,b+w*q)))).map .val,Nat.blt 0 (E.length+j)⟩),(7,some ⟨83,[.val (.string ⟨f.nm.toArray⟩),.val (.int .i64 f.kind),.val (.int .i64 (n:Nat))],false⟩)],X⟩) n
   ⟨_,Le.ofR [] V1B (by rw [List.range_zero,List.map_nil,dK];exact V1) V2 V2 V0 V2 V2,0,by omega,rfl,rfl⟩ ?_
  rintro m σ ⟨j,hj,rfl,rfl⟩
  have hwj:w*j≤64:=Nat.le_trans (Nat.mul_le_mul hw8.2 (Nat.le_trans hj hn8)) VA
  by_cases hjn:j<n
  ·have hrg:(List.range (j+1)).map (fun q=>(f.kind,b+w*q))=(List.range j).map (fun q=>(f.kind,b+w*q))++[(f.kind,b+w*j)]:=by rw [List.range_succ,dI];rfl
   have hcl2:((elVs (E++(List.range j).map (fun q=>(f.kind,b+w*q)))).map CV.val).length=(E.length+j)*2:=by rw [cX,elVs_len];simp
   have hnc2:(elVs (E++(List.range j).map (fun q=>(f.kind,b+w*q)))).map CV.val++[.val (.int .i64 f.kind),.val (.int .i64 (b+w*j:Nat))]=(elVs (E++(List.range (j+1)).map (fun q=>(f.kind,b+w*q)))).map CV.val:=by
    rw [hrg,← dN,elVs_app (E++_) [_],dI]
    rfl
   have hmul:IntKind.i64.wrap (((j:Nat):Int)*((w:Nat):Int))=((w*j:Nat):Int):=by rw [← Int.natCast_mul,Nat.mul_comm,cH V3]
   have hadd:IntKind.i64.wrap (((b:Nat):Int)+((w*j:Nat):Int))=((b+w*j:Nat):Int):=by rw [cH V3];omega
   (refine U14 ?_;refine rgD mixed ?_;refine U7 ?_;refine kl1 O O hgetS ?_;refine U4 ?_;refine bL O O hmul dS ?_;refine U2 ?_;refine aZ (zs:=[.int .i64 0,.int .i64 0]) (sz:=2) (e:=161) V5 O O O O O O dS<|bQ (by_:=16) (e2:=161) (l2:=[.val (.int .i64 f.kind),.val (.int .i64 (b+w*j:Nat))]) (nl:=E.length+(j+1)) O O hcl2 O O (dO _) O O V5 V5 V3 V3 O O hnc2 dS ?_;refine U7 ?_)
   exact ⟨_,_,by omega,Le.ofR [(500,38)] V1B V1 V2 V2 V0 V2 V2,j+1,by omega,O,O⟩
  ·have e:j=n:=by omega
   subst e
   have hEn:(E++(List.range j).map (fun q=>(f.kind,b+w*q))).length=E.length+j:=by simp
   refine U11 ?_
   exact ⟨_,_,by omega,Le.ofR [] (by exact ⟨rfl,by rw [hE,hEn];rfl,rfl,rfl,rfl,trivial⟩) (by rw [hE,hEn];exact V1) V2 V2 V0 V2 V2,i+1,by omega,rfl,rfl⟩
 ·have e:i=fs.length:=by omega
  subst e
  rw [dG] at *
  generalize elemsAt 0 fs=E at *
  refine U13 ?_
  exact ⟨[(1000002,500)],⟨[_],⟨O,trivial⟩,O⟩,V1,O,O⟩
theorem slotEnd_spec (k:Int) (at_:Nat) (ha:at_<1000000):PSpec Tryz.prog X 81 [.sv (.agg [.val (.int .i64 k),.val (.int .i64 (at_:Nat))])] (Ln .i64 (at_+kW k:Nat)):=by
 have hB:=fSize_spec X k
 have hw8:=(kfacts k).2.2.2.2
 have hadd:IntKind.i64.wrap (((at_:Nat):Int)+((kW k:Nat):Int))=((at_+kW k:Nat):Int):=by rw [cH V3];omega
 refine cF Tryz.func81 rfl V5 rfl rfl ?_
 intro C
 (refine U6 ?_;refine rgD mixed ?_;refine U10 ?_)
 exact V6
end Go.Proofs.YtopiioklkkiedaaGreatDoor
end
section
set_option maxHeartbeats 12800000
set_option maxRecDepth 100000
namespace Go.Lg.Fld
open Go Go.Lg
theorem splice_bc (B s:List UInt8) (p:Nat):splice (B.map bc) p (s.map bc)=(setAt B p s).map bc:=by
 unfold splice setAt
 simp [List.map_take,List.map_drop]
end Go.Lg.Fld
namespace Go.Proofs.YtopiioklkkiedaaGreatDoor
open Go Go.Lg Go.Lg.Fld
set_option maxRecDepth 100000
variable (X:Nat→Option Obj)
set_option maxHeartbeats 1600000 in
theorem lFit_any (ad ad2:Option Addr) (cap cap2:Nat) (fs:List Fl) (ns:List (Bool×Int)) (hin:FieldsIn X ad fs) (hbig:fs.length<4611686018427387904) (hns:NumsIn X ad2 ns):
  PSpec Tryz.prog X 65 [Lx ad fs.length cap,Lx ad2 ns.length cap2] (Ln .i64 (fitErr fs ns)):=by
 refine cF Tryz.func65 rfl V5 rfl rfl ?_
 intro C
 unfold fitErr
 by_cases hl:layErr fs=0
 ·have hO:=Of_ok X ad cap fs hin hbig hl
  obtain ⟨h8,hall,_⟩:=layErr_facts hl
  have hSl:=slotsOf_spec X ad cap fs (rowSize fs) hin h8 hall
  have hEl:=elems_len fs 0 hall
  rw [if_pos hl]
  generalize elemsAt 0 fs=E at *
  generalize startsAt 0 fs=S at *
  generalize rowSize fs=T at *
  by_cases hn:E.length=ns.length
  ·rw [if_pos hn]
   (refine U7 ?_;refine bE [(1000001,501)] (.tup [planV (T:Nat) (.slc 501 0 fs.length 1),Sn .i64 0]) [(501,some ⟨3,(ntV S).map .val,false⟩)] (hO) O O VC O O O O O V18 dS ?_;refine U19 ?_;refine bE [(1000001,501),(1000002,502)] (.sv (.one (.slc 502 0 E.length 2))) [(501,some ⟨3,(ntV S).map .val,false⟩),(502,some ⟨161,(elVs E).map .val,Nat.blt 0 E.length⟩)] (hSl) O O (by exact (cR ⟨_,O,(bY _ _ _ _)⟩ trivial)) (by exact (bT bU O)) O O O O V1D dS ?_;refine U21 ?_)
   refine cL (fun m σ=>∃ i:Nat,i≤E.length∧m=E.length-i∧((E.zip ns).take i).all (fun p=>fitB p.1.1 p.2.1 p.2.2)=true∧σ=⟨[(1,Lx ad2 ns.length cap2),(26,.sv (.one (.slc 502 0 E.length 2))),(27,Ln .i64 (E.length:Nat)),(28,Ln .i64 (i:Nat))],[(502,some ⟨161,(elVs E).map .val,Nat.blt 0 E.length⟩)],X⟩) E.length
    ⟨_,Le.of V8 V13 V2 V2 V0,0,by omega,rfl,rfl,rfl⟩ ?_
   rintro m σ ⟨i,hi,rfl,hpre,rfl⟩
   by_cases hlt:i<E.length
   ·obtain ⟨e,he⟩:=wg hlt
    obtain ⟨⟨b,N⟩,hv⟩:∃ v,ns[i]? = some v:=wg V3
    obtain ⟨hN,blk,off,arr,el,fr,rfl,hX,hsz,hcells⟩:=hns.at hv
    have hio:=wo off i 3
    have hie:0+Int.toNat (i:Int)*2=i*2:=by simp
    have hc:=elVs_row he
    have hbl:=elVs_fit he
    have hzip:=zip_at he hv
    have hF:=Fits_spec X e.1 b N hN
    cases hf:fitB e.1 b N with
    | true =>
     have hF':=hF true hf
     (refine U13 ?_;refine bJ O O hbl hc dS ?_;refine U5 ?_;refine rgD mixed ?_;refine U16 ?_)
     exact ⟨_,_,by omega,Le.of V8 V13 V2 V2 V0,i+1,by omega,rfl,by rw [take_snoc hzip,List.all_append,hpre];simp [hf],rfl⟩
    | false =>
     have hF':=hF false hf
     have hno:fitAll E ns=false:=by
      unfold fitAll
      cases h:(E.zip ns).all (fun p=>fitB p.1.1 p.2.1 p.2.2) with
      | false=>rfl
      | true=>have:=List.all_eq_true.1 h _ (dE hzip);rw [hf] at this;cases this
     rw [hno]
     (refine U13 ?_;refine bJ O O hbl hc dS ?_;refine U5 ?_;refine rgD mixed ?_;refine U16 ?_)
     exact V6
   ·have e:i=E.length:=by omega
    subst e
    have hyes:fitAll E ns=true:=by
     rw [List.take_of_length_le (by rw [List.length_zip];omega)] at hpre
     exact hpre
    rw [hyes]
    refine U12 ?_
    exact V6
  ·rw [if_neg hn]
   (refine U7 ?_;refine bE [(1000001,501)] (.tup [planV (T:Nat) (.slc 501 0 fs.length 1),Sn .i64 0]) [(501,some ⟨3,(ntV S).map .val,false⟩)] (hO) O O VC O O O O O V18 dS ?_;refine U19 ?_;refine bE [(1000001,501),(1000002,502)] (.sv (.one (.slc 502 0 E.length 2))) [(501,some ⟨3,(ntV S).map .val,false⟩),(502,some ⟨161,(elVs E).map .val,Nat.blt 0 E.length⟩)] (hSl) O O (by exact (cR ⟨_,O,(bY _ _ _ _)⟩ trivial)) (by exact (bT bU O)) O O O O V1D dS ?_;refine U17 ?_)
   exact V6
 ·have hO:=Of_err X ad cap fs hin hbig hl
  rw [if_neg hl]
  generalize layErr fs=e at *
  refine U28 ?_
  exact V6
theorem lFit_spec (ad ad2:Option Addr) (cap cap2:Nat) (fs:List Fl) (ns:List (Bool×Int)) (hin:FieldsIn X ad fs) (hbig:fs.length<4611686018427387904) (hns:NumsIn X ad2 ns) (_:ns.length<4611686018427387904):
  PSpec Tryz.prog X 65 [Lx ad fs.length cap,Lx ad2 ns.length cap2] (Ln .i64 (fitErr fs ns)):=lFit_any X ad ad2 cap cap2 fs ns hin hbig hns
def packR (fs:List Fl) (ns:List (Bool×Int)):List UInt8:=if fitErr fs ns=0 then packB fs ns else []
set_option maxHeartbeats 1600000 in
theorem lPack_spec (ad ad2:Option Addr) (cap cap2:Nat) (fs:List Fl) (ns:List (Bool×Int)) (hin:FieldsIn X ad fs) (hbig:fs.length<4611686018427387904) (hns:NumsIn X ad2 ns) (hnb:ns.length<4611686018427387904):
  PSpec Tryz.prog X 42 [Lx ad fs.length cap,Lx ad2 ns.length cap2] (.tup [Ss (packR fs ns),Sn .i64 (fitErr fs ns)]):=by
 have hFit:=lFit_spec X ad ad2 cap cap2 fs ns hin hbig hns hnb
 refine cF Tryz.func42 rfl V5 rfl rfl ?_
 intro C
 unfold packR
 by_cases h:fitErr fs ns=0
 ·rw [if_pos h,h]
  rw [h] at hFit
  obtain ⟨hl,hn,hfit⟩:=fitErr_facts h
  have hO:=Of_ok X ad cap fs hin hbig hl
  obtain ⟨h8,hall,hT⟩:=layErr_facts hl
  have hSl:=slotsOf_spec X ad cap fs (rowSize fs) hin h8 hall
  have hW:=within_row hall
  have hEl:=elems_len fs 0 hall
  unfold packB
  generalize elemsAt 0 fs=E at *
  generalize startsAt 0 fs=S at *
  generalize rowSize fs=T at *
  have hmk:slcBuild Tryz.prog 117 T=some (List.replicate T (.int .u8 0),1,5):=slcBuild_one V5 V5 V3
  have hz0:(List.replicate T (Value.int .u8 0)).map CV.val=(List.replicate T (0:UInt8)).map bc:=by rw [List.map_replicate,List.map_replicate];rfl
  (refine U23 ?_;refine bE [(1000001,501)] (.tup [planV (T:Nat) (.slc 501 0 fs.length 1),Sn .i64 0]) [(501,some ⟨3,(ntV S).map .val,false⟩)] (hO) O O VC O O O O O V18 dS ?_;refine U11 ?_;refine K.makeSlc (m:=T) (bytes:=1) O O hmk V5 V3 hz0 O dS ?_;refine U7 ?_;refine bE [(1000001,501),(1000002,502)] (.sv (.one (.slc 502 0 E.length 2))) [(501,some ⟨3,(ntV S).map .val,false⟩),(502,some ⟨161,(elVs E).map .val,Nat.blt 0 E.length⟩)] (hSl) O O (by exact (cR ⟨_,O,(bY _ _ _ _)⟩ trivial)) (by exact (bT bU O)) O O O O V1D dS ?_;refine U4 ?_)
  refine cL (fun m σ=>∃ i:Nat,i≤E.length∧m=E.length-i∧σ=⟨[(1,Lx ad2 ns.length cap2),(9,.sv (.one (.slc 500 0 T 1))),(30,.sv (.one (.slc 502 0 E.length 2))),(31,Ln .i64 (E.length:Nat)),(32,Ln .i64 (i:Nat))],[(502,some ⟨161,(elVs E).map .val,Nat.blt 0 E.length⟩),(500,some ⟨5,(packE (E.take i) (ns.take i) (List.replicate T 0)).map bc,false⟩)],X⟩) E.length
   ⟨_,Le.ofR [(500,27)] V10 V1 V2 V2 V0 V2 V2,0,by omega,rfl,rfl⟩ ?_
  rintro m σ ⟨i,hi,rfl,rfl⟩
  have hbl:(packE (E.take i) (ns.take i) (List.replicate T 0)).length=T:=packE_len (fun e he=>hW e (List.mem_of_mem_take he)) (by rw [dF])
  by_cases hlt:i<E.length
  ·obtain ⟨e,he⟩:=wg hlt
   obtain ⟨⟨b,N⟩,hv⟩:∃ v,ns[i]? = some v:=wg V3
   obtain ⟨hN,blk,off,arr,el,fr,rfl,hX,hsz,hcells⟩:=hns.at hv
   have hio:=wo off i 3
   have hie:0+Int.toNat (i:Int)*2=i*2:=by simp
   have hc:=elVs_row he
   have hbf:=elVs_fit he
   obtain ⟨g1,g2,g3⟩:=fitAll_at hfit he hv
   have hP:=Put_q X e.1 (zv b N) g2 g3
   rw [← LI_q hN g1] at hP
   have hnext:packE (E.take (i+1)) (ns.take (i+1)) (List.replicate T 0)=setAt (packE (E.take i) (ns.take i) (List.replicate T 0)) e.2 (numB e.1 (b,N)):=by
    rw [take_snoc he,take_snoc hv,packE_snoc]
    rw [dA,dA];omega
   have hWe:=(hW e (dE he)).2
   have hw1:1≤kW e.1:=by rcases kW_in g2 with x|x|x|x<;>omega
   have hsl:(leB (kW e.1) (wdK e.1 (zv b N))).length=kW e.1:=leB_length _ _
   have hnb2:numB e.1 (b,N)=leB (kW e.1) (wdK e.1 (zv b N)):=rfl
   rw [hnb2] at hnext
   have hw8:=(kfacts e.1).2.2.2.2
   have hspl:=splice_bc (packE (E.take i) (ns.take i) (List.replicate T 0)) (leB (kW e.1) (wdK e.1 (zv b N))) e.2
   rw [← hnext] at hspl
   generalize leB (kW e.1) (wdK e.1 (zv b N))=s at *
   generalize packE (E.take i) (ns.take i) (List.replicate T 0)=B at *
   (refine U13 ?_;refine bJ O O hbf hc dS ?_;refine U5 ?_;refine rgD mixed ?_;refine U18 ?_;refine K.fromSlc (l:=e.2) (kh:=.i64) (off':=e.2) O O cC V3 V3 O dS ?_;refine kmv O<|K.copyStr (e:=5) O O O V5 V5 V3 V29 O hspl dS ?_;refine U5 ?_)
   exact ⟨_,_,by omega,Le.of V10 VE V2 V2 V0,i+1,by omega,O,O⟩
  ·have e:i=E.length:=by omega
   subst e
   rw [dG,List.take_of_length_le (Nat.le_of_eq hn.symm)] at *
   generalize packE E ns (List.replicate T 0)=B at *
   have hlen:0+T≤(B.map bc).length:=by rw [cX];omega
   have hcut:((B.map bc).drop 0).take T=B.map bc:=by rw [List.drop_zero,List.take_of_length_le V29]
   (refine U10 ?_;refine bS O O V5 StrT.u hlen hcut dS ?_;refine U4 ?_)
   exact V1E
 ·rw [if_neg h]
  generalize fitErr fs ns=e at *
  refine U26 ?_
  exact V1E
end Go.Proofs.YtopiioklkkiedaaGreatDoor
end
section
set_option maxHeartbeats 12800000
set_option maxRecDepth 100000
namespace Go.Lg.Fld
open Go Go.Lg
theorem leB_of:∀ (l:List UInt8),leB l.length (le l)=l
 | []=>rfl
 | c::t=>by
  have ih:=leB_of t
  have hc:=c.toNat_lt
  have h1:(c.toNat+256*le t)%256=c.toNat:=by omega
  have h2:(c.toNat+256*le t)/256=le t:=by omega
  show UInt8.ofNat ((c.toNat+256*le t)%256)::leB t.length ((c.toNat+256*le t)/256)=c::t
  rw [h1,h2,ih,UInt8.ofNat_toNat]
theorem wd_nb {k:Int} {v:Nat} (h:kK k=true) (hv:v<256^kW k):wdK k (nbK k v)=v:=by
 obtain ⟨h1,h2,h3⟩:=kM_facts h
 have hv:v<kM k:=hv
 unfold wdK nbK
 split
 ·have e:((v:Int)-(kM k:Int))%(kM k:Int)=v:=by
   rw [← Int.add_emod_right,Int.sub_add_cancel]
   exact Int.emod_eq_of_lt V3 V3
  rw [e];omega
 ·rw [Int.emod_eq_of_lt V3 V3];omega
end Go.Lg.Fld
namespace Go.Proofs.YtopiioklkkiedaaGreatDoor
open Go Go.Lg Go.Lg.Fld
set_option maxRecDepth 100000
abbrev ApartE (es:List (Int×Nat)):Prop:=es.Pairwise fun e e'=>e.2+kW e.1≤e'.2
theorem elems_apart:∀ (l:List Fl) (a:Nat),l.all Fl.ok=true→ApartE (elemsAt a l)
 | [],_,_=>List.Pairwise.nil
 | f::t,a,h=>by
  have h0:=h
  simp only [List.all_cons,Bool.and_eq_true] at h
  unfold ApartE
  simp only [elemsAt]
  rw [List.pairwise_append]
  refine ⟨?_,elems_apart t _ h.2,?_⟩
  ·rw [List.pairwise_map]
   refine List.Pairwise.imp (R:=fun i j=>i<j) ?_ List.pairwise_lt_range
   intro i j hij
   have:f.w*i+f.w≤f.w*j:=by rw [← Nat.mul_succ];exact Nat.mul_le_mul_left _ hij
   show roundUp a f.w+f.w*i+f.w≤roundUp a f.w+f.w*j
   omega
  ·intro e he e' he'
   obtain ⟨i,hi,rfl⟩:=List.mem_map.1 he
   have hi:=List.mem_range.1 hi
   have h2:=(elems_in t _ h.2 e' he').2.1
   have:f.w*i+f.w≤f.w*f.n:=by rw [← Nat.mul_succ];exact Nat.mul_le_mul_left _ hi
   show roundUp a f.w+f.w*i+f.w≤e'.2
   omega
theorem setAt_take {b s:List UInt8} {p q:Nat} (hq:q≤p) (hp:p≤b.length):(setAt b p s).take q=b.take q:=by
 unfold setAt
 rw [dN,List.take_append_of_le_length (by rw [dA];omega),List.take_take,Nat.min_eq_left hq]
theorem packE_take {T q:Nat}:∀ {es:List (Int×Nat)} {ns:List (Bool×Int)} {b:List UInt8},Within es T→(∀ e∈es,q≤e.2)→b.length=T→(packE es ns b).take q=b.take q
 | [],_,b,_,_,_=>rfl
 | _::_,[],b,_,_,_=>rfl
 | e::t,v::u,b,hw,hq,hb=>by
  have h1:=(hw e V21).2
  have hl:(setAt b e.2 (numB e.1 v)).length=T:=by rw [setAt_len (by rw [numB_len];omega)];exact hb
  show (packE t u (setAt b e.2 (numB e.1 v))).take q=b.take q
  rw [packE_take (fun x hx=>hw x (by simp [hx])) (fun x hx=>hq x (by simp [hx])) hl]
  exact setAt_take (hq e V21) V3
theorem setAt_get {b s:List UInt8} {p:Nat} (h:p+s.length≤b.length) (i:Nat):(setAt b p s)[i]? = if p≤i∧i<p+s.length then s[i-p]? else b[i]? := by
 unfold setAt
 have hl:(b.take p).length=p:=by rw [dA];omega
 by_cases h1:i<p
 ·rw [if_neg V3,dN,dR V3,List.getElem?_take,if_pos h1]
 ·by_cases h2:i<p+s.length
  ·rw [if_pos ⟨by omega,h2⟩,dN,List.getElem?_append_right V3,hl,dR V3]
  ·rw [if_neg V3,List.getElem?_append_right (by rw [cW];omega),cW,hl,List.getElem?_drop]
   congr 1
   omega
theorem nsV_splice:∀ (zs:List Int) (k:Nat) (z:Int),k<zs.length→splice ((nsV zs).map CV.val) (k*3) (cQ z)=(nsV (zs.set k z)).map CV.val
 | [],k,z,h=>by simp at h
 | y::t,0,z,_=>by
  have e:(nsV (y::t)).map CV.val=cQ y++(nsV t).map CV.val:=by simp [nsV,nmV,qn]
  have e2:(nsV (z::t)).map CV.val=cQ z++(nsV t).map CV.val:=by simp [nsV,nmV,qn]
  show splice ((nsV (y::t)).map CV.val) (0*3) (cQ z)=(nsV (z::t)).map CV.val
  rw [e,e2]
  rfl
 | y::t,k+1,z,h=>by
  have ih:=nsV_splice t k z V2E
  have e:(nsV (y::t)).map CV.val=cQ y++(nsV t).map CV.val:=by simp [nsV,nmV,qn]
  have e2:(nsV (y::t.set k z)).map CV.val=cQ y++(nsV (t.set k z)).map CV.val:=by simp [nsV,nmV,qn]
  show splice ((nsV (y::t)).map CV.val) ((k+1)*3) (cQ z)=(nsV (y::t.set k z)).map CV.val
  rw [e,e2,← ih]
  unfold splice
  rw [show (k+1)*3=3+k*3 by omega]
  have l3:(cQ y).length=3:=rfl
  have l3':(cQ z).length=3:=rfl
  rw [l3',List.take_append,List.drop_append,l3,List.take_of_length_le (by rw [l3];omega),List.drop_of_length_le (by rw [l3];omega)]
  rw [show 3+k*3-3=k*3 by omega,show 3+k*3+3-3=k*3+3 by omega]
  simp only [dN,List.nil_append]
def gapsB:Nat→List (Int×Nat)→List UInt8→Bool
 | a,[],s=>blankB (s.drop a)
 | a,e::t,s=>blankB ((s.drop a).take (e.2-a))&&gapsB (e.2+kW e.1) t s
theorem blank_at {l:List UInt8} (h:blankB l=true) {i:Nat} {c:UInt8} (hi:l[i]? = some c):c=0:=by
 have:=List.all_eq_true.1 h c (dE hi)
 simpa using this
theorem blank_of {l:List UInt8} (h:∀ (i:Nat) (c:UInt8),l[i]? = some c→c=0):blankB l=true:=by
 unfold blankB
 refine List.all_eq_true.2 fun c hc => ?_
 obtain ⟨i,hi⟩:=List.getElem?_of_mem hc
 rw [h i c hi]
 rfl
theorem numB_read {s:List UInt8} {e:Int×Nat} (hk:kK e.1=true) (h:e.2+kW e.1≤s.length):numB e.1 (qn (rdE s e))=(s.drop e.2).take (kW e.1):=by
 have hl:((s.drop e.2).take (kW e.1)).length=kW e.1:=by rw [dA,dC];omega
 have hb:=le_lt ((s.drop e.2).take (kW e.1))
 rw [hl] at hb
 show leB (kW e.1) (wdK e.1 (zv (qn (rdE s e)).1 (qn (rdE s e)).2))=_
 rw [zv_qn]
 unfold rdE
 rw [wd_nb hk hb]
 have h2:=leB_of ((s.drop e.2).take (kW e.1))
 rw [hl] at h2
 exact h2
theorem pre_get {s:List UInt8} {a T:Nat} (hs:s.length=T) (ha:a≤T) (i:Nat):(s.take a++List.replicate (T-a) (0:UInt8))[i]? = if i<a then s[i]? else if i<T then some 0 else none:=by
 have hl:(s.take a).length=a:=by rw [dA];omega
 by_cases h1:i<a
 ·rw [if_pos h1,dR V3,List.getElem?_take,if_pos h1]
 ·rw [if_neg h1,List.getElem?_append_right V3,hl,List.getElem?_replicate]
  by_cases h2:i<T
  ·rw [if_pos h2,if_pos V3]
  ·rw [if_neg h2,if_neg V3]
theorem gaps_pack {T:Nat} {s:List UInt8} (hs:s.length=T):∀ {es:List (Int×Nat)} {a:Nat},Within es T→ApartE es→(∀ e∈es,a≤e.2)→a≤T →
  (packE es ((es.map (rdE s)).map qn) (s.take a++List.replicate (T-a) 0)==s)=gapsB a es s
 | [],a,_,_,_,ha=>by
  show (s.take a++List.replicate (T-a) 0==s)=blankB (s.drop a)
  cases hb:blankB (s.drop a) with
  | true =>
   refine cV (List.ext_getElem? fun i => ?_)
   rw [pre_get hs ha]
   by_cases h1:i<a
   ·rw [if_pos h1]
   ·rw [if_neg h1]
    by_cases h2:i<T
    ·rw [if_pos h2]
     obtain ⟨c,hc⟩:∃ c,s[i]? = some c:=wg V3
     rw [hc,blank_at (c:=c) hb (i:=i-a) (by rw [List.getElem?_drop,Nat.add_sub_cancel' (by omega)];exact hc)]
    ·rw [if_neg h2,List.getElem?_eq_none V3]
  | false =>
   refine cS fun e => ?_
   rw [blank_of (fun i c hc => ?_)] at hb
   ·cases hb
   ·rw [List.getElem?_drop] at hc
    have hi:=(wl hc)
    rw [← e,pre_get hs ha,if_neg (by omega),if_pos (by omega)] at hc
    exact (Option.some.inj hc).symm
 | e::t,a,hw,hp,hge,ha=>by
  have he:=hw e V21
  have hae:=hge e V21
  have h2:∀ x∈t,e.2+kW e.1≤x.2:=(List.pairwise_cons.1 hp).1
  have hnb:=numB_read (s:=s) he.1 (by rw [hs];exact he.2)
  have hbl:((s.drop e.2).take (kW e.1)).length=kW e.1:=by rw [dA,dC];omega
  have hl0:(s.take a++List.replicate (T-a) (0:UInt8)).length=T:=by rw [cW,dA,dF];omega
  show (packE t ((t.map (rdE s)).map qn) (setAt (s.take a++List.replicate (T-a) 0) e.2 (numB e.1 (qn (rdE s e))))==s)=(blankB ((s.drop a).take (e.2-a))&&gapsB (e.2+kW e.1) t s)
  rw [hnb]
  cases hb:blankB ((s.drop a).take (e.2-a)) with
  | true =>
   rw [Bool.true_and,← gaps_pack hs (fun x hx=>hw x (by simp [hx])) (List.pairwise_cons.1 hp).2 h2 he.2]
   congr 2
   refine List.ext_getElem? fun i => ?_
   rw [setAt_get (by rw [hl0,hbl];exact he.2),pre_get hs ha,pre_get hs he.2,hbl]
   by_cases c1:e.2≤i∧i<e.2+kW e.1
   ·rw [if_pos c1,if_pos c1.2,List.getElem?_take,if_pos V3,List.getElem?_drop,Nat.add_sub_cancel' c1.1]
   ·rw [if_neg c1]
    by_cases c2:i<a
    ·rw [if_pos c2,if_pos V3]
    ·rw [if_neg c2]
     by_cases c3:i<e.2+kW e.1
     ·rw [if_pos c3,if_pos V3]
      obtain ⟨c,hc⟩:∃ c,s[i]? = some c:=wg V3
      rw [hc,blank_at (c:=c) hb (i:=i-a) (by rw [List.getElem?_take,if_pos (by omega),List.getElem?_drop,Nat.add_sub_cancel' (by omega)];exact hc)]
     ·rw [if_neg c3]
  | false =>
   rw [Bool.false_and]
   refine cS fun h => ?_
   have hls:(setAt (s.take a++List.replicate (T-a) 0) e.2 ((s.drop e.2).take (kW e.1))).length=T:=by rw [setAt_len (by rw [hl0,hbl];exact he.2)];exact hl0
   have h3:=packE_take (ns:=(t.map (rdE s)).map qn) (q:=e.2) (fun x hx=>hw x (by simp [hx])) (fun x hx=>Nat.le_trans (Nat.le_add_right _ _) (h2 x hx)) hls
   rw [h,setAt_take (dO _) (by rw [hl0];omega)] at h3
   rw [blank_of (fun i c hc => ?_)] at hb
   ·cases hb
   ·rw [List.getElem?_take] at hc
    split at hc
    ·rename_i hi
     rw [List.getElem?_drop] at hc
     have h4:=congrArg (fun l=>l[a+i]?) h3
     simp only [List.getElem?_take] at h4
     rw [if_pos (by omega),if_pos (by omega),hc,pre_get hs ha,if_neg (by omega),if_pos (by omega)] at h4
     exact Option.some.inj h4
    ·cases hc
variable (X:Nat→Option Obj)
def lunpBx (fs:List Fl) (s:List UInt8):List (Nat×Option Box):=if unpErr fs s=0 then [(1000001,some ⟨86,(nsV (unpZ fs s)).map .val,false⟩)] else []
set_option maxHeartbeats 6400000 in
theorem lUnpack_spec (ad:Option Addr) (cap:Nat) (fs:List Fl) (s:List UInt8) (hin:FieldsIn X ad fs) (hbig:fs.length<4611686018427387904):
  MSpec Tryz.prog X 41 [Lx ad fs.length cap,Ls s] [] (unpR fs s) (lunpBx fs s):=by
 refine cG Tryz.func41 rfl V5 rfl (by unfold unpR lunpBx;split<;>rfl) (by unfold lunpBx;split<;>exact V0) rfl rfl ?_
 intro C
 have hzs:(⟨s.toArray⟩:ByteArray).size=s.length:=rfl
 by_cases hl:layErr fs=0
 ·have hO:=Of_ok X ad cap fs hin hbig hl
  obtain ⟨h8,hall,hT⟩:=layErr_facts hl
  have hSl:=slotsOf_spec X ad cap fs (rowSize fs) hin h8 hall
  have hW:=within_row hall
  have hEl:=elems_len fs 0 hall
  have hue:unpErr fs s=if unpOk fs s=true then 0 else 4:=if_pos hl
  unfold unpR lunpBx
  rw [hue]
  unfold unpOk packB
  have hzl:(unpZ fs s).length=(elemsAt 0 fs).length:=by simp [unpZ]
  have hzd:unpZ fs s=(elemsAt 0 fs).map (rdE s):=rfl
  have hAp:=elems_apart fs 0 hall
  generalize hZ:unpZ fs s=Z at *
  generalize elemsAt 0 fs=E at *
  generalize startsAt 0 fs=S at *
  generalize rowSize fs=T at *
  by_cases hn:s.length=T
  ·have hgp:=gaps_pack hn hW hAp (fun _ _=>Nat.zero_le _) (Nat.zero_le _)
   rw [List.take_zero,List.nil_append,Nat.sub_zero,← hzd] at hgp
   rw [cP hn,Bool.true_and,hgp]
   have hmk:slcBuild Tryz.prog 28 E.length=some (nsV (List.replicate E.length 0),3,86):=by
    rw [← zeroNums]
    exact slcBuild_many (z := #[.bool false,.int .u64 0,.int .u64 0]) V5 V5 O V3
   (refine U8 ?_;refine bE [(1000001,501)] (.tup [planV (T:Nat) (.slc 501 0 fs.length 1),Sn .i64 0]) [(501,some ⟨3,(ntV S).map .val,false⟩)] (hO) O O VC O O O O O V18 dS ?_;refine U30 ?_;refine bE [(1000001,501),(1000002,502)] (.sv (.one (.slc 502 0 E.length 2))) [(501,some ⟨3,(ntV S).map .val,false⟩),(502,some ⟨161,(elVs E).map .val,Nat.blt 0 E.length⟩)] (hSl) O O (by exact (cR ⟨_,O,(bY _ _ _ _)⟩ trivial)) (by exact (bT bU O)) O O O O V1D dS ?_;refine U6 ?_;refine K.makeSlc (m:=E.length) (bytes:=24) O O hmk V5 V3 O O dS ?_;refine U14 ?_)
   refine cL (fun m σ=>∃ i a:Nat,i≤E.length∧m=E.length-i∧readOk E s=readOk (E.drop i) s∧gapsB 0 E s=gapsB a (E.drop i) s∧(∀ e∈E.drop i,a≤e.2)∧a≤T∧σ=⟨[(1,Ls s),(9,.sv (.one (.slc 500 0 E.length 3))),(10,Ln .i64 (a:Nat)),(32,.sv (.one (.slc 502 0 E.length 2))),(33,Ln .i64 (E.length:Nat)),(34,Ln .i64 (i:Nat))],[(502,some ⟨161,(elVs E).map .val,Nat.blt 0 E.length⟩),(500,some ⟨86,(nsV (Z.take i++List.replicate (E.length-i) 0)).map .val,false⟩)],X⟩) E.length
    ⟨_,Le.ofR [(500,31)] V11 V1 V2 V2 V0 V2 V2,0,0,by omega,rfl,rfl,rfl,(fun _ _=>Nat.zero_le _),Nat.zero_le _,rfl⟩ ?_
   rintro m σ ⟨i,a,hi,rfl,hrd0,hgp0,hge,haT,rfl⟩
   by_cases hlt:i<E.length
   ·obtain ⟨e,he⟩:=wg hlt
    have hz:Z[i]? = some (rdE s e):=by rw [hzd,dM,he];rfl
    have hm:=dE he
    have hdr:=drop_at he
    have hio:0+Int.toNat (i:Int)*3=i*3:=by simp
    have hie:0+Int.toNat (i:Int)*2=i*2:=by simp
    have hc:=elVs_row he
    have hbf:=elVs_fit he
    have hWe:=hW e hm
    have hrd:=read_R hW hn hm
    have hG:=Get_q X e.1 ((s.drop e.2).take (kW e.1)) hWe.1 hrd.1
    have hEnd:=slotEnd_spec X e.1 e.2 V3
    have hcut:(⟨s.toArray⟩:ByteArray).extract e.2 (e.2+kW e.1)=⟨((s.drop e.2).take (kW e.1)).toArray⟩:=by rw [str_cut,Nat.add_sub_cancel_left]
    have hw8:=(kfacts e.1).2.2.2.2
    rw [hdr] at hge hgp0 hrd0
    have hae:=hge e V21
    have hcut2:(⟨s.toArray⟩:ByteArray).extract a e.2=⟨((s.drop a).take (e.2-a)).toArray⟩:=str_cut _ _ _
    have hBk:=isBlank_spec X ((s.drop a).take (e.2-a)) (by rw [dA,dC];omega)
    have hro:readOk (e::E.drop (i+1)) s=(fitZ e.1 (rdE s e)&&readOk (E.drop (i+1)) s):=rfl
    have hgo:gapsB a (e::E.drop (i+1)) s=(blankB ((s.drop a).take (e.2-a))&&gapsB (e.2+kW e.1) (E.drop (i+1)) s):=rfl
    rw [hro] at hrd0
    rw [hgo] at hgp0
    rw [show nbK e.1 (le ((s.drop e.2).take (kW e.1)))=rdE s e from rfl] at hG
    have hvl:(Z.take i++List.replicate (E.length-i) (0:Int)).length=E.length:=by rw [cW,dA,dF];omega
    have hsp:=fun z=>nsV_splice (Z.take i++List.replicate (E.length-i) (0:Int)) i z V3
    have hm3:i*3+3≤((nsV (Z.take i++List.replicate (E.length-i) (0:Int))).map CV.val).length:=by rw [cX,nsV_len,hvl];omega
    have hset:(Z.take i++List.replicate (E.length-i) (0:Int)).set i (rdE s e)=Z.take (i+1)++List.replicate (E.length-(i+1)) 0:=by
     rw [fill_set (by rw [dA];omega) hlt,take_snoc hz]
    have hge2:∀ x∈E.drop (i+1),e.2+kW e.1≤x.2:=by
     have h5:=hAp.sublist (List.drop_sublist i E)
     rw [hdr] at h5
     exact (List.pairwise_cons.1 h5).1
    cases hf:fitZ e.1 (rdE s e) with
    | true =>
     rw [hf,if_pos rfl] at hG
     rw [hf,Bool.true_and] at hrd0
     have hsp1:=hsp (rdE s e)
     rw [hset] at hsp1
     cases hbk:blankB ((s.drop a).take (e.2-a)) with
     | true =>
      have hBk':=hBk true hbk
      rw [hbk,Bool.true_and] at hgp0
      generalize (s.drop e.2).take (kW e.1)=t at *
      generalize (s.drop a).take (e.2-a)=u at *
      generalize kW e.1=w at *
      generalize rdE s e=z at *
      (refine U13 ?_;refine bJ O O hbf hc dS ?_;refine U5 ?_;refine rgD mixed ?_;refine U9 ?_;refine bN (l:=e.2) (h:=e.2+w) (kl:=.i64) (kh:=.i64) O StrT.u O O ⟨V3,V3⟩ hcut dS ?_;refine U5 ?_;refine K.store O O O O V5 hm3 hsp1 dS ?_;refine U13 ?_;refine bN (l:=a) (h:=e.2) (kl:=.i64) (kh:=.i64) O StrT.u O O ⟨V3,V3⟩ hcut2 (dT O O) ?_;refine U15 ?_)
      exact ⟨_,_,by omega,Le.of V11 VE V2 V2 V0,i+1,e.2+w,by omega,O,hrd0,hgp0,hge2,V3,O⟩
     | false =>
      have hBk':=hBk false hbk
      rw [hgp0,hbk,Bool.false_and,Bool.and_false,if_neg (by simp),if_neg (by decide),if_neg (by decide)]
      generalize (s.drop e.2).take (kW e.1)=t at *
      generalize (s.drop a).take (e.2-a)=u at *
      generalize kW e.1=w at *
      generalize rdE s e=z at *
      (refine U13 ?_;refine bJ O O hbf hc dS ?_;refine U5 ?_;refine rgD mixed ?_;refine U9 ?_;refine bN (l:=e.2) (h:=e.2+w) (kl:=.i64) (kh:=.i64) O StrT.u O O ⟨V3,V3⟩ hcut dS ?_;refine U5 ?_;refine K.store O O O O V5 hm3 hsp1 dS ?_;refine U13 ?_;refine bN (l:=a) (h:=e.2) (kl:=.i64) (kh:=.i64) O StrT.u O O ⟨V3,V3⟩ hcut2 (dT O O) ?_;refine U11 ?_)
      exact V1C
    | false =>
     rw [hf,if_neg (by simp)] at hG
     have hsp0:=hsp 0
     rw [hrd0,hf,Bool.false_and,Bool.false_and,if_neg (by simp),if_neg (by decide),if_neg (by decide)]
     generalize (s.drop e.2).take (kW e.1)=t at *
     generalize kW e.1=w at *
     (refine U13 ?_;refine bJ O O hbf hc dS ?_;refine U5 ?_;refine rgD mixed ?_;refine U9 ?_;refine bN (l:=e.2) (h:=e.2+w) (kl:=.i64) (kh:=.i64) O StrT.u O O ⟨V3,V3⟩ hcut dS ?_;refine U5 ?_;refine K.store O O O O V5 hm3 hsp0 dS ?_;refine U25 ?_)
     exact V1C
   ·have e:i=E.length:=by omega
    subst e
    rw [List.drop_length] at hrd0 hgp0
    rw [hrd0,hgp0,show readOk [] s=true from rfl,Bool.true_and,show gapsB a [] s=blankB (s.drop a) from rfl]
    have hfin:(nsV (Z.take E.length++List.replicate (E.length-E.length) (0:Int))).map CV.val=(nsV Z).map CV.val:=by rw [List.take_of_length_le V3,Nat.sub_self,List.replicate_zero,dK]
    rw [hfin]
    have hcut:(⟨s.toArray⟩:ByteArray).extract a s.length=⟨(s.drop a).toArray⟩:=by rw [str_cut,List.take_of_length_le (by rw [dC];omega)]
    have hBk:=isBlank_spec X (s.drop a) (by rw [dC];omega)
    cases hbk:blankB (s.drop a) with
    | true =>
     have hBk':=hBk true hbk
     rw [if_pos rfl,if_pos rfl,if_pos rfl]
     (refine U12 ?_;refine bN (l:=a) (h:=s.length) (kl:=.i64) (kh:=.i64) O StrT.u O hzs.symm ⟨V3,V3⟩ hcut dS ?_;refine U12 ?_)
     exact ⟨[(1000001,500)],⟨[_,_],⟨rfl,rfl,trivial⟩,by rw [hzl];rfl⟩,V1,rfl,rfl⟩
    | false =>
     have hBk':=hBk false hbk
     rw [if_neg (by simp),if_neg (by decide),if_neg (by decide)]
     (refine U12 ?_;refine bN (l:=a) (h:=s.length) (kl:=.i64) (kh:=.i64) O StrT.u O hzs.symm ⟨V3,V3⟩ hcut dS ?_;refine U10 ?_)
     exact V1C
  ·rw [cO hn,Bool.false_and,if_neg V21,if_neg VA,if_neg VA]
   (refine U8 ?_;refine bE [(1000001,501)] (.tup [planV (T:Nat) (.slc 501 0 fs.length 1),Sn .i64 0]) [(501,some ⟨3,(ntV S).map .val,false⟩)] (hO) O O VC O O O O O V18 dS ?_;refine U31 ?_)
   exact V1C
 ·have hO:=Of_err X ad cap fs hin hbig hl
  have hue:unpErr fs s=layErr fs:=if_neg hl
  unfold unpR lunpBx
  rw [hue,if_neg hl,if_neg hl]
  generalize layErr fs=e at *
  refine U30 ?_
  exact V1C
end Go.Proofs.YtopiioklkkiedaaGreatDoor
end
section
set_option maxHeartbeats 12800000
set_option maxRecDepth 100000
namespace Go.Proofs.YtopiioklkkiedaaGreatDoor
open Go Go.Lg Go.Lg.Fld
set_option maxRecDepth 100000
variable (X:Nat→Option Obj)
theorem lUnpack_err (ad:Option Addr) (cap:Nat) (fs:List Fl) (s:List UInt8) (hin:FieldsIn X ad fs) (hbig:fs.length<4611686018427387904) (h:unpErr fs s≠0):
  PSpec Tryz.prog X 41 [Lx ad fs.length cap,Ls s] (.tup [Vnil,Sn .i64 (unpErr fs s)]):=by
 have:=lUnpack_spec X ad cap fs s hin hbig
 unfold unpR lunpBx at this
 rw [if_neg h,if_neg h] at this
 exact this.plain
theorem lUnpack_ok (ad:Option Addr) (cap:Nat) (fs:List Fl) (s:List UInt8) (hin:FieldsIn X ad fs) (hbig:fs.length<4611686018427387904) (h:unpErr fs s=0):
  MSpec Tryz.prog X 41 [Lx ad fs.length cap,Ls s] [] (.tup [.one (.slc 1000001 0 (unpZ fs s).length 3),Sn .i64 0]) [(1000001,some ⟨86,(nsV (unpZ fs s)).map .val,false⟩)]:=by
 have:=lUnpack_spec X ad cap fs s hin hbig
 unfold unpR lunpBx at this
 rw [if_pos h,if_pos h] at this
 exact this
end Go.Proofs.YtopiioklkkiedaaGreatDoor
end
section
set_option maxHeartbeats 12800000
set_option maxRecDepth 100000
namespace Go.Lg.Fld
open Go Go.Lg
instance:DecidableEq Fl:=fun a b=>decidable_of_iff (a.nm=b.nm∧a.kind=b.kind∧a.count=b.count) ⟨fun ⟨h1,h2,h3⟩=>by cases a;cases b;simp_all,fun h=>by rw [h];exact ⟨rfl,rfl,rfl⟩⟩
structure Cp where
 id:Int
 nm:List UInt8
 fs:List Fl
instance:DecidableEq Cp:=fun a b=>decidable_of_iff (a.id=b.id∧a.nm=b.nm∧a.fs=b.fs) ⟨fun ⟨h1,h2,h3⟩=>by cases a;cases b;simp_all,fun h=>by rw [h];exact ⟨rfl,rfl,rfl⟩⟩
structure Sc where
 ver:Int
 cs:List Cp
instance:DecidableEq Sc:=fun a b=>decidable_of_iff (a.ver=b.ver∧a.cs=b.cs) ⟨fun ⟨h1,h2⟩=>by cases a;cases b;simp_all,fun h=>by rw [h];exact ⟨rfl,rfl⟩⟩
def letB (c:UInt8):Bool:=decide (97≤c.toNat)&&decide (c.toNat≤122)
def digB (c:UInt8):Bool:=decide (48≤c.toNat)&&decide (c.toNat≤57)
def nmC (l:List UInt8) (i:Nat):Bool:=letB (l.getD i 0)||(digB (l.getD i 0)&&decide (i≠0))
def nmB (l:List UInt8):Bool:=decide (1≤l.length)&&decide (l.length≤12)&&(List.range l.length).all (nmC l)
def firstE (f:Nat→Int):Nat→Nat→Int
 | _,0=>0
 | i,n+1=>if f i=0 then firstE f (i+1) n else f i
theorem firstE_none {f:Nat→Int}:∀ {n i:Nat},(∀ j,i≤j→j<i+n→f j=0)→firstE f i n=0
 | 0,_,_=>rfl
 | n+1,i,h=>by
  unfold firstE
  rw [if_pos (h i (dO _) (by omega))]
  exact firstE_none fun j h1 h2=>h j V3 V3
theorem firstE_some {f:Nat→Int} {e:Int}:∀ {n i k:Nat},(∀ j,i≤j→j<k→f j=0)→i≤k→k<i+n→f k=e→e≠0→firstE f i n=e
 | 0,_,_,_,h1,h2,_,_=>by omega
 | n+1,i,k,h,h1,h2,he,h0=>by
  unfold firstE
  by_cases e1:i=k
  ·subst e1;rw [if_neg (by rw [he];exact h0),he]
  ·rw [if_pos (h i (dO _) V3)]
   exact firstE_some (fun j h3 h4=>h j V3 h4) V3 V3 he h0
theorem firstE_zero {f:Nat→Int}:∀ {n i:Nat},firstE f i n=0→∀ j,i≤j→j<i+n→f j=0
 | 0,_,_,_,h1,h2=>by omega
 | n+1,i,h,j,h1,h2=>by
  unfold firstE at h
  split at h
  ·rename_i h3
   by_cases e:j=i
   ·rw [e];exact h3
   ·exact firstE_zero h j V3 V3
  ·rename_i h3;exact absurd h h3
def fldE (fs:List Fl) (k:Nat):Int:=match fs[k]? with
 | some f=>if nmB f.nm=true then (if (fs.take k).any (fun g=>g.nm==f.nm)=true then 4 else 0) else 4
 | none=>0
def prevId (cs:List Cp) (i:Nat):Int:=(cs[i-1]?.map Cp.id).getD 0
def cmpE (cs:List Cp) (i:Nat):Int:=match cs[i]? with
 | some c =>
  if c.id<1∨24<c.id∨(0<i∧c.id≤prevId cs i) then 1
  else if nmB c.nm=true then (if (cs.take i).any (fun g=>g.nm==c.nm)=true then 4 else if firstE (fldE c.fs) 0 c.fs.length=0 then layErr c.fs else 4) else 4
 | none=>0
def chkE (s:Sc):Int:=if s.ver<1∨1073741824<s.ver then 1 else firstE (cmpE s.cs) 0 s.cs.length
structure CompsIn (X:Nat→Option Obj) (ad:Option Addr) (cs:List Cp):Prop where
 at_:∀ (i:Nat) (c:Cp),cs[i]? = some c→∃ (blk off:Nat) (arr:Array Value) (el:TypeId) (fr:Nat×Nat) (fad:Option Addr) (fcap:Nat),ad=some ⟨blk,off,none⟩∧X blk=some (.cells arr el fr)∧off+i*3+3≤arr.size ∧
  (arr.toList.drop (off+i*3)).take 3=[.int .i64 c.id,.string ⟨c.nm.toArray⟩,.slice fad c.fs.length fcap]∧FieldsIn X fad c.fs
 small:∀ c∈cs,-9223372036854775808≤c.id∧c.id<9223372036854775808
theorem FieldsIn.mono {X Y:Nat→Option Obj} (hXY:∀ b o,X b=some o→Y b=some o) {ad:Option Addr} {fs:List Fl} (h:FieldsIn X ad fs):FieldsIn Y ad fs:=⟨RowsIn.mono h.rows hXY,h.small⟩
theorem CompsIn.mono {X Y:Nat→Option Obj} (hXY:∀ b o,X b=some o→Y b=some o) {ad:Option Addr} {cs:List Cp} (h:CompsIn X ad cs):CompsIn Y ad cs:=⟨fun i c hc=>by
 obtain ⟨blk,off,arr,el,fr,fad,fcap,h1,h2,h3,h4,h5⟩:=h.at_ i c hc
 exact ⟨blk,off,arr,el,fr,fad,fcap,h1,hXY _ _ h2,h3,h4,h5.mono hXY⟩,h.small⟩
theorem three_at {arr:Array Value} {p:Nat} {a b c:Value} (h:(arr.toList.drop p).take 3=[a,b,c]):arr[p]? = some a∧arr[p+1]? = some b∧arr[p+2]? = some c:=by
 have key:∀ j,j<3→arr[p+j]? = [a,b,c][j]? := fun j hj=>by
  rw [← h,List.getElem?_take,if_pos hj,List.getElem?_drop,Array.getElem?_toList]
 exact ⟨key 0 V3,key 1 V3,key 2 V3⟩
theorem CompsIn.get {X:Nat→Option Obj} {ad:Option Addr} {cs:List Cp} (h:CompsIn X ad cs) {i:Nat} {c:Cp} (hc:cs[i]? = some c):∃ (blk off:Nat) (arr:Array Value) (el:TypeId) (fr:Nat×Nat) (fad:Option Addr) (fcap:Nat),ad=some ⟨blk,off,none⟩∧X blk=some (.cells arr el fr)∧off+i*3+3≤arr.size ∧
  ((arr.toList.drop (off+i*3)).take 3).map CV.val=[.val (.int .i64 c.id),.val (.string ⟨c.nm.toArray⟩),.val (.slice fad c.fs.length fcap)]∧arr[off+i*3]? = some (.int .i64 c.id)∧arr[off+i*3+1]? = some (.string ⟨c.nm.toArray⟩)∧arr[off+i*3+2]? = some (.slice fad c.fs.length fcap)∧FieldsIn X fad c.fs:=by
 obtain ⟨blk,off,arr,el,fr,fad,fcap,h1,h2,h3,h4,h5⟩:=h.at_ i c hc
 obtain ⟨g1,g2,g3⟩:=three_at h4
 exact ⟨blk,off,arr,el,fr,fad,fcap,h1,h2,h3,by rw [h4];rfl,g1,g2,g3,h5⟩
def NamesIn (cs:List Cp):Prop := ∀ c∈cs,c.nm.length≤9223372036854775807∧∀ f∈c.fs,f.nm.length≤9223372036854775807
def SmallC (cs:List Cp):Prop:=cs.length≤30∧∀ c∈cs,c.fs.length≤12∧c.nm.length≤100∧∀ f∈c.fs,f.nm.length≤100
end Go.Lg.Fld
namespace Go.Proofs.YtopiioklkkiedaaGreatDoor
open Go Go.Lg Go.Lg.Fld
abbrev Sx (ver:Int) (ad:Option Addr) (n cap:Nat):LV:=.sv (.agg [.val (.int .i64 ver),.val (.slice ad n cap)])
abbrev Cx (c:Cp) (fad:Option Addr) (fcap:Nat):LV:=.sv (.agg [.val (.int .i64 c.id),.val (.string ⟨c.nm.toArray⟩),.val (.slice fad c.fs.length fcap)])
end Go.Proofs.YtopiioklkkiedaaGreatDoor
end
section
set_option maxHeartbeats 12800000
set_option maxRecDepth 100000
namespace Go.Proofs.YtopiioklkkiedaaGreatDoor
open Go Go.Lg Go.Lg.Fld
set_option maxRecDepth 100000
variable (X:Nat→Option Obj)
theorem getD_of {α:Type} {l:List α} {i:Nat} {d x:α} (h:l[i]? = some x):l.getD i d=x:=by rw [List.getD_eq_getElem?_getD,h];rfl
theorem nmB_false {l:List UInt8} {i:Nat} (hi:i<l.length) (h:nmC l i=false):nmB l=false:=by
 unfold nmB
 rw [Bool.and_eq_false_iff]
 right
 exact List.all_eq_false.2 ⟨i,List.mem_range.2 hi,by rw [h];simp⟩
theorem nmB_true {l:List UInt8} (h1:1≤l.length) (h2:l.length≤12) (h:∀ j,j<l.length→nmC l j=true):nmB l=true:=by
 unfold nmB
 rw [cP h1,cP h2,Bool.true_and,Bool.true_and]
 exact List.all_eq_true.2 fun j hj=>h j (List.mem_range.1 hj)
theorem sName_spec (l:List UInt8):PSpec Tryz.prog X 130 [Ls l] (Lb (nmB l)):=by
 refine cF Tryz.func130 rfl V5 rfl rfl ?_
 intro C
 have hlen:(⟨l.toArray⟩:ByteArray).size=l.length:=rfl
 by_cases h1:l.length<1
 ·rw [show nmB l=false by unfold nmB;rw [cO V3];rfl]
  (refine U9 ?_;refine klt rfl rfl (cP V22) ?_;refine U12 ?_)
  exact V6
 ·by_cases h2:12<l.length
  ·rw [show nmB l=false by unfold nmB;rw [cO (show ¬l.length≤12 by omega)];simp]
   (refine U9 ?_;refine klt O O (cO V22) ?_;refine U2 ?_;refine K.lenStr O (dT O O) ?_;refine aS O O (cP V22) (dT O O) ?_;refine U8 ?_)
   exact V6
  ·(refine U9 ?_;refine klt O O (cO V22) ?_;refine U2 ?_;refine K.lenStr O (dT O O) ?_;refine aS O O (cO V22) (dT O O) ?_;refine U10 ?_)
   refine cL (fun m σ=>∃ i:Nat,i≤l.length∧m=l.length-i∧(∀ j,j<i→nmC l j=true)∧σ=⟨[(0,Ls l),(3,Ln .i64 (i:Nat))],[],X⟩) l.length
    ⟨_,Le.of VE VC V2 V2 V2,0,by omega,by omega,fun j hj=>absurd hj V3,rfl⟩ ?_
   rintro m σ ⟨i,hi,rfl,hpre,rfl⟩
   by_cases hlt:i<l.length
   ·obtain ⟨c,hc⟩:=wg hlt
    have hD:l.getD i 0=c:=getD_of hc
    have hget:(⟨l.toArray⟩:ByteArray)[(i:Int).toNat]? = some c:=str_at (by rw [dH];exact hc)
    have hlss:decide (((i:Nat):Int)<(⟨l.toArray⟩:ByteArray).size)=true:=cP V22
    by_cases l1:97≤c.toNat∧c.toNat≤122
    ·have hok:nmC l i=true:=by unfold nmC;rw [hD];unfold letB;simp [l1.1,l1.2]
     have key:∀ j,j<i+1→nmC l j=true:=fun j hj=>by
      by_cases e:j=i
      ·rw [e];exact hok
      ·exact hpre j V3
     by_cases d1:48≤c.toNat
     ·by_cases d2:c.toNat≤57
      ·omega
      ·(refine U6 ?_;refine klt O O hlss ?_;refine U14 ?_;refine bB O O V3 hget (dT O O) ?_;refine K.leq O O (cP V3) (dT O O) ?_;refine U12 ?_;refine bB O O V3 hget (dT O O) ?_;refine K.leq O O (cO V3) (dT O O) ?_;refine U23 ?_)
       exact ⟨_,_,by omega,Le.of VE VC V2 V2 V2,i+1,by omega,O,key,O⟩
     ·omega
    ·by_cases d1:48≤c.toNat∧c.toNat≤57
     ·by_cases hi0:i=0
      ·have hno:nmC l i=false:=by unfold nmC letB;rw [hD];simp [l1,hi0];omega
       rw [nmB_false hlt hno]
       subst hi0
       (refine U6 ?_;refine klt O O hlss ?_;refine U28 ?_;refine bB O O V3 hget (dT O O) ?_;refine K.leq O O (cP V3) (dT O O) ?_;refine U22 ?_)
       exact V6
      ·have hok:nmC l i=true:=by unfold nmC digB;rw [hD];simp [d1.1,d1.2,hi0]
       have key:∀ j,j<i+1→nmC l j=true:=fun j hj=>by
        by_cases e:j=i
        ·rw [e];exact hok
        ·exact hpre j V3
       have heq:(((i:Nat):Int)==0)=false:=cS V3
       (refine U6 ?_;refine klt O O hlss ?_;refine U28 ?_;refine bB O O V3 hget (dT O O) ?_;refine K.leq O O (cP V3) (dT O O) ?_;refine U23 ?_)
       exact ⟨_,_,by omega,Le.of VE VC V2 V2 V2,i+1,by omega,O,key,O⟩
     ·have hno:nmC l i=false:=by unfold nmC letB digB;rw [hD];simp;constructor<;>intro h<;>omega
      rw [nmB_false hlt hno]
      by_cases a1:97≤c.toNat
      ·(refine U6 ?_;refine klt O O hlss ?_;refine U14 ?_;refine bB O O V3 hget (dT O O) ?_;refine K.leq O O (cO V3) (dT O O) ?_;refine U12 ?_;refine bB O O V3 hget (dT O O) ?_;refine K.leq O O (cO V3) (dT O O) ?_;refine U22 ?_)
       exact V6
      ·by_cases a2:48≤c.toNat
       ·(refine U6 ?_;refine klt O O hlss ?_;refine U28 ?_;refine bB O O V3 hget (dT O O) ?_;refine K.leq O O (cO V3) (dT O O) ?_;refine U22 ?_)
        exact V6
       ·(refine U6 ?_;refine klt rfl rfl hlss ?_;refine U52 ?_)
        exact V6
   ·rw [nmB_true V3 V3 (fun j hj=>hpre j V3)]
    (refine U6 ?_;refine klt rfl rfl (cO V22) ?_;refine U8 ?_)
    exact V6
end Go.Proofs.YtopiioklkkiedaaGreatDoor
end
section
set_option maxHeartbeats 12800000
set_option maxRecDepth 100000
namespace Go.Lg.Fld
open Go Go.Lg
def findI {α:Type} (p:α→Bool) (l:List α):Int:=match l.findIdx? p with|some i=>(i:Nat)|none => -1
theorem findI_some {α:Type} {p:α→Bool} {l:List α} {i:Nat} {x:α} (h:∀ (j:Nat) (y:α),j<i→l[j]? = some y→p y=false) (hx:l[i]? = some x) (hp:p x=true):findI p l=(i:Nat):=by
 unfold findI
 obtain ⟨hi,e⟩:=List.getElem?_eq_some_iff.1 hx
 rw [List.findIdx?_eq_some_iff_getElem.2 ⟨hi,by rw [e];exact hp,fun j hj=>by rw [h j _ hj (cY (by omega))];simp⟩]
theorem findI_none {α:Type} {p:α→Bool} {l:List α} (h:∀ (j:Nat) (y:α),l[j]? = some y→p y=false):findI p l = -1:=by
 unfold findI
 rw [List.findIdx?_eq_none_iff.2 fun x hx=>by
  obtain ⟨j,hj⟩:=List.mem_iff_getElem?.1 hx
  exact h j x hj]
end Go.Lg.Fld
namespace Go.Proofs.YtopiioklkkiedaaGreatDoor
open Go Go.Lg Go.Lg.Fld
set_option maxRecDepth 100000
variable (X:Nat→Option Obj)
abbrev sxB (k:Nat) (ver:Int) (ad:Option Addr) (n cap:Nat):Nat×Option Box:=(k,some ⟨33,[.val (.int .i64 ver),.val (.slice ad n cap)],false⟩)
theorem sFind_spec (ver:Int) (ad:Option Addr) (cap:Nat) (cs:List Cp) (id:Int) (hin:CompsIn X ad cs) (hbig:cs.length<4611686018427387904):
  PSpec Tryz.prog X 51 [Sx ver ad cs.length cap,Ln .i64 id] (Ln .i64 (findI (fun c=>c.id==id) cs)):=by
 refine cF Tryz.func51 rfl V5 rfl rfl ?_
 intro C
 (refine aA<|rgN<|K.box O O O dS<|kas O<|RunK.nil<|aA<|aA<|rgN<|kas O<|RunK.nil<|LWP.block ?_)
 refine cL (fun m σ=>∃ i:Nat,i≤cs.length∧m=cs.length-i∧(∀ (j:Nat) (y:Cp),j<i→cs[j]? = some y→(y.id==id)=false)∧σ=⟨[(1,Ln .i64 id),(2,Lp 2),(5,Ln .i64 (i:Nat))],[sxB 2 ver ad cs.length cap],X⟩) cs.length
  ⟨_,Le.of V9 V13 V2 V2 V0,0,by omega,by omega,fun j y hj=>absurd hj V3,rfl⟩ ?_
 rintro m σ ⟨i,hi,rfl,hpre,rfl⟩
 by_cases hlt:i<cs.length
 ·obtain ⟨c,hc⟩:=wg hlt
  obtain ⟨blk,off,arr,el,fr,fad,fcap,rfl,hX,hsz,hcs,g1,g2,g3,hF⟩:=hin.get hc
  have hio:=wo off i 3
  by_cases he:c.id=id
  ·rw [findI_some hpre hc (by rw [beq_iff_eq];exact he)]
   (refine aA<|aA<|rgN<|kmv O<|kfa O O ?_;refine kl1 O O O<|K.lenX O cC O dS ?_;refine klt O O (cP V3)<|RunK.nil<|LWP.condT O ?_;refine LWP.skip ?_;refine aA<|LWP.block<|aA<|rgN<|kfa O O ?_;refine kl1 O O O<|kmv O<|K.indexX O O cC V3 hio dS<|K.fieldAddrX O O dS ?_;refine K.loadX O hX O g1 dS<|kmv O<|keq O O (by rw [beq_iff_eq];exact he)<|RunK.nil<|LWP.condT O ?_;refine aA<|rgN<|kmv O<|kas O<|RunK.nil<|LWP.ret ?_)
   exact V6
  ·have hne:(c.id==id)=false:=cS he
   (refine aA<|aA<|rgN<|kmv O<|kfa O O ?_;refine kl1 O O O<|K.lenX O cC O dS ?_;refine klt O O (cP V3)<|RunK.nil<|LWP.condT O ?_;refine LWP.skip ?_;refine aA<|LWP.block<|aA<|rgN<|kfa O O ?_;refine kl1 O O O<|kmv O<|K.indexX O O cC V3 hio dS<|K.fieldAddrX O O dS ?_;refine K.loadX O hX O g1 dS<|kmv O<|keq O O hne<|RunK.nil<|LWP.condF O ?_;refine LWP.skip ?_;refine rgN<|kmv O<|kad O O (cH V3)<|kas O<|RunK.nil ?_)
   exact ⟨_,_,by omega,Le.of V9 V13 V2 V2 V0,i+1,by omega,O,(fun j y hj hy=>by
    by_cases e:j=i
    ·subst e;rw [hc] at hy;cases hy;exact hne
    ·exact hpre j y V3 hy),rfl⟩
 ·rw [findI_none fun j y hy=>hpre j y V2D hy]
  (refine aA<|aA<|rgN<|kmv O<|kfa O O ?_;refine kl1 O O O<|K.lenX O cC O dS ?_;refine klt O O (cO V3)<|RunK.nil<|LWP.condF O ?_;refine LWP.exit<|aA<|rgN<|kas O<|RunK.nil<|LWP.ret ?_)
  exact V6
end Go.Proofs.YtopiioklkkiedaaGreatDoor
end
section
set_option maxHeartbeats 12800000
set_option maxRecDepth 100000
namespace Go.Lg.Fld
open Go Go.Lg
structure Pt where
 comp:Int
 val:List (Bool×Int)
theorem any_true {α:Type} {p:α→Bool} {l:List α} {k i:Nat} {y:α} (hk:k<i) (hy:l[k]? = some y) (hp:p y=true):(l.take i).any p=true:=by
 rw [List.any_eq_true]
 exact ⟨y,dE (by rw [List.getElem?_take,if_pos hk];exact hy),hp⟩
theorem any_false {α:Type} {p:α→Bool} {l:List α} {i:Nat} (h:∀ (j:Nat) (y:α),j<i→l[j]? = some y→p y=false):(l.take i).any p=false:=by
 rw [List.any_eq_false]
 intro y hy
 obtain ⟨j,hj⟩:=List.mem_iff_getElem?.1 hy
 rw [List.getElem?_take] at hj
 split at hj
 ·rename_i h1;rw [h j y h1 hj];simp
 ·cases hj
theorem two_at {arr:Array Value} {p:Nat} {a b:Value} (h:(arr.toList.drop p).take 2=[a,b]):arr[p]? = some a∧arr[p+1]? = some b:=by
 have key:∀ j,j<2→arr[p+j]? = [a,b][j]? := fun j hj=>by
  rw [← h,List.getElem?_take,if_pos hj,List.getElem?_drop,Array.getElem?_toList]
 exact ⟨key 0 V3,key 1 V3⟩
end Go.Lg.Fld
namespace Go.Proofs.YtopiioklkkiedaaGreatDoor
open Go Go.Lg Go.Lg.Fld
set_option maxRecDepth 100000
def partE (cs:List Cp) (p:Pt):Int:=match cs.find? (fun c=>c.id==p.comp) with|some c=>fitErr c.fs p.val|none=>6
def ptE (cs:List Cp) (ps:List Pt) (i:Nat):Int:=match ps[i]? with
 | some p=>if (ps.take i).any (fun g=>g.comp==p.comp)=true then 1 else partE cs p
 | none=>0
def partsE (cs:List Cp) (ps:List Pt):Int:=firstE (ptE cs ps) 0 ps.length
structure PartsIn (X:Nat→Option Obj) (ad:Option Addr) (ps:List Pt):Prop where
 at_:∀ (i:Nat) (p:Pt),ps[i]? = some p→∃ (blk off:Nat) (arr:Array Value) (el:TypeId) (fr:Nat×Nat) (vad:Option Addr) (vcap:Nat),ad=some ⟨blk,off,none⟩∧X blk=some (.cells arr el fr)∧off+i*2+2≤arr.size ∧
  (arr.toList.drop (off+i*2)).take 2=[.int .i64 p.comp,.slice vad p.val.length vcap]∧NumsIn X vad p.val
 small:∀ p∈ps,-9223372036854775808≤p.comp∧p.comp<9223372036854775808
theorem PartsIn.get {X:Nat→Option Obj} {ad:Option Addr} {ps:List Pt} (h:PartsIn X ad ps) {i:Nat} {p:Pt} (hc:ps[i]? = some p):∃ (blk off:Nat) (arr:Array Value) (el:TypeId) (fr:Nat×Nat) (vad:Option Addr) (vcap:Nat),ad=some ⟨blk,off,none⟩∧X blk=some (.cells arr el fr)∧off+i*2+2≤arr.size ∧
  ((arr.toList.drop (off+i*2)).take 2).map CV.val=[.val (.int .i64 p.comp),.val (.slice vad p.val.length vcap)]∧arr[off+i*2]? = some (.int .i64 p.comp)∧arr[off+i*2+1]? = some (.slice vad p.val.length vcap)∧NumsIn X vad p.val:=by
 obtain ⟨blk,off,arr,el,fr,vad,vcap,h1,h2,h3,h4,h5⟩:=h.at_ i p hc
 obtain ⟨g1,g2⟩:=two_at h4
 exact ⟨blk,off,arr,el,fr,vad,vcap,h1,h2,h3,by rw [h4];rfl,g1,g2,h5⟩
abbrev Px (p:Pt) (vad:Option Addr) (vcap:Nat):LV:=.sv (.agg [.val (.int .i64 p.comp),.val (.slice vad p.val.length vcap)])
theorem find_at {cs:List Cp} {i:Nat} {c:Cp} {id:Int} (hpre:∀ (j:Nat) (y:Cp),j<i→cs[j]? = some y→(y.id==id)=false) (hc:cs[i]? = some c) (he:c.id=id):cs.find? (fun c=>c.id==id)=some c:=by
 obtain ⟨hi,e⟩:=List.getElem?_eq_some_iff.1 hc
 rw [List.find?_eq_some_iff_getElem]
 refine ⟨by rw [beq_iff_eq];exact he,i,hi,e,fun j hj => ?_⟩
 rw [hpre j _ hj (cY (by omega))];rfl
theorem find_no {cs:List Cp} {id:Int} (h:∀ (j:Nat) (y:Cp),cs[j]? = some y→(y.id==id)=false):cs.find? (fun c=>c.id==id)=none:=by
 rw [List.find?_eq_none]
 intro c hc
 obtain ⟨j,hj⟩:=List.mem_iff_getElem?.1 hc
 rw [h j c hj];simp
theorem find_cases (cs:List Cp) (id:Int):(∃ (i:Nat) (c:Cp),cs[i]? = some c∧c.id=id∧∀ (j:Nat) (y:Cp),j<i→cs[j]? = some y→(y.id==id)=false)∨∀ (j:Nat) (y:Cp),cs[j]? = some y→(y.id==id)=false:=by
 cases hf:cs.findIdx? (fun c=>c.id==id) with
 | some i =>
  obtain ⟨hi,h1,h2⟩:=List.findIdx?_eq_some_iff_getElem.1 hf
  refine .inl ⟨i,cs[i],cY hi,by simpa using h1,fun j y hj hy => ?_⟩
  have:=h2 j hj
  obtain ⟨hj',e⟩:=List.getElem?_eq_some_iff.1 hy
  rw [e] at this
  cases hb:y.id==id with
  | false=>rfl
  | true=>exact absurd hb this
 | none =>
  have:=List.findIdx?_eq_none_iff.1 hf
  exact .inr fun j y hy=>this y (dE hy)
variable (X:Nat→Option Obj)
theorem sPart_spec (ver:Int) (ad vad:Option Addr) (cap vcap:Nat) (cs:List Cp) (p:Pt) (hin:CompsIn X ad cs) (hbig:cs.length<4611686018427387904) (hfs:∀ c∈cs,c.fs.length<4611686018427387904) (hns:NumsIn X vad p.val) (hnb:p.val.length<4611686018427387904):
  PSpec Tryz.prog X 95 [Sx ver ad cs.length cap,Px p vad vcap] (Ln .i64 (partE cs p)):=by
 refine cF Tryz.func95 rfl V5 rfl rfl ?_
 intro C
 have hF:=sFind_spec X ver ad cap cs p.comp hin hbig
 unfold partE
 rcases find_cases cs p.comp with ⟨i,c,hc,he,hpre⟩|hno
 ·rw [findI_some hpre hc (by rw [beq_iff_eq];exact he)] at hF
  rw [find_at hpre hc he]
  have hi:=(wl hc)
  obtain ⟨blk,off,arr,el,fr,fad,fcap,rfl,hX,hsz,hcs,g1,g2,g3,hFs⟩:=hin.get hc
  have hio:=wo off i 3
  have hR:=refFit_spec X fad vad fcap vcap c.fs p.val hFs (hfs c (dE hc)) hns hnb
  (refine U23 ?_;refine rgD mixed ?_;refine U13 ?_)
  exact V6
 ·rw [findI_none hno] at hF
  rw [find_no hno]
  refine U26 ?_
  exact V6
theorem ptE_at {cs:List Cp} {ps:List Pt} {i:Nat} {p:Pt} (h:ps[i]? = some p):ptE cs ps i=if (ps.take i).any (fun g=>g.comp==p.comp)=true then 1 else partE cs p:=by unfold ptE;rw [h]
set_option maxHeartbeats 1600000 in
theorem sParts_spec (ver:Int) (ad pad:Option Addr) (cap pcap:Nat) (cs:List Cp) (ps:List Pt) (hin:CompsIn X ad cs) (hbig:cs.length<4611686018427387904) (hfs:∀ c∈cs,c.fs.length<4611686018427387904) (hps:PartsIn X pad ps) (hpb:ps.length<4611686018427387904) (hnb:∀ p∈ps,p.val.length<4611686018427387904):
  PSpec Tryz.prog X 50 [Sx ver ad cs.length cap,Lx pad ps.length pcap] (Ln .i64 (partsE cs ps)):=by
 refine cF Tryz.func50 rfl V5 rfl rfl ?_
 intro C
 (refine aA<|rgN<|K.box O O O dS<|kas O<|RunK.nil<|aA<|aA<|rgN<|kas O<|RunK.nil<|LWP.block ?_)
 refine cL (fun m σ=>∃ i:Nat,i≤ps.length∧m=ps.length-i∧(∀ j,0≤j→j<i→ptE cs ps j=0)∧σ=⟨[(1,Lx pad ps.length pcap),(2,Lp 2),(5,Ln .i64 (i:Nat))],[sxB 2 ver ad cs.length cap],X⟩) ps.length
  ⟨_,Le.of V9 V13 V2 V2 V0,0,by omega,by omega,fun j _ hj=>absurd hj V3,rfl⟩ ?_
 rintro m σ ⟨i,hi,rfl,hpre,rfl⟩
 by_cases hlt:i<ps.length
 ·obtain ⟨p,hp⟩:=wg hlt
  obtain ⟨blk,off,arr,el,fr,vad,vcap,rfl,hX,hsz,hcs,g1,g2,hN⟩:=hps.get hp
  have hio:=wo off i 2
  have hE:=ptE_at (cs:=cs) hp
  have hP:=sPart_spec X ver ad vad cap vcap cs p hin hbig hfs hN (hnb p (dE hp))
  (refine aA<|aA<|rgN<|kmv O<|kmv O<|K.lenX O cC O dS ?_;refine klt O O (cP V3)<|RunK.nil<|LWP.condT O ?_;refine LWP.skip ?_;refine aA<|LWP.block<|aA<|aA<|rgN<|kas O<|RunK.nil<|LWP.block ?_)
  refine cL (fun m σ=>∃ k:Nat,k≤i∧m=i-k∧(∀ (j:Nat) (y:Pt),j<k→ps[j]? = some y→(y.comp==p.comp)=false)∧σ=⟨[(1,Lx (some ⟨blk,off,none⟩) ps.length pcap),(2,Lp 2),(5,Ln .i64 (i:Nat)),(6,Ln .i64 (k:Nat))],[sxB 2 ver ad cs.length cap],X⟩) i
   ⟨_,Le.of V8 V13 V2 V2 V0,0,by omega,by omega,fun j y hj=>absurd hj V3,rfl⟩ ?_
  rintro m σ ⟨k,hk,rfl,hpre2,rfl⟩
  by_cases hkl:k<i
  ·obtain ⟨q,hq⟩:∃ q,ps[k]? = some q:=wg V3
   obtain ⟨blk',off',arr',el',fr',_,_,e1,hX',_,_,g1',_,_⟩:=hps.get hq
   simp only [Option.some.injEq,Addr.mk.injEq] at e1
   obtain ⟨rfl,rfl,_⟩:=e1
   rw [hX] at hX'
   simp only [Option.some.injEq,Obj.cells.injEq] at hX'
   obtain ⟨rfl,rfl,rfl⟩:=hX'
   have hio2:=wo off k 2
   by_cases hqe:q.comp=p.comp
   ·rw [any_true hkl hq (by rw [beq_iff_eq];exact hqe),if_pos rfl] at hE
    rw [show partsE cs ps=1 from firstE_some hpre (Nat.zero_le _) (by omega) hE (by decide)]
    (refine aA<|aA<|rgN<|kmv O<|kmv O<|klt O O (cP V3)<|RunK.nil<|LWP.condT O ?_;refine LWP.skip ?_;refine aA<|LWP.block<|aA<|rgD mixed<|kmv O<|kmv O<|K.indexX O O cC V3 hio2 dS<|K.fieldAddrX O O dS ?_;refine K.loadX O hX O g1' dS<|kmv O<|kmv O<|K.indexX O O cC V3 hio dS<|K.fieldAddrX O O dS ?_;refine K.loadX O hX O g1 dS<|keq O O (r:=true) (by rw [beq_iff_eq];exact hqe)<|RunK.nil<|rgA ?_;refine LWP.condT O ?_;refine aA<|rgN<|kas O<|RunK.nil<|LWP.ret ?_)
    exact V6
   ·have hne:(q.comp==p.comp)=false:=cS hqe
    (refine aA<|aA<|rgN<|kmv O<|kmv O<|klt O O (cP V3)<|RunK.nil<|LWP.condT O ?_;refine LWP.skip ?_;refine aA<|LWP.block<|aA<|rgD mixed<|kmv O<|kmv O<|K.indexX O O cC V3 hio2 dS<|K.fieldAddrX O O dS ?_;refine K.loadX O hX O g1' dS<|kmv O<|kmv O<|K.indexX O O cC V3 hio dS<|K.fieldAddrX O O dS ?_;refine K.loadX O hX O g1 dS<|keq O O hne<|RunK.nil<|rgA ?_;refine LWP.condF O ?_;refine LWP.skip ?_;refine rgN<|kmv O<|kad O O (cH V3)<|kas O<|RunK.nil ?_)
    exact ⟨_,_,by omega,Le.of V8 V13 V2 V2 V0,k+1,by omega,O,(fun j y hj hy=>by
     by_cases e:j=k
     ·subst e;rw [hq] at hy;cases hy;exact hne
     ·exact hpre2 j y V3 hy),rfl⟩
  ·rw [any_false fun j y hj hy=>hpre2 j y V3 hy,if_neg VA] at hE
   by_cases he0:partE cs p=0
   ·rw [he0] at hP hE
    (refine aA<|aA<|rgN<|kmv O<|kmv O<|klt O O (cO V3)<|RunK.nil<|LWP.condF O ?_;refine LWP.exit<|aA<|rgD mixed<|K.loadAll O O O dS ?_;refine kmv O<|kmv O<|K.indexX O O cC V3 hio dS<|K.loadXagg O hX V5 hsz hcs dS<|kca O O (hP)<|kas O<|RunK.nil<|rgA ?_;refine aA<|rgN<|kmv O<|kne O O ((cT V3))<|RunK.nil<|LWP.condF O ?_;refine LWP.skip ?_;refine rgN<|kmv O<|kad O O (cH V3)<|kas O<|RunK.nil ?_)
    exact ⟨_,_,by omega,Le.of V9 V13 V2 V2 V0,i+1,by omega,O,(fun j h0 hj=>by
     by_cases e:j=i
     ·rw [e];exact hE
     ·exact hpre j h0 V3),rfl⟩
   ·rw [show partsE cs ps=partE cs p from firstE_some hpre (Nat.zero_le _) V3 hE he0]
    have hne:(partE cs p != 0)=true:=by rw [bne_iff_ne];exact he0
    generalize partE cs p=E at *
    (refine aA<|aA<|rgN<|kmv O<|kmv O<|klt O O (cO V3)<|RunK.nil<|LWP.condF O ?_;refine LWP.exit<|aA<|rgD mixed<|K.loadAll O O O dS ?_;refine kmv O<|kmv O<|K.indexX O O cC V3 hio dS<|K.loadXagg O hX V5 hsz hcs dS<|kca O O (hP)<|kas O<|RunK.nil<|rgA ?_;refine aA<|rgN<|kmv O<|kne O O hne<|RunK.nil<|LWP.condT O ?_;refine aA<|rgN<|kmv O<|kas O<|RunK.nil<|LWP.ret ?_)
    exact V6
 ·rw [show partsE cs ps=0 from firstE_none fun j h0 hj=>hpre j h0 V3]
  (refine aA<|aA<|rgN<|kmv O<|kmv O<|K.lenX O cC O dS ?_;refine klt O O (cO V3)<|RunK.nil<|LWP.condF O ?_;refine LWP.exit<|aA<|rgN<|kas O<|RunK.nil<|LWP.ret ?_)
  exact V6
end Go.Proofs.YtopiioklkkiedaaGreatDoor
end
section
set_option maxHeartbeats 12800000
set_option maxRecDepth 100000
namespace Go.Proofs.YtopiioklkkiedaaGreatDoor
open Go Go.Lg Go.Lg.Fld Go.RowKit Go.ChangeShapes Go.WideShapes Go.Joins
set_option maxRecDepth 100000
section
variable {H:Type} {enc:TypeId×Value→H} {w:World}
theorem cellsS:Tryz.prog.cellsOf 33=2:=by kernel_rfl
end
end Go.Proofs.YtopiioklkkiedaaGreatDoor
end
