/- A piece of a proof over this program: contracts of its functions, and a logic to prove them by. -/
import Derived.Test.YtopiioklkkiedaaGreatDoorW2
import Derived.Test.YtopiioklkkiedaaGreatDoorW3
import Derived.Lib.TrimByte
import Derived.Lib.SmallJoins
import Derived.Test.YtopiioklkkiedaaGreatDoorRows
section
set_option maxHeartbeats 12800000
set_option maxRecDepth 100000
namespace Go.Proofs.YtopiioklkkiedaaGreatDoor
open Go Go.Lg
variable (X:Nat→Option Obj)
theorem low_1 (n:Nat) (hn:n<18446744073709551616):PSpec Tryz.prog X 170 [Ln .i64 1,Ln .u64 (n:Nat)] (Ls (leB 1 n)):=by
 refine cF Tryz.func170 rfl V5 rfl rfl ?_
 intro C
 (refine U7 ?_;refine K.makeSlc (m:=1) (zs:=List.replicate 1 (.int .u8 0)) (sz:=1) (e:=5) (bytes:=1) (zc:=(lo 1 n 0).map bc) O O V5 V5 VA O O dS ?_;refine U10 ?_)
 refine cL (fun m σ=>∃ i:Nat,i≤1∧m=1-i∧σ=⟨[(1,Ln .u64 (n:Nat)),(5,.sv (.one (.slc 8 0 1))),(10,Ln .i64 1),(11,Ln .i64 (i:Nat))],[(8,some ⟨5,(lo 1 n i).map bc,false⟩)],X⟩) 1
  ⟨_,Le.of V8 V13 V2 V2 V0,0,Nat.zero_le _,rfl,rfl⟩ ?_
 rintro m σ ⟨i,hi,rfl,rfl⟩
 by_cases hlt:i<1
 ·have w8:IntKind.i64.wrap (8*(i:Int))=((8*i:Nat):Int):=by rw [cH V3];omega
  have ed:((n:Nat):Int)/2^(8*i)=((n/256^i:Nat):Int):=by rw [p256,Int.natCast_ediv,Int.natCast_pow];rfl
  have hs:=(shr_s (a:=((n:Nat):Int)) (s:=8*i) V3).trans ed
  have hv:IntKind.u8.wrap ((n/256^i:Nat):Int)=((UInt8.ofNat (n/256^i%256)).toNat:Nat):=by
   rw [UInt8.toNat_ofNat',Nat.mod_eq_of_lt (Nat.mod_lt _ (by decide)),IntKind.wrap_u8]
   omega
  have hbl:Nat.blt (0+i*1) ((lo 1 n i).map bc).length=true:=by rw [lo_len _ _ _ hi,Nat.blt_eq];omega
  (refine U19 ?_;refine bL O O w8 dS<|bO O O V3 hs dS ?_;refine U1 ?_;refine K.indexSlc O O V3 O dS ?_;refine bG O O O O hbl (lo_set hlt) dS ?_;refine U5 ?_)
  exact ⟨_,_,by omega,Le.of V8 V13 V2 V2 V0,i+1,by omega,O,O⟩
 ·have e:i=1:=by omega
  subst e
  have hlen:0+1≤((lo 1 n 1).map bc).length:=by rw [lo_len _ _ _ (dO _)];omega
  have hcut:(((lo 1 n 1).map bc).drop 0).take 1=(leB 1 n).map bc:=by
   rw [List.drop_zero,List.take_of_length_le (by rw [lo_len _ _ _ (dO _)];exact dO _),lo_all]
  (refine U10 ?_;refine bS O O V5 StrT.u hlen hcut dS ?_;refine U3 ?_)
  exact V6
theorem low_2 (n:Nat) (hn:n<18446744073709551616):PSpec Tryz.prog X 170 [Ln .i64 2,Ln .u64 (n:Nat)] (Ls (leB 2 n)):=by
 refine cF Tryz.func170 rfl V5 rfl rfl ?_
 intro C
 (refine U7 ?_;refine K.makeSlc (m:=2) (zs:=List.replicate 2 (.int .u8 0)) (sz:=1) (e:=5) (bytes:=1) (zc:=(lo 2 n 0).map bc) O O V5 V5 VA O O dS ?_;refine U10 ?_)
 refine cL (fun m σ=>∃ i:Nat,i≤2∧m=2-i∧σ=⟨[(1,Ln .u64 (n:Nat)),(5,.sv (.one (.slc 8 0 2))),(10,Ln .i64 2),(11,Ln .i64 (i:Nat))],[(8,some ⟨5,(lo 2 n i).map bc,false⟩)],X⟩) 2
  ⟨_,Le.of V8 V13 V2 V2 V0,0,Nat.zero_le _,rfl,rfl⟩ ?_
 rintro m σ ⟨i,hi,rfl,rfl⟩
 by_cases hlt:i<2
 ·have w8:IntKind.i64.wrap (8*(i:Int))=((8*i:Nat):Int):=by rw [cH V3];omega
  have ed:((n:Nat):Int)/2^(8*i)=((n/256^i:Nat):Int):=by rw [p256,Int.natCast_ediv,Int.natCast_pow];rfl
  have hs:=(shr_s (a:=((n:Nat):Int)) (s:=8*i) V3).trans ed
  have hv:IntKind.u8.wrap ((n/256^i:Nat):Int)=((UInt8.ofNat (n/256^i%256)).toNat:Nat):=by
   rw [UInt8.toNat_ofNat',Nat.mod_eq_of_lt (Nat.mod_lt _ (by decide)),IntKind.wrap_u8]
   omega
  have hbl:Nat.blt (0+i*1) ((lo 2 n i).map bc).length=true:=by rw [lo_len _ _ _ hi,Nat.blt_eq];omega
  (refine U19 ?_;refine bL O O w8 dS<|bO O O V3 hs dS ?_;refine U1 ?_;refine K.indexSlc O O V3 O dS ?_;refine bG O O O O hbl (lo_set hlt) dS ?_;refine U5 ?_)
  exact ⟨_,_,by omega,Le.of V8 V13 V2 V2 V0,i+1,by omega,O,O⟩
 ·have e:i=2:=by omega
  subst e
  have hlen:0+2≤((lo 2 n 2).map bc).length:=by rw [lo_len _ _ _ (dO _)];omega
  have hcut:(((lo 2 n 2).map bc).drop 0).take 2=(leB 2 n).map bc:=by
   rw [List.drop_zero,List.take_of_length_le (by rw [lo_len _ _ _ (dO _)];exact dO _),lo_all]
  (refine U10 ?_;refine bS O O V5 StrT.u hlen hcut dS ?_;refine U3 ?_)
  exact V6
theorem low_4 (n:Nat) (hn:n<18446744073709551616):PSpec Tryz.prog X 170 [Ln .i64 4,Ln .u64 (n:Nat)] (Ls (leB 4 n)):=by
 refine cF Tryz.func170 rfl V5 rfl rfl ?_
 intro C
 (refine U7 ?_;refine K.makeSlc (m:=4) (zs:=List.replicate 4 (.int .u8 0)) (sz:=1) (e:=5) (bytes:=1) (zc:=(lo 4 n 0).map bc) O O V5 V5 VA O O dS ?_;refine U10 ?_)
 refine cL (fun m σ=>∃ i:Nat,i≤4∧m=4-i∧σ=⟨[(1,Ln .u64 (n:Nat)),(5,.sv (.one (.slc 8 0 4))),(10,Ln .i64 4),(11,Ln .i64 (i:Nat))],[(8,some ⟨5,(lo 4 n i).map bc,false⟩)],X⟩) 4
  ⟨_,Le.of V8 V13 V2 V2 V0,0,Nat.zero_le _,rfl,rfl⟩ ?_
 rintro m σ ⟨i,hi,rfl,rfl⟩
 by_cases hlt:i<4
 ·have w8:IntKind.i64.wrap (8*(i:Int))=((8*i:Nat):Int):=by rw [cH V3];omega
  have ed:((n:Nat):Int)/2^(8*i)=((n/256^i:Nat):Int):=by rw [p256,Int.natCast_ediv,Int.natCast_pow];rfl
  have hs:=(shr_s (a:=((n:Nat):Int)) (s:=8*i) V3).trans ed
  have hv:IntKind.u8.wrap ((n/256^i:Nat):Int)=((UInt8.ofNat (n/256^i%256)).toNat:Nat):=by
   rw [UInt8.toNat_ofNat',Nat.mod_eq_of_lt (Nat.mod_lt _ (by decide)),IntKind.wrap_u8]
   omega
  have hbl:Nat.blt (0+i*1) ((lo 4 n i).map bc).length=true:=by rw [lo_len _ _ _ hi,Nat.blt_eq];omega
  (refine U19 ?_;refine bL O O w8 dS<|bO O O V3 hs dS ?_;refine U1 ?_;refine K.indexSlc O O V3 O dS ?_;refine bG O O O O hbl (lo_set hlt) dS ?_;refine U5 ?_)
  exact ⟨_,_,by omega,Le.of V8 V13 V2 V2 V0,i+1,by omega,O,O⟩
 ·have e:i=4:=by omega
  subst e
  have hlen:0+4≤((lo 4 n 4).map bc).length:=by rw [lo_len _ _ _ (dO _)];omega
  have hcut:(((lo 4 n 4).map bc).drop 0).take 4=(leB 4 n).map bc:=by
   rw [List.drop_zero,List.take_of_length_le (by rw [lo_len _ _ _ (dO _)];exact dO _),lo_all]
  (refine U10 ?_;refine bS O O V5 StrT.u hlen hcut dS ?_;refine U3 ?_)
  exact V6
theorem low_8 (n:Nat) (hn:n<18446744073709551616):PSpec Tryz.prog X 170 [Ln .i64 8,Ln .u64 (n:Nat)] (Ls (leB 8 n)):=by
 refine cF Tryz.func170 rfl V5 rfl rfl ?_
 intro C
 (refine U7 ?_;refine K.makeSlc (m:=8) (zs:=List.replicate 8 (.int .u8 0)) (sz:=1) (e:=5) (bytes:=1) (zc:=(lo 8 n 0).map bc) O O V5 V5 VA O O dS ?_;refine U10 ?_)
 refine cL (fun m σ=>∃ i:Nat,i≤8∧m=8-i∧σ=⟨[(1,Ln .u64 (n:Nat)),(5,.sv (.one (.slc 8 0 8))),(10,Ln .i64 8),(11,Ln .i64 (i:Nat))],[(8,some ⟨5,(lo 8 n i).map bc,false⟩)],X⟩) 8
  ⟨_,Le.of V8 V13 V2 V2 V0,0,Nat.zero_le _,rfl,rfl⟩ ?_
 rintro m σ ⟨i,hi,rfl,rfl⟩
 by_cases hlt:i<8
 ·have w8:IntKind.i64.wrap (8*(i:Int))=((8*i:Nat):Int):=by rw [cH V3];omega
  have ed:((n:Nat):Int)/2^(8*i)=((n/256^i:Nat):Int):=by rw [p256,Int.natCast_ediv,Int.natCast_pow];rfl
  have hs:=(shr_s (a:=((n:Nat):Int)) (s:=8*i) V3).trans ed
  have hv:IntKind.u8.wrap ((n/256^i:Nat):Int)=((UInt8.ofNat (n/256^i%256)).toNat:Nat):=by
   rw [UInt8.toNat_ofNat',Nat.mod_eq_of_lt (Nat.mod_lt _ (by decide)),IntKind.wrap_u8]
   omega
  have hbl:Nat.blt (0+i*1) ((lo 8 n i).map bc).length=true:=by rw [lo_len _ _ _ hi,Nat.blt_eq];omega
  (refine U19 ?_;refine bL O O w8 dS<|bO O O V3 hs dS ?_;refine U1 ?_;refine K.indexSlc O O V3 O dS ?_;refine bG O O O O hbl (lo_set hlt) dS ?_;refine U5 ?_)
  exact ⟨_,_,by omega,Le.of V8 V13 V2 V2 V0,i+1,by omega,O,O⟩
 ·have e:i=8:=by omega
  subst e
  have hlen:0+8≤((lo 8 n 8).map bc).length:=by rw [lo_len _ _ _ (dO _)];omega
  have hcut:(((lo 8 n 8).map bc).drop 0).take 8=(leB 8 n).map bc:=by
   rw [List.drop_zero,List.take_of_length_le (by rw [lo_len _ _ _ (dO _)];exact dO _),lo_all]
  (refine U10 ?_;refine bS O O V5 StrT.u hlen hcut dS ?_;refine U3 ?_)
  exact V6
end Go.Proofs.YtopiioklkkiedaaGreatDoor
end
section
set_option maxHeartbeats 12800000
set_option maxRecDepth 100000
namespace Go.Proofs.YtopiioklkkiedaaGreatDoor
open Go Go.Lg
variable (X:Nat→Option Obj)
abbrev w0 (k:Nat):List (Nat×Option Box):=[(k,some ⟨214,[.val (.pointer none),.val (.int .i64 0)],false⟩)]
abbrev w1 (k ks kb:Nat) (l:List UInt8):List (Nat×Option Box):=
 [(k,some ⟨214,[.ptr ks 0,.val (.int .i64 (l.length:Nat))],false⟩),(ks,some ⟨262,[.slc kb 0 l.length],false⟩),(kb,some ⟨5,l.map bc,true⟩)]
theorem String_0:MSpec Tryz.prog X 125 [Lp 1000000] (w0 1000000) (Ls []) (w0 1000000):=by
 refine cG Tryz.func125 rfl V5 rfl rfl rfl rfl rfl ?_
 intro C
 (refine U8 ?_;refine K.ptrNil O V5 (.inl ⟨O,O⟩) dS ?_;refine U2 ?_;refine bI O (dT O O) ?_;refine U2 ?_;refine K.nilNil O V5 (.inl ⟨O,O⟩) (dT O O) ?_;refine U8 ?_)
 exact V20
theorem String_1 (l:List UInt8):MSpec Tryz.prog X 125 [Lp 1000000] (w1 1000000 1000001 1000002 l) (Ls l) (w1 1000000 1000001 1000002 l):=by
 refine cG Tryz.func125 rfl V5 rfl rfl V0 rfl rfl ?_
 intro C
 have hlen:0+l.length≤(l.map bc).length:=by rw [cX];omega
 have hcut:((l.map bc).drop 0).take l.length=l.map bc:=by rw [List.drop_zero,List.take_of_length_le (by rw [cX];exact dO _)]
 (refine U8 ?_;refine K.ptrNil O V5 (.inl ⟨O,O⟩) dS ?_;refine U2 ?_;refine bI O (dT O O) ?_;refine U2 ?_;refine K.ptrNil O V5 (.inl ⟨O,O⟩) (dT O O) ?_;refine U5 ?_;refine rgD mixed ?_;refine U11 ?_;refine K.cutSlc O O cC (dO _) dS<|bS O O V5 StrT.u hlen hcut dS ?_;refine U4 ?_)
 exact ⟨[],⟨[_],⟨O,trivial⟩,O⟩,V1,O,O⟩
theorem WRaw_0 (s:List UInt8) (hs:s.length<1000000000):MSpec Tryz.prog X 169 [Lp 1000000,Ls s] (w0 1000000) (Lb true) (w1 1000000 1000001 1000002 s):=by
 refine cG Tryz.func169 rfl V5 rfl rfl V0 rfl rfl ?_
 intro C
 (refine U8 ?_;refine K.ptrNil O V5 (.inl ⟨O,O⟩) dS ?_;refine U5 ?_;refine rgD mixed ?_;refine U4 ?_;refine K.nilNil O V5 (.inl ⟨O,O⟩) dS ?_;refine U21 ?_;refine aU [] (w0 1000000) (String_0 X) O O V17 V16 O O O O V19 dS<|K.strBytes (e:=5) O StrT.u V5 V5 O dS<|aT O O V2 (by exact nl1 O O) dS ?_;refine U3 ?_;refine bG O O O O O (nl2 O O O) dS ?_;refine U2 ?_;refine rgD mixed ?_;refine U12 ?_;refine K.appendStr (by_:=1) O O O O V5 StrT.u (by simp only [dP];omega) (by simp only [dP];omega) O (Nat.zero_add _) (List.nil_append _) dS ?_;refine U2 ?_;refine bG O O O O O (nl1 O O) dS ?_;refine U15 ?_;refine bG O O O O O (nl2 O O O) dS ?_;refine U6 ?_)
 exact ⟨[(1000001,32),(1000002,47)],⟨[_],⟨O,trivial⟩,O⟩,V1,O,O⟩
theorem WRaw_1 (l s:List UInt8) (hs:l.length+s.length<1000000000):MSpec Tryz.prog X 169 [Lp 1000000,Ls s] (w1 1000000 1000001 1000002 l) (Lb true) (w1 1000000 1000001 1000003 (l++s)++[(1000002,none)]):=by
 refine cG Tryz.func169 rfl V5 rfl rfl V0 rfl rfl ?_
 intro C
 ((refine U8 ?_;refine K.ptrNil O V5 (.inl ⟨O,O⟩) dS ?_;refine U5 ?_;refine rgD mixed ?_;refine U4 ?_;refine K.ptrNil O V5 (.inl ⟨O,O⟩) dS ?_;refine U2 ?_;refine bI O (dT O O) ?_;refine U3 ?_;refine bI O (dT O O) ?_;refine U2 ?_;refine bI O (dT O O) ?_;refine U2 ?_);(refine K.lenSlc O cC O (dT O O) ?_;refine aX O O ((cT V3)) (dT O O) ?_;refine U6 ?_;refine rgD mixed ?_;refine U12 ?_;refine K.appendStr (by_:=1) O O (cX _) O V5 StrT.u V3 V3 O (cW).symm (dI).symm dS ?_;refine U2 ?_;refine bG O O O O O (nl1 O O) dS ?_;refine U11 ?_);(refine U4 ?_;refine bG O O O O O (nl2 O O O) dS ?_;refine U6 ?_))
 exact ⟨[(1000003,47)],⟨[_],⟨O,trivial⟩,O⟩,V1,O,O⟩
end Go.Proofs.YtopiioklkkiedaaGreatDoor
end
section
set_option maxHeartbeats 12800000
set_option maxRecDepth 100000
namespace Go.Proofs.YtopiioklkkiedaaGreatDoor
open Go Go.Lg
variable (X:Nat→Option Obj)
theorem oshr_1 (n:Nat):((n:Nat):Int).fdiv (2^(min (((8*1:Nat):Int)).toNat IntKind.u64.bits))=((n/256^1:Nat):Int):=by
 have ed:((n:Nat):Int)/2^(8*1)=((n/256^1:Nat):Int):=by rw [p256,Int.natCast_ediv,Int.natCast_pow];rfl
 exact (shr_s (a:=((n:Nat):Int)) (s:=8*1) V3).trans ed
theorem WNum_0_1 (n:Nat) (hn:n<18446744073709551616) (h:n<256^1):MSpec Tryz.prog X 123 [Lp 1000000,Ln .i64 1,Ln .u64 (n:Nat)] (w0 1000000) (Lb true) (w1 1000000 1000001 1000002 (leB 1 n)):=by
 refine cG Tryz.func123 rfl V5 rfl rfl V0 rfl rfl ?_
 intro C
 have hz:((n/256^1:Nat):Int)=0:=by rw [Nat.div_eq_of_lt h];rfl
 have hs:=(oshr_1 n).trans hz
 (refine U8 ?_;refine kca O O (isWidth_spec X _ true O) ?_;refine U4 ?_;refine bL O O (c:=((8*1:Nat):Int)) O (dT O O) ?_;refine bO O O VA hs (dT O O) ?_;refine aX O O ((cT V3)) (dT O O) ?_;refine U9 ?_;refine kca O O (low_1 X n hn)<|aU [(1000001,501),(1000002,502)] (w1 1000000 501 502 (leB 1 n)) (WRaw_0 X _ (by rw [leB_length];decide)) O O V17 V16 O O O O V23 dS ?_;refine U3 ?_)
 exact ⟨[(1000001,501),(1000002,502)],⟨[_],⟨O,trivial⟩,O⟩,V1,O,O⟩
theorem WNum_1_1 (l:List UInt8) (n:Nat) (hn:n<18446744073709551616) (h:n<256^1) (hl:l.length<900000000):MSpec Tryz.prog X 123 [Lp 1000000,Ln .i64 1,Ln .u64 (n:Nat)] (w1 1000000 1000001 1000002 l) (Lb true) (w1 1000000 1000001 1000003 (l++leB 1 n)++[(1000002,none)]):=by
 refine cG Tryz.func123 rfl V5 rfl rfl V0 rfl rfl ?_
 intro C
 have hz:((n/256^1:Nat):Int)=0:=by rw [Nat.div_eq_of_lt h];rfl
 have hs:=(oshr_1 n).trans hz
 (refine U8 ?_;refine kca O O (isWidth_spec X _ true O) ?_;refine U4 ?_;refine bL O O (c:=((8*1:Nat):Int)) O (dT O O) ?_;refine bO O O VA hs (dT O O) ?_;refine aX O O ((cT V3)) (dT O O) ?_;refine U9 ?_;refine kca O O (low_1 X n hn)<|aU [(1000003,503)] (w1 1000000 1000001 503 (l++leB 1 n)++[(1000002,none)]) (WRaw_1 X l _ (by rw [leB_length];omega)) O O VD VB O O O O V12 dS ?_;refine U3 ?_)
 exact ⟨[(1000003,503)],⟨[_],⟨O,trivial⟩,O⟩,V1,O,O⟩
theorem oshr_2 (n:Nat):((n:Nat):Int).fdiv (2^(min (((8*2:Nat):Int)).toNat IntKind.u64.bits))=((n/256^2:Nat):Int):=by
 have ed:((n:Nat):Int)/2^(8*2)=((n/256^2:Nat):Int):=by rw [p256,Int.natCast_ediv,Int.natCast_pow];rfl
 exact (shr_s (a:=((n:Nat):Int)) (s:=8*2) V3).trans ed
theorem WNum_0_2 (n:Nat) (hn:n<18446744073709551616) (h:n<256^2):MSpec Tryz.prog X 123 [Lp 1000000,Ln .i64 2,Ln .u64 (n:Nat)] (w0 1000000) (Lb true) (w1 1000000 1000001 1000002 (leB 2 n)):=by
 refine cG Tryz.func123 rfl V5 rfl rfl V0 rfl rfl ?_
 intro C
 have hz:((n/256^2:Nat):Int)=0:=by rw [Nat.div_eq_of_lt h];rfl
 have hs:=(oshr_2 n).trans hz
 (refine U8 ?_;refine kca O O (isWidth_spec X _ true O) ?_;refine U4 ?_;refine bL O O (c:=((8*2:Nat):Int)) O (dT O O) ?_;refine bO O O VA hs (dT O O) ?_;refine aX O O ((cT V3)) (dT O O) ?_;refine U9 ?_;refine kca O O (low_2 X n hn)<|aU [(1000001,501),(1000002,502)] (w1 1000000 501 502 (leB 2 n)) (WRaw_0 X _ (by rw [leB_length];decide)) O O V17 V16 O O O O V23 dS ?_;refine U3 ?_)
 exact ⟨[(1000001,501),(1000002,502)],⟨[_],⟨O,trivial⟩,O⟩,V1,O,O⟩
theorem oshr_4 (n:Nat):((n:Nat):Int).fdiv (2^(min (((8*4:Nat):Int)).toNat IntKind.u64.bits))=((n/256^4:Nat):Int):=by
 have ed:((n:Nat):Int)/2^(8*4)=((n/256^4:Nat):Int):=by rw [p256,Int.natCast_ediv,Int.natCast_pow];rfl
 exact (shr_s (a:=((n:Nat):Int)) (s:=8*4) V3).trans ed
theorem WNum_0_4 (n:Nat) (hn:n<18446744073709551616) (h:n<256^4):MSpec Tryz.prog X 123 [Lp 1000000,Ln .i64 4,Ln .u64 (n:Nat)] (w0 1000000) (Lb true) (w1 1000000 1000001 1000002 (leB 4 n)):=by
 refine cG Tryz.func123 rfl V5 rfl rfl V0 rfl rfl ?_
 intro C
 have hz:((n/256^4:Nat):Int)=0:=by rw [Nat.div_eq_of_lt h];rfl
 have hs:=(oshr_4 n).trans hz
 (refine U8 ?_;refine kca O O (isWidth_spec X _ true O) ?_;refine U4 ?_;refine bL O O (c:=((8*4:Nat):Int)) O (dT O O) ?_;refine bO O O VA hs (dT O O) ?_;refine aX O O ((cT V3)) (dT O O) ?_;refine U9 ?_;refine kca O O (low_4 X n hn)<|aU [(1000001,501),(1000002,502)] (w1 1000000 501 502 (leB 4 n)) (WRaw_0 X _ (by rw [leB_length];decide)) O O V17 V16 O O O O V23 dS ?_;refine U3 ?_)
 exact ⟨[(1000001,501),(1000002,502)],⟨[_],⟨O,trivial⟩,O⟩,V1,O,O⟩
theorem oshr_8 (n:Nat):((n:Nat):Int).fdiv (2^(min (((8*8:Nat):Int)).toNat IntKind.u64.bits))=((n/256^8:Nat):Int):=by
 have ed:((n:Nat):Int)/2^(8*8)=((n/256^8:Nat):Int):=by rw [p256,Int.natCast_ediv,Int.natCast_pow];rfl
 exact (shr_s (a:=((n:Nat):Int)) (s:=8*8) V3).trans ed
theorem WNum_0_8 (n:Nat) (hn:n<18446744073709551616) (h:n<256^8):MSpec Tryz.prog X 123 [Lp 1000000,Ln .i64 8,Ln .u64 (n:Nat)] (w0 1000000) (Lb true) (w1 1000000 1000001 1000002 (leB 8 n)):=by
 refine cG Tryz.func123 rfl V5 rfl rfl V0 rfl rfl ?_
 intro C
 have hz:((n/256^8:Nat):Int)=0:=by rw [Nat.div_eq_of_lt h];rfl
 have hs:=(oshr_8 n).trans hz
 (refine U8 ?_;refine kca O O (isWidth_spec X _ true O) ?_;refine U4 ?_;refine bL O O (c:=((8*8:Nat):Int)) O (dT O O) ?_;refine bO O O VA hs (dT O O) ?_;refine aX O O ((cT V3)) (dT O O) ?_;refine U9 ?_;refine kca O O (low_8 X n hn)<|aU [(1000001,501),(1000002,502)] (w1 1000000 501 502 (leB 8 n)) (WRaw_0 X _ (by rw [leB_length];decide)) O O V17 V16 O O O O V23 dS ?_;refine U3 ?_)
 exact ⟨[(1000001,501),(1000002,502)],⟨[_],⟨O,trivial⟩,O⟩,V1,O,O⟩
theorem WNum_1_8 (l:List UInt8) (n:Nat) (hn:n<18446744073709551616) (h:n<256^8) (hl:l.length<900000000):MSpec Tryz.prog X 123 [Lp 1000000,Ln .i64 8,Ln .u64 (n:Nat)] (w1 1000000 1000001 1000002 l) (Lb true) (w1 1000000 1000001 1000003 (l++leB 8 n)++[(1000002,none)]):=by
 refine cG Tryz.func123 rfl V5 rfl rfl V0 rfl rfl ?_
 intro C
 have hz:((n/256^8:Nat):Int)=0:=by rw [Nat.div_eq_of_lt h];rfl
 have hs:=(oshr_8 n).trans hz
 (refine U8 ?_;refine kca O O (isWidth_spec X _ true O) ?_;refine U4 ?_;refine bL O O (c:=((8*8:Nat):Int)) O (dT O O) ?_;refine bO O O VA hs (dT O O) ?_;refine aX O O ((cT V3)) (dT O O) ?_;refine U9 ?_;refine kca O O (low_8 X n hn)<|aU [(1000003,503)] (w1 1000000 1000001 503 (l++leB 8 n)++[(1000002,none)]) (WRaw_1 X l _ (by rw [leB_length];omega)) O O VD VB O O O O V12 dS ?_;refine U3 ?_)
 exact ⟨[(1000003,503)],⟨[_],⟨O,trivial⟩,O⟩,V1,O,O⟩
end Go.Proofs.YtopiioklkkiedaaGreatDoor
end
section
set_option maxHeartbeats 12800000
set_option maxRecDepth 100000
namespace Go.Proofs.YtopiioklkkiedaaGreatDoor
open Go Go.Lg
variable (X:Nat→Option Obj)
theorem rlen (l:List UInt8):(⟨l.toArray⟩:ByteArray).size=l.length:=rfl
theorem Left_spec (l:List UInt8) (b:Bool):MSpec Tryz.prog X 205 [Lp 1000000] (rd 1000000 l b) (Ln .i64 (if b=true then 0 else (l.length:Nat))) (rd 1000000 l b):=by
 refine cG Tryz.func205 rfl V5 rfl rfl rfl rfl rfl ?_
 intro C
 cases b with
 | false =>
  (refine U8 ?_;refine aU [] (rd 1000000 l false) (Bad_spec X l false) O O V17 V16 O O O O V19 dS ?_;refine U13 ?_)
  exact V20
 | true =>
  (refine U8 ?_;refine aU [] (rd 1000000 l true) (Bad_spec X l true) O O V17 V16 O O O O V19 dS ?_;refine U7 ?_)
  exact V20
theorem Done_spec (l:List UInt8) (b:Bool) (e:Bool) (he:(l==[])=e):MSpec Tryz.prog X 121 [Lp 1000000] (rd 1000000 l b) (Lb (!b&&e)) (rd 1000000 l b):=by
 refine cG Tryz.func121 rfl V5 rfl rfl rfl rfl rfl ?_
 intro C
 cases b with
 | false =>
  (refine U7 ?_;refine aU [] (rd 1000000 l false) (Bad_spec X l false) O O V17 V16 O O O O V19 dS ?_;refine U3 ?_;refine bI O (dT O O) ?_;refine U2 ?_;refine K.strEq O O (strs_eq he) (dT O O) ?_;refine U4 ?_)
  exact V20
 | true =>
  (refine U7 ?_;refine aU [] (rd 1000000 l true) (Bad_spec X l true) O O V17 V16 O O O O V19 dS ?_;refine U11 ?_)
  exact V20
theorem Raw_ok (l:List UInt8) (n:Nat) (hn:n≤l.length) (hl:l.length<4611686018427387904):MSpec Tryz.prog X 160 [Lp 1000000,Ln .i64 (n:Nat)] (rd 1000000 l false) (Ls (l.take n)) (rd 1000000 (l.drop n) false):=by
 refine cG Tryz.func160 rfl V5 rfl rfl rfl rfl rfl ?_
 intro C
 have hz:=rlen l
 have c1:(⟨l.toArray⟩:ByteArray).extract 0 n=⟨(l.take n).toArray⟩:=by rw [str_cut,List.drop_zero,Nat.sub_zero]
 have c2:(⟨l.toArray⟩:ByteArray).extract n (⟨l.toArray⟩:ByteArray).size=⟨(l.drop n).toArray⟩:=by
  rw [str_cut,hz,List.take_of_length_le (by rw [dC];exact dO _)]
 have hL:=Left_spec X l false
 rw [if_neg (by simp)] at hL
 (refine U12 ?_;refine aU [] (rd 1000000 l false) (hL) O O V17 V16 O O O O V19 (dT O O) ?_;refine U9 ?_;refine aU [] (rd 1000000 l false) (Bad_spec X l false) O O V17 V16 O O O O V19 dS ?_;refine U10 ?_;refine bN (l:=0) (h:=n) (kl:=.i64) (kh:=.i64) O StrT.u O O ⟨V3,V3⟩ c1 dS ?_;refine U10 ?_;refine bN (l:=n) (h:=(⟨l.toArray⟩:ByteArray).size) (kl:=.i64) (kh:=.i64) O StrT.u O O ⟨V3,V3⟩ c2 dS ?_;refine U2 ?_;refine bG O O O O O (nl2 O O O) dS ?_;refine U7 ?_)
 exact V20
end Go.Proofs.YtopiioklkkiedaaGreatDoor
end
section
set_option maxHeartbeats 12800000
set_option maxRecDepth 100000
namespace Go.Proofs.YtopiioklkkiedaaGreatDoor
open Go Go.Lg
variable (X:Nat→Option Obj)
theorem isW_bound {n:Int} (h:isW n=true):1≤n∧n≤8:=by
 unfold isW at h
 simp only [Bool.or_eq_true,decide_eq_true_eq] at h
 omega
theorem Num_ok (l:List UInt8) (w:Nat) (hw:isW (w:Int)=true) (hn:w≤l.length) (hl:l.length<4611686018427387904):MSpec Tryz.prog X 120 [Lp 1000000,Ln .i64 (w:Nat)] (rd 1000000 l false) (Ln .u64 (le (l.take w):Nat)) (rd 1000000 (l.drop w) false):=by
 have hb:=isW_bound hw
 refine cG Tryz.func120 rfl V5 rfl rfl rfl rfl rfl ?_
 intro C
 (refine U8 ?_;refine kca O O (isWidth_spec X _ true hw) ?_;refine U8 ?_;refine aU [] (rd 1000000 (l.drop w) false) (Raw_ok X l w hn hl) O O V17 V16 O O O O V19 dS<|kca O O (onumber_spec X _ (by rw [dA];omega)) ?_;refine U3 ?_)
 exact V20
end Go.Proofs.YtopiioklkkiedaaGreatDoor
end
section
set_option maxHeartbeats 12800000
set_option maxRecDepth 100000
namespace Go.Lg.Fld
open Go Go.Lg
def kN (k:Int):List UInt8:=if k=1 then [98,111,111,108] else if k=2 then [105,56] else if k=3 then [105,49,54] else if k=4 then [105,51,50] else if k=5 then [105,54,52] else if k=6 then [117,56] else if k=7 then [117,49,54] else if k=8 then [117,51,50] else if k=9 then [117,54,52] else if k=10 then [114,101,102] else []
def kW (k:Int):Nat:=if k=1 then 1 else if k=2 then 1 else if k=3 then 2 else if k=4 then 4 else if k=5 then 8 else if k=6 then 1 else if k=7 then 2 else if k=8 then 4 else if k=9 then 8 else if k=10 then 8 else 0
def kB (k:Int):Int:=if k=1 then 0 else if k=2 then 128 else if k=3 then 32768 else if k=4 then 2147483648 else if k=5 then 9223372036854775808 else if k=6 then 0 else if k=7 then 0 else if k=8 then 0 else if k=9 then 0 else if k=10 then 0 else 0
def kA (k:Int):Int:=if k=1 then 1 else if k=2 then 127 else if k=3 then 32767 else if k=4 then 2147483647 else if k=5 then 9223372036854775807 else if k=6 then 255 else if k=7 then 65535 else if k=8 then 4294967295 else if k=9 then 18446744073709551615 else if k=10 then 18446744073709551615 else 0
def kK (k:Int):Bool:=decide (1≤k)&&decide (k≤10)
theorem kcases (k:Int):k=1∨k=2∨k=3∨k=4∨k=5∨k=6∨k=7∨k=8∨k=9∨k=10∨(k<1∨10<k):=by omega
theorem kin {k:Int} (h:kK k=true):k=1∨k=2∨k=3∨k=4∨k=5∨k=6∨k=7∨k=8∨k=9∨k=10:=by
 simp only [kK,Bool.and_eq_true,decide_eq_true_eq] at h;omega
theorem knot {k:Int} (h:kK k=false):k<1∨10<k:=by
 by_cases h1:1≤k<;>by_cases h2:k≤10<;>first|omega|(rw [kK,cP h1,cP h2] at h;cases h)
theorem kK_iff (k:Int):kK k=true↔1≤k∧k≤10:=by simp only [kK,Bool.and_eq_true,decide_eq_true_eq]
theorem kN_no {k:Int} (h:k<1∨10<k):kN k=[]:=by
 unfold kN
 rw [if_neg (show ¬ k=1 by omega),if_neg (show ¬ k=2 by omega),if_neg (show ¬ k=3 by omega),if_neg (show ¬ k=4 by omega),if_neg (show ¬ k=5 by omega),if_neg (show ¬ k=6 by omega),if_neg (show ¬ k=7 by omega),if_neg (show ¬ k=8 by omega),if_neg (show ¬ k=9 by omega),if_neg (show ¬ k=10 by omega)]
theorem kW_no {k:Int} (h:k<1∨10<k):kW k=0:=by
 unfold kW
 rw [if_neg (show ¬ k=1 by omega),if_neg (show ¬ k=2 by omega),if_neg (show ¬ k=3 by omega),if_neg (show ¬ k=4 by omega),if_neg (show ¬ k=5 by omega),if_neg (show ¬ k=6 by omega),if_neg (show ¬ k=7 by omega),if_neg (show ¬ k=8 by omega),if_neg (show ¬ k=9 by omega),if_neg (show ¬ k=10 by omega)]
theorem kB_no {k:Int} (h:k<1∨10<k):kB k=0:=by
 unfold kB
 rw [if_neg (show ¬ k=1 by omega),if_neg (show ¬ k=2 by omega),if_neg (show ¬ k=3 by omega),if_neg (show ¬ k=4 by omega),if_neg (show ¬ k=5 by omega),if_neg (show ¬ k=6 by omega),if_neg (show ¬ k=7 by omega),if_neg (show ¬ k=8 by omega),if_neg (show ¬ k=9 by omega),if_neg (show ¬ k=10 by omega)]
theorem kA_no {k:Int} (h:k<1∨10<k):kA k=0:=by
 unfold kA
 rw [if_neg (show ¬ k=1 by omega),if_neg (show ¬ k=2 by omega),if_neg (show ¬ k=3 by omega),if_neg (show ¬ k=4 by omega),if_neg (show ¬ k=5 by omega),if_neg (show ¬ k=6 by omega),if_neg (show ¬ k=7 by omega),if_neg (show ¬ k=8 by omega),if_neg (show ¬ k=9 by omega),if_neg (show ¬ k=10 by omega)]
theorem kfacts (k:Int):0≤kB k∧kB k≤9223372036854775808∧0≤kA k∧kA k<18446744073709551616∧kW k≤8:=by
 rcases kcases k with rfl|rfl|rfl|rfl|rfl|rfl|rfl|rfl|rfl|rfl|h
 all_goals first|(rw [kW_no h,kB_no h,kA_no h];omega)|decide
theorem kW_in {k:Int} (h:kK k=true):kW k=1∨kW k=2∨kW k=4∨kW k=8:=by
 rcases kin h with rfl|rfl|rfl|rfl|rfl|rfl|rfl|rfl|rfl|rfl<;>decide
theorem kW_zero (k:Int):kW k=0↔kK k=false:=by
 cases h:kK k with
 | false=>simp [kW_no (knot h)]
 | true=>rcases kW_in h with e|e|e|e<;>simp [e]
end Go.Lg.Fld
namespace Go.Proofs.YtopiioklkkiedaaGreatDoor
open Go Go.Lg Go.Lg.Fld
set_option maxRecDepth 100000
variable (X:Nat→Option Obj)
theorem shapeOf_spec (k:Int):PSpec Tryz.prog X 154 [Ln .i64 k] (.sv (.agg [.val (.string ⟨(kN k).toArray⟩),.val (.int .i64 (kW k:Nat)),.val (.int .u64 (kB k)),.val (.int .u64 (kA k))])):=by
 refine cF Tryz.func154 rfl V5 rfl rfl ?_
 intro C
 rcases kcases k with rfl|rfl|rfl|rfl|rfl|rfl|rfl|rfl|rfl|rfl|h
 ·(refine U18 ?_;refine aT O O V2 V26 dS ?_;refine U3 ?_)
  exact VF
 ·(refine U24 ?_;refine aT O O V2 V26 dS ?_;refine U3 ?_)
  exact VF
 ·(refine U30 ?_;refine aT O O V2 V26 dS ?_;refine U3 ?_)
  exact VF
 ·(refine U36 ?_;refine aT O O V2 V26 dS ?_;refine U3 ?_)
  exact VF
 ·(refine U42 ?_;refine aT O O V2 V26 dS ?_;refine U3 ?_)
  exact VF
 ·(refine U48 ?_;refine aT O O V2 V26 dS ?_;refine U3 ?_)
  exact VF
 ·(refine U54 ?_;refine aT O O V2 V26 dS ?_;refine U3 ?_)
  exact VF
 ·(refine U60 ?_;refine aT O O V2 V26 dS ?_;refine U3 ?_)
  exact VF
 ·(refine U60 ?_;refine U6 ?_;refine aT O O V2 V26 dS ?_;refine U3 ?_)
  exact VF
 ·(refine U60 ?_;refine U12 ?_;refine aT O O V2 V26 dS ?_;refine U3 ?_)
  exact VF
 ·rw [kN_no h,kW_no h,kB_no h,kA_no h]
  (refine U60 ?_;refine U13 ?_;refine aT O O V2 V26 dS ?_;refine U3 ?_)
  exact VF
theorem fSize_spec (k:Int):PSpec Tryz.prog X 116 [Ln .i64 k] (Ln .i64 (kW k:Nat)):=by
 refine cF Tryz.func116 rfl V5 rfl rfl ?_
 intro C
 (refine U7 ?_;refine kca O O (shapeOf_spec X k)<|K.fieldOne O Tryz.underlying245 O V5 O dS ?_;refine U3 ?_)
 exact V6
theorem OfWord_q (n:Int) (hn:0≤n∧n<18446744073709551616):PSpec Tryz.prog X 64 [Ln .u64 n] (LQ n):=by
 have h:=OfWord_spec X n
 unfold LQ LI
 rw [mg_pos hn.1,cO (by omega),show n/18446744073709551616=0 by omega,show n%18446744073709551616=n by omega]
 exact h
theorem Greatest_spec (k:Int):PSpec Tryz.prog X 149 [Ln .i64 k] (LQ (kA k)):=by
 obtain ⟨_,_,h2,h3,_⟩:=kfacts k
 refine cF Tryz.func149 rfl V5 rfl rfl ?_
 intro C
 (refine U7 ?_;refine kca O O (shapeOf_spec X k)<|K.fieldOne O Tryz.underlying245 O V5 O dS<|kca O O (OfWord_q X (kA k) ⟨h2,h3⟩) ?_;refine U3 ?_)
 exact VF
theorem kB_R (k:Int):R127 (kB k):=by
 have:=kfacts k
 unfold R127;omega
theorem kBn_R (k:Int):R127 (-kB k):=by
 have:=kfacts k
 unfold R127;omega
theorem kA_R (k:Int):R127 (kA k):=by
 have:=kfacts k
 unfold R127;omega
theorem Least_spec (k:Int):PSpec Tryz.prog X 148 [Ln .i64 k] (LQ (-kB k)):=by
 obtain ⟨h0,h1,_⟩:=kfacts k
 refine cF Tryz.func148 rfl V5 rfl rfl ?_
 intro C
 (refine U7 ?_;refine kca O O (shapeOf_spec X k)<|K.fieldOne O Tryz.underlying245 O V5 O dS<|kca O O (OfWord_q X (kB k) ⟨h0,by omega⟩)<|kca O O (Neg_q X (kB k) (kB_R k)) ?_;refine U3 ?_)
 exact VF
theorem isKind_spec (k:Int) (r:Bool) (hr:kK k=r):PSpec Tryz.prog X 107 [Ln .i64 k] (Lb r):=by
 subst hr
 refine cF Tryz.func107 rfl V5 rfl rfl ?_
 intro C
 by_cases h1:1≤k
 ·(refine U7 ?_;refine K.leq O O (cP V3) dS ?_;refine U2 ?_;refine K.leq O O O (dT O O) ?_;refine U4 ?_)
  exact ⟨[_],⟨rfl,trivial⟩,by unfold kK;rw [cP h1];rfl⟩
 ·refine U15 ?_
  exact ⟨[_],⟨rfl,trivial⟩,by unfold kK;rw [cO h1];rfl⟩
end Go.Proofs.YtopiioklkkiedaaGreatDoor
end
section
set_option maxHeartbeats 12800000
set_option maxRecDepth 100000
namespace Go.Lg.Fld
open Go Go.Lg
def clampK (k x:Int):Int:=if x < -kB k then -kB k else if kA k<x then kA k else x
def fitZ (k x:Int):Bool:=decide (-kB k≤x)&&decide (x≤kA k)
theorem fitZ_iff (k x:Int):fitZ k x=true ↔ -kB k≤x∧x≤kA k:=by simp only [fitZ,Bool.and_eq_true,decide_eq_true_eq]
theorem clamp_same (k x:Int):decide (clampK k x=x)=fitZ k x:=by
 obtain ⟨h0,_,h2,_,_⟩:=kfacts k
 rw [Bool.eq_iff_iff,decide_eq_true_eq,fitZ_iff]
 unfold clampK
 (repeat' split)<;>omega
end Go.Lg.Fld
namespace Go.Proofs.YtopiioklkkiedaaGreatDoor
open Go Go.Lg Go.Lg.Fld
set_option maxRecDepth 100000
variable (X:Nat→Option Obj)
theorem Clamp_bad (k:Int) (b:Bool) (N:Int) (hN:In2 N) (hf:formB b N=false):PSpec Tryz.prog X 108 [Ln .i64 k,LI b N] (.sv S0):=by
 refine cF Tryz.func108 rfl V5 rfl rfl ?_
 intro C
 (refine U8 ?_;refine kca O O (Least_spec X k)<|kmv O<|kca O O (Greatest_spec X k) ?_;refine U10 ?_;refine kca O O (Form_spec X b N hN false hf) ?_;refine U10 ?_)
 exact VF
theorem Clamp_spec (k x:Int) (hx:R127 x):PSpec Tryz.prog X 108 [Ln .i64 k,LQ x] (LQ (clampK k x)):=by
 have hF:=Form_spec X (decide (x<0)) (mg x) (mg_in2 hx) true (formB_q hx)
 have c1:=Cmp_q X x (-kB k) hx (kBn_R k)
 have c2:=Cmp_q X x (kA k) hx (kA_R k)
 have hL:=Least_spec X k
 have hG:=Greatest_spec X k
 have hk:=kfacts k
 refine cF Tryz.func108 rfl V5 rfl rfl ?_
 intro C
 by_cases h1:x < -kB k
 ·have e:clampK k x = -kB k:=if_pos h1
  rw [e]
  have c1':=c1 (-1) (by unfold cmpI;rw [if_pos h1])
  refine U41 ?_
  exact VF
 ·have c1':∃ r:Int,0≤r∧cmpI x (-kB k)=r:=⟨_,(by unfold cmpI;rw [if_neg h1];split<;>decide),rfl⟩
  obtain ⟨r,hr0,hr⟩:=c1'
  have c1':=c1 r hr
  by_cases h2:kA k<x
  ·have e:clampK k x=kA k:=by unfold clampK;rw [if_neg h1,if_pos h2]
   rw [e]
   have c2':=c2 1 (by unfold cmpI;rw [if_neg (show ¬ x<kA k by omega),if_pos h2])
   refine U50 ?_
   exact VF
  ·have e:clampK k x=x:=by unfold clampK;rw [if_neg h1,if_neg h2]
   rw [e]
   obtain ⟨s,hs0,hs⟩:∃ s:Int,s≤0∧cmpI x (kA k)=s:=⟨_,(by unfold cmpI;rw [if_neg h2];split<;>decide),rfl⟩
   have c2':=c2 s hs
   refine U51 ?_
   exact VF
def fitB (k:Int) (b:Bool) (N:Int):Bool:=kK k&&(formB b N&&fitZ k (zv b N))
theorem Fits_no (k:Int) (b:Bool) (N:Int) (hk:kK k=false):PSpec Tryz.prog X 71 [Ln .i64 k,LI b N] (Lb false):=by
 refine cF Tryz.func71 rfl V5 rfl rfl ?_
 intro C
 (refine U6 ?_;refine rgD mixed<|kmv O<|kca O O (isKind_spec X k false hk) ?_;refine U11 ?_)
 exact V6
theorem Fits_bad (k:Int) (b:Bool) (N:Int) (hk:kK k=true) (hN:In2 N) (hf:formB b N=false):PSpec Tryz.prog X 71 [Ln .i64 k,LI b N] (Lb false):=by
 have hC:=Clamp_bad X k b N hN hf
 have hq:(false==b&&((0:Int)==N/18446744073709551616&&(0:Int)==N%18446744073709551616))=false:=by
  cases hb:(false==b&&((0:Int)==N/18446744073709551616&&(0:Int)==N%18446744073709551616)) with
  | false=>rfl
  | true =>
   simp only [Bool.and_eq_true,beq_iff_eq] at hb
   obtain ⟨rfl,h1,h2⟩:=hb
   have:N=0:=by omega
   subst this
   cases hf
 refine cF Tryz.func71 rfl V5 rfl rfl ?_
 intro C
 (refine U6 ?_;refine rgD mixed<|kmv O<|kca O O (isKind_spec X k true hk) ?_;refine U5 ?_;refine bR O O O O V5 (eqI false hq) (.inl ⟨O,O⟩) (dT O O) ?_;refine U5 ?_)
 exact V6
theorem Fits_q (k x:Int) (hk:kK k=true) (hx:R127 x) (r:Bool) (hr:fitZ k x=r):PSpec Tryz.prog X 71 [Ln .i64 k,LQ x] (Lb r):=by
 have hC:=Clamp_spec X k x hx
 have hq:=clamp_same k x
 rw [hr] at hq
 refine cF Tryz.func71 rfl V5 rfl rfl ?_
 intro C
 (refine U6 ?_;refine rgD mixed<|kmv O<|kca O O (isKind_spec X k true hk) ?_;refine U5 ?_;refine bR O O O O V5 (eqQ _ _ r hq) (.inl ⟨O,O⟩) (dT O O) ?_;refine U5 ?_)
 exact V6
theorem Fits_spec (k:Int) (b:Bool) (N:Int) (hN:In2 N) (r:Bool) (hr:fitB k b N=r):PSpec Tryz.prog X 71 [Ln .i64 k,LI b N] (Lb r):=by
 subst hr
 unfold fitB
 cases hk:kK k with
 | false=>exact Fits_no X k b N hk
 | true =>
  cases hf:formB b N with
  | false=>exact Fits_bad X k b N hk hN hf
  | true =>
   rw [LI_q hN hf]
   exact Fits_q X k (zv b N) hk (zv_in hN hf).1 _ O
end Go.Proofs.YtopiioklkkiedaaGreatDoor
end
section
set_option maxHeartbeats 12800000
set_option maxRecDepth 100000
namespace Go.Lg.Fld
open Go Go.Lg
def kM (k:Int):Nat:=256^kW k
def wdK (k x:Int):Nat:=(x%(kM k:Int)).toNat
def nbK (k:Int) (v:Nat):Int:=if kA k<v then (v:Int)-(kM k:Int) else v
theorem kM_facts {k:Int} (h:kK k=true):kB k+kA k<(kM k:Int)∧(kM k:Int)≤18446744073709551616∧0<kM k:=by
 rcases kin h with rfl|rfl|rfl|rfl|rfl|rfl|rfl|rfl|rfl|rfl<;>decide
theorem wd_lt {k:Int} (h:kK k=true) (x:Int):wdK k x<256^kW k:=by
 have:=kM_facts h
 have h1:=Int.emod_nonneg x (show (kM k:Int)≠0 by omega)
 have h2:=Int.emod_lt_of_pos x (show 0<(kM k:Int) by omega)
 show wdK k x<kM k
 unfold wdK
 omega
theorem wd_of {k x:Int} (h:kK k=true) (hx:fitZ k x=true):(wdK k x:Int)=if x<0 then x+kM k else x:=by
 obtain ⟨h1,h2,h3⟩:=kM_facts h
 obtain ⟨f1,f2,f3,f4,_⟩:=kfacts k
 obtain ⟨x1,x2⟩:=(fitZ_iff k x).1 hx
 unfold wdK
 by_cases c:x<0
 ·rw [if_pos c]
  have e:x%(kM k:Int)=x+kM k:=by
   rw [← Int.add_emod_right]
   exact Int.emod_eq_of_lt V3 V3
  rw [e];omega
 ·rw [if_neg c,Int.emod_eq_of_lt V3 V3];omega
end Go.Lg.Fld
namespace Go.Proofs.YtopiioklkkiedaaGreatDoor
open Go Go.Lg Go.Lg.Fld
set_option maxRecDepth 100000
variable (X:Nat→Option Obj)
theorem fit_R {k x:Int} (h:fitZ k x=true):R127 x:=by
 have:=kfacts k
 rw [fitZ_iff] at h
 unfold R127;omega
theorem nb_R {k:Int} {v:Nat} (h:kK k=true) (hv:v<256^kW k):R127 (nbK k v):=by
 have:=kM_facts h
 have hv:v<kM k:=hv
 unfold R127 nbK
 split<;>omega
theorem opposite_1 (k:Int) (hk:kW k=1) (v:Int) (hv:0≤v∧v<18446744073709551616):PSpec Tryz.prog X 156 [Ln .i64 k,Ln .u64 v] (Ln .u64 ((-v)%((256^1:Nat):Int))):=by
 have hS:=fSize_spec X k
 rw [hk] at hS
 have p1:((2:Int)^(min (Int.toNat 56) IntKind.u64.bits))=72057594037927936:=by decide
 have p2:((256^1:Nat):Int)=256:=by decide
 rw [p2]
 have n1:IntKind.u64.wrap (0-v)=(0-v)%18446744073709551616:=by rw [IntKind.wrap_u64]
 have s1:IntKind.u64.wrap ((0-v)%18446744073709551616*(2:Int)^(min (Int.toNat 56) IntKind.u64.bits))=(0-v)%18446744073709551616*72057594037927936%18446744073709551616:=by rw [p1,IntKind.wrap_u64]
 have s2:((0-v)%18446744073709551616*72057594037927936%18446744073709551616).fdiv ((2:Int)^(min (Int.toNat 56) IntKind.u64.bits))=(-v)%256:=by
  rw [p1,Int.fdiv_eq_ediv_of_nonneg _ (by decide)]
  omega
 refine cF Tryz.func156 rfl V5 rfl rfl ?_
 intro C
 (refine U8 ?_;refine bL O O (c:=8) O dS<|bA O O (c:=56) O dS ?_;refine U5 ?_;refine K.neg O n1 dS<|kmv O<|K.shl O O VA s1 dS<|kmv O<|bO O O VA s2 dS ?_;refine U3 ?_)
 exact V6
theorem opposite_2 (k:Int) (hk:kW k=2) (v:Int) (hv:0≤v∧v<18446744073709551616):PSpec Tryz.prog X 156 [Ln .i64 k,Ln .u64 v] (Ln .u64 ((-v)%((256^2:Nat):Int))):=by
 have hS:=fSize_spec X k
 rw [hk] at hS
 have p1:((2:Int)^(min (Int.toNat 48) IntKind.u64.bits))=281474976710656:=by decide
 have p2:((256^2:Nat):Int)=65536:=by decide
 rw [p2]
 have n1:IntKind.u64.wrap (0-v)=(0-v)%18446744073709551616:=by rw [IntKind.wrap_u64]
 have s1:IntKind.u64.wrap ((0-v)%18446744073709551616*(2:Int)^(min (Int.toNat 48) IntKind.u64.bits))=(0-v)%18446744073709551616*281474976710656%18446744073709551616:=by rw [p1,IntKind.wrap_u64]
 have s2:((0-v)%18446744073709551616*281474976710656%18446744073709551616).fdiv ((2:Int)^(min (Int.toNat 48) IntKind.u64.bits))=(-v)%65536:=by
  rw [p1,Int.fdiv_eq_ediv_of_nonneg _ (by decide)]
  omega
 refine cF Tryz.func156 rfl V5 rfl rfl ?_
 intro C
 (refine U8 ?_;refine bL O O (c:=16) O dS<|bA O O (c:=48) O dS ?_;refine U5 ?_;refine K.neg O n1 dS<|kmv O<|K.shl O O VA s1 dS<|kmv O<|bO O O VA s2 dS ?_;refine U3 ?_)
 exact V6
theorem opposite_4 (k:Int) (hk:kW k=4) (v:Int) (hv:0≤v∧v<18446744073709551616):PSpec Tryz.prog X 156 [Ln .i64 k,Ln .u64 v] (Ln .u64 ((-v)%((256^4:Nat):Int))):=by
 have hS:=fSize_spec X k
 rw [hk] at hS
 have p1:((2:Int)^(min (Int.toNat 32) IntKind.u64.bits))=4294967296:=by decide
 have p2:((256^4:Nat):Int)=4294967296:=by decide
 rw [p2]
 have n1:IntKind.u64.wrap (0-v)=(0-v)%18446744073709551616:=by rw [IntKind.wrap_u64]
 have s1:IntKind.u64.wrap ((0-v)%18446744073709551616*(2:Int)^(min (Int.toNat 32) IntKind.u64.bits))=(0-v)%18446744073709551616*4294967296%18446744073709551616:=by rw [p1,IntKind.wrap_u64]
 have s2:((0-v)%18446744073709551616*4294967296%18446744073709551616).fdiv ((2:Int)^(min (Int.toNat 32) IntKind.u64.bits))=(-v)%4294967296:=by
  rw [p1,Int.fdiv_eq_ediv_of_nonneg _ (by decide)]
  omega
 refine cF Tryz.func156 rfl V5 rfl rfl ?_
 intro C
 (refine U8 ?_;refine bL O O (c:=32) O dS<|bA O O (c:=32) O dS ?_;refine U5 ?_;refine K.neg O n1 dS<|kmv O<|K.shl O O VA s1 dS<|kmv O<|bO O O VA s2 dS ?_;refine U3 ?_)
 exact V6
theorem opposite_8 (k:Int) (hk:kW k=8) (v:Int) (hv:0≤v∧v<18446744073709551616):PSpec Tryz.prog X 156 [Ln .i64 k,Ln .u64 v] (Ln .u64 ((-v)%((256^8:Nat):Int))):=by
 have hS:=fSize_spec X k
 rw [hk] at hS
 have p1:((2:Int)^(min (Int.toNat 0) IntKind.u64.bits))=1:=by decide
 have p2:((256^8:Nat):Int)=18446744073709551616:=by decide
 rw [p2]
 have n1:IntKind.u64.wrap (0-v)=(0-v)%18446744073709551616:=by rw [IntKind.wrap_u64]
 have s1:IntKind.u64.wrap ((0-v)%18446744073709551616*(2:Int)^(min (Int.toNat 0) IntKind.u64.bits))=(0-v)%18446744073709551616*1%18446744073709551616:=by rw [p1,IntKind.wrap_u64]
 have s2:((0-v)%18446744073709551616*1%18446744073709551616).fdiv ((2:Int)^(min (Int.toNat 0) IntKind.u64.bits))=(-v)%18446744073709551616:=by
  rw [p1,Int.fdiv_eq_ediv_of_nonneg _ (by decide)]
  omega
 refine cF Tryz.func156 rfl V5 rfl rfl ?_
 intro C
 (refine U8 ?_;refine bL O O (c:=64) O dS<|bA O O (c:=0) O dS ?_;refine U5 ?_;refine K.neg O n1 dS<|kmv O<|K.shl O O VA s1 dS<|kmv O<|bO O O VA s2 dS ?_;refine U3 ?_)
 exact V6
theorem opposite_spec (k:Int) (hk:kK k=true) (v:Int) (hv:0≤v∧v<18446744073709551616) (r:Int) (hr:(-v)%(kM k:Int)=r):PSpec Tryz.prog X 156 [Ln .i64 k,Ln .u64 v] (Ln .u64 r):=by
 subst hr
 unfold kM
 rcases kW_in hk with e|e|e|e
 ·rw [e];exact opposite_1 X k e v hv
 ·rw [e];exact opposite_2 X k e v hv
 ·rw [e];exact opposite_4 X k e v hv
 ·rw [e];exact opposite_8 X k e v hv
theorem wordOf_spec (k x:Int) (hk:kK k=true) (hx:fitZ k x=true):PSpec Tryz.prog X 124 [Ln .i64 k,LQ x] (Ln .u64 (wdK k x:Nat)):=by
 obtain ⟨h1,h2,h3⟩:=kM_facts hk
 obtain ⟨f1,f2,f3,f4,_⟩:=kfacts k
 obtain ⟨x1,x2⟩:=(fitZ_iff k x).1 hx
 have e:=wd_of hk hx
 refine cF Tryz.func124 rfl V5 rfl rfl ?_
 intro C
 by_cases c:x<0
 ·have hm:mg x%18446744073709551616 = -x:=by rw [mg_neg c];omega
  have hO:=opposite_spec X k hk (-x) V3 (wdK k x:Nat) (by
   rw [if_pos c] at e
   rw [e,Int.neg_neg,← Int.add_emod_right]
   exact Int.emod_eq_of_lt V3 V3)
  unfold LQ LI
  rw [hm,cP c]
  refine U21 ?_
  exact V6
 ·have hm:mg x%18446744073709551616=x:=by rw [mg_pos V3];omega
  rw [if_neg c] at e
  rw [e]
  unfold LQ LI
  rw [hm,cO c]
  refine U20 ?_
  exact V6
theorem numberOf_spec (k:Int) (v:Nat) (hk:kK k=true) (hv:v<256^kW k):PSpec Tryz.prog X 119 [Ln .i64 k,Ln .u64 (v:Nat)] (LQ (nbK k v)):=by
 obtain ⟨h1,h2,h3⟩:=kM_facts hk
 obtain ⟨f1,f2,f3,f4,_⟩:=kfacts k
 have hv':v<kM k:=hv
 refine cF Tryz.func119 rfl V5 rfl rfl ?_
 intro C
 by_cases c:kA k<v
 ·have hO:=opposite_spec X k hk v V3 ((kM k:Int)-v) (by
   rw [← Int.add_emod_right]
   rw [Int.emod_eq_of_lt (by omega) (by omega)];omega)
  have hW:=OfWord_q X ((kM k:Int)-v) V3
  have hN:=Neg_q X ((kM k:Int)-v) V2A
  have e:nbK k v = -((kM k:Int)-v):=by unfold nbK;rw [if_pos c];omega
  rw [e]
  (refine U9 ?_;refine kca O O (shapeOf_spec X k)<|K.fieldOne O Tryz.underlying245 O V5 O dS ?_;refine U13 ?_)
  exact VF
 ·have hW:=OfWord_q X (v:Int) V3
  have e:nbK k v=v:=by unfold nbK;rw [if_neg c]
  rw [e]
  (refine U9 ?_;refine kca O O (shapeOf_spec X k)<|K.fieldOne O Tryz.underlying245 O V5 O dS ?_;refine U11 ?_)
  exact VF
theorem WNum_k (k:Int) (hk:kK k=true) (n:Nat) (h:n<256^kW k):MSpec Tryz.prog X 123 [Lp 1000000,Ln .i64 (kW k:Nat),Ln .u64 (n:Nat)] (w0 1000000) (Lb true) (w1 1000000 1000001 1000002 (leB (kW k) n)):=by
 have hn:n<18446744073709551616:=by
  have:=(kM_facts hk).2.1
  have h:n<kM k:=h
  omega
 rcases kW_in hk with e|e|e|e<;>rw [e] at h ⊢
 ·exact WNum_0_1 X n hn h
 ·exact WNum_0_2 X n hn h
 ·exact WNum_0_4 X n hn h
 ·exact WNum_0_8 X n hn h
theorem Put_q (k x:Int) (hk:kK k=true) (hx:fitZ k x=true):PSpec Tryz.prog X 83 [Ln .i64 k,LQ x] (.tup [Ss (leB (kW k) (wdK k x)),Sn .i64 0]):=by
 have hF:=Fits_q X k x hk (fit_R hx) true hx
 have hW:=wordOf_spec X k x hk hx
 have hN:=WNum_k X k hk (wdK k x) (wd_lt hk x)
 have hS:=fSize_spec X k
 refine cF Tryz.func83 rfl V5 rfl rfl ?_
 intro C
 (refine U10 ?_;refine kca O O (isKind_spec X k true hk) ?_;refine U21 ?_;refine rgD mixed ?_;refine U6 ?_;refine aU [(1000000,15),(1000001,501),(1000002,502)] (w1 15 501 502 (leB (kW k) (wdK k x))) (hN) O O V17 V16 O O O O (by exact (.box O O (.box O O (.box O (Box.ren_bytes _ _ _ _) .nil)))) dS ?_;refine U5 ?_;refine K.callR [(1000000,15),(1000001,501),(1000002,502)] (String_1 X (leB (kW k) (wdK k x))) O O VD VB O O O O dS ?_;refine U4 ?_)
 exact V1E
end Go.Proofs.YtopiioklkkiedaaGreatDoor
end
section
set_option maxHeartbeats 12800000
set_option maxRecDepth 100000
namespace Go.Lg.Fld
open Go Go.Lg
end Go.Lg.Fld
namespace Go.Proofs.YtopiioklkkiedaaGreatDoor
open Go Go.Lg Go.Lg.Fld
set_option maxRecDepth 100000
variable (X:Nat→Option Obj)
theorem isW_k {k:Int} (h:kK k=true):isW (kW k:Nat)=true:=by
 rcases kW_in h with e|e|e|e<;>rw [e]<;>rfl
theorem Get_q (k:Int) (l:List UInt8) (hk:kK k=true) (hn:l.length=kW k):PSpec Tryz.prog X 80 [Ln .i64 k,Ls l] (if fitZ k (nbK k (le l))=true then .tup [SQ (nbK k (le l)),Sn .i64 0] else .tup [S0,Sn .i64 4]):=by
 have hS:=fSize_spec X k
 have hw:=isW_k hk
 have hR:=Read_spec X l
 have hk8:=(kfacts k).2.2.2.2
 have hN:=Num_ok X l (kW k) hw V3 V3
 rw [List.take_of_length_le (by omega),List.drop_of_length_le (by omega)] at hN
 have hb:=le_lt l
 rw [hn] at hb
 have hO:=numberOf_spec X k (le l) hk hb
 have hR':=nb_R hk hb
 have hD:MSpec Tryz.prog X 121 [Lp 1000000] (rd 1000000 [] false) (Lb true) (rd 1000000 [] false):=Done_spec X [] false true rfl
 have hF:=Fits_q X k (nbK k (le l)) hk hR' _ rfl
 generalize nbK k (le l)=z at *
 generalize le l=n at *
 cases hf:fitZ k z with
 | true =>
  rw [hf] at hF
  rw [if_pos rfl]
  refine cF Tryz.func80 rfl V5 rfl rfl ?_
  intro C
  (refine U9 ?_;refine kca O O (isKind_spec X k true hk) ?_;refine U7 ?_;refine bE [(1000001,501)] (Lp 501) (rd 501 l false) (hR) O O VC O O O O O V19 dS ?_;refine U8 ?_;refine aU [(1000000,501)] (rd 501 [] false) (hN) O O V17 V16 O O O O V19 dS ?_;refine U8 ?_;refine K.callR [(1000000,501)] (hD) O O V17 V16 O O O O dS ?_;refine U17 ?_)
  exact V4
 | false =>
  rw [hf] at hF
  rw [if_neg (by simp)]
  refine cF Tryz.func80 rfl V5 rfl rfl ?_
  intro C
  (refine U9 ?_;refine kca O O (isKind_spec X k true hk) ?_;refine U7 ?_;refine bE [(1000001,501)] (Lp 501) (rd 501 l false) (hR) O O VC O O O O O V19 dS ?_;refine U8 ?_;refine aU [(1000000,501)] (rd 501 [] false) (hN) O O V17 V16 O O O O V19 dS ?_;refine U8 ?_;refine K.callR [(1000000,501)] (hD) O O V17 V16 O O O O dS ?_;refine U16 ?_)
  exact V4
end Go.Proofs.YtopiioklkkiedaaGreatDoor
end
section
set_option maxHeartbeats 12800000
set_option maxRecDepth 100000
namespace Go.Proofs.YtopiioklkkiedaaGreatDoor
open Go Go.Lg Go.Lg.Fld
set_option maxRecDepth 100000
variable (X:Nat→Option Obj)
abbrev cI (b:Bool) (n:Int):List CV:=[.val (.bool b),.val (.int .u64 (n/18446744073709551616)),.val (.int .u64 (n%18446744073709551616))]
abbrev cQ (z:Int):List CV:=[.val (.bool (decide (z<0))),.val (.int .u64 (mg z/18446744073709551616)),.val (.int .u64 (mg z%18446744073709551616))]
end Go.Proofs.YtopiioklkkiedaaGreatDoor
end
section
namespace Go.Lg.Dig
open Go Go.Lg
def dg (n j:Nat):Nat:=n/256^j%256
def dv (d:Nat):CV:=.val (.int .i64 (d:Nat))
def dlf (f:Nat→Nat):List Nat:=(List.range 40).map f
def num (b:Bool) (f:Nat→Nat):List CV:=.val (.bool b)::(dlf f).map dv
theorem dlf_congr {f g:Nat→Nat} (h:∀ j,j<40→f j=g j):dlf f=dlf g:=by
 unfold dlf
 exact List.map_congr_left fun j hj=>h j (List.mem_range.1 hj)
theorem num_congr {b:Bool} {f g:Nat→Nat} (h:∀ j,j<40→f j=g j):num b f=num b g:=by
 unfold num
 rw [dlf_congr h]
theorem num_at {b:Bool} {f:Nat→Nat} {i:Nat} (hi:i<40):(num b f)[1+i*1]? = some (dv (f i)):=by
 rw [Nat.mul_one,Nat.add_comm]
 simp [num,dlf,hi]
theorem num_set {b:Bool} {f:Nat→Nat} {i d:Nat} (hi:i<40):(num b f).set (1+i*1) (dv d)=num b (fun j=>if j=i then d else f j):=by
 rw [Nat.mul_one,Nat.add_comm]
 unfold num
 rw [List.set_cons_succ]
 congr 1
 apply List.ext_getElem?
 intro j
 rw [List.getElem?_set]
 by_cases h:i=j
 ·subst h
  simp [dlf,hi]
 ·rw [if_neg h]
  by_cases hj:j<40
  ·simp [dlf,hj,show ¬ j=i from fun e=>h e.symm]
  ·simp [dlf,hj]
theorem num_sign {b c:Bool} {f:Nat→Nat}:(num b f).set 0 (.val (.bool c))=num c f:=rfl
theorem dg_lt (n j:Nat):dg n j<256:=Nat.mod_lt _ (by decide)
theorem pow_pos (j:Nat):0<256^j:=Nat.pow_pos (by decide)
theorem dg_high {n j:Nat} (h:n<256^j):dg n j=0:=by
 unfold dg
 rw [Nat.div_eq_of_lt h]
theorem dg_zero (j:Nat):dg 0 j=0:=by
 unfold dg
 rw [Nat.zero_div]
theorem mod_next (n i:Nat):n%256^(i+1)=n%256^i+dg n i*256^i:=by
 unfold dg
 rw [Nat.pow_succ,Nat.mod_mul,Nat.mul_comm (256^i)]
theorem div_next (n i:Nat):n/256^i=n/256^(i+1)*256+dg n i:=by
 unfold dg
 rw [Nat.pow_succ,← Nat.div_div_eq_div_mul]
 omega
theorem pow40:256^40=2135987035920910082395021706169552114602704522356652769947041607822219725780640550022962086936576:=by decide
end Go.Lg.Dig
namespace Go.Lg.Dig
open Go Go.Lg
theorem num_length {b:Bool} {f:Nat→Nat}:(num b f).length=41:=by simp [num,dlf]
theorem num_blt {b:Bool} {f:Nat→Nat} {i:Nat} (hi:i<40):Nat.blt (1+i*1) (num b f).length=true:=by
 rw [num_length,Nat.blt_eq]
 omega
theorem div_div (n i:Nat):n/256^i/256=n/256^(i+1):=by rw [Nat.pow_succ,Nat.div_div_eq_div_mul]
end Go.Lg.Dig
namespace Go.Lg.Dig
def bor (M N i:Nat):Nat:=if M%256^i<N%256^i then 1 else 0
def car (M N i:Nat):Nat:=(M%256^i+N%256^i)/256^i
theorem bor_le (M N i:Nat):bor M N i≤1:=by unfold bor;split<;>omega
theorem sub_div {M N i:Nat} (h:N≤M):(M-N)/256^i=M/256^i-N/256^i-bor M N i∧N/256^i+bor M N i≤M/256^i:=by
 have hp:=pow_pos i
 have e1:=Nat.div_add_mod M (256^i)
 have e2:=Nat.div_add_mod N (256^i)
 have m1:=Nat.mod_lt M hp
 have m2:=Nat.mod_lt N hp
 unfold bor
 generalize 256^i=p at *
 have hle:N/p≤M/p:=Nat.div_le_div_right h
 generalize M/p=A at *
 generalize N/p=B at *
 generalize M%p=m at *
 generalize N%p=n at *
 by_cases c:m<n
 ·rw [if_pos c]
  have hlt:B+1≤A:=by
   by_cases e:A=B
   ·subst e;omega
   ·omega
  refine ⟨Nat.div_eq_of_lt_le ?_ ?_,hlt⟩
  ·obtain ⟨k,rfl⟩:∃ k,A=B+1+k:=⟨A-(B+1),by omega⟩
   rw [show B+1+k-B-1=k by omega,Nat.mul_comm k]
   rw [Nat.mul_add,Nat.mul_add] at e1
   omega
  ·obtain ⟨k,rfl⟩:∃ k,A=B+1+k:=⟨A-(B+1),by omega⟩
   rw [show B+1+k-B-1+1=k+1 by omega,Nat.mul_comm (k+1),Nat.mul_add]
   rw [Nat.mul_add,Nat.mul_add] at e1
   omega
 ·rw [if_neg c]
  refine ⟨Nat.div_eq_of_lt_le ?_ ?_,by omega⟩
  ·obtain ⟨k,rfl⟩:∃ k,A=B+k:=⟨A-B,by omega⟩
   rw [show B+k-B-0=k by omega,Nat.mul_comm k]
   rw [Nat.mul_add] at e1
   omega
  ·obtain ⟨k,rfl⟩:∃ k,A=B+k:=⟨A-B,by omega⟩
   rw [show B+k-B-0+1=k+1 by omega,Nat.mul_comm (k+1),Nat.mul_add]
   rw [Nat.mul_add] at e1
   omega
theorem bor_next (M N i:Nat):bor M N (i+1)=if dg M i<dg N i+bor M N i then 1 else 0:=by
 have hp:=pow_pos i
 have m1:=Nat.mod_lt M hp
 have m2:=Nat.mod_lt N hp
 unfold bor
 rw [mod_next,mod_next]
 generalize 256^i=p at *
 generalize M%p=m at *
 generalize N%p=n at *
 generalize dg M i=a
 generalize dg N i=b
 rcases Nat.lt_trichotomy a b with h|h|h
 ·obtain ⟨k,rfl⟩:∃ k,b=a+1+k:=⟨b-(a+1),by omega⟩
  rw [if_pos (by rw [Nat.add_mul,Nat.add_mul];omega),if_pos (by omega)]
 ·subst h
  by_cases c:m<n
  ·rw [if_pos (by omega),if_pos c,if_pos (by omega)]
  ·rw [if_neg (by omega),if_neg c,if_neg (by omega)]
 ·obtain ⟨k,rfl⟩:∃ k,a=b+1+k:=⟨a-(b+1),by omega⟩
  rw [if_neg (by rw [Nat.add_mul,Nat.add_mul];omega),if_neg (by split<;>omega)]
theorem sub_digit {M N i:Nat} (h:N≤M):
  (dg M i<dg N i+bor M N i→dg (M-N) i+dg N i+bor M N i=dg M i+256)∧(dg N i+bor M N i≤dg M i→dg (M-N) i+dg N i+bor M N i=dg M i):=by
 obtain ⟨e,hle⟩:=sub_div (i:=i) h
 have hb:=bor_le M N i
 unfold dg
 rw [e]
 generalize M/256^i=A at *
 generalize N/256^i=B at *
 generalize bor M N i=c at *
 omega
theorem add_div (M N i:Nat):(M+N)/256^i=M/256^i+N/256^i+car M N i:=by
 have hp:=pow_pos i
 have e1:=Nat.div_add_mod M (256^i)
 have e2:=Nat.div_add_mod N (256^i)
 unfold car
 generalize 256^i=p at *
 conv=>lhs;rw [← e1,← e2]
 rw [show p*(M/p)+M%p+(p*(N/p)+N%p)=(M%p+N%p)+p*(M/p+N/p) by rw [Nat.mul_add];omega,Nat.add_mul_div_left _ _ hp]
 omega
theorem car_next (M N i:Nat):car M N (i+1)=(dg M i+dg N i+car M N i)/256:=by
 have h1:=add_div M N i
 have h2:=add_div M N (i+1)
 have d1:=div_next M i
 have d2:=div_next N i
 have d3:=div_div (M+N) i
 have l1:=dg_lt M i
 have l2:=dg_lt N i
 omega
theorem add_digit (M N i:Nat):dg (M+N) i=(dg M i+dg N i+car M N i)%256:=by
 have h1:=add_div M N i
 unfold dg
 rw [h1]
 omega
theorem car_le (M N i:Nat):car M N i≤1:=by
 have hp:=pow_pos i
 have m1:=Nat.mod_lt M hp
 have m2:=Nat.mod_lt N hp
 unfold car
 generalize 256^i=p at *
 have:(M%p+N%p)/p<2:=by rw [Nat.div_lt_iff_lt_mul hp];omega
 omega
theorem lt_digit {M N i:Nat} (h:M/256^(i+1)=N/256^(i+1)) (hd:dg M i<dg N i):M<N:=by
 have d1:=div_next M i
 have d2:=div_next N i
 rcases Nat.lt_or_ge M N with c|c
 ·exact c
 ·have:=Nat.div_le_div_right (c:=256^i) c
  omega
end Go.Lg.Dig
namespace Go.Lg.Dig
theorem dg_mod {n i k:Nat} (h:i<k):dg (n%256^k) i=dg n i:=by
 obtain ⟨t,rfl⟩:∃ t,k=i+1+t:=⟨k-(i+1),by omega⟩
 unfold dg
 rw [Nat.pow_add,Nat.pow_succ,Nat.mul_assoc,Nat.mod_mul_right_div_self,Nat.mod_mul_right_mod]
theorem dg_shift (n k i:Nat):dg n (k+i)=dg (n/256^k) i:=by
 unfold dg
 rw [Nat.pow_add,Nat.div_div_eq_div_mul]
theorem top_zero {n k:Nat} (h:n<256^(k+1)) (hd:dg n k=0):n<256^k:=by
 have hp:=pow_pos k
 unfold dg at hd
 rw [Nat.pow_succ] at h
 have:n/256^k<256:=by rw [Nat.div_lt_iff_lt_mul hp];rw [Nat.mul_comm];exact h
 have key:∀ q:Nat,q<256→q%256=0→q=0:=by omega
 exact (Nat.div_eq_zero_iff_lt hp).1 (key _ this hd)
theorem all_zero {n k:Nat}:∀ t,n<256^(k+t)→(∀ j,k≤j→j<k+t→dg n j=0)→n<256^k
 | 0,h,_=>h
 | t+1,h,hz=>all_zero t (top_zero h (hz (k+t) (by omega) (by omega))) fun j h1 h2=>hz j h1 (by omega)
end Go.Lg.Dig
namespace Go.Lg.Dig
open Go Go.Lg
theorem dg_add_mul {T y k x:Nat} (h:x<k):dg (T+y*256^k) x=dg T x:=by
 rw [← dg_mod h,Nat.add_mul_mod_self_right,dg_mod h]
def mix (T S k x:Nat):Nat:=if x<k then dg T x else dg S x
theorem mix_step (s:Bool) {T S k y:Nat} {d:Nat} (hd:d=dg (T+y*256^k) k):
  num s (fun x=>if x=k then d else mix T S k x)=num s (mix (T+y*256^k) S (k+1)):=num_congr fun x _=>by
 unfold mix
 by_cases c:x=k
 ·subst c
  rw [if_pos rfl,if_pos (by omega),hd]
 ·rw [if_neg c]
  by_cases c2:x<k
  ·rw [if_pos c2,if_pos (by omega),dg_add_mul c2]
  ·rw [if_neg c2,if_neg (by omega)]
theorem mix_all (s:Bool) {T S k:Nat} (h:T/256^k=S/256^k):num s (mix T S k)=num s (dg T):=num_congr fun x _=>by
 unfold mix
 by_cases c:x<k
 ·rw [if_pos c]
 ·obtain ⟨y,rfl⟩:∃ y,x=k+y:=⟨x-k,by omega⟩
  rw [if_neg c,dg_shift,dg_shift,h]
theorem mul_step {T S k y c:Nat} (hST:S≤T) (hc:c=T/256^k-S/256^k):
  (dg S k+c+y)%256=dg (T+y*256^k) k∧(dg S k+c+y)/256=(T+y*256^k)/256^(k+1)-S/256^(k+1):=by
 have hp:=pow_pos k
 have h1:(T+y*256^k)/256^k=T/256^k+y:=by rw [Nat.add_mul_div_right _ _ hp]
 have h2:=div_next S k
 have h3:=div_div (T+y*256^k) k
 have hle:S/256^k≤T/256^k:=Nat.div_le_div_right hST
 have h4:dg (T+y*256^k) k=(T+y*256^k)/256^k%256:=rfl
 rw [h4,← h3,h1]
 generalize T/256^k=A at *
 generalize S/256^k=B at *
 generalize S/256^(k+1)=C at *
 generalize dg S k=D at *
 omega
theorem dg_mid {C t i x:Nat} (ht:t<256):dg (C*256^(i+1)+t*256^i) x=if x<i then 0 else if x=i then t else dg C (x-(i+1)):=by
 have hp:=pow_pos i
 have e:C*256^(i+1)+t*256^i=0+(C*256+t)*256^i:=by rw [Nat.pow_succ,Nat.add_mul,Nat.mul_assoc,Nat.mul_comm 256,Nat.zero_add]
 by_cases c:x<i
 ·rw [if_pos c,e,dg_add_mul c,dg_zero]
 ·rw [if_neg c]
  obtain ⟨y,rfl⟩:∃ y,x=i+y:=⟨x-i,by omega⟩
  rw [dg_shift,e,Nat.zero_add,Nat.mul_div_cancel _ hp]
  by_cases c2:i+y=i
  ·have:y=0:=by omega
   subst this
   rw [if_pos c2]
   unfold dg
   rw [Nat.pow_zero,Nat.div_one]
   omega
  ·rw [if_neg c2]
   obtain ⟨z,rfl⟩:∃ z,y=1+z:=⟨y-1,by omega⟩
   rw [dg_shift,show i+(1+z)-(i+1)=z by omega]
   congr 1
   rw [Nat.pow_one]
   omega
end Go.Lg.Dig
namespace Go.Lg.Dig
open Go Go.Lg
theorem num_blt0 {b:Bool} {f:Nat→Nat}:Nat.blt 0 (num b f).length=true:=by rw [num_length];rfl
def shf (R t x:Nat):Nat:=if t<x then dg R (x-1) else dg R x
theorem shf_start (s:Bool) (R:Nat):num s (shf R 39)=num s (dg R):=num_congr fun x hx=>by unfold shf;rw [if_neg (by omega)]
theorem shf_step (s:Bool) (R t:Nat):num s (fun x=>if x=t+1 then dg R t else shf R (t+1) x)=num s (shf R t):=num_congr fun x _=>by
 unfold shf
 by_cases c:x=t+1
 ·subst c
  rw [if_pos rfl,if_pos (by omega),show t+1-1=t by omega]
 ·rw [if_neg c]
  simp only [show (t+1<x↔t<x) by omega]
theorem shf_end (s:Bool) (R d:Nat) (hd:d<256):num s (fun x=>if x=0 then d else shf R 0 x)=num s (dg (R*256+d)):=num_congr fun x _=>by
 unfold shf
 cases x with
 | zero =>
  rw [if_pos rfl]
  unfold dg
  rw [Nat.pow_zero,Nat.div_one]
  omega
 | succ y =>
  rw [if_neg (by omega),if_pos (by omega),Nat.add_comm y 1,dg_shift,show 1+y-1=y by omega,Nat.pow_one,show (R*256+d)/256=R by omega]
theorem mid_step (s:Bool) {C t i:Nat} (ht:t+1<256):num s (fun x=>if x=i then t+1 else dg (C*256^(i+1)+t*256^i) x)=num s (dg (C*256^(i+1)+(t+1)*256^i)):=num_congr fun x _=>by
 rw [dg_mid (by omega),dg_mid ht]
 by_cases c:x=i
 ·rw [if_pos c,if_neg (by omega),if_pos c]
 ·rw [if_neg c]
  by_cases c2:x<i
  ·rw [if_pos c2,if_pos c2]
  ·rw [if_neg c2,if_neg c2,if_neg c,if_neg c]
theorem mid_at {C t i:Nat} (ht:t<256):dg (C*256^(i+1)+t*256^i) i=t:=by rw [dg_mid ht,if_neg (by omega),if_pos rfl]
theorem quo_step {A B i t V:Nat} (hB:0<B) (h:V+t*B=A/256^(i+1)%B*256+dg A i) (hV:V<B):
  A/256^i/B*256^i=A/256^(i+1)/B*256^(i+1)+t*256^i∧A/256^i%B=V:=by
 have e1:=div_next A i
 have e2:=Nat.div_add_mod (A/256^(i+1)) B
 have e3:A/256^i=V+B*(A/256^(i+1)/B*256+t):=by
  rw [e1,Nat.mul_add,Nat.mul_comm B t,← Nat.mul_assoc]
  generalize B*(A/256^(i+1)/B)=x at *
  omega
 constructor
 ·rw [e3,Nat.add_mul_div_left _ _ hB,Nat.div_eq_of_lt hV,Nat.zero_add,Nat.add_mul,Nat.pow_succ,Nat.mul_assoc,Nat.mul_comm 256]
 ·rw [e3,Nat.add_mul_mod_self_left,Nat.mod_eq_of_lt hV]
end Go.Lg.Dig
end
section
set_option maxHeartbeats 12800000
set_option maxRecDepth 100000
namespace Go.Proofs.YtopiioklkkiedaaGreatDoor
open Go Go.Lg Go.Lg.Arith Go.Lg.Dig Go.RowKit
variable (X:Nat→Option Obj)
abbrev LN (b:Bool) (f:Nat→Nat):LV:=.sv (.agg (num b f))
abbrev SN (b:Bool) (f:Nat→Nat):SV:=.agg (num b f)
def two (l h i:Nat) (j:Nat):Nat:=if j<i then dg l j else if 8≤j∧j<8+i then dg h (j-8) else 0
theorem two_dg {l h:Nat} (hl:l<18446744073709551616) (hh:h<18446744073709551616) (j:Nat):two l h 8 j=dg (h*18446744073709551616+l) j:=by
 have e64:18446744073709551616=256^8:=by decide
 unfold two dg
 by_cases h1:j<8
 ·rw [if_pos h1]
  obtain ⟨k,hk⟩:∃ k,8=j+1+k:=⟨7-j,by omega⟩
  have hp:=pow_pos j
  rw [e64,hk,Nat.pow_add,Nat.pow_succ]
  generalize 256^k=q
  generalize 256^j=p at *
  rw [show h*(p*256*q)+l=l+p*(256*(q*h)) by rw [Nat.mul_comm h,Nat.mul_assoc,Nat.mul_assoc,Nat.add_comm],Nat.add_mul_div_left _ _ hp]
  omega
 ·rw [if_neg h1]
  obtain ⟨k,rfl⟩:∃ k,j=8+k:=⟨j-8,by omega⟩
  have e:(h*18446744073709551616+l)/256^(8+k)=h/256^k:=by
   rw [Nat.pow_add,← e64,← Nat.div_div_eq_div_mul]
   congr 1
   omega
  rw [e]
  by_cases h2:8+k<16
  ·rw [if_pos ⟨by omega,by omega⟩,show 8+k-8=k by omega]
  ·rw [if_neg V3]
   have:h<256^k:=Nat.lt_of_lt_of_le hh (by rw [e64];exact Nat.pow_le_pow_right VA V3)
   rw [Nat.div_eq_of_lt this]
theorem From_raw (b:Bool) (h l:Nat) (hh:h<18446744073709551616) (hl:l<18446744073709551616):
  PSpec Tryz.prog X 114 [Li b (h:Nat) (l:Nat)] (LN b (two l h 8)):=by
 refine cF Tryz.func114 rfl V5 rfl V5 ?_
 intro C
 refine U31 ?_
 refine cL (fun m σ=>∃ i:Nat,i≤8∧m=8-i∧σ=⟨[(2,.sv (.one (.ptr 2 0))),(3,.sv (.one (.ptr 3 0))),(4,Ln .u64 ((h/256^i:Nat):Int)),(5,Ln .u64 ((l/256^i:Nat):Int)),(6,Ln .i64 (i:Nat))],[(2,some { elem:=202,cells:=num false (fun _=>0) }),(3,some { elem:=202,cells:=num b (two l h i) })],X⟩) 8
  ⟨_,Le.of (by exact ⟨rfl,rfl,by rw [Nat.pow_zero,Nat.div_one];rfl,by rw [Nat.pow_zero,Nat.div_one];rfl,rfl,trivial⟩) VE V2 V2 V2,0,by omega,rfl,rfl⟩ ?_
 rintro m σ ⟨i,hi,rfl,rfl⟩
 by_cases h8:i<8
 ·have bl:l/256^i≤l:=Nat.div_le_self _ _
  have bh:h/256^i≤h:=Nat.div_le_self _ _
  have el:dg l i=l/256^i%256:=rfl
  have eh:dg h i=h/256^i%256:=rfl
  have nl:=div_div l i
  have nh:=div_div h i
  have step:num b (fun j=>if j=8+i then dg h i else if j=i then dg l i else two l h i j)=num b (two l h (i+1)):=by
   refine num_congr fun j _ => ?_
   unfold two
   by_cases c1:j=i
   ·subst c1
    rw [if_neg (by omega),if_pos rfl,if_pos (by omega)]
   ·by_cases c2:j=8+i
    ·subst c2
     rw [if_pos rfl,if_neg (by omega),if_pos ⟨by omega,by omega⟩,show 8+i-8=i by omega]
    ·rw [if_neg c2,if_neg c1]
     simp only [show (j<i+1↔j<i) by omega,show (8≤j∧j<8+(i+1)↔8≤j∧j<8+i) by omega]
  generalize hu':l/256^(i+1)=u' at *
  generalize hv':h/256^(i+1)=v' at *
  generalize l/256^i=u at *
  generalize h/256^i=v at *
  have wl:IntKind.i64.wrap ((u:Int)%256)=((dg l i:Nat):Int):=by rw [cH V3];omega
  have wh:IntKind.i64.wrap ((v:Int)%256)=((dg h i:Nat):Int):=by rw [cH V3];omega
  have ql:IntKind.u64.wrap ((u:Int).tdiv 256)=(u':Int):=by rw [quo_u64 V3 V3];omega
  have qh:IntKind.u64.wrap ((v:Int).tdiv 256)=(v':Int):=by rw [quo_u64 V3 V3];omega
  (refine U14 ?_;refine K.rem O O V3 (rem_pos V3) dS<|kcv O wl ?_;refine U2 ?_;refine bG O O O O (num_blt (i:=i) V3) (num_set (i:=i) (d:=dg l i) V3) dS ?_;refine U6 ?_;refine K.rem O O V3 (rem_pos V3) dS<|kcv O wh ?_;refine U2 ?_;refine bG O O O O (num_blt (i:=8+i) V3) (num_set (i:=8+i) (d:=dg h i) V3) dS ?_;refine U4 ?_;refine K.quo O O V3 ql dS ?_;refine U4 ?_;refine K.quo O O V3 qh dS ?_;refine U7 ?_)
  exact ⟨_,_,by omega,Le.of (by exact ⟨rfl,rfl,by rw [hv'];rfl,by rw [hu'];rfl,rfl,trivial⟩) (by exact ⟨rfl,by rw [← step];rfl,trivial⟩) V2 V2 V2,i+1,by omega,rfl,rfl⟩
 ·have e:i=8:=by omega
  subst e
  refine U14 ?_
  exact VF
end Go.Proofs.YtopiioklkkiedaaGreatDoor
end
section
set_option maxHeartbeats 12800000
set_option maxRecDepth 100000
namespace Go.Proofs.YtopiioklkkiedaaGreatDoor
open Go Go.Lg Go.Lg.Arith Go.Lg.Dig Go.RowKit
variable (X:Nat→Option Obj)
theorem From_spec (b:Bool) (n:Nat) (hn:n<340282366920938463463374607431768211456):PSpec Tryz.prog X 114 [LI b (n:Nat)] (LN b (dg n)):=by
 have h:=From_raw X b (n/18446744073709551616) (n%18446744073709551616) V3 V3
 have e:num b (two (n%18446744073709551616) (n/18446744073709551616) 8)=num b (dg n):=num_congr fun j _=>by
  rw [two_dg (by omega) (by omega),show n/18446744073709551616*18446744073709551616+n%18446744073709551616=n by omega]
 unfold LN at h ⊢
 rw [e] at h
 exact h
abbrev T40:Nat:=256^40
theorem cmp_facts_0 (x y:Int):∃ r,cmpI x y=r∧(x<y→r = -1)∧(x=y→r=0)∧(y<x→r=1):=by
 refine ⟨_,rfl,?_,?_,?_⟩<;>intro h<;>unfold cmpI
 ·rw [if_pos h]
 ·rw [if_neg V3,if_neg V3]
 ·rw [if_neg V3,if_pos h]
theorem Size_spec (a b:Bool) (M N:Nat) (hM:M<T40) (hN:N<T40) (r:Int) (hr:cmpI M N=r):
  PSpec Tryz.prog X 113 [LN a (dg M),LN b (dg N)] (Ln .i64 r):=by
 refine cF Tryz.func113 rfl V5 rfl rfl ?_
 intro C
 refine U12 ?_
 refine cL (fun m σ=>∃ z:Int,m≤40∧z=(m:Int)-1∧M/256^m=N/256^m∧σ=⟨[(2,.sv (.one (.ptr 2 0))),(3,.sv (.one (.ptr 3 0))),(5,Ln .i64 z)],[(2,some { elem:=202,cells:=num a (dg M) }),(3,some { elem:=202,cells:=num b (dg N) })],X⟩) 40
  ⟨_,Le.of V9 VE V2 V2 V2,39,by omega,rfl,by rw [Nat.div_eq_of_lt hM,Nat.div_eq_of_lt hN],rfl⟩ ?_
 rintro m σ ⟨z,hm,rfl,hq,rfl⟩
 cases m with
 | zero =>
  have e:M=N:=by simpa using hq
  have hr':r=0:=by rw [← hr,e];unfold cmpI;rw [if_neg V3,if_neg V3]
  refine U13 ?_
  exact ⟨[_],⟨rfl,trivial⟩,by rw [hr'];rfl⟩
 | succ i =>
  rw [show (((i+1:Nat):Int)-1)=(i:Int) by omega]
  have hi:i<40:=by omega
  rcases Nat.lt_trichotomy (dg M i) (dg N i) with h|h|h
  ·have hlt:=lt_digit hq h
   have hr':r = -1:=by rw [← hr];unfold cmpI;rw [if_pos V3]
   (refine U12 ?_;refine rgD mixed ?_;refine U3 ?_;refine kl1 rfl rfl (num_at (i:=i) hi) ?_;refine U3 ?_;refine kl1 rfl rfl (num_at (i:=i) hi) ?_;refine U6 ?_;refine rgD mixed ?_;refine U3 ?_;refine kl1 rfl rfl (num_at (i:=i) hi) ?_;refine U3 ?_;refine kl1 rfl rfl (num_at (i:=i) hi) ?_;refine U9 ?_)
   exact ⟨[_],⟨rfl,trivial⟩,by rw [hr'];rfl⟩
  ·have hq':M/256^i=N/256^i:=by rw [div_next M i,div_next N i,hq,h]
   (refine U12 ?_;refine rgD mixed ?_;refine U3 ?_;refine kl1 O O (num_at (i:=i) hi) ?_;refine U3 ?_;refine kl1 O O (num_at (i:=i) hi) ?_;refine U6 ?_;refine rgD mixed ?_;refine U3 ?_;refine kl1 O O (num_at (i:=i) hi) ?_;refine U3 ?_;refine kl1 O O (num_at (i:=i) hi) ?_;refine U7 ?_;refine bA O O (cH V3) dS ?_;refine U2 ?_)
   exact ⟨i,_,by omega,Le.of V9 VE V2 V2 V2,_,by omega,O,hq',O⟩
  ·have hlt:=lt_digit hq.symm h
   have hr':r=1:=by rw [← hr];unfold cmpI;rw [if_neg V3,if_pos V3]
   (refine U12 ?_;refine rgD mixed ?_;refine U3 ?_;refine kl1 rfl rfl (num_at (i:=i) hi) ?_;refine U3 ?_;refine kl1 rfl rfl (num_at (i:=i) hi) ?_;refine U9 ?_)
   exact ⟨[_],⟨rfl,trivial⟩,by rw [hr'];rfl⟩
def low (n i j:Nat):Nat:=if j<i then dg n j else 0
theorem low_step (b:Bool) (n i:Nat):num b (fun j=>if j=i then dg n i else low n i j)=num b (low n (i+1)):=num_congr fun j _=>by
 unfold low
 by_cases c:j=i
 ·subst c;rw [if_pos rfl,if_pos V3]
 ·rw [if_neg c]
  simp only [show (j<i+1↔j<i) by omega]
theorem low_all (b:Bool) (n:Nat):num b (low n 40)=num b (dg n):=num_congr fun j hj=>by unfold low;rw [if_pos hj]
theorem less_spec (a b:Bool) (M N:Nat) (hMN:N≤M):PSpec Tryz.prog X 226 [LN a (dg M),LN b (dg N)] (LN a (dg (M-N))):=by
 refine cF Tryz.func226 rfl V5 rfl rfl ?_
 intro C
 refine U24 ?_
 refine cL (fun m σ=>∃ i:Nat,i≤40∧m=40-i∧σ=⟨[(2,.sv (.one (.ptr 2 0))),(3,.sv (.one (.ptr 3 0))),(4,.sv (.one (.ptr 4 0))),(5,.sv (.one (.ptr 5 0))),(6,Ln .i64 (bor M N i:Nat)),(7,Ln .i64 (i:Nat))],[(2,some { elem:=202,cells:=num a (dg M) }),(3,some { elem:=202,cells:=num b (dg N) }),(4,some { elem:=202,cells:=num false (fun _=>0) }),(5,some { elem:=202,cells:=num a (low (M-N) i) })],X⟩) 40
  ⟨_,Le.of (by exact ⟨rfl,rfl,rfl,rfl,by rw [show bor M N 0=0 by unfold bor;rw [Nat.pow_zero,Nat.mod_one,Nat.mod_one,if_neg V3]];rfl,rfl,trivial⟩) V8 V2 V2 V2,0,by omega,rfl,rfl⟩ ?_
 rintro m σ ⟨i,hi,rfl,rfl⟩
 by_cases h40:i<40
 ·obtain ⟨s1,s2⟩:=sub_digit (i:=i) hMN
  have hb:=bor_le M N i
  have hn:=bor_next M N i
  have l1:=dg_lt M i
  have l2:=dg_lt N i
  by_cases c:dg M i<dg N i+bor M N i
  ·have s:=s1 c
   rw [if_pos c] at hn
   have w:∀ k:Int,k=(dg M i:Int)-dg N i-bor M N i→IntKind.i64.wrap (k+256)=((dg (M-N) i:Nat):Int):=fun k hk=>by rw [cH V3];omega
   (refine U11 ?_;refine rgD mixed ?_;refine U3 ?_;refine kl1 O O (num_at (i:=i) h40) ?_;refine U3 ?_;refine kl1 O O (num_at (i:=i) h40)<|bA O O (cH V3) dS<|kmv O<|bA O O (cH V3) dS ?_;refine U17 ?_;refine kad O O (w _ O) ?_;refine U10 ?_;refine bG O O O O (num_blt (i:=i) h40) ((num_set (i:=i) h40).trans (low_step a (M-N) i)) dS ?_;refine U6 ?_)
   exact ⟨_,_,by omega,Le.of (by exact ⟨rfl,rfl,rfl,rfl,by rw [hn];rfl,rfl,trivial⟩) V8 V2 V2 V2,i+1,by omega,rfl,rfl⟩
  ·have s:=s2 V3
   rw [if_neg c] at hn
   have w:IntKind.i64.wrap (((dg M i:Nat):Int)-(dg N i:Nat)-(bor M N i:Nat))=((dg (M-N) i:Nat):Int):=by rw [cH V3];omega
   (refine U11 ?_;refine rgD mixed ?_;refine U3 ?_;refine kl1 O O (num_at (i:=i) h40) ?_;refine U3 ?_;refine kl1 O O (num_at (i:=i) h40)<|bA O O (cH V3) dS<|kmv O<|bA O O w dS ?_;refine U20 ?_;refine bG O O O O (num_blt (i:=i) h40) ((num_set (i:=i) h40).trans (low_step a (M-N) i)) dS ?_;refine U6 ?_)
   exact ⟨_,_,by omega,Le.of (by exact ⟨rfl,rfl,rfl,rfl,by rw [hn];rfl,rfl,trivial⟩) V8 V2 V2 V2,i+1,by omega,rfl,rfl⟩
 ·have e:i=40:=by omega
  subst e
  refine U14 ?_
  exact ⟨[_],⟨⟨_,_,rfl,rfl,rfl,.inl ⟨AggT.h,rfl⟩⟩,trivial⟩,by unfold LN;rw [← low_all];rfl⟩
end Go.Proofs.YtopiioklkkiedaaGreatDoor
end
