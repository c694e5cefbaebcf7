/- A piece of a proof over this program: contracts of its functions, and a logic to prove them by. -/
import Derived.Test.YtopiioklkkiedaaGreatDoorS2
import Derived.Test.YtopiioklkkiedaaGreatDoorS3
import Derived.Lib.TrimByte
import Derived.Lib.SmallJoins
import Derived.Test.YtopiioklkkiedaaGreatDoorRows
section
namespace Go.Lg
open Go
def le:List UInt8→Nat
 | []=>0
 | c::t=>c.toNat+256*le t
theorem le_lt:∀ (l:List UInt8),le l<256^l.length
 | []=>by simp [le]
 | c::t=>by
  have:=le_lt t
  have hc:=c.toNat_lt
  simp only [le,dF,Nat.pow_succ]
  omega
theorem le_snoc:∀ (l:List UInt8) (c:UInt8),le (l++[c])=le l+c.toNat*256^l.length
 | [],c=>by simp [le]
 | d::t,c=>by
  have e:256*(c.toNat*256^t.length)=c.toNat*(256^t.length*256):=by rw [Nat.mul_left_comm,Nat.mul_comm 256]
  simp only [List.cons_append,le,le_snoc t c,dF,Nat.pow_succ,Nat.mul_add]
  omega
theorem le_take {l:List UInt8} {i:Nat} {c:UInt8} (h:l[i]? = some c):le (l.take (i+1))=le (l.take i)+c.toNat*256^i:=by
 have hi:=(List.getElem?_eq_some_iff.1 h).1
 rw [List.take_add_one,h]
 have:=le_snoc (l.take i) c
 rw [cW,Nat.min_eq_left (by omega)] at this
 exact this
def leB:Nat→Nat→List UInt8
 | 0,_=>[]
 | k+1,n=>UInt8.ofNat (n%256)::leB k (n/256)
theorem leB_length:∀ (k n:Nat),(leB k n).length=k
 | 0,_=>rfl
 | k+1,n=>by simp [leB,leB_length k]
theorem leB_get:∀ (k n i:Nat),i<k→(leB k n)[i]? = some (UInt8.ofNat (n/256^i%256))
 | 0,_,_,h=>by omega
 | k+1,n,0,_=>by simp [leB]
 | k+1,n,i+1,h=>by
  simp only [leB,List.getElem?_cons_succ]
  rw [leB_get k (n/256) i (by omega),Nat.pow_succ,Nat.mul_comm,Nat.div_div_eq_div_mul]
def lo (w n i:Nat):List UInt8:=(leB w n).take i++List.replicate (w-i) 0
theorem lo_set {w n i:Nat} (h:i<w):(((lo w n i).map bc).set (0+i*1) (bc (UInt8.ofNat (n/256^i%256))))=(lo w n (i+1)).map bc:=by
 rw [Nat.zero_add,Nat.mul_one,← List.map_set]
 congr 1
 unfold lo
 have hl:((leB w n).take i).length=i:=by rw [cW,leB_length];omega
 rw [List.set_append_right _ _ (by omega),hl,Nat.sub_self,List.take_add_one,leB_get w n i h]
 have:w-i=(w-(i+1))+1:=by omega
 rw [this,List.replicate_succ]
 simp
theorem lo_len (w n i:Nat) (h:i≤w):((lo w n i).map bc).length=w:=by
 unfold lo
 rw [cT,cS,cW,leB_length,dA]
 omega
theorem lo_all (w n:Nat):lo w n w=leB w n:=by
 unfold lo
 rw [Nat.sub_self,List.take_of_length_le (by rw [leB_length];exact dK _)]
 simp
theorem or_low {x y c:Int} {s:Nat} (hs:s≤64) (hx:0≤x∧x*2^s<18446744073709551616) (hy:0≤y∧y<2^s) (hc:y+x*2^s=c):bits .or .u64 y (x*2^s)=c:=by
 have h:=or_apart hs hx hy
 obtain ⟨A,rfl⟩:=Int.eq_ofNat_of_zero_le hx.1
 obtain ⟨B,rfl⟩:=Int.eq_ofNat_of_zero_le hy.1
 have e:((A:Int)*2^s)=((A*2^s:Nat):Int):=by rw [Int.natCast_mul,Int.natCast_pow];rfl
 have e':((2:Int)^s)=((2^s:Nat):Int):=by rw [Int.natCast_pow];rfl
 have h1:A*2^s<18446744073709551616:=by have:=hx.2;rw [e] at this;omega
 have h3:2^s≤18446744073709551616:=by
  have:2^s≤2^64:=Nat.pow_le_pow_right (by decide) hs
  exact this
 have h2:B<18446744073709551616:=by have:=hy.2;rw [e'] at this;omega
 have hcomm:bits .or .u64 (B:Int) ((A:Int)*2^s)=bits .or .u64 ((A:Int)*2^s) B:=by
  rw [e,u64_or_nat _ _ h2 h1,u64_or_nat _ _ h1 h2,Nat.or_comm]
 rw [hcomm,h]
 omega
end Go.Lg
namespace Go.Proofs.YtopiioklkkiedaaGreatDoor
open Go Go.Lg
variable (X:Nat→Option Obj)
theorem p256 (i:Nat):(256:Nat)^i=2^(8*i):=by rw [Nat.pow_mul]
theorem onumber_spec (l:List UInt8) (hl:l.length≤8):PSpec Tryz.prog X 159 [Ls l] (Ln .u64 (le l:Nat)):=by
 refine cC Tryz.func159 rfl (by kernel_rfl) rfl rfl ?_
 intro C
 (refine aA<|rgN<|kas O<|aB<|aA<|rgN<|kas O<|aB<|aA<|aA<|rgN<|kmv O<|kln O<|kmv O ?_;refine aB<|aG ?_)
 refine cG (fun m σ=>∃ i:Nat,i≤l.length∧m=l.length-i∧σ=⟨[(0,Ls l),(3,Ln .u64 (le (l.take i):Nat)),(6,Ln .i64 (l.length:Nat)),(7,Ln .i64 (i:Nat))],[],X⟩) l.length
  ⟨_,Le.of (by exact ⟨rfl,rfl,rfl,rfl,trivial⟩) (by exact trivial) (by exact rfl) (by exact rfl) (by exact rfl),0,Nat.zero_le _,rfl,rfl⟩ ?_
 rintro m σ ⟨i,hi,rfl,rfl⟩
 by_cases hlt:i<l.length
 ·obtain ⟨b,hb⟩:∃ b,l[i]? = some b:=⟨_,cU hlt⟩
  have hb':(⟨l.toArray⟩:ByteArray)[Int.toNat (i:Int)]? = some b:=str_at hb
  have hnx:=le_take hb
  have h8:8*i≤56:=by omega
  have w8:IntKind.i64.wrap (8*(i:Int))=((8*i:Nat):Int):=by rw [cE (by omega)];omega
  have hc:=b.toNat_lt
  have hlo:=le_lt (l.take i)
  rw [cW,Nat.min_eq_left hi,p256] at hlo
  have hp:2^(8*i)≤2^56:=Nat.pow_le_pow_right (by decide) h8
  have hbb:b.toNat*2^(8*i)≤255*2^56:=Nat.mul_le_mul (by omega) hp
  have ec:((b.toNat:Int))*2^(8*i)=((b.toNat*2^(8*i):Nat):Int):=by rw [Int.natCast_mul,Int.natCast_pow];rfl
  have ep:((2:Int)^(8*i))=((2^(8*i):Nat):Int):=by rw [Int.natCast_pow];rfl
  have hs:=shl_s (a:=(b.toNat:Int)) (s:=8*i) (c:=(b.toNat:Int)*2^(8*i)) (by omega) rfl (by rw [ec];omega)
  have ho:=or_low (x:=(b.toNat:Int)) (y:=(le (l.take i):Nat)) (s:=8*i) (c:=(le (l.take (i+1)):Nat)) (by omega) (by rw [ec];omega) (by rw [ep];omega) (by rw [ec,hnx,p256];omega)
  (refine aA<|rgN<|klt O O (cL (by omega))<|aB<|aA<|aE O ?_;refine aH ?_;refine aA<|aG<|aA<|rgN<|kmv O<|kas O<|aB<|rgN<|kmv O<|kmv O<|kmv O<|bB O O (by omega) hb' dO<|kcv O (by exact wrap_u64 (by omega)) ?_;refine kmv O<|bL O O w8 dO<|K.shl O O (by omega) hs dO<|K.bitop (by simp) O O ho dO<|kas O<|aB<|rgN<|kad O O (cE (by omega))<|kmv O<|aB ?_)
  exact ⟨_,_,by omega,Le.of (by exact ⟨O,O,O,O,trivial⟩) (by exact trivial) (by exact O) (by exact O) (by exact O),i+1,by omega,O,O⟩
 ·have e:i=l.length:=by omega
  subst e
  rw [dC]
  (refine aA<|rgN<|klt O O (cK (by omega))<|aB<|aA<|aF O ?_;refine aJ<|aA<|rgN<|kmv O<|kas O<|aB<|aI ?_)
  exact ⟨[_],⟨O,trivial⟩,O⟩
end Go.Proofs.YtopiioklkkiedaaGreatDoor
end
section
namespace Go.Proofs.YtopiioklkkiedaaGreatDoor
open Go Go.Lg
variable (X:Nat→Option Obj)
theorem low_1 (n:Nat) (hn:n<18446744073709551616):PSpec Tryz.prog X 170 [Ln .i64 1,Ln .u64 (n:Nat)] (Ls (leB 1 n)):=by
 refine cC Tryz.func170 rfl (by kernel_rfl) rfl rfl ?_
 intro C
 (refine aA<|rgN<|kas O<|aB<|aA<|rgN<|kmv O<|K.makeSlc (m:=1) (zs:=List.replicate 1 (.int .u8 0)) (sz:=1) (e:=5) (bytes:=1) (zc:=(lo 1 n 0).map bc) O O (by kernel_rfl) (by kernel_rfl) (by decide) O O dO<|kas O<|aB<|aA<|aA<|rgN<|kmv O ?_;refine K.lenSlc O bZ O dO ?_;refine kmv O<|aB<|aG ?_)
 refine cG (fun m σ=>∃ i:Nat,i≤1∧m=1-i∧σ=⟨[(1,Ln .u64 (n:Nat)),(5,.sv (.one (.slc 8 0 1))),(10,Ln .i64 1),(11,Ln .i64 (i:Nat))],[(8,some ⟨5,(lo 1 n i).map bc,false⟩)],X⟩) 1
  ⟨_,Le.of (by exact ⟨rfl,rfl,rfl,rfl,trivial⟩) (by exact ⟨rfl,trivial⟩) (by exact rfl) (by exact rfl) (by repeat' (first|refine bS ?_ ?_|rfl|exact bU|exact bT|exact bV rfl)),0,Nat.zero_le _,rfl,rfl⟩ ?_
 rintro m σ ⟨i,hi,rfl,rfl⟩
 by_cases hlt:i<1
 ·have w8:IntKind.i64.wrap (8*(i:Int))=((8*i:Nat):Int):=by rw [cE (by omega)];omega
  have ed:((n:Nat):Int)/2^(8*i)=((n/256^i:Nat):Int):=by rw [p256,Int.natCast_ediv,Int.natCast_pow];rfl
  have hs:=(shr_s (a:=((n:Nat):Int)) (s:=8*i) (by omega)).trans ed
  have hv:IntKind.u8.wrap ((n/256^i:Nat):Int)=((UInt8.ofNat (n/256^i%256)).toNat:Nat):=by
   rw [UInt8.toNat_ofNat',Nat.mod_eq_of_lt (Nat.mod_lt _ (by decide)),IntKind.wrap_u8]
   omega
  have hbl:Nat.blt (0+i*1) ((lo 1 n i).map bc).length=true:=by rw [lo_len _ _ _ hi,Nat.blt_eq];omega
  (refine aA<|rgN<|klt O O (cL (by omega))<|aB<|aA<|aE O ?_;refine aH ?_;refine aA<|aG<|aA<|rgN<|kmv O<|kas O<|aB<|rgN<|kmv O<|kmv O<|kmv O<|kmv O<|bL O O w8 dO<|bN O O (by omega) hs dO ?_;refine kcv O hv ?_;refine K.indexSlc O O (by omega) O dO ?_;refine bG O O O O hbl (lo_set hlt) dO<|aB<|rgN<|kad O O (cE (by omega))<|kmv O<|aB ?_)
  exact ⟨_,_,by omega,Le.of (by exact ⟨O,O,O,O,trivial⟩) (by exact ⟨O,trivial⟩) (by exact O) (by exact O) (by repeat' (first|refine bS ?_ ?_|rfl|exact bU|exact bT|exact bV O)),i+1,by omega,O,O⟩
 ·have e:i=1:=by omega
  subst e
  have hlen:0+1≤((lo 1 n 1).map bc).length:=by rw [lo_len _ _ _ (dK _)];omega
  have hcut:(((lo 1 n 1).map bc).drop 0).take 1=(leB 1 n).map bc:=by
   rw [List.drop_zero,List.take_of_length_le (by rw [lo_len _ _ _ (dK _)];exact dK _),lo_all]
  (refine aA<|rgN<|klt O O (cK (by omega))<|aB<|aA<|aF O ?_;refine aJ<|aA<|rgN<|kmv O<|bR O O (by kernel_rfl) StrT.u hlen hcut dO<|kas O<|aB<|aI ?_)
  exact ⟨[_],⟨O,trivial⟩,O⟩
theorem low_2 (n:Nat) (hn:n<18446744073709551616):PSpec Tryz.prog X 170 [Ln .i64 2,Ln .u64 (n:Nat)] (Ls (leB 2 n)):=by
 refine cC Tryz.func170 rfl (by kernel_rfl) rfl rfl ?_
 intro C
 (refine aA<|rgN<|kas O<|aB<|aA<|rgN<|kmv O<|K.makeSlc (m:=2) (zs:=List.replicate 2 (.int .u8 0)) (sz:=1) (e:=5) (bytes:=1) (zc:=(lo 2 n 0).map bc) O O (by kernel_rfl) (by kernel_rfl) (by decide) O O dO<|kas O<|aB<|aA<|aA<|rgN<|kmv O ?_;refine K.lenSlc O bZ O dO ?_;refine kmv O<|aB<|aG ?_)
 refine cG (fun m σ=>∃ i:Nat,i≤2∧m=2-i∧σ=⟨[(1,Ln .u64 (n:Nat)),(5,.sv (.one (.slc 8 0 2))),(10,Ln .i64 2),(11,Ln .i64 (i:Nat))],[(8,some ⟨5,(lo 2 n i).map bc,false⟩)],X⟩) 2
  ⟨_,Le.of (by exact ⟨rfl,rfl,rfl,rfl,trivial⟩) (by exact ⟨rfl,trivial⟩) (by exact rfl) (by exact rfl) (by repeat' (first|refine bS ?_ ?_|rfl|exact bU|exact bT|exact bV rfl)),0,Nat.zero_le _,rfl,rfl⟩ ?_
 rintro m σ ⟨i,hi,rfl,rfl⟩
 by_cases hlt:i<2
 ·have w8:IntKind.i64.wrap (8*(i:Int))=((8*i:Nat):Int):=by rw [cE (by omega)];omega
  have ed:((n:Nat):Int)/2^(8*i)=((n/256^i:Nat):Int):=by rw [p256,Int.natCast_ediv,Int.natCast_pow];rfl
  have hs:=(shr_s (a:=((n:Nat):Int)) (s:=8*i) (by omega)).trans ed
  have hv:IntKind.u8.wrap ((n/256^i:Nat):Int)=((UInt8.ofNat (n/256^i%256)).toNat:Nat):=by
   rw [UInt8.toNat_ofNat',Nat.mod_eq_of_lt (Nat.mod_lt _ (by decide)),IntKind.wrap_u8]
   omega
  have hbl:Nat.blt (0+i*1) ((lo 2 n i).map bc).length=true:=by rw [lo_len _ _ _ hi,Nat.blt_eq];omega
  (refine aA<|rgN<|klt O O (cL (by omega))<|aB<|aA<|aE O ?_;refine aH ?_;refine aA<|aG<|aA<|rgN<|kmv O<|kas O<|aB<|rgN<|kmv O<|kmv O<|kmv O<|kmv O<|bL O O w8 dO<|bN O O (by omega) hs dO ?_;refine kcv O hv ?_;refine K.indexSlc O O (by omega) O dO ?_;refine bG O O O O hbl (lo_set hlt) dO<|aB<|rgN<|kad O O (cE (by omega))<|kmv O<|aB ?_)
  exact ⟨_,_,by omega,Le.of (by exact ⟨O,O,O,O,trivial⟩) (by exact ⟨O,trivial⟩) (by exact O) (by exact O) (by repeat' (first|refine bS ?_ ?_|rfl|exact bU|exact bT|exact bV O)),i+1,by omega,O,O⟩
 ·have e:i=2:=by omega
  subst e
  have hlen:0+2≤((lo 2 n 2).map bc).length:=by rw [lo_len _ _ _ (dK _)];omega
  have hcut:(((lo 2 n 2).map bc).drop 0).take 2=(leB 2 n).map bc:=by
   rw [List.drop_zero,List.take_of_length_le (by rw [lo_len _ _ _ (dK _)];exact dK _),lo_all]
  (refine aA<|rgN<|klt O O (cK (by omega))<|aB<|aA<|aF O ?_;refine aJ<|aA<|rgN<|kmv O<|bR O O (by kernel_rfl) StrT.u hlen hcut dO<|kas O<|aB<|aI ?_)
  exact ⟨[_],⟨O,trivial⟩,O⟩
theorem low_4 (n:Nat) (hn:n<18446744073709551616):PSpec Tryz.prog X 170 [Ln .i64 4,Ln .u64 (n:Nat)] (Ls (leB 4 n)):=by
 refine cC Tryz.func170 rfl (by kernel_rfl) rfl rfl ?_
 intro C
 (refine aA<|rgN<|kas O<|aB<|aA<|rgN<|kmv O<|K.makeSlc (m:=4) (zs:=List.replicate 4 (.int .u8 0)) (sz:=1) (e:=5) (bytes:=1) (zc:=(lo 4 n 0).map bc) O O (by kernel_rfl) (by kernel_rfl) (by decide) O O dO<|kas O<|aB<|aA<|aA<|rgN<|kmv O ?_;refine K.lenSlc O bZ O dO ?_;refine kmv O<|aB<|aG ?_)
 refine cG (fun m σ=>∃ i:Nat,i≤4∧m=4-i∧σ=⟨[(1,Ln .u64 (n:Nat)),(5,.sv (.one (.slc 8 0 4))),(10,Ln .i64 4),(11,Ln .i64 (i:Nat))],[(8,some ⟨5,(lo 4 n i).map bc,false⟩)],X⟩) 4
  ⟨_,Le.of (by exact ⟨rfl,rfl,rfl,rfl,trivial⟩) (by exact ⟨rfl,trivial⟩) (by exact rfl) (by exact rfl) (by repeat' (first|refine bS ?_ ?_|rfl|exact bU|exact bT|exact bV rfl)),0,Nat.zero_le _,rfl,rfl⟩ ?_
 rintro m σ ⟨i,hi,rfl,rfl⟩
 by_cases hlt:i<4
 ·have w8:IntKind.i64.wrap (8*(i:Int))=((8*i:Nat):Int):=by rw [cE (by omega)];omega
  have ed:((n:Nat):Int)/2^(8*i)=((n/256^i:Nat):Int):=by rw [p256,Int.natCast_ediv,Int.natCast_pow];rfl
  have hs:=(shr_s (a:=((n:Nat):Int)) (s:=8*i) (by omega)).trans ed
  have hv:IntKind.u8.wrap ((n/256^i:Nat):Int)=((UInt8.ofNat (n/256^i%256)).toNat:Nat):=by
   rw [UInt8.toNat_ofNat',Nat.mod_eq_of_lt (Nat.mod_lt _ (by decide)),IntKind.wrap_u8]
   omega
  have hbl:Nat.blt (0+i*1) ((lo 4 n i).map bc).length=true:=by rw [lo_len _ _ _ hi,Nat.blt_eq];omega
  (refine aA<|rgN<|klt O O (cL (by omega))<|aB<|aA<|aE O ?_;refine aH ?_;refine aA<|aG<|aA<|rgN<|kmv O<|kas O<|aB<|rgN<|kmv O<|kmv O<|kmv O<|kmv O<|bL O O w8 dO<|bN O O (by omega) hs dO ?_;refine kcv O hv ?_;refine K.indexSlc O O (by omega) O dO ?_;refine bG O O O O hbl (lo_set hlt) dO<|aB<|rgN<|kad O O (cE (by omega))<|kmv O<|aB ?_)
  exact ⟨_,_,by omega,Le.of (by exact ⟨O,O,O,O,trivial⟩) (by exact ⟨O,trivial⟩) (by exact O) (by exact O) (by repeat' (first|refine bS ?_ ?_|rfl|exact bU|exact bT|exact bV O)),i+1,by omega,O,O⟩
 ·have e:i=4:=by omega
  subst e
  have hlen:0+4≤((lo 4 n 4).map bc).length:=by rw [lo_len _ _ _ (dK _)];omega
  have hcut:(((lo 4 n 4).map bc).drop 0).take 4=(leB 4 n).map bc:=by
   rw [List.drop_zero,List.take_of_length_le (by rw [lo_len _ _ _ (dK _)];exact dK _),lo_all]
  (refine aA<|rgN<|klt O O (cK (by omega))<|aB<|aA<|aF O ?_;refine aJ<|aA<|rgN<|kmv O<|bR O O (by kernel_rfl) StrT.u hlen hcut dO<|kas O<|aB<|aI ?_)
  exact ⟨[_],⟨O,trivial⟩,O⟩
theorem low_8 (n:Nat) (hn:n<18446744073709551616):PSpec Tryz.prog X 170 [Ln .i64 8,Ln .u64 (n:Nat)] (Ls (leB 8 n)):=by
 refine cC Tryz.func170 rfl (by kernel_rfl) rfl rfl ?_
 intro C
 (refine aA<|rgN<|kas O<|aB<|aA<|rgN<|kmv O<|K.makeSlc (m:=8) (zs:=List.replicate 8 (.int .u8 0)) (sz:=1) (e:=5) (bytes:=1) (zc:=(lo 8 n 0).map bc) O O (by kernel_rfl) (by kernel_rfl) (by decide) O O dO<|kas O<|aB<|aA<|aA<|rgN<|kmv O ?_;refine K.lenSlc O bZ O dO ?_;refine kmv O<|aB<|aG ?_)
 refine cG (fun m σ=>∃ i:Nat,i≤8∧m=8-i∧σ=⟨[(1,Ln .u64 (n:Nat)),(5,.sv (.one (.slc 8 0 8))),(10,Ln .i64 8),(11,Ln .i64 (i:Nat))],[(8,some ⟨5,(lo 8 n i).map bc,false⟩)],X⟩) 8
  ⟨_,Le.of (by exact ⟨rfl,rfl,rfl,rfl,trivial⟩) (by exact ⟨rfl,trivial⟩) (by exact rfl) (by exact rfl) (by repeat' (first|refine bS ?_ ?_|rfl|exact bU|exact bT|exact bV rfl)),0,Nat.zero_le _,rfl,rfl⟩ ?_
 rintro m σ ⟨i,hi,rfl,rfl⟩
 by_cases hlt:i<8
 ·have w8:IntKind.i64.wrap (8*(i:Int))=((8*i:Nat):Int):=by rw [cE (by omega)];omega
  have ed:((n:Nat):Int)/2^(8*i)=((n/256^i:Nat):Int):=by rw [p256,Int.natCast_ediv,Int.natCast_pow];rfl
  have hs:=(shr_s (a:=((n:Nat):Int)) (s:=8*i) (by omega)).trans ed
  have hv:IntKind.u8.wrap ((n/256^i:Nat):Int)=((UInt8.ofNat (n/256^i%256)).toNat:Nat):=by
   rw [UInt8.toNat_ofNat',Nat.mod_eq_of_lt (Nat.mod_lt _ (by decide)),IntKind.wrap_u8]
   omega
  have hbl:Nat.blt (0+i*1) ((lo 8 n i).map bc).length=true:=by rw [lo_len _ _ _ hi,Nat.blt_eq];omega
  (refine aA<|rgN<|klt O O (cL (by omega))<|aB<|aA<|aE O ?_;refine aH ?_;refine aA<|aG<|aA<|rgN<|kmv O<|kas O<|aB<|rgN<|kmv O<|kmv O<|kmv O<|kmv O<|bL O O w8 dO<|bN O O (by omega) hs dO ?_;refine kcv O hv ?_;refine K.indexSlc O O (by omega) O dO ?_;refine bG O O O O hbl (lo_set hlt) dO<|aB<|rgN<|kad O O (cE (by omega))<|kmv O<|aB ?_)
  exact ⟨_,_,by omega,Le.of (by exact ⟨O,O,O,O,trivial⟩) (by exact ⟨O,trivial⟩) (by exact O) (by exact O) (by repeat' (first|refine bS ?_ ?_|rfl|exact bU|exact bT|exact bV O)),i+1,by omega,O,O⟩
 ·have e:i=8:=by omega
  subst e
  have hlen:0+8≤((lo 8 n 8).map bc).length:=by rw [lo_len _ _ _ (dK _)];omega
  have hcut:(((lo 8 n 8).map bc).drop 0).take 8=(leB 8 n).map bc:=by
   rw [List.drop_zero,List.take_of_length_le (by rw [lo_len _ _ _ (dK _)];exact dK _),lo_all]
  (refine aA<|rgN<|klt O O (cK (by omega))<|aB<|aA<|aF O ?_;refine aJ<|aA<|rgN<|kmv O<|bR O O (by kernel_rfl) StrT.u hlen hcut dO<|kas O<|aB<|aI ?_)
  exact ⟨[_],⟨O,trivial⟩,O⟩
end Go.Proofs.YtopiioklkkiedaaGreatDoor
end
section
namespace Go.Proofs.YtopiioklkkiedaaGreatDoor
open Go Go.Lg
variable (X:Nat→Option Obj)
abbrev w0 (k:Nat):List (Nat×Option Box):=[(k,some ⟨214,[.val (.pointer none),.val (.int .i64 0)],false⟩)]
abbrev w1 (k ks kb:Nat) (l:List UInt8):List (Nat×Option Box):=
 [(k,some ⟨214,[.ptr ks 0,.val (.int .i64 (l.length:Nat))],false⟩),(ks,some ⟨262,[.slc kb 0 l.length],false⟩),(kb,some ⟨5,l.map bc,true⟩)]
theorem String_0:MSpec Tryz.prog X 125 [Lp 1000000] (w0 1000000) (Ls []) (w0 1000000):=by
 refine cD Tryz.func125 rfl (by kernel_rfl) rfl rfl rfl rfl rfl ?_
 intro C
 (refine aA<|rgN<|kas O<|aB<|aA<|aA<|rgN<|kmv O<|K.ptrNil O (by kernel_rfl) (.inl ⟨O,O⟩) dO<|kmv O<|gmv O O O<|bI O (dP O O) ?_;refine aN O O (dP O O) ?_;refine aO O O O (dP O O) ?_;refine K.nilNil O (by kernel_rfl) (.inl ⟨O,O⟩) (dP O O) ?_;refine kpf O O<|aB<|aE O ?_;refine aA<|rgN<|kas O<|aB<|aI ?_)
 exact ⟨[],⟨[_],⟨O,trivial⟩,O⟩,⟨⟨_,O,O⟩,trivial⟩,O,O⟩
theorem String_1 (l:List UInt8):MSpec Tryz.prog X 125 [Lp 1000000] (w1 1000000 1000001 1000002 l) (Ls l) (w1 1000000 1000001 1000002 l):=by
 refine cD Tryz.func125 rfl (by kernel_rfl) rfl rfl (by repeat' (first|refine bS ?_ ?_|rfl|exact bU|exact bT|exact bV rfl)) rfl rfl ?_
 intro C
 have hlen:0+l.length≤(l.map bc).length:=by rw [cT];omega
 have hcut:((l.map bc).drop 0).take l.length=l.map bc:=by rw [List.drop_zero,List.take_of_length_le (by rw [cT];exact dK _)]
 (refine aA<|rgN<|kas O<|aB<|aA<|aA<|rgN<|kmv O<|K.ptrNil O (by kernel_rfl) (.inl ⟨O,O⟩) dO<|kmv O<|gmv O O O<|bI O (dP O O) ?_;refine aN O O (dP O O) ?_;refine aO O O O (dP O O) ?_;refine K.ptrNil O (by kernel_rfl) (.inl ⟨O,O⟩) (dP O O) ?_;refine kpf O O<|aB<|aF O ?_;refine aH ?_;refine aA<|rgD mixed<|kmv O<|bI O dO<|kfa O O ?_;refine kl1 O O O<|bI O dO<|kfa O O ?_;refine kl1 O O O<|kmv O<|bI O dO<|kfa O O ?_;refine kl1 O O O<|K.cutSlc O O bZ (dK _) dO<|bR O O (by kernel_rfl) StrT.u hlen hcut dO<|kas O<|aB<|rgA ?_;refine aI ?_)
 exact ⟨[],⟨[_],⟨rfl,trivial⟩,rfl⟩,(by repeat' (first|exact trivial|refine cM ⟨_,rfl,?_⟩ ?_|refine cM ⟨_,rfl⟩ ?_|rfl|exact bW _ _ _ _|exact bX _ _ _ _|exact bY rfl)),rfl,rfl⟩
theorem WRaw_0 (s:List UInt8) (hs:s.length<1000000000):MSpec Tryz.prog X 169 [Lp 1000000,Ls s] (w0 1000000) (Lb true) (w1 1000000 1000001 1000002 s):=by
 refine cD Tryz.func169 rfl (by kernel_rfl) rfl rfl (by repeat' (first|refine bS ?_ ?_|rfl|exact bU|exact bT|exact bV rfl)) rfl rfl ?_
 intro C
 (refine aA<|rgN<|kas O<|aB<|aA<|aA<|rgN<|kmv O<|K.ptrNil O (by kernel_rfl) (.inl ⟨O,O⟩) dO<|aB<|aF O ?_;refine aH ?_;refine aA<|aA<|rgD mixed<|kmv O<|bI O dO<|kfa O O ?_;refine kl1 O O O<|K.nilNil O (by kernel_rfl) (.inl ⟨O,O⟩) dO<|kmv O<|aC O O O<|aC O O O<|aC O O O<|aC O O O<|aC O O O<|aC O O O<|aC O O O<|aC O O O<|aC O O O<|aC O O O<|aC O O O ?_;refine aC O O O<|aC O O O<|kpt O O<|aB<|rgA ?_;refine aE O ?_;refine rgN<|kmv O<|kmv O<|aU [] (w0 1000000) (String_0 X) O O (by exact (cM ⟨_,O,O⟩ trivial)) (by exact (bS (bS O (bS O O)) O)) O O O O (by exact (.box O O .nil)) dO<|K.strBytes (e:=5) O StrT.u (by kernel_rfl) (by kernel_rfl) O dO<|aT O O (by exact O) (by exact nl1 O O) dO ?_;refine aL O O O dO<|bI O dO<|kfa O O ?_;refine bG O O O O O (nl2 O O O) dO<|aB<|aA<|rgD mixed<|kmv O<|bI O dO<|kfa O O ?_;refine kl1 O O O<|kmv O<|bI O dO<|kfa O O ?_;refine kl1 O O O<|bI O dO<|kfa O O ?_;refine kl1 O O O<|kmv O<|K.appendStr (by_:=1) O O O O (by kernel_rfl) StrT.u (by simp only [dL];omega) (by simp only [dL];omega) O (Nat.zero_add _) (List.nil_append _) dO<|bI O dO<|kfa O O ?_;refine bG O O O O O (nl1 O O) dO<|aB<|rgA ?_;refine aA<|rgN<|kmv O<|kmv O<|bI O dO<|kfa O O ?_;refine kl1 O O O<|bI O dO<|kfa O O ?_;refine kl1 O O O<|K.lenSlc O bZ O dO ?_;refine bI O dO<|kfa O O ?_;refine bG O O O O O (nl2 O O O) dO<|aB<|aA<|rgN<|kas O<|aB<|aI ?_)
 exact ⟨[(1000001,32),(1000002,47)],⟨[_],⟨rfl,trivial⟩,rfl⟩,(by repeat' (first|exact trivial|refine cM ⟨_,rfl,?_⟩ ?_|refine cM ⟨_,rfl⟩ ?_|rfl|exact bW _ _ _ _|exact bX _ _ _ _|exact bY rfl)),rfl,rfl⟩
theorem WRaw_1 (l s:List UInt8) (hs:l.length+s.length<1000000000):MSpec Tryz.prog X 169 [Lp 1000000,Ls s] (w1 1000000 1000001 1000002 l) (Lb true) (w1 1000000 1000001 1000003 (l++s)++[(1000002,none)]):=by
 refine cD Tryz.func169 rfl (by kernel_rfl) rfl rfl (by repeat' (first|refine bS ?_ ?_|rfl|exact bU|exact bT|exact bV rfl)) rfl rfl ?_
 intro C
 ((refine aA<|rgN<|kas O<|aB<|aA<|aA<|rgN<|kmv O<|K.ptrNil O (by kernel_rfl) (.inl ⟨O,O⟩) dO<|aB<|aF O ?_;refine aH ?_;refine aA<|aA<|rgD mixed<|kmv O<|bI O dO<|kfa O O ?_;refine kl1 O O O<|K.ptrNil O (by kernel_rfl) (.inl ⟨O,O⟩) dO<|kmv O<|gmv O O O<|bI O (dP O O) ?_;refine aN O O (dP O O) ?_;refine aO O O O (dP O O) ?_;refine gmv O O O<|bI O (dP O O) ?_;refine aN O O (dP O O) ?_;refine aO O O O (dP O O) ?_;refine bI O (dP O O) ?_;refine aN O O (dP O O) ?_;refine aO O O O (dP O O) ?_);(refine K.lenSlc O bZ O (dP O O) ?_;refine aX O O ((cO (by omega))) (dP O O) ?_;refine kpf O O<|aB<|rgA ?_;refine aF O ?_;refine aH ?_;refine aA<|rgD mixed<|kmv O<|bI O dO<|kfa O O ?_;refine kl1 O O O<|kmv O<|bI O dO<|kfa O O ?_;refine kl1 O O O<|bI O dO<|kfa O O ?_;refine kl1 O O O<|kmv O<|K.appendStr (by_:=1) O O (cT _) O (by kernel_rfl) StrT.u (by omega) (by omega) O (cS).symm (dE).symm dO<|bI O dO<|kfa O O ?_;refine bG O O O O O (nl1 O O) dO<|aB<|rgA ?_;refine aA<|rgN<|kmv O<|kmv O<|bI O dO<|kfa O O ?_;refine kl1 O O O<|bI O dO<|kfa O O ?_);(refine kl1 O O O<|K.lenSlc O bZ O dO ?_;refine bI O dO<|kfa O O ?_;refine bG O O O O O (nl2 O O O) dO<|aB<|aA<|rgN<|kas O<|aB<|aI ?_))
 exact ⟨[(1000003,47)],⟨[_],⟨rfl,trivial⟩,rfl⟩,(by repeat' (first|exact trivial|refine cM ⟨_,rfl,?_⟩ ?_|refine cM ⟨_,rfl⟩ ?_|rfl|exact bW _ _ _ _|exact bX _ _ _ _|exact bY rfl)),rfl,rfl⟩
end Go.Proofs.YtopiioklkkiedaaGreatDoor
end
section
namespace Go.Proofs.YtopiioklkkiedaaGreatDoor
open Go Go.Lg
variable (X:Nat→Option Obj)
theorem oshr_1 (n:Nat):((n:Nat):Int).fdiv (2^(min (((8*1:Nat):Int)).toNat IntKind.u64.bits))=((n/256^1:Nat):Int):=by
 have ed:((n:Nat):Int)/2^(8*1)=((n/256^1:Nat):Int):=by rw [p256,Int.natCast_ediv,Int.natCast_pow];rfl
 exact (shr_s (a:=((n:Nat):Int)) (s:=8*1) (by omega)).trans ed
theorem WNum_0_1 (n:Nat) (hn:n<18446744073709551616) (h:n<256^1):MSpec Tryz.prog X 123 [Lp 1000000,Ln .i64 1,Ln .u64 (n:Nat)] (w0 1000000) (Lb true) (w1 1000000 1000001 1000002 (leB 1 n)):=by
 refine cD Tryz.func123 rfl (by kernel_rfl) rfl rfl (by repeat' (first|refine bS ?_ ?_|rfl|exact bU|exact bT|exact bV rfl)) rfl rfl ?_
 intro C
 have hz:((n/256^1:Nat):Int)=0:=by rw [Nat.div_eq_of_lt h];rfl
 have hs:=(oshr_1 n).trans hz
 (refine aA<|rgN<|kas O<|aB<|aA<|aA<|rgN<|kmv O<|kca O O (isWidth_spec X _ true O)<|aV O O dO<|kmv O<|gmv O O O<|gmv O O O<|bL O O (c:=((8*1:Nat):Int)) O (dP O O) ?_;refine bN O O (by decide) hs (dP O O) ?_;refine aX O O ((cO (by omega))) (dP O O) ?_;refine kpf O O<|aB<|aF O ?_;refine aH ?_;refine aA<|rgN<|kmv O<|kmv O<|kmv O<|kca O O (low_1 X n hn)<|aU [(1000001,501),(1000002,502)] (w1 1000000 501 502 (leB 1 n)) (WRaw_0 X _ (by rw [leB_length];decide)) O O (by exact (cM ⟨_,O,O⟩ trivial)) (by exact (bS (bS O (bS O O)) O)) O O O O (by exact (.box O O (.box O O (.box O O .nil)))) dO<|kas O<|aB<|aI ?_)
 exact ⟨[(1000001,501),(1000002,502)],⟨[_],⟨rfl,trivial⟩,rfl⟩,(by repeat' (first|exact trivial|refine cM ⟨_,rfl,?_⟩ ?_|refine cM ⟨_,rfl⟩ ?_|rfl|exact bW _ _ _ _|exact bX _ _ _ _|exact bY rfl)),rfl,rfl⟩
theorem WNum_1_1 (l:List UInt8) (n:Nat) (hn:n<18446744073709551616) (h:n<256^1) (hl:l.length<900000000):MSpec Tryz.prog X 123 [Lp 1000000,Ln .i64 1,Ln .u64 (n:Nat)] (w1 1000000 1000001 1000002 l) (Lb true) (w1 1000000 1000001 1000003 (l++leB 1 n)++[(1000002,none)]):=by
 refine cD Tryz.func123 rfl (by kernel_rfl) rfl rfl (by repeat' (first|refine bS ?_ ?_|rfl|exact bU|exact bT|exact bV rfl)) rfl rfl ?_
 intro C
 have hz:((n/256^1:Nat):Int)=0:=by rw [Nat.div_eq_of_lt h];rfl
 have hs:=(oshr_1 n).trans hz
 (refine aA<|rgN<|kas O<|aB<|aA<|aA<|rgN<|kmv O<|kca O O (isWidth_spec X _ true O)<|aV O O dO<|kmv O<|gmv O O O<|gmv O O O<|bL O O (c:=((8*1:Nat):Int)) O (dP O O) ?_;refine bN O O (by decide) hs (dP O O) ?_;refine aX O O ((cO (by omega))) (dP O O) ?_;refine kpf O O<|aB<|aF O ?_;refine aH ?_;refine aA<|rgN<|kmv O<|kmv O<|kmv O<|kca O O (low_1 X n hn)<|aU [(1000003,503)] (w1 1000000 1000001 503 (l++leB 1 n)++[(1000002,none)]) (WRaw_1 X l _ (by rw [leB_length];omega)) O O (by exact (cM ⟨_,O,O⟩ (cM ⟨_,O,O⟩ (cM ⟨_,O,(bW _ _ _ _)⟩ trivial)))) (by exact (bS (bS O (bS O O)) (bS (bS O O) (bS bU O)))) O O O O (by exact (.box O O (.box O O (.box O (bW _ _ _ _) (.dead O .nil))))) dO<|kas O<|aB<|aI ?_)
 exact ⟨[(1000003,503)],⟨[_],⟨rfl,trivial⟩,rfl⟩,(by repeat' (first|exact trivial|refine cM ⟨_,rfl,?_⟩ ?_|refine cM ⟨_,rfl⟩ ?_|rfl|exact bW _ _ _ _|exact bX _ _ _ _|exact bY rfl)),rfl,rfl⟩
theorem oshr_2 (n:Nat):((n:Nat):Int).fdiv (2^(min (((8*2:Nat):Int)).toNat IntKind.u64.bits))=((n/256^2:Nat):Int):=by
 have ed:((n:Nat):Int)/2^(8*2)=((n/256^2:Nat):Int):=by rw [p256,Int.natCast_ediv,Int.natCast_pow];rfl
 exact (shr_s (a:=((n:Nat):Int)) (s:=8*2) (by omega)).trans ed
theorem WNum_0_2 (n:Nat) (hn:n<18446744073709551616) (h:n<256^2):MSpec Tryz.prog X 123 [Lp 1000000,Ln .i64 2,Ln .u64 (n:Nat)] (w0 1000000) (Lb true) (w1 1000000 1000001 1000002 (leB 2 n)):=by
 refine cD Tryz.func123 rfl (by kernel_rfl) rfl rfl (by repeat' (first|refine bS ?_ ?_|rfl|exact bU|exact bT|exact bV rfl)) rfl rfl ?_
 intro C
 have hz:((n/256^2:Nat):Int)=0:=by rw [Nat.div_eq_of_lt h];rfl
 have hs:=(oshr_2 n).trans hz
 (refine aA<|rgN<|kas O<|aB<|aA<|aA<|rgN<|kmv O<|kca O O (isWidth_spec X _ true O)<|aV O O dO<|kmv O<|gmv O O O<|gmv O O O<|bL O O (c:=((8*2:Nat):Int)) O (dP O O) ?_;refine bN O O (by decide) hs (dP O O) ?_;refine aX O O ((cO (by omega))) (dP O O) ?_;refine kpf O O<|aB<|aF O ?_;refine aH ?_;refine aA<|rgN<|kmv O<|kmv O<|kmv O<|kca O O (low_2 X n hn)<|aU [(1000001,501),(1000002,502)] (w1 1000000 501 502 (leB 2 n)) (WRaw_0 X _ (by rw [leB_length];decide)) O O (by exact (cM ⟨_,O,O⟩ trivial)) (by exact (bS (bS O (bS O O)) O)) O O O O (by exact (.box O O (.box O O (.box O O .nil)))) dO<|kas O<|aB<|aI ?_)
 exact ⟨[(1000001,501),(1000002,502)],⟨[_],⟨rfl,trivial⟩,rfl⟩,(by repeat' (first|exact trivial|refine cM ⟨_,rfl,?_⟩ ?_|refine cM ⟨_,rfl⟩ ?_|rfl|exact bW _ _ _ _|exact bX _ _ _ _|exact bY rfl)),rfl,rfl⟩
theorem oshr_4 (n:Nat):((n:Nat):Int).fdiv (2^(min (((8*4:Nat):Int)).toNat IntKind.u64.bits))=((n/256^4:Nat):Int):=by
 have ed:((n:Nat):Int)/2^(8*4)=((n/256^4:Nat):Int):=by rw [p256,Int.natCast_ediv,Int.natCast_pow];rfl
 exact (shr_s (a:=((n:Nat):Int)) (s:=8*4) (by omega)).trans ed
theorem WNum_0_4 (n:Nat) (hn:n<18446744073709551616) (h:n<256^4):MSpec Tryz.prog X 123 [Lp 1000000,Ln .i64 4,Ln .u64 (n:Nat)] (w0 1000000) (Lb true) (w1 1000000 1000001 1000002 (leB 4 n)):=by
 refine cD Tryz.func123 rfl (by kernel_rfl) rfl rfl (by repeat' (first|refine bS ?_ ?_|rfl|exact bU|exact bT|exact bV rfl)) rfl rfl ?_
 intro C
 have hz:((n/256^4:Nat):Int)=0:=by rw [Nat.div_eq_of_lt h];rfl
 have hs:=(oshr_4 n).trans hz
 (refine aA<|rgN<|kas O<|aB<|aA<|aA<|rgN<|kmv O<|kca O O (isWidth_spec X _ true O)<|aV O O dO<|kmv O<|gmv O O O<|gmv O O O<|bL O O (c:=((8*4:Nat):Int)) O (dP O O) ?_;refine bN O O (by decide) hs (dP O O) ?_;refine aX O O ((cO (by omega))) (dP O O) ?_;refine kpf O O<|aB<|aF O ?_;refine aH ?_;refine aA<|rgN<|kmv O<|kmv O<|kmv O<|kca O O (low_4 X n hn)<|aU [(1000001,501),(1000002,502)] (w1 1000000 501 502 (leB 4 n)) (WRaw_0 X _ (by rw [leB_length];decide)) O O (by exact (cM ⟨_,O,O⟩ trivial)) (by exact (bS (bS O (bS O O)) O)) O O O O (by exact (.box O O (.box O O (.box O O .nil)))) dO<|kas O<|aB<|aI ?_)
 exact ⟨[(1000001,501),(1000002,502)],⟨[_],⟨rfl,trivial⟩,rfl⟩,(by repeat' (first|exact trivial|refine cM ⟨_,rfl,?_⟩ ?_|refine cM ⟨_,rfl⟩ ?_|rfl|exact bW _ _ _ _|exact bX _ _ _ _|exact bY rfl)),rfl,rfl⟩
theorem oshr_8 (n:Nat):((n:Nat):Int).fdiv (2^(min (((8*8:Nat):Int)).toNat IntKind.u64.bits))=((n/256^8:Nat):Int):=by
 have ed:((n:Nat):Int)/2^(8*8)=((n/256^8:Nat):Int):=by rw [p256,Int.natCast_ediv,Int.natCast_pow];rfl
 exact (shr_s (a:=((n:Nat):Int)) (s:=8*8) (by omega)).trans ed
theorem WNum_0_8 (n:Nat) (hn:n<18446744073709551616) (h:n<256^8):MSpec Tryz.prog X 123 [Lp 1000000,Ln .i64 8,Ln .u64 (n:Nat)] (w0 1000000) (Lb true) (w1 1000000 1000001 1000002 (leB 8 n)):=by
 refine cD Tryz.func123 rfl (by kernel_rfl) rfl rfl (by repeat' (first|refine bS ?_ ?_|rfl|exact bU|exact bT|exact bV rfl)) rfl rfl ?_
 intro C
 have hz:((n/256^8:Nat):Int)=0:=by rw [Nat.div_eq_of_lt h];rfl
 have hs:=(oshr_8 n).trans hz
 (refine aA<|rgN<|kas O<|aB<|aA<|aA<|rgN<|kmv O<|kca O O (isWidth_spec X _ true O)<|aV O O dO<|kmv O<|gmv O O O<|gmv O O O<|bL O O (c:=((8*8:Nat):Int)) O (dP O O) ?_;refine bN O O (by decide) hs (dP O O) ?_;refine aX O O ((cO (by omega))) (dP O O) ?_;refine kpf O O<|aB<|aF O ?_;refine aH ?_;refine aA<|rgN<|kmv O<|kmv O<|kmv O<|kca O O (low_8 X n hn)<|aU [(1000001,501),(1000002,502)] (w1 1000000 501 502 (leB 8 n)) (WRaw_0 X _ (by rw [leB_length];decide)) O O (by exact (cM ⟨_,O,O⟩ trivial)) (by exact (bS (bS O (bS O O)) O)) O O O O (by exact (.box O O (.box O O (.box O O .nil)))) dO<|kas O<|aB<|aI ?_)
 exact ⟨[(1000001,501),(1000002,502)],⟨[_],⟨rfl,trivial⟩,rfl⟩,(by repeat' (first|exact trivial|refine cM ⟨_,rfl,?_⟩ ?_|refine cM ⟨_,rfl⟩ ?_|rfl|exact bW _ _ _ _|exact bX _ _ _ _|exact bY rfl)),rfl,rfl⟩
theorem WNum_1_8 (l:List UInt8) (n:Nat) (hn:n<18446744073709551616) (h:n<256^8) (hl:l.length<900000000):MSpec Tryz.prog X 123 [Lp 1000000,Ln .i64 8,Ln .u64 (n:Nat)] (w1 1000000 1000001 1000002 l) (Lb true) (w1 1000000 1000001 1000003 (l++leB 8 n)++[(1000002,none)]):=by
 refine cD Tryz.func123 rfl (by kernel_rfl) rfl rfl (by repeat' (first|refine bS ?_ ?_|rfl|exact bU|exact bT|exact bV rfl)) rfl rfl ?_
 intro C
 have hz:((n/256^8:Nat):Int)=0:=by rw [Nat.div_eq_of_lt h];rfl
 have hs:=(oshr_8 n).trans hz
 (refine aA<|rgN<|kas O<|aB<|aA<|aA<|rgN<|kmv O<|kca O O (isWidth_spec X _ true O)<|aV O O dO<|kmv O<|gmv O O O<|gmv O O O<|bL O O (c:=((8*8:Nat):Int)) O (dP O O) ?_;refine bN O O (by decide) hs (dP O O) ?_;refine aX O O ((cO (by omega))) (dP O O) ?_;refine kpf O O<|aB<|aF O ?_;refine aH ?_;refine aA<|rgN<|kmv O<|kmv O<|kmv O<|kca O O (low_8 X n hn)<|aU [(1000003,503)] (w1 1000000 1000001 503 (l++leB 8 n)++[(1000002,none)]) (WRaw_1 X l _ (by rw [leB_length];omega)) O O (by exact (cM ⟨_,O,O⟩ (cM ⟨_,O,O⟩ (cM ⟨_,O,(bW _ _ _ _)⟩ trivial)))) (by exact (bS (bS O (bS O O)) (bS (bS O O) (bS bU O)))) O O O O (by exact (.box O O (.box O O (.box O (bW _ _ _ _) (.dead O .nil))))) dO<|kas O<|aB<|aI ?_)
 exact ⟨[(1000003,503)],⟨[_],⟨rfl,trivial⟩,rfl⟩,(by repeat' (first|exact trivial|refine cM ⟨_,rfl,?_⟩ ?_|refine cM ⟨_,rfl⟩ ?_|rfl|exact bW _ _ _ _|exact bX _ _ _ _|exact bY rfl)),rfl,rfl⟩
end Go.Proofs.YtopiioklkkiedaaGreatDoor
end
section
namespace Go.Proofs.YtopiioklkkiedaaGreatDoor
open Go Go.Lg
variable (X:Nat→Option Obj)
theorem rlen (l:List UInt8):(⟨l.toArray⟩:ByteArray).size=l.length:=rfl
theorem Left_spec (l:List UInt8) (b:Bool):MSpec Tryz.prog X 205 [Lp 1000000] (rd 1000000 l b) (Ln .i64 (if b=true then 0 else (l.length:Nat))) (rd 1000000 l b):=by
 refine cD Tryz.func205 rfl (by kernel_rfl) rfl rfl rfl rfl rfl ?_
 intro C
 cases b with
 | false =>
  (refine aA<|rgN<|kas O<|aB<|aA<|aA<|rgN<|kmv O<|aU [] (rd 1000000 l false) (Bad_spec X l false) O O (by exact (cM ⟨_,O,O⟩ trivial)) (by exact (bS (bS O (bS O O)) O)) O O O O (by exact (.box O O .nil)) dO<|aB<|aF O ?_;refine aH ?_;refine aA<|rgN<|kmv O<|bI O dO<|kfa O O ?_;refine kl1 O O O<|kln O<|kas O<|aB<|aI ?_)
  exact ⟨[],⟨[_],⟨O,trivial⟩,O⟩,⟨⟨_,O,O⟩,trivial⟩,O,O⟩
 | true =>
  (refine aA<|rgN<|kas O<|aB<|aA<|aA<|rgN<|kmv O<|aU [] (rd 1000000 l true) (Bad_spec X l true) O O (by exact (cM ⟨_,O,O⟩ trivial)) (by exact (bS (bS O (bS O O)) O)) O O O O (by exact (.box O O .nil)) dO<|aB<|aE O ?_;refine aA<|rgN<|kas O<|aB<|aI ?_)
  exact ⟨[],⟨[_],⟨O,trivial⟩,O⟩,⟨⟨_,O,O⟩,trivial⟩,O,O⟩
theorem Done_spec (l:List UInt8) (b:Bool) (e:Bool) (he:(l==[])=e):MSpec Tryz.prog X 121 [Lp 1000000] (rd 1000000 l b) (Lb (!b&&e)) (rd 1000000 l b):=by
 refine cD Tryz.func121 rfl (by kernel_rfl) rfl rfl rfl rfl rfl ?_
 intro C
 cases b with
 | false =>
  (refine aA<|rgN<|kas O<|aB<|aA<|rgN<|kmv O<|aU [] (rd 1000000 l false) (Bad_spec X l false) O O (by exact (cM ⟨_,O,O⟩ trivial)) (by exact (bS (bS O (bS O O)) O)) O O O O (by exact (.box O O .nil)) dO<|aV O O dO<|kmv O<|gmv O O O<|bI O (dP O O) ?_;refine aN O O (dP O O) ?_;refine aO O O O (dP O O) ?_;refine K.strEq O O (strs_eq he) (dP O O) ?_;refine kpt O O<|kas O<|aB<|aI ?_)
  exact ⟨[],⟨[_],⟨O,trivial⟩,O⟩,⟨⟨_,O,O⟩,trivial⟩,O,O⟩
 | true =>
  (refine aA<|rgN<|kas O<|aB<|aA<|rgN<|kmv O<|aU [] (rd 1000000 l true) (Bad_spec X l true) O O (by exact (cM ⟨_,O,O⟩ trivial)) (by exact (bS (bS O (bS O O)) O)) O O O O (by exact (.box O O .nil)) dO<|aV O O dO<|kmv O<|aC O O O<|aC O O O<|aC O O O<|aC O O O ?_;refine aC O O O<|kpf O O<|kas O<|aB<|aI ?_)
  exact ⟨[],⟨[_],⟨O,trivial⟩,O⟩,⟨⟨_,O,O⟩,trivial⟩,O,O⟩
theorem Raw_ok (l:List UInt8) (n:Nat) (hn:n≤l.length) (hl:l.length<4611686018427387904):MSpec Tryz.prog X 160 [Lp 1000000,Ln .i64 (n:Nat)] (rd 1000000 l false) (Ls (l.take n)) (rd 1000000 (l.drop n) false):=by
 refine cD Tryz.func160 rfl (by kernel_rfl) rfl rfl rfl rfl rfl ?_
 intro C
 have hz:=rlen l
 have c1:(⟨l.toArray⟩:ByteArray).extract 0 n=⟨(l.take n).toArray⟩:=by rw [str_cut,List.drop_zero,Nat.sub_zero]
 have c2:(⟨l.toArray⟩:ByteArray).extract n (⟨l.toArray⟩:ByteArray).size=⟨(l.drop n).toArray⟩:=by
  rw [str_cut,hz,List.take_of_length_le (by rw [cX];exact dK _)]
 have hL:=Left_spec X l false
 rw [if_neg (by simp)] at hL
 (refine aA<|rgN<|kas O<|aB<|aA<|aA<|rgN<|kmv O<|klt O O (cK (by omega))<|kmv O<|gmv O O O<|gmv O O O<|aU [] (rd 1000000 l false) (hL) O O (by exact (cM ⟨_,O,O⟩ trivial)) (by exact (bS (bS O (bS O O)) O)) O O O O (by exact (.box O O .nil)) (dP O O) ?_;refine aS O O (cK (by omega)) (dP O O) ?_;refine kpf O O<|aB<|aF O ?_;refine aH ?_;refine aA<|aA<|rgN<|kmv O<|aU [] (rd 1000000 l false) (Bad_spec X l false) O O (by exact (cM ⟨_,O,O⟩ trivial)) (by exact (bS (bS O (bS O O)) O)) O O O O (by exact (.box O O .nil)) dO<|aB<|aF O ?_;refine aH ?_;refine aA<|rgN<|kmv O<|bI O dO<|kfa O O ?_;refine kl1 O O O<|kmv O<|bM (l:=0) (h:=n) (kl:=.i64) (kh:=.i64) O StrT.u O O ⟨(by omega),(by omega)⟩ c1 dO<|kas O<|aB<|aA<|rgN<|kmv O<|kmv O<|bI O dO<|kfa O O ?_;refine kl1 O O O<|kmv O<|bM (l:=n) (h:=(⟨l.toArray⟩:ByteArray).size) (kl:=.i64) (kh:=.i64) O StrT.u O O ⟨(by omega),(by omega)⟩ c2 dO<|bI O dO<|kfa O O ?_;refine bG O O O O O (nl2 O O O) dO<|aB<|aA<|rgN<|kmv O<|kas O<|aB<|aI ?_)
 exact ⟨[],⟨[_],⟨O,trivial⟩,O⟩,⟨⟨_,O,O⟩,trivial⟩,O,O⟩
end Go.Proofs.YtopiioklkkiedaaGreatDoor
end
section
namespace Go.Proofs.YtopiioklkkiedaaGreatDoor
open Go Go.Lg
variable (X:Nat→Option Obj)
theorem isW_bound {n:Int} (h:isW n=true):1≤n∧n≤8:=by
 unfold isW at h
 simp only [Bool.or_eq_true,decide_eq_true_eq] at h
 omega
theorem Num_ok (l:List UInt8) (w:Nat) (hw:isW (w:Int)=true) (hn:w≤l.length) (hl:l.length<4611686018427387904):MSpec Tryz.prog X 120 [Lp 1000000,Ln .i64 (w:Nat)] (rd 1000000 l false) (Ln .u64 (le (l.take w):Nat)) (rd 1000000 (l.drop w) false):=by
 have hb:=isW_bound hw
 refine cD Tryz.func120 rfl (by kernel_rfl) rfl rfl rfl rfl rfl ?_
 intro C
 (refine aA<|rgN<|kas O<|aB<|aA<|aA<|rgN<|kmv O<|kca O O (isWidth_spec X _ true hw)<|aV O O dO<|aB<|aF O ?_;refine aH ?_;refine aA<|rgN<|kmv O<|kmv O<|aU [] (rd 1000000 (l.drop w) false) (Raw_ok X l w hn hl) O O (by exact (cM ⟨_,O,O⟩ trivial)) (by exact (bS (bS O (bS O O)) O)) O O O O (by exact (.box O O .nil)) dO<|kca O O (onumber_spec X _ (by rw [cW];omega))<|kas O<|aB<|aI ?_)
 exact ⟨[],⟨[_],⟨O,trivial⟩,O⟩,⟨⟨_,O,O⟩,trivial⟩,O,O⟩
end Go.Proofs.YtopiioklkkiedaaGreatDoor
end
section
namespace Go.Lg.Fld
open Go Go.Lg
def kN (k:Int):List UInt8:=if k=1 then [98,111,111,108] else if k=2 then [105,56] else if k=3 then [105,49,54] else if k=4 then [105,51,50] else if k=5 then [105,54,52] else if k=6 then [117,56] else if k=7 then [117,49,54] else if k=8 then [117,51,50] else if k=9 then [117,54,52] else if k=10 then [114,101,102] else []
def kW (k:Int):Nat:=if k=1 then 1 else if k=2 then 1 else if k=3 then 2 else if k=4 then 4 else if k=5 then 8 else if k=6 then 1 else if k=7 then 2 else if k=8 then 4 else if k=9 then 8 else if k=10 then 8 else 0
def kB (k:Int):Int:=if k=1 then 0 else if k=2 then 128 else if k=3 then 32768 else if k=4 then 2147483648 else if k=5 then 9223372036854775808 else if k=6 then 0 else if k=7 then 0 else if k=8 then 0 else if k=9 then 0 else if k=10 then 0 else 0
def kA (k:Int):Int:=if k=1 then 1 else if k=2 then 127 else if k=3 then 32767 else if k=4 then 2147483647 else if k=5 then 9223372036854775807 else if k=6 then 255 else if k=7 then 65535 else if k=8 then 4294967295 else if k=9 then 18446744073709551615 else if k=10 then 18446744073709551615 else 0
def kK (k:Int):Bool:=decide (1≤k)&&decide (k≤10)
theorem kcases (k:Int):k=1∨k=2∨k=3∨k=4∨k=5∨k=6∨k=7∨k=8∨k=9∨k=10∨(k<1∨10<k):=by omega
theorem kin {k:Int} (h:kK k=true):k=1∨k=2∨k=3∨k=4∨k=5∨k=6∨k=7∨k=8∨k=9∨k=10:=by
 simp only [kK,Bool.and_eq_true,decide_eq_true_eq] at h;omega
theorem knot {k:Int} (h:kK k=false):k<1∨10<k:=by
 by_cases h1:1≤k<;>by_cases h2:k≤10<;>first|omega|(rw [kK,cL h1,cL h2] at h;cases h)
theorem kN_no {k:Int} (h:k<1∨10<k):kN k=[]:=by
 unfold kN
 rw [if_neg (show ¬ k=1 by omega),if_neg (show ¬ k=2 by omega),if_neg (show ¬ k=3 by omega),if_neg (show ¬ k=4 by omega),if_neg (show ¬ k=5 by omega),if_neg (show ¬ k=6 by omega),if_neg (show ¬ k=7 by omega),if_neg (show ¬ k=8 by omega),if_neg (show ¬ k=9 by omega),if_neg (show ¬ k=10 by omega)]
theorem kW_no {k:Int} (h:k<1∨10<k):kW k=0:=by
 unfold kW
 rw [if_neg (show ¬ k=1 by omega),if_neg (show ¬ k=2 by omega),if_neg (show ¬ k=3 by omega),if_neg (show ¬ k=4 by omega),if_neg (show ¬ k=5 by omega),if_neg (show ¬ k=6 by omega),if_neg (show ¬ k=7 by omega),if_neg (show ¬ k=8 by omega),if_neg (show ¬ k=9 by omega),if_neg (show ¬ k=10 by omega)]
theorem kB_no {k:Int} (h:k<1∨10<k):kB k=0:=by
 unfold kB
 rw [if_neg (show ¬ k=1 by omega),if_neg (show ¬ k=2 by omega),if_neg (show ¬ k=3 by omega),if_neg (show ¬ k=4 by omega),if_neg (show ¬ k=5 by omega),if_neg (show ¬ k=6 by omega),if_neg (show ¬ k=7 by omega),if_neg (show ¬ k=8 by omega),if_neg (show ¬ k=9 by omega),if_neg (show ¬ k=10 by omega)]
theorem kA_no {k:Int} (h:k<1∨10<k):kA k=0:=by
 unfold kA
 rw [if_neg (show ¬ k=1 by omega),if_neg (show ¬ k=2 by omega),if_neg (show ¬ k=3 by omega),if_neg (show ¬ k=4 by omega),if_neg (show ¬ k=5 by omega),if_neg (show ¬ k=6 by omega),if_neg (show ¬ k=7 by omega),if_neg (show ¬ k=8 by omega),if_neg (show ¬ k=9 by omega),if_neg (show ¬ k=10 by omega)]
theorem kfacts (k:Int):0≤kB k∧kB k≤9223372036854775808∧0≤kA k∧kA k<18446744073709551616∧kW k≤8:=by
 rcases kcases k with rfl|rfl|rfl|rfl|rfl|rfl|rfl|rfl|rfl|rfl|h
 all_goals first|(rw [kW_no h,kB_no h,kA_no h];omega)|decide
theorem kW_in {k:Int} (h:kK k=true):kW k=1∨kW k=2∨kW k=4∨kW k=8:=by
 rcases kin h with rfl|rfl|rfl|rfl|rfl|rfl|rfl|rfl|rfl|rfl<;>decide
theorem kW_zero (k:Int):kW k=0↔kK k=false:=by
 cases h:kK k with
 | false=>simp [kW_no (knot h)]
 | true=>rcases kW_in h with e|e|e|e<;>simp [e]
end Go.Lg.Fld
namespace Go.Proofs.YtopiioklkkiedaaGreatDoor
open Go Go.Lg Go.Lg.Fld
set_option maxRecDepth 100000
variable (X:Nat→Option Obj)
theorem shapeOf_spec (k:Int):PSpec Tryz.prog X 154 [Ln .i64 k] (.sv (.agg [.val (.string ⟨(kN k).toArray⟩),.val (.int .i64 (kW k:Nat)),.val (.int .u64 (kB k)),.val (.int .u64 (kA k))])):=by
 refine cC Tryz.func154 rfl (by kernel_rfl) rfl rfl ?_
 intro C
 rcases kcases k with rfl|rfl|rfl|rfl|rfl|rfl|rfl|rfl|rfl|rfl|h
 ·(refine aA<|rgN<|aP O dO ?_;refine aB<|aA<|aA<|rgN<|kmv O<|aB<|aG<|aA<|rgN<|keq O O (cR (by omega))<|kas O<|aB<|aE O ?_;refine aA<|rgN<|aT O O (by exact O) (by exact nl4 O O O O O) dO ?_;refine aM O O O O O O dO ?_;refine aB<|aI ?_)
  exact ⟨[_],⟨⟨_,_,O,O,O,.inl ⟨AggT.h,O⟩⟩,trivial⟩,O⟩
 ·(refine aA<|rgN<|aP O dO ?_;refine aB<|aA<|aA<|rgN<|kmv O<|aB<|aG<|aA<|rgN<|keq O O (cN (by omega))<|kas O<|aB<|aF O ?_;refine aA<|rgN<|keq O O (cR (by omega))<|kas O<|aB<|aE O ?_;refine aA<|rgN<|aT O O (by exact O) (by exact nl4 O O O O O) dO ?_;refine aM O O O O O O dO ?_;refine aB<|aI ?_)
  exact ⟨[_],⟨⟨_,_,O,O,O,.inl ⟨AggT.h,O⟩⟩,trivial⟩,O⟩
 ·(refine aA<|rgN<|aP O dO ?_;refine aB<|aA<|aA<|rgN<|kmv O<|aB<|aG<|aA<|rgN<|keq O O (cN (by omega))<|kas O<|aB<|aF O ?_;refine aA<|rgN<|keq O O (cN (by omega))<|kas O<|aB<|aF O ?_;refine aA<|rgN<|keq O O (cR (by omega))<|kas O<|aB<|aE O ?_;refine aA<|rgN<|aT O O (by exact O) (by exact nl4 O O O O O) dO ?_;refine aM O O O O O O dO ?_;refine aB<|aI ?_)
  exact ⟨[_],⟨⟨_,_,O,O,O,.inl ⟨AggT.h,O⟩⟩,trivial⟩,O⟩
 ·(refine aA<|rgN<|aP O dO ?_;refine aB<|aA<|aA<|rgN<|kmv O<|aB<|aG<|aA<|rgN<|keq O O (cN (by omega))<|kas O<|aB<|aF O ?_;refine aA<|rgN<|keq O O (cN (by omega))<|kas O<|aB<|aF O ?_;refine aA<|rgN<|keq O O (cN (by omega))<|kas O<|aB<|aF O ?_;refine aA<|rgN<|keq O O (cR (by omega))<|kas O<|aB<|aE O ?_;refine aA<|rgN<|aT O O (by exact O) (by exact nl4 O O O O O) dO ?_;refine aM O O O O O O dO ?_;refine aB<|aI ?_)
  exact ⟨[_],⟨⟨_,_,O,O,O,.inl ⟨AggT.h,O⟩⟩,trivial⟩,O⟩
 ·(refine aA<|rgN<|aP O dO ?_;refine aB<|aA<|aA<|rgN<|kmv O<|aB<|aG<|aA<|rgN<|keq O O (cN (by omega))<|kas O<|aB<|aF O ?_;refine aA<|rgN<|keq O O (cN (by omega))<|kas O<|aB<|aF O ?_;refine aA<|rgN<|keq O O (cN (by omega))<|kas O<|aB<|aF O ?_;refine aA<|rgN<|keq O O (cN (by omega))<|kas O<|aB<|aF O ?_;refine aA<|rgN<|keq O O (cR (by omega))<|kas O<|aB<|aE O ?_;refine aA<|rgN<|aT O O (by exact O) (by exact nl4 O O O O O) dO ?_;refine aM O O O O O O dO ?_;refine aB<|aI ?_)
  exact ⟨[_],⟨⟨_,_,O,O,O,.inl ⟨AggT.h,O⟩⟩,trivial⟩,O⟩
 ·(refine aA<|rgN<|aP O dO ?_;refine aB<|aA<|aA<|rgN<|kmv O<|aB<|aG<|aA<|rgN<|keq O O (cN (by omega))<|kas O<|aB<|aF O ?_;refine aA<|rgN<|keq O O (cN (by omega))<|kas O<|aB<|aF O ?_;refine aA<|rgN<|keq O O (cN (by omega))<|kas O<|aB<|aF O ?_;refine aA<|rgN<|keq O O (cN (by omega))<|kas O<|aB<|aF O ?_;refine aA<|rgN<|keq O O (cN (by omega))<|kas O<|aB<|aF O ?_;refine aA<|rgN<|keq O O (cR (by omega))<|kas O<|aB<|aE O ?_;refine aA<|rgN<|aT O O (by exact O) (by exact nl4 O O O O O) dO ?_;refine aM O O O O O O dO ?_;refine aB<|aI ?_)
  exact ⟨[_],⟨⟨_,_,O,O,O,.inl ⟨AggT.h,O⟩⟩,trivial⟩,O⟩
 ·(refine aA<|rgN<|aP O dO ?_;refine aB<|aA<|aA<|rgN<|kmv O<|aB<|aG<|aA<|rgN<|keq O O (cN (by omega))<|kas O<|aB<|aF O ?_;refine aA<|rgN<|keq O O (cN (by omega))<|kas O<|aB<|aF O ?_;refine aA<|rgN<|keq O O (cN (by omega))<|kas O<|aB<|aF O ?_;refine aA<|rgN<|keq O O (cN (by omega))<|kas O<|aB<|aF O ?_;refine aA<|rgN<|keq O O (cN (by omega))<|kas O<|aB<|aF O ?_;refine aA<|rgN<|keq O O (cN (by omega))<|kas O<|aB<|aF O ?_;refine aA<|rgN<|keq O O (cR (by omega))<|kas O<|aB<|aE O ?_;refine aA<|rgN<|aT O O (by exact O) (by exact nl4 O O O O O) dO ?_;refine aM O O O O O O dO ?_;refine aB<|aI ?_)
  exact ⟨[_],⟨⟨_,_,O,O,O,.inl ⟨AggT.h,O⟩⟩,trivial⟩,O⟩
 ·(refine aA<|rgN<|aP O dO ?_;refine aB<|aA<|aA<|rgN<|kmv O<|aB<|aG<|aA<|rgN<|keq O O (cN (by omega))<|kas O<|aB<|aF O ?_;refine aA<|rgN<|keq O O (cN (by omega))<|kas O<|aB<|aF O ?_;refine aA<|rgN<|keq O O (cN (by omega))<|kas O<|aB<|aF O ?_;refine aA<|rgN<|keq O O (cN (by omega))<|kas O<|aB<|aF O ?_;refine aA<|rgN<|keq O O (cN (by omega))<|kas O<|aB<|aF O ?_;refine aA<|rgN<|keq O O (cN (by omega))<|kas O<|aB<|aF O ?_;refine aA<|rgN<|keq O O (cN (by omega))<|kas O<|aB<|aF O ?_;refine aA<|rgN<|keq O O (cR (by omega))<|kas O<|aB<|aE O ?_;refine aA<|rgN<|aT O O (by exact O) (by exact nl4 O O O O O) dO ?_;refine aM O O O O O O dO ?_;refine aB<|aI ?_)
  exact ⟨[_],⟨⟨_,_,O,O,O,.inl ⟨AggT.h,O⟩⟩,trivial⟩,O⟩
 ·(refine aA<|rgN<|aP O dO ?_;refine aB<|aA<|aA<|rgN<|kmv O<|aB<|aG<|aA<|rgN<|keq O O (cN (by omega))<|kas O<|aB<|aF O ?_;refine aA<|rgN<|keq O O (cN (by omega))<|kas O<|aB<|aF O ?_;refine aA<|rgN<|keq O O (cN (by omega))<|kas O<|aB<|aF O ?_;refine aA<|rgN<|keq O O (cN (by omega))<|kas O<|aB<|aF O ?_;refine aA<|rgN<|keq O O (cN (by omega))<|kas O<|aB<|aF O ?_;refine aA<|rgN<|keq O O (cN (by omega))<|kas O<|aB<|aF O ?_;refine aA<|rgN<|keq O O (cN (by omega))<|kas O<|aB<|aF O ?_;refine aA<|rgN<|keq O O (cN (by omega))<|kas O<|aB<|aF O ?_;refine aA<|rgN<|keq O O (cR (by omega))<|kas O<|aB<|aE O ?_;refine aA<|rgN<|aT O O (by exact O) (by exact nl4 O O O O O) dO ?_;refine aM O O O O O O dO ?_;refine aB<|aI ?_)
  exact ⟨[_],⟨⟨_,_,O,O,O,.inl ⟨AggT.h,O⟩⟩,trivial⟩,O⟩
 ·(refine aA<|rgN<|aP O dO ?_;refine aB<|aA<|aA<|rgN<|kmv O<|aB<|aG<|aA<|rgN<|keq O O (cN (by omega))<|kas O<|aB<|aF O ?_;refine aA<|rgN<|keq O O (cN (by omega))<|kas O<|aB<|aF O ?_;refine aA<|rgN<|keq O O (cN (by omega))<|kas O<|aB<|aF O ?_;refine aA<|rgN<|keq O O (cN (by omega))<|kas O<|aB<|aF O ?_;refine aA<|rgN<|keq O O (cN (by omega))<|kas O<|aB<|aF O ?_;refine aA<|rgN<|keq O O (cN (by omega))<|kas O<|aB<|aF O ?_;refine aA<|rgN<|keq O O (cN (by omega))<|kas O<|aB<|aF O ?_;refine aA<|rgN<|keq O O (cN (by omega))<|kas O<|aB<|aF O ?_;refine aA<|rgN<|keq O O (cN (by omega))<|kas O<|aB<|aF O ?_;refine aA<|rgN<|keq O O (cR (by omega))<|kas O<|aB<|aE O ?_;refine aA<|rgN<|aT O O (by exact O) (by exact nl4 O O O O O) dO ?_;refine aM O O O O O O dO ?_;refine aB<|aI ?_)
  exact ⟨[_],⟨⟨_,_,O,O,O,.inl ⟨AggT.h,O⟩⟩,trivial⟩,O⟩
 ·rw [kN_no h,kW_no h,kB_no h,kA_no h]
  (refine aA<|rgN<|aP O dO ?_;refine aB<|aA<|aA<|rgN<|kmv O<|aB<|aG<|aA<|rgN<|keq O O (cN (by omega))<|kas O<|aB<|aF O ?_;refine aA<|rgN<|keq O O (cN (by omega))<|kas O<|aB<|aF O ?_;refine aA<|rgN<|keq O O (cN (by omega))<|kas O<|aB<|aF O ?_;refine aA<|rgN<|keq O O (cN (by omega))<|kas O<|aB<|aF O ?_;refine aA<|rgN<|keq O O (cN (by omega))<|kas O<|aB<|aF O ?_;refine aA<|rgN<|keq O O (cN (by omega))<|kas O<|aB<|aF O ?_;refine aA<|rgN<|keq O O (cN (by omega))<|kas O<|aB<|aF O ?_;refine aA<|rgN<|keq O O (cN (by omega))<|kas O<|aB<|aF O ?_;refine aA<|rgN<|keq O O (cN (by omega))<|kas O<|aB<|aF O ?_;refine aA<|rgN<|keq O O (cN (by omega))<|kas O<|aB<|aF O ?_;refine aH ?_;refine aA<|rgN<|aT O O (by exact O) (by exact nl4 O O O O O) dO ?_;refine aM O O O O O O dO ?_;refine aB<|aI ?_)
  exact ⟨[_],⟨⟨_,_,O,O,O,.inl ⟨AggT.h,O⟩⟩,trivial⟩,O⟩
theorem fSize_spec (k:Int):PSpec Tryz.prog X 116 [Ln .i64 k] (Ln .i64 (kW k:Nat)):=by
 refine cC Tryz.func116 rfl (by kernel_rfl) rfl rfl ?_
 intro C
 (refine aA<|rgN<|kas O<|aB<|aA<|rgN<|kmv O<|kca O O (shapeOf_spec X k)<|K.fieldOne O Tryz.underlying245 O (by kernel_rfl) O dO<|kas O<|aB<|aI ?_)
 exact ⟨[_],⟨O,trivial⟩,O⟩
theorem OfWord_q (n:Int) (hn:0≤n∧n<18446744073709551616):PSpec Tryz.prog X 64 [Ln .u64 n] (LQ n):=by
 have h:=OfWord_spec X n
 unfold LQ LI
 rw [mg_pos hn.1,cK (by omega),show n/18446744073709551616=0 by omega,show n%18446744073709551616=n by omega]
 exact h
theorem Greatest_spec (k:Int):PSpec Tryz.prog X 149 [Ln .i64 k] (LQ (kA k)):=by
 obtain ⟨_,_,h2,h3,_⟩:=kfacts k
 refine cC Tryz.func149 rfl (by kernel_rfl) rfl rfl ?_
 intro C
 (refine aA<|rgN<|aP O dO ?_;refine aB<|aA<|rgN<|kmv O<|kca O O (shapeOf_spec X k)<|K.fieldOne O Tryz.underlying245 O (by kernel_rfl) O dO<|kca O O (OfWord_q X (kA k) ⟨h2,h3⟩)<|aM O O O O O O dO ?_;refine aB<|aI ?_)
 exact ⟨[_],⟨⟨_,_,O,O,O,.inl ⟨AggT.h,O⟩⟩,trivial⟩,O⟩
theorem kB_R (k:Int):R127 (kB k):=by
 have:=kfacts k
 unfold R127;omega
theorem kBn_R (k:Int):R127 (-kB k):=by
 have:=kfacts k
 unfold R127;omega
theorem kA_R (k:Int):R127 (kA k):=by
 have:=kfacts k
 unfold R127;omega
theorem Least_spec (k:Int):PSpec Tryz.prog X 148 [Ln .i64 k] (LQ (-kB k)):=by
 obtain ⟨h0,h1,_⟩:=kfacts k
 refine cC Tryz.func148 rfl (by kernel_rfl) rfl rfl ?_
 intro C
 (refine aA<|rgN<|aP O dO ?_;refine aB<|aA<|rgN<|kmv O<|kca O O (shapeOf_spec X k)<|K.fieldOne O Tryz.underlying245 O (by kernel_rfl) O dO<|kca O O (OfWord_q X (kB k) ⟨h0,by omega⟩)<|kca O O (Neg_q X (kB k) (kB_R k))<|aM O O O O O O dO ?_;refine aB<|aI ?_)
 exact ⟨[_],⟨⟨_,_,O,O,O,.inl ⟨AggT.h,O⟩⟩,trivial⟩,O⟩
theorem isKind_spec (k:Int) (r:Bool) (hr:kK k=r):PSpec Tryz.prog X 107 [Ln .i64 k] (Lb r):=by
 subst hr
 refine cC Tryz.func107 rfl (by kernel_rfl) rfl rfl ?_
 intro C
 by_cases h1:1≤k
 ·(refine aA<|rgN<|kas O<|aB<|aA<|rgN<|kmv O<|K.leq O O (cL (by omega)) dO<|kmv O<|gmv O O O<|K.leq O O O (dP O O) ?_;refine kpt O O<|kas O<|aB<|aI ?_)
  exact ⟨[_],⟨rfl,trivial⟩,by unfold kK;rw [cL h1];rfl⟩
 ·(refine aA<|rgN<|kas O<|aB<|aA<|rgN<|kmv O<|K.leq O O (cK (by omega)) dO<|kmv O<|aC O O O<|aC O O O<|kpf O O<|kas O<|aB ?_;refine aI ?_)
  exact ⟨[_],⟨rfl,trivial⟩,by unfold kK;rw [cK h1];rfl⟩
end Go.Proofs.YtopiioklkkiedaaGreatDoor
end
section
namespace Go.Lg.Fld
open Go Go.Lg
def clampK (k x:Int):Int:=if x < -kB k then -kB k else if kA k<x then kA k else x
def fitZ (k x:Int):Bool:=decide (-kB k≤x)&&decide (x≤kA k)
theorem fitZ_iff (k x:Int):fitZ k x=true ↔ -kB k≤x∧x≤kA k:=by simp only [fitZ,Bool.and_eq_true,decide_eq_true_eq]
theorem clamp_same (k x:Int):decide (clampK k x=x)=fitZ k x:=by
 obtain ⟨h0,_,h2,_,_⟩:=kfacts k
 rw [Bool.eq_iff_iff,decide_eq_true_eq,fitZ_iff]
 unfold clampK
 (repeat' split)<;>omega
end Go.Lg.Fld
namespace Go.Proofs.YtopiioklkkiedaaGreatDoor
open Go Go.Lg Go.Lg.Fld
set_option maxRecDepth 100000
variable (X:Nat→Option Obj)
theorem Clamp_bad (k:Int) (b:Bool) (N:Int) (hN:In2 N) (hf:formB b N=false):PSpec Tryz.prog X 108 [Ln .i64 k,LI b N] (.sv S0):=by
 refine cC Tryz.func108 rfl (by kernel_rfl) rfl rfl ?_
 intro C
 (refine aA<|rgN<|aL O O O dO<|aP O dO ?_;refine aB<|aA<|rgN<|kmv O<|kca O O (Least_spec X k)<|kmv O<|kca O O (Greatest_spec X k)<|aP O dO ?_;refine aP O dO ?_;refine aM O O O O O O dO ?_;refine aM O O O O O O dO ?_;refine aB<|aA<|aG<|aA<|rgN<|aK O O O dO ?_;refine kca O O (Form_spec X b N hN false hf)<|aV O O dO<|kas O<|aB<|aE O ?_;refine aA<|rgN<|aT O O (by exact O) (by exact nl3 O O O O) dO ?_;refine aM O O O O O O dO ?_;refine aB<|aI ?_)
 exact ⟨[_],⟨⟨_,_,O,O,O,.inl ⟨AggT.h,O⟩⟩,trivial⟩,O⟩
theorem Clamp_spec (k x:Int) (hx:R127 x):PSpec Tryz.prog X 108 [Ln .i64 k,LQ x] (LQ (clampK k x)):=by
 have hF:=Form_spec X (decide (x<0)) (mg x) (mg_in2 hx) true (formB_q hx)
 have c1:=Cmp_q X x (-kB k) hx (kBn_R k)
 have c2:=Cmp_q X x (kA k) hx (kA_R k)
 have hL:=Least_spec X k
 have hG:=Greatest_spec X k
 have hk:=kfacts k
 refine cC Tryz.func108 rfl (by kernel_rfl) rfl rfl ?_
 intro C
 by_cases h1:x < -kB k
 ·have e:clampK k x = -kB k:=if_pos h1
  rw [e]
  have c1':=c1 (-1) (by unfold cmpI;rw [if_pos h1])
  (refine aA<|rgN<|aL O O O dO<|aP O dO ?_;refine aB<|aA<|rgN<|kmv O<|kca O O (hL)<|kmv O<|kca O O (hG)<|aP O dO ?_;refine aP O dO ?_;refine aM O O O O O O dO ?_;refine aM O O O O O O dO ?_;refine aB<|aA<|aG<|aA<|rgN<|aK O O O dO ?_;refine kca O O (hF)<|aV O O dO<|kas O<|aB<|aF O ?_;refine aA<|rgN<|aK O O O dO ?_;refine aK O O O dO ?_;refine kca O O (c1')<|klt O O (cL (by omega))<|kas O<|aB<|aE O ?_;refine aA<|rgN<|aK O O O dO ?_;refine aM O O O O O O dO ?_;refine aB<|aI ?_)
  exact ⟨[_],⟨⟨_,_,O,O,O,.inl ⟨AggT.h,O⟩⟩,trivial⟩,O⟩
 ·have c1':∃ r:Int,0≤r∧cmpI x (-kB k)=r:=⟨_,(by unfold cmpI;rw [if_neg h1];split<;>decide),rfl⟩
  obtain ⟨r,hr0,hr⟩:=c1'
  have c1':=c1 r hr
  by_cases h2:kA k<x
  ·have e:clampK k x=kA k:=by unfold clampK;rw [if_neg h1,if_pos h2]
   rw [e]
   have c2':=c2 1 (by unfold cmpI;rw [if_neg (show ¬ x<kA k by omega),if_pos h2])
   (refine aA<|rgN<|aL O O O dO<|aP O dO ?_;refine aB<|aA<|rgN<|kmv O<|kca O O (hL)<|kmv O<|kca O O (hG)<|aP O dO ?_;refine aP O dO ?_;refine aM O O O O O O dO ?_;refine aM O O O O O O dO ?_;refine aB<|aA<|aG<|aA<|rgN<|aK O O O dO ?_;refine kca O O (hF)<|aV O O dO<|kas O<|aB<|aF O ?_;refine aA<|rgN<|aK O O O dO ?_;refine aK O O O dO ?_;refine kca O O c1'<|klt O O (cK (by omega))<|kas O<|aB<|aF O ?_;refine aA<|rgN<|aK O O O dO ?_;refine aK O O O dO ?_;refine kca O O c2'<|aS O O (cL (by omega)) dO<|kas O<|aB<|aE O ?_;refine aA<|rgN<|aK O O O dO ?_;refine aM O O O O O O dO ?_;refine aB<|aI ?_)
   exact ⟨[_],⟨⟨_,_,O,O,O,.inl ⟨AggT.h,O⟩⟩,trivial⟩,O⟩
  ·have e:clampK k x=x:=by unfold clampK;rw [if_neg h1,if_neg h2]
   rw [e]
   obtain ⟨s,hs0,hs⟩:∃ s:Int,s≤0∧cmpI x (kA k)=s:=⟨_,(by unfold cmpI;rw [if_neg h2];split<;>decide),rfl⟩
   have c2':=c2 s hs
   (refine aA<|rgN<|aL O O O dO<|aP O dO ?_;refine aB<|aA<|rgN<|kmv O<|kca O O (hL)<|kmv O<|kca O O (hG)<|aP O dO ?_;refine aP O dO ?_;refine aM O O O O O O dO ?_;refine aM O O O O O O dO ?_;refine aB<|aA<|aG<|aA<|rgN<|aK O O O dO ?_;refine kca O O (hF)<|aV O O dO<|kas O<|aB<|aF O ?_;refine aA<|rgN<|aK O O O dO ?_;refine aK O O O dO ?_;refine kca O O c1'<|klt O O (cK (by omega))<|kas O<|aB<|aF O ?_;refine aA<|rgN<|aK O O O dO ?_;refine aK O O O dO ?_;refine kca O O c2'<|aS O O (cK (by omega)) dO<|kas O<|aB<|aF O ?_;refine aH ?_;refine aA<|rgN<|aK O O O dO ?_;refine aM O O O O O O dO ?_;refine aB<|aI ?_)
   exact ⟨[_],⟨⟨_,_,O,O,O,.inl ⟨AggT.h,O⟩⟩,trivial⟩,O⟩
def fitB (k:Int) (b:Bool) (N:Int):Bool:=kK k&&(formB b N&&fitZ k (zv b N))
theorem Fits_no (k:Int) (b:Bool) (N:Int) (hk:kK k=false):PSpec Tryz.prog X 71 [Ln .i64 k,LI b N] (Lb false):=by
 refine cC Tryz.func71 rfl (by kernel_rfl) rfl rfl ?_
 intro C
 (refine aA<|rgN<|aL O O O dO<|kas O<|aB<|aA<|rgD mixed<|kmv O<|kca O O (isKind_spec X k false hk)<|kmv O<|aC O O O<|aC O O O<|aC O O O<|aC O O O ?_;refine aC O O O<|kpf O O<|kas O<|aB<|rgA ?_;refine aI ?_)
 exact ⟨[_],⟨O,trivial⟩,O⟩
theorem Fits_bad (k:Int) (b:Bool) (N:Int) (hk:kK k=true) (hN:In2 N) (hf:formB b N=false):PSpec Tryz.prog X 71 [Ln .i64 k,LI b N] (Lb false):=by
 have hC:=Clamp_bad X k b N hN hf
 have hq:(false==b&&((0:Int)==N/18446744073709551616&&(0:Int)==N%18446744073709551616))=false:=by
  cases hb:(false==b&&((0:Int)==N/18446744073709551616&&(0:Int)==N%18446744073709551616)) with
  | false=>rfl
  | true =>
   simp only [Bool.and_eq_true,beq_iff_eq] at hb
   obtain ⟨rfl,h1,h2⟩:=hb
   have:N=0:=by omega
   subst this
   cases hf
 refine cC Tryz.func71 rfl (by kernel_rfl) rfl rfl ?_
 intro C
 (refine aA<|rgN<|aL O O O dO<|kas O<|aB<|aA<|rgD mixed<|kmv O<|kca O O (isKind_spec X k true hk)<|kmv O<|gmv O O O<|aK O O O (dP O O) ?_;refine gca O O (hC) O O<|aK O O O (dP O O) ?_;refine bQ O O O O (by kernel_rfl) (eqI false hq) (.inl ⟨O,O⟩) (dP O O) ?_;refine kpt O O<|kas O<|aB<|rgA ?_;refine aI ?_)
 exact ⟨[_],⟨O,trivial⟩,O⟩
theorem Fits_q (k x:Int) (hk:kK k=true) (hx:R127 x) (r:Bool) (hr:fitZ k x=r):PSpec Tryz.prog X 71 [Ln .i64 k,LQ x] (Lb r):=by
 have hC:=Clamp_spec X k x hx
 have hq:=clamp_same k x
 rw [hr] at hq
 refine cC Tryz.func71 rfl (by kernel_rfl) rfl rfl ?_
 intro C
 (refine aA<|rgN<|aL O O O dO<|kas O<|aB<|aA<|rgD mixed<|kmv O<|kca O O (isKind_spec X k true hk)<|kmv O<|gmv O O O<|aK O O O (dP O O) ?_;refine gca O O (hC) O O<|aK O O O (dP O O) ?_;refine bQ O O O O (by kernel_rfl) (eqQ _ _ r hq) (.inl ⟨O,O⟩) (dP O O) ?_;refine kpt O O<|kas O<|aB<|rgA ?_;refine aI ?_)
 exact ⟨[_],⟨O,trivial⟩,O⟩
theorem Fits_spec (k:Int) (b:Bool) (N:Int) (hN:In2 N) (r:Bool) (hr:fitB k b N=r):PSpec Tryz.prog X 71 [Ln .i64 k,LI b N] (Lb r):=by
 subst hr
 unfold fitB
 cases hk:kK k with
 | false=>exact Fits_no X k b N hk
 | true =>
  cases hf:formB b N with
  | false=>exact Fits_bad X k b N hk hN hf
  | true =>
   rw [LI_q hN hf]
   exact Fits_q X k (zv b N) hk (zv_in hN hf).1 _ O
end Go.Proofs.YtopiioklkkiedaaGreatDoor
end
section
namespace Go.Lg.Fld
open Go Go.Lg
def kM (k:Int):Nat:=256^kW k
def wdK (k x:Int):Nat:=(x%(kM k:Int)).toNat
def nbK (k:Int) (v:Nat):Int:=if kA k<v then (v:Int)-(kM k:Int) else v
theorem kM_facts {k:Int} (h:kK k=true):kB k+kA k<(kM k:Int)∧(kM k:Int)≤18446744073709551616∧0<kM k:=by
 rcases kin h with rfl|rfl|rfl|rfl|rfl|rfl|rfl|rfl|rfl|rfl<;>decide
theorem wd_lt {k:Int} (h:kK k=true) (x:Int):wdK k x<256^kW k:=by
 have:=kM_facts h
 have h1:=Int.emod_nonneg x (show (kM k:Int)≠0 by omega)
 have h2:=Int.emod_lt_of_pos x (show 0<(kM k:Int) by omega)
 show wdK k x<kM k
 unfold wdK
 omega
theorem wd_of {k x:Int} (h:kK k=true) (hx:fitZ k x=true):(wdK k x:Int)=if x<0 then x+kM k else x:=by
 obtain ⟨h1,h2,h3⟩:=kM_facts h
 obtain ⟨f1,f2,f3,f4,_⟩:=kfacts k
 obtain ⟨x1,x2⟩:=(fitZ_iff k x).1 hx
 unfold wdK
 by_cases c:x<0
 ·rw [if_pos c]
  have e:x%(kM k:Int)=x+kM k:=by
   rw [← Int.add_emod_right]
   exact Int.emod_eq_of_lt (by omega) (by omega)
  rw [e];omega
 ·rw [if_neg c,Int.emod_eq_of_lt (by omega) (by omega)];omega
end Go.Lg.Fld
namespace Go.Proofs.YtopiioklkkiedaaGreatDoor
open Go Go.Lg Go.Lg.Fld
set_option maxRecDepth 100000
variable (X:Nat→Option Obj)
theorem fit_R {k x:Int} (h:fitZ k x=true):R127 x:=by
 have:=kfacts k
 rw [fitZ_iff] at h
 unfold R127;omega
theorem nb_R {k:Int} {v:Nat} (h:kK k=true) (hv:v<256^kW k):R127 (nbK k v):=by
 have:=kM_facts h
 have hv:v<kM k:=hv
 unfold R127 nbK
 split<;>omega
theorem opposite_1 (k:Int) (hk:kW k=1) (v:Int) (hv:0≤v∧v<18446744073709551616):PSpec Tryz.prog X 156 [Ln .i64 k,Ln .u64 v] (Ln .u64 ((-v)%((256^1:Nat):Int))):=by
 have hS:=fSize_spec X k
 rw [hk] at hS
 have p1:((2:Int)^(min (Int.toNat 56) IntKind.u64.bits))=72057594037927936:=by decide
 have p2:((256^1:Nat):Int)=256:=by decide
 rw [p2]
 have n1:IntKind.u64.wrap (0-v)=(0-v)%18446744073709551616:=by rw [IntKind.wrap_u64]
 have s1:IntKind.u64.wrap ((0-v)%18446744073709551616*(2:Int)^(min (Int.toNat 56) IntKind.u64.bits))=(0-v)%18446744073709551616*72057594037927936%18446744073709551616:=by rw [p1,IntKind.wrap_u64]
 have s2:((0-v)%18446744073709551616*72057594037927936%18446744073709551616).fdiv ((2:Int)^(min (Int.toNat 56) IntKind.u64.bits))=(-v)%256:=by
  rw [p1,Int.fdiv_eq_ediv_of_nonneg _ (by decide)]
  omega
 refine cC Tryz.func156 rfl (by kernel_rfl) rfl rfl ?_
 intro C
 (refine aA<|rgN<|kas O<|aB<|aA<|rgN<|kmv O<|kca O O (hS)<|bL O O (c:=8) O dO<|bA O O (c:=56) O dO<|kas O<|aB<|aA<|rgN ?_;refine kmv O<|K.neg O n1 dO<|kmv O<|K.shl O O (by decide) s1 dO<|kmv O<|bN O O (by decide) s2 dO<|kas O<|aB<|aI ?_)
 exact ⟨[_],⟨O,trivial⟩,O⟩
theorem opposite_2 (k:Int) (hk:kW k=2) (v:Int) (hv:0≤v∧v<18446744073709551616):PSpec Tryz.prog X 156 [Ln .i64 k,Ln .u64 v] (Ln .u64 ((-v)%((256^2:Nat):Int))):=by
 have hS:=fSize_spec X k
 rw [hk] at hS
 have p1:((2:Int)^(min (Int.toNat 48) IntKind.u64.bits))=281474976710656:=by decide
 have p2:((256^2:Nat):Int)=65536:=by decide
 rw [p2]
 have n1:IntKind.u64.wrap (0-v)=(0-v)%18446744073709551616:=by rw [IntKind.wrap_u64]
 have s1:IntKind.u64.wrap ((0-v)%18446744073709551616*(2:Int)^(min (Int.toNat 48) IntKind.u64.bits))=(0-v)%18446744073709551616*281474976710656%18446744073709551616:=by rw [p1,IntKind.wrap_u64]
 have s2:((0-v)%18446744073709551616*281474976710656%18446744073709551616).fdiv ((2:Int)^(min (Int.toNat 48) IntKind.u64.bits))=(-v)%65536:=by
  rw [p1,Int.fdiv_eq_ediv_of_nonneg _ (by decide)]
  omega
 refine cC Tryz.func156 rfl (by kernel_rfl) rfl rfl ?_
 intro C
 (refine aA<|rgN<|kas O<|aB<|aA<|rgN<|kmv O<|kca O O (hS)<|bL O O (c:=16) O dO<|bA O O (c:=48) O dO<|kas O<|aB<|aA<|rgN ?_;refine kmv O<|K.neg O n1 dO<|kmv O<|K.shl O O (by decide) s1 dO<|kmv O<|bN O O (by decide) s2 dO<|kas O<|aB<|aI ?_)
 exact ⟨[_],⟨O,trivial⟩,O⟩
theorem opposite_4 (k:Int) (hk:kW k=4) (v:Int) (hv:0≤v∧v<18446744073709551616):PSpec Tryz.prog X 156 [Ln .i64 k,Ln .u64 v] (Ln .u64 ((-v)%((256^4:Nat):Int))):=by
 have hS:=fSize_spec X k
 rw [hk] at hS
 have p1:((2:Int)^(min (Int.toNat 32) IntKind.u64.bits))=4294967296:=by decide
 have p2:((256^4:Nat):Int)=4294967296:=by decide
 rw [p2]
 have n1:IntKind.u64.wrap (0-v)=(0-v)%18446744073709551616:=by rw [IntKind.wrap_u64]
 have s1:IntKind.u64.wrap ((0-v)%18446744073709551616*(2:Int)^(min (Int.toNat 32) IntKind.u64.bits))=(0-v)%18446744073709551616*4294967296%18446744073709551616:=by rw [p1,IntKind.wrap_u64]
 have s2:((0-v)%18446744073709551616*4294967296%18446744073709551616).fdiv ((2:Int)^(min (Int.toNat 32) IntKind.u64.bits))=(-v)%4294967296:=by
  rw [p1,Int.fdiv_eq_ediv_of_nonneg _ (by decide)]
  omega
 refine cC Tryz.func156 rfl (by kernel_rfl) rfl rfl ?_
 intro C
 (refine aA<|rgN<|kas O<|aB<|aA<|rgN<|kmv O<|kca O O (hS)<|bL O O (c:=32) O dO<|bA O O (c:=32) O dO<|kas O<|aB<|aA<|rgN ?_;refine kmv O<|K.neg O n1 dO<|kmv O<|K.shl O O (by decide) s1 dO<|kmv O<|bN O O (by decide) s2 dO<|kas O<|aB<|aI ?_)
 exact ⟨[_],⟨O,trivial⟩,O⟩
theorem opposite_8 (k:Int) (hk:kW k=8) (v:Int) (hv:0≤v∧v<18446744073709551616):PSpec Tryz.prog X 156 [Ln .i64 k,Ln .u64 v] (Ln .u64 ((-v)%((256^8:Nat):Int))):=by
 have hS:=fSize_spec X k
 rw [hk] at hS
 have p1:((2:Int)^(min (Int.toNat 0) IntKind.u64.bits))=1:=by decide
 have p2:((256^8:Nat):Int)=18446744073709551616:=by decide
 rw [p2]
 have n1:IntKind.u64.wrap (0-v)=(0-v)%18446744073709551616:=by rw [IntKind.wrap_u64]
 have s1:IntKind.u64.wrap ((0-v)%18446744073709551616*(2:Int)^(min (Int.toNat 0) IntKind.u64.bits))=(0-v)%18446744073709551616*1%18446744073709551616:=by rw [p1,IntKind.wrap_u64]
 have s2:((0-v)%18446744073709551616*1%18446744073709551616).fdiv ((2:Int)^(min (Int.toNat 0) IntKind.u64.bits))=(-v)%18446744073709551616:=by
  rw [p1,Int.fdiv_eq_ediv_of_nonneg _ (by decide)]
  omega
 refine cC Tryz.func156 rfl (by kernel_rfl) rfl rfl ?_
 intro C
 (refine aA<|rgN<|kas O<|aB<|aA<|rgN<|kmv O<|kca O O (hS)<|bL O O (c:=64) O dO<|bA O O (c:=0) O dO<|kas O<|aB<|aA<|rgN ?_;refine kmv O<|K.neg O n1 dO<|kmv O<|K.shl O O (by decide) s1 dO<|kmv O<|bN O O (by decide) s2 dO<|kas O<|aB<|aI ?_)
 exact ⟨[_],⟨O,trivial⟩,O⟩
theorem opposite_spec (k:Int) (hk:kK k=true) (v:Int) (hv:0≤v∧v<18446744073709551616) (r:Int) (hr:(-v)%(kM k:Int)=r):PSpec Tryz.prog X 156 [Ln .i64 k,Ln .u64 v] (Ln .u64 r):=by
 subst hr
 unfold kM
 rcases kW_in hk with e|e|e|e
 ·rw [e];exact opposite_1 X k e v hv
 ·rw [e];exact opposite_2 X k e v hv
 ·rw [e];exact opposite_4 X k e v hv
 ·rw [e];exact opposite_8 X k e v hv
theorem wordOf_spec (k x:Int) (hk:kK k=true) (hx:fitZ k x=true):PSpec Tryz.prog X 124 [Ln .i64 k,LQ x] (Ln .u64 (wdK k x:Nat)):=by
 obtain ⟨h1,h2,h3⟩:=kM_facts hk
 obtain ⟨f1,f2,f3,f4,_⟩:=kfacts k
 obtain ⟨x1,x2⟩:=(fitZ_iff k x).1 hx
 have e:=wd_of hk hx
 refine cC Tryz.func124 rfl (by kernel_rfl) rfl rfl ?_
 intro C
 by_cases c:x<0
 ·have hm:mg x%18446744073709551616 = -x:=by rw [mg_neg c];omega
  have hO:=opposite_spec X k hk (-x) (by omega) (wdK k x:Nat) (by
   rw [if_pos c] at e
   rw [e,Int.neg_neg,← Int.add_emod_right]
   exact Int.emod_eq_of_lt (by omega) (by omega))
  unfold LQ LI
  rw [hm,cL c]
  (refine aA<|rgN<|aL O O O dO<|kas O<|aB<|aA<|aA<|rgN<|kfa O O ?_;refine kl1 O O O<|aB<|aE O ?_;refine aA<|rgN<|kmv O<|kfa O O ?_;refine kl1 O O O<|kca O O (hO)<|kas O<|aB<|aI ?_)
  exact ⟨[_],⟨O,trivial⟩,O⟩
 ·have hm:mg x%18446744073709551616=x:=by rw [mg_pos (by omega)];omega
  rw [if_neg c] at e
  rw [e]
  unfold LQ LI
  rw [hm,cK c]
  (refine aA<|rgN<|aL O O O dO<|kas O<|aB<|aA<|aA<|rgN<|kfa O O ?_;refine kl1 O O O<|aB<|aF O ?_;refine aH ?_;refine aA<|rgN<|kfa O O ?_;refine kl1 O O O<|kas O<|aB<|aI ?_)
  exact ⟨[_],⟨O,trivial⟩,O⟩
theorem numberOf_spec (k:Int) (v:Nat) (hk:kK k=true) (hv:v<256^kW k):PSpec Tryz.prog X 119 [Ln .i64 k,Ln .u64 (v:Nat)] (LQ (nbK k v)):=by
 obtain ⟨h1,h2,h3⟩:=kM_facts hk
 obtain ⟨f1,f2,f3,f4,_⟩:=kfacts k
 have hv':v<kM k:=hv
 refine cC Tryz.func119 rfl (by kernel_rfl) rfl rfl ?_
 intro C
 by_cases c:kA k<v
 ·have hO:=opposite_spec X k hk v (by omega) ((kM k:Int)-v) (by
   rw [← Int.add_emod_right]
   rw [Int.emod_eq_of_lt (by omega) (by omega)];omega)
  have hW:=OfWord_q X ((kM k:Int)-v) (by omega)
  have hN:=Neg_q X ((kM k:Int)-v) (by unfold R127;omega)
  have e:nbK k v = -((kM k:Int)-v):=by unfold nbK;rw [if_pos c];omega
  rw [e]
  (refine aA<|rgN<|aP O dO ?_;refine aB<|aA<|aA<|rgN<|kmv O<|kmv O<|kca O O (shapeOf_spec X k)<|K.fieldOne O Tryz.underlying245 O (by kernel_rfl) O dO<|aS O O (cL (by omega)) dO<|aB<|aE O ?_;refine aA<|rgN<|kmv O<|kmv O<|kca O O (hO)<|kca O O (hW)<|kca O O (hN)<|aM O O O O O O dO ?_;refine aB<|aI ?_)
  exact ⟨[_],⟨⟨_,_,O,O,O,.inl ⟨AggT.h,O⟩⟩,trivial⟩,O⟩
 ·have hW:=OfWord_q X (v:Int) (by omega)
  have e:nbK k v=v:=by unfold nbK;rw [if_neg c]
  rw [e]
  (refine aA<|rgN<|aP O dO ?_;refine aB<|aA<|aA<|rgN<|kmv O<|kmv O<|kca O O (shapeOf_spec X k)<|K.fieldOne O Tryz.underlying245 O (by kernel_rfl) O dO<|aS O O (cK (by omega)) dO<|aB<|aF O ?_;refine aH ?_;refine aA<|rgN<|kmv O<|kca O O (hW)<|aM O O O O O O dO ?_;refine aB<|aI ?_)
  exact ⟨[_],⟨⟨_,_,O,O,O,.inl ⟨AggT.h,O⟩⟩,trivial⟩,O⟩
theorem WNum_k (k:Int) (hk:kK k=true) (n:Nat) (h:n<256^kW k):MSpec Tryz.prog X 123 [Lp 1000000,Ln .i64 (kW k:Nat),Ln .u64 (n:Nat)] (w0 1000000) (Lb true) (w1 1000000 1000001 1000002 (leB (kW k) n)):=by
 have hn:n<18446744073709551616:=by
  have:=(kM_facts hk).2.1
  have h:n<kM k:=h
  omega
 rcases kW_in hk with e|e|e|e<;>rw [e] at h ⊢
 ·exact WNum_0_1 X n hn h
 ·exact WNum_0_2 X n hn h
 ·exact WNum_0_4 X n hn h
 ·exact WNum_0_8 X n hn h
theorem Put_q (k x:Int) (hk:kK k=true) (hx:fitZ k x=true):PSpec Tryz.prog X 83 [Ln .i64 k,LQ x] (.tup [Ss (leB (kW k) (wdK k x)),Sn .i64 0]):=by
 have hF:=Fits_q X k x hk (fit_R hx) true hx
 have hW:=wordOf_spec X k x hk hx
 have hN:=WNum_k X k hk (wdK k x) (wd_lt hk x)
 have hS:=fSize_spec X k
 refine cC Tryz.func83 rfl (by kernel_rfl) rfl rfl ?_
 intro C
 (refine aA<|rgN<|aL O O O dO<|kas O<|kas O<|aB<|aA<|aA<|rgN<|kmv O<|kca O O (isKind_spec X k true hk)<|aV O O dO<|aB<|aF O ?_;refine aH ?_;refine aA<|aA<|rgN<|kmv O<|aK O O O dO ?_;refine kca O O (hF)<|aV O O dO<|aB<|aF O ?_;refine aH ?_;refine aA<|rgN<|aT O O (by exact O) (by exact nl2 O O O) dO ?_;refine aL O O O dO<|kas O<|aB<|aA<|rgD mixed<|kmv O<|kmv O<|kca O O (hS)<|kmv O<|aK O O O dO ?_;refine kca O O (hW)<|aU [(1000000,15),(1000001,501),(1000002,502)] (w1 15 501 502 (leB (kW k) (wdK k x))) (hN) O O (by exact (cM ⟨_,O,O⟩ trivial)) (by exact (bS (bS O (bS O O)) O)) O O O O (by exact (.box O O (.box O O (.box O (bW _ _ _ _) .nil)))) dO<|aB<|rgA ?_;refine aA<|rgN<|kmv O<|K.callR [(1000000,15),(1000001,501),(1000002,502)] (String_1 X (leB (kW k) (wdK k x))) O O (by exact (cM ⟨_,O,O⟩ (cM ⟨_,O,O⟩ (cM ⟨_,O,(bW _ _ _ _)⟩ trivial)))) (by exact (bS (bS O (bS O O)) (bS (bS O O) (bS bU O)))) O O O O dO<|kas O<|kas O<|aB<|aI ?_)
 exact ⟨[_,_],⟨O,O,trivial⟩,O⟩
end Go.Proofs.YtopiioklkkiedaaGreatDoor
end
section
namespace Go.Lg.Fld
open Go Go.Lg
end Go.Lg.Fld
namespace Go.Proofs.YtopiioklkkiedaaGreatDoor
open Go Go.Lg Go.Lg.Fld
set_option maxRecDepth 100000
variable (X:Nat→Option Obj)
theorem isW_k {k:Int} (h:kK k=true):isW (kW k:Nat)=true:=by
 rcases kW_in h with e|e|e|e<;>rw [e]<;>rfl
theorem Get_q (k:Int) (l:List UInt8) (hk:kK k=true) (hn:l.length=kW k):PSpec Tryz.prog X 80 [Ln .i64 k,Ls l] (if fitZ k (nbK k (le l))=true then .tup [SQ (nbK k (le l)),Sn .i64 0] else .tup [S0,Sn .i64 4]):=by
 have hS:=fSize_spec X k
 have hw:=isW_k hk
 have hR:=Read_spec X l
 have hk8:=(kfacts k).2.2.2.2
 have hN:=Num_ok X l (kW k) hw (by omega) (by omega)
 rw [List.take_of_length_le (by omega),List.drop_of_length_le (by omega)] at hN
 have hb:=le_lt l
 rw [hn] at hb
 have hO:=numberOf_spec X k (le l) hk hb
 have hR':=nb_R hk hb
 have hD:MSpec Tryz.prog X 121 [Lp 1000000] (rd 1000000 [] false) (Lb true) (rd 1000000 [] false):=Done_spec X [] false true rfl
 have hF:=Fits_q X k (nbK k (le l)) hk hR' _ rfl
 generalize nbK k (le l)=z at *
 generalize le l=n at *
 cases hf:fitZ k z with
 | true =>
  rw [hf] at hF
  rw [if_pos rfl]
  refine cC Tryz.func80 rfl (by kernel_rfl) rfl rfl ?_
  intro C
  (refine aA<|rgN<|aP O dO ?_;refine kas O<|aB<|aA<|aA<|rgN<|kmv O<|kca O O (isKind_spec X k true hk)<|aV O O dO<|aB<|aF O ?_;refine aH ?_;refine aA<|rgN<|kmv O<|bE [(1000001,501)] (Lp 501) (rd 501 l false) (hR) O O (by exact trivial) O O O O O (by exact (.box O O .nil)) dO<|kas O<|aB<|aA<|rgN<|kmv O<|kmv O<|kmv O<|kca O O (hS)<|aU [(1000000,501)] (rd 501 [] false) (hN) O O (by exact (cM ⟨_,O,O⟩ trivial)) (by exact (bS (bS O (bS O O)) O)) O O O O (by exact (.box O O .nil)) dO<|kca O O (hO) ?_;refine aP O dO ?_;refine aM O O O O O O dO ?_;refine aB<|aA<|aA<|rgN<|kmv O<|K.callR [(1000000,501)] (hD) O O (by exact (cM ⟨_,O,O⟩ trivial)) (by exact (bS (bS O (bS O O)) O)) O O O O dO<|aV O O dO<|kmv O<|gmv O O O<|aK O O O (dP O O) ?_;refine gca O O (hF) O O<|aV O O (dP O O) ?_;refine kpf O O<|aB<|aF O ?_;refine aH ?_;refine aA<|rgN<|aK O O O dO ?_;refine aM O O O O O O dO ?_;refine kas O<|aB<|aI ?_)
  exact ⟨[_,_],⟨⟨_,_,O,O,O,.inl ⟨AggT.h,O⟩⟩,O,trivial⟩,O⟩
 | false =>
  rw [hf] at hF
  rw [if_neg (by simp)]
  refine cC Tryz.func80 rfl (by kernel_rfl) rfl rfl ?_
  intro C
  (refine aA<|rgN<|aP O dO ?_;refine kas O<|aB<|aA<|aA<|rgN<|kmv O<|kca O O (isKind_spec X k true hk)<|aV O O dO<|aB<|aF O ?_;refine aH ?_;refine aA<|rgN<|kmv O<|bE [(1000001,501)] (Lp 501) (rd 501 l false) (hR) O O (by exact trivial) O O O O O (by exact (.box O O .nil)) dO<|kas O<|aB<|aA<|rgN<|kmv O<|kmv O<|kmv O<|kca O O (hS)<|aU [(1000000,501)] (rd 501 [] false) (hN) O O (by exact (cM ⟨_,O,O⟩ trivial)) (by exact (bS (bS O (bS O O)) O)) O O O O (by exact (.box O O .nil)) dO<|kca O O (hO) ?_;refine aP O dO ?_;refine aM O O O O O O dO ?_;refine aB<|aA<|aA<|rgN<|kmv O<|K.callR [(1000000,501)] (hD) O O (by exact (cM ⟨_,O,O⟩ trivial)) (by exact (bS (bS O (bS O O)) O)) O O O O dO<|aV O O dO<|kmv O<|gmv O O O<|aK O O O (dP O O) ?_;refine gca O O (hF) O O<|aV O O (dP O O) ?_;refine kpf O O<|aB<|aE O ?_;refine aA<|rgN<|aT O O (by exact O) (by exact nl3 O O O O) dO ?_;refine aM O O O O O O dO ?_;refine kas O<|aB<|aI ?_)
  exact ⟨[_,_],⟨⟨_,_,O,O,O,.inl ⟨AggT.h,O⟩⟩,O,trivial⟩,O⟩
end Go.Proofs.YtopiioklkkiedaaGreatDoor
end
section
namespace Go.Proofs.YtopiioklkkiedaaGreatDoor
open Go Go.Lg Go.Lg.Fld
set_option maxRecDepth 100000
variable (X:Nat→Option Obj)
abbrev cI (b:Bool) (n:Int):List CV:=[.val (.bool b),.val (.int .u64 (n/18446744073709551616)),.val (.int .u64 (n%18446744073709551616))]
abbrev cQ (z:Int):List CV:=[.val (.bool (decide (z<0))),.val (.int .u64 (mg z/18446744073709551616)),.val (.int .u64 (mg z%18446744073709551616))]
end Go.Proofs.YtopiioklkkiedaaGreatDoor
end
section
namespace Go.Lg.Dig
open Go Go.Lg
def dg (n j:Nat):Nat:=n/256^j%256
def dv (d:Nat):CV:=.val (.int .i64 (d:Nat))
def dlf (f:Nat→Nat):List Nat:=(List.range 40).map f
def num (b:Bool) (f:Nat→Nat):List CV:=.val (.bool b)::(dlf f).map dv
end Go.Lg.Dig
namespace Go.Lg.Dig
open Go Go.Lg
end Go.Lg.Dig
namespace Go.Lg.Dig
end Go.Lg.Dig
namespace Go.Lg.Dig
end Go.Lg.Dig
namespace Go.Lg.Dig
open Go Go.Lg
end Go.Lg.Dig
namespace Go.Lg.Dig
open Go Go.Lg
end Go.Lg.Dig
end
section
namespace Go.Proofs.YtopiioklkkiedaaGreatDoor
open Go Go.Lg Go.Lg.Arith Go.Lg.Dig Go.RowKit
variable (X:Nat→Option Obj)
def two (l h i:Nat) (j:Nat):Nat:=if j<i then dg l j else if 8≤j∧j<8+i then dg h (j-8) else 0
end Go.Proofs.YtopiioklkkiedaaGreatDoor
end
section
namespace Go.Lg.Fld
open Go Go.Lg
end Go.Lg.Fld
namespace Go.Proofs.YtopiioklkkiedaaGreatDoor
open Go Go.Lg Go.Lg.Fld
set_option maxRecDepth 100000
variable (X:Nat→Option Obj)
instance:ArrB Tryz.prog 164 (List.replicate 11 (.int .i64 0)) 1:=⟨by kernel_rfl⟩
instance:ArrB Tryz.prog 198 (List.replicate 11 (.int .u64 0)) 1:=⟨by kernel_rfl⟩
end Go.Proofs.YtopiioklkkiedaaGreatDoor
end
section
namespace Go.Lg.Fld
open Go Go.Lg
structure Fl where
 nm:List UInt8
 kind:Int
 count:Int
def Fl.vals (f:Fl):List Value:=[.string ⟨f.nm.toArray⟩,.int .i64 f.kind,.int .i64 f.count]
def Fl.w (f:Fl):Nat:=kW f.kind
def Fl.n (f:Fl):Nat:=f.count.toNat
def Fl.ok (f:Fl):Bool:=kK f.kind&&(decide (1≤f.count)&&decide (f.count≤8))
def roundUp (a n:Nat):Nat:=a+(n-a%n)%n
def startsAt:Nat→List Fl→List Nat
 | _,[]=>[]
 | a,f::t=>roundUp a f.w::startsAt (roundUp a f.w+f.w*f.n) t
def endAt:Nat→List Fl→Nat
 | a,[]=>a
 | a,f::t=>endAt (roundUp a f.w+f.w*f.n) t
def elemsAt:Nat→List Fl→List (Int×Nat)
 | _,[]=>[]
 | a,f::t=>(List.range f.n).map (fun i=>(f.kind,roundUp a f.w+f.w*i))++elemsAt (roundUp a f.w+f.w*f.n) t
def greatW (l:List Fl):Nat:=l.foldl (fun g f=>max g f.w) 1
def rowSize (l:List Fl):Nat:=roundUp (endAt 0 l) (greatW l)
def layErr (l:List Fl):Int:=if 8<l.length then 1 else if l.all Fl.ok=true then (if 256<rowSize l then 5 else 0) else 1
theorem starts_snoc (f:Fl):∀ (l:List Fl) (a:Nat),startsAt a (l++[f])=startsAt a l++[roundUp (endAt a l) f.w]
 | [],_=>rfl
 | g::t,a=>by simp only [List.cons_append,startsAt,endAt,starts_snoc f t]
theorem end_snoc (f:Fl):∀ (l:List Fl) (a:Nat),endAt a (l++[f])=roundUp (endAt a l) f.w+f.w*f.n
 | [],_=>rfl
 | g::t,a=>by simp only [List.cons_append,endAt,end_snoc f t]
theorem elems_snoc (f:Fl):∀ (l:List Fl) (a:Nat),elemsAt a (l++[f])=elemsAt a l++(List.range f.n).map (fun i=>(f.kind,roundUp (endAt a l) f.w+f.w*i))
 | [],_=>by simp [elemsAt,endAt]
 | g::t,a=>by simp only [List.cons_append,elemsAt,endAt,elems_snoc f t,dJ]
theorem great_snoc (f:Fl) (l:List Fl):greatW (l++[f])=max (greatW l) f.w:=by simp [greatW,List.foldl_append]
theorem take_snoc {α:Type} {l:List α} {i:Nat} {f:α} (h:l[i]? = some f):l.take (i+1)=l.take i++[f]:=by
 rw [List.take_add_one,h];rfl
theorem ok_w {f:Fl} (h:f.ok=true):(f.w=1∨f.w=2∨f.w=4∨f.w=8)∧1≤f.n∧f.n≤8∧(f.n:Int)=f.count:=by
 simp only [Fl.ok,Bool.and_eq_true,decide_eq_true_eq] at h
 refine ⟨kW_in h.1,?_,?_,?_⟩<;>unfold Fl.n<;>omega
def isWd (n:Nat):Prop:=n=1∨n=2∨n=4∨n=8
theorem round_facts {n:Nat} (h:isWd n) (a:Nat):roundUp a n%n=0∧a≤roundUp a n∧roundUp a n<a+n∧∀ b,a≤b→b≤roundUp a n→b%n=0→b=roundUp a n:=by
 unfold roundUp
 rcases h with rfl|rfl|rfl|rfl<;>refine ⟨by omega,by omega,by omega,fun b h1 h2 h3=>by omega⟩
theorem great_wd:∀ (l:List Fl),l.all Fl.ok=true→isWd (greatW l):=by
 have key:∀ (l:List Fl) (g:Nat),isWd g→l.all Fl.ok=true→isWd (l.foldl (fun g f=>max g f.w) g):=by
  intro l
  induction l with
  | nil=>intro g hg _;exact hg
  | cons f t ih =>
   intro g hg h
   simp only [List.all_cons,Bool.and_eq_true] at h
   refine ih _ ?_ h.2
   have hf:isWd f.w:=(ok_w h.1).1
   show isWd (max g f.w)
   rcases Nat.le_total g f.w with h3|h3
   ·rw [Nat.max_eq_right h3];exact hf
   ·rw [Nat.max_eq_left h3];exact hg
 exact fun l h=>key l 1 (.inl O) h
theorem end_le:∀ (l:List Fl) (a:Nat),l.all Fl.ok=true→a≤endAt a l∧endAt a l≤a+72*l.length
 | [],a,_=>by simp [endAt]
 | f::t,a,h=>by
  simp only [List.all_cons,Bool.and_eq_true] at h
  obtain ⟨hw,h1,h8,_⟩:=ok_w h.1
  have hr:=round_facts hw a
  have hi:=end_le t (roundUp a f.w+f.w*f.n) h.2
  have hm:f.w*f.n≤64:=by rcases hw with e|e|e|e<;>rw [e]<;>omega
  have hw8:f.w≤8:=by rcases hw with e|e|e|e<;>omega
  simp only [endAt,dF]
  omega
theorem elems_len:∀ (l:List Fl) (a:Nat),l.all Fl.ok=true→l.length≤(elemsAt a l).length∧(elemsAt a l).length≤8*l.length
 | [],a,_=>by simp [elemsAt]
 | f::t,a,h=>by
  simp only [List.all_cons,Bool.and_eq_true] at h
  obtain ⟨hw,h1,h8,_⟩:=ok_w h.1
  have hi:=elems_len t (roundUp a f.w+f.w*f.n) h.2
  simp only [elemsAt,cS,cT,List.length_range,dF]
  omega
theorem starts_len:∀ (l:List Fl) (a:Nat),(startsAt a l).length=l.length
 | [],_=>rfl
 | f::t,a=>by simp [startsAt,starts_len t]
def elV (e:Int×Nat):List Value:=[.int .i64 e.1,.int .i64 (e.2:Nat)]
def elVs (l:List (Int×Nat)):List Value:=(l.map elV).flatten
theorem elVs_len (l:List (Int×Nat)):(elVs l).length=l.length*2:=by
 induction l with
 | nil=>rfl
 | cons e t ih=>simp only [elVs,List.map_cons,List.flatten_cons,cS] at ih ⊢;rw [ih];simp [elV];omega
theorem elVs_app (l m:List (Int×Nat)):elVs (l++m)=elVs l++elVs m:=by simp [elVs]
def ntV (l:List Nat):List Value:=l.map fun n=>.int .i64 (n:Nat)
structure FieldsIn (X:Nat→Option Obj) (ad:Option Addr) (fs:List Fl):Prop where
 rows:RowsIn X ad 3 (fs.map Fl.vals)
 small:∀ f∈fs,(-9223372036854775808≤f.kind∧f.kind<9223372036854775808)∧(-9223372036854775808≤f.count∧f.count<9223372036854775808)
theorem FieldsIn.at {X:Nat→Option Obj} {ad:Option Addr} {fs:List Fl} (h:FieldsIn X ad fs) {i:Nat} {f:Fl} (hf:fs[i]? = some f):
  ∃ (blk off:Nat) (arr:Array Value) (el:TypeId) (fr:Nat×Nat),ad=some ⟨blk,off,none⟩∧X blk=some (.cells arr el fr)∧off+i*3+3≤arr.size∧((arr.toList.drop (off+i*3)).take 3).map CV.val=f.vals.map CV.val:=by
 obtain ⟨blk,off,arr,el,fr,h1,h2,h3,h4⟩:=h.rows i f.vals (by rw [dI,hf];rfl)
 exact ⟨blk,off,arr,el,fr,h1,h2,h3,by rw [h4]⟩
end Go.Lg.Fld
end
section
namespace Go.Proofs.YtopiioklkkiedaaGreatDoor
open Go Go.Lg Go.Lg.Fld
set_option maxRecDepth 100000
variable (X:Nat→Option Obj)
abbrev Lx (ad:Option Addr) (n cap:Nat):LV:=.sv (.one (.val (.slice ad n cap)))
abbrev Vnil:SV:=.one (.val (.slice none 0 0))
theorem take_all {fs:List Fl} {i:Nat} {f:Fl} (h:(fs.take i).all Fl.ok=true) (hf:fs[i]? = some f) (hk:f.ok=true):(fs.take (i+1)).all Fl.ok=true:=by
 rw [take_snoc hf,List.all_append,h]
 simp [hk]
end Go.Proofs.YtopiioklkkiedaaGreatDoor
end
section
namespace Go.Lg.Fld
open Go Go.Lg
theorem elVs_at:∀ {l:List (Int×Nat)} {i:Nat} {e:Int×Nat},l[i]? = some e→((elVs l).map CV.val)[i*2]? = some (.val (.int .i64 e.1))∧((elVs l).map CV.val)[i*2+1]? = some (.val (.int .i64 (e.2:Nat)))
 | [],i,e,h=>by simp at h
 | d::t,0,e,h=>by
  simp only [List.getElem?_cons_zero,Option.some.injEq] at h
  subst h
  exact ⟨O,O⟩
 | d::t,i+1,e,h=>by
  have ih:=elVs_at (l:=t) (i:=i) (e:=e) (by simpa using h)
  have e1:(elVs (d::t)).map CV.val = .val (.int .i64 d.1) :: .val (.int .i64 (d.2:Nat))::(elVs t).map CV.val:=rfl
  rw [e1,Nat.add_mul,Nat.one_mul]
  exact ih
def nmV (n:Bool×Int):List Value:=[.bool n.1,.int .u64 (n.2/18446744073709551616),.int .u64 (n.2%18446744073709551616)]
end Go.Lg.Fld
namespace Go.Proofs.YtopiioklkkiedaaGreatDoor
open Go Go.Lg Go.Lg.Fld
set_option maxRecDepth 100000
variable (X:Nat→Option Obj)
structure NumsIn (X:Nat→Option Obj) (ad:Option Addr) (ns:List (Bool×Int)):Prop where
 rows:Go.Lg.RowsIn X ad 3 (ns.map nmV)
 in2:∀ n∈ns,In2 n.2
theorem NumsIn.at {X:Nat→Option Obj} {ad:Option Addr} {ns:List (Bool×Int)} (h:NumsIn X ad ns) {i:Nat} {b:Bool} {N:Int} (hf:ns[i]? = some (b,N)):
  In2 N∧∃ (blk off:Nat) (arr:Array Value) (el:TypeId) (fr:Nat×Nat),ad=some ⟨blk,off,none⟩∧X blk=some (.cells arr el fr)∧off+i*3+3≤arr.size∧((arr.toList.drop (off+i*3)).take 3).map CV.val=cI b N:=by
 obtain ⟨blk,off,arr,el,fr,h1,h2,h3,h4⟩:=h.rows i (nmV (b,N)) (by rw [dI,hf];rfl)
 exact ⟨h.in2 (b,N) (cZ hf),blk,off,arr,el,fr,h1,h2,h3,by rw [h4];rfl⟩
theorem layErr_facts {fs:List Fl} (h:layErr fs=0):fs.length≤8∧fs.all Fl.ok=true∧rowSize fs≤256:=by
 unfold layErr at h
 split at h
 ·cases h
 ·split at h
  ·split at h
   ·cases h
   ·rename_i h1 h2 h3;exact ⟨by omega,h2,by omega⟩
  ·cases h
def fitAll (es:List (Int×Nat)) (ns:List (Bool×Int)):Bool:=(es.zip ns).all fun p=>fitB p.1.1 p.2.1 p.2.2
def fitErr (fs:List Fl) (ns:List (Bool×Int)):Int:=if layErr fs=0 then (if (elemsAt 0 fs).length=ns.length then (if fitAll (elemsAt 0 fs) ns=true then 0 else 3) else 4) else layErr fs
theorem zip_at {α β:Type} {es:List α} {ns:List β} {i:Nat} {e:α} {n:β} (h1:es[i]? = some e) (h2:ns[i]? = some n):(es.zip ns)[i]? = some (e,n):=List.getElem?_zip_eq_some.2 ⟨h1,h2⟩
end Go.Proofs.YtopiioklkkiedaaGreatDoor
end
section
namespace Go.Lg.Fld
open Go Go.Lg
def setAt (b:List UInt8) (p:Nat) (s:List UInt8):List UInt8:=b.take p++s++b.drop (p+s.length)
theorem setAt_len {b s:List UInt8} {p:Nat} (h:p+s.length≤b.length):(setAt b p s).length=b.length:=by
 simp only [setAt,cS,cW,cX];omega
end Go.Lg.Fld
namespace Go.Proofs.YtopiioklkkiedaaGreatDoor
open Go Go.Lg Go.Lg.Fld
set_option maxRecDepth 100000
variable (X:Nat→Option Obj)
def numB (k:Int) (n:Bool×Int):List UInt8:=leB (kW k) (wdK k (zv n.1 n.2))
def packE:List (Int×Nat)→List (Bool×Int)→List UInt8→List UInt8
 | e::t,v::u,b=>packE t u (setAt b e.2 (numB e.1 v))
 | _,_,b=>b
theorem packE_snoc (e:Int×Nat) (v:Bool×Int):∀ (l:List (Int×Nat)) (m:List (Bool×Int)) (b:List UInt8),l.length=m.length→packE (l++[e]) (m++[v]) b=setAt (packE l m b) e.2 (numB e.1 v)
 | [],[],b,_=>rfl
 | e'::t,v'::u,b,h=>packE_snoc e v t u _ (by simpa using h)
 | [],_::_,_,h=>by simp at h
 | _::_,[],_,h=>by simp at h
def Within (es:List (Int×Nat)) (T:Nat):Prop := ∀ e∈es,kK e.1=true∧e.2+kW e.1≤T
theorem elems_in:∀ (l:List Fl) (a:Nat),l.all Fl.ok=true→∀ e∈elemsAt a l,kK e.1=true∧a≤e.2∧e.2+kW e.1≤endAt a l
 | [],a,_,e,he=>by simp [elemsAt] at he
 | f::t,a,h,e,he=>by
  simp only [List.all_cons,Bool.and_eq_true] at h
  obtain ⟨hw,h1,h8,hc⟩:=ok_w h.1
  have hr:=round_facts hw a
  have hi:=end_le t (roundUp a f.w+f.w*f.n) h.2
  simp only [elemsAt,List.mem_append,List.mem_map,List.mem_range] at he
  rcases he with ⟨i,hin,rfl⟩|he
  ·have hk:kK f.kind=true:=by have:=h.1;simp only [Fl.ok,Bool.and_eq_true] at this;exact this.1
   have hm:f.w*i+f.w≤f.w*f.n:=by rw [← Nat.mul_succ];exact Nat.mul_le_mul_left _ hin
   refine ⟨hk,by simp only;omega,?_⟩
   show roundUp a f.w+f.w*i+f.w≤endAt (roundUp a f.w+f.w*f.n) t
   omega
  ·have:=elems_in t _ h.2 e he
   refine ⟨this.1,by omega,?_⟩
   exact this.2.2
theorem within_row {fs:List Fl} (h:fs.all Fl.ok=true):Within (elemsAt 0 fs) (rowSize fs):=fun e he=>by
 have h1:=elems_in fs 0 h e he
 have h2:=round_facts (great_wd fs h) (endAt 0 fs)
 refine ⟨h1.1,Nat.le_trans h1.2.2 h2.2.1⟩
theorem numB_len (k:Int) (n:Bool×Int):(numB k n).length=kW k:=leB_length _ _
theorem packE_len {T:Nat}:∀ {es:List (Int×Nat)} {ns:List (Bool×Int)} {b:List UInt8},Within es T→b.length=T→(packE es ns b).length=T
 | [],_,b,_,hb=>hb
 | _::_,[],b,_,hb=>hb
 | e::t,v::u,b,hw,hb=>by
  have h1:=(hw e (by simp)).2
  exact packE_len (es:=t) (ns:=u) (fun x hx=>hw x (by simp [hx])) (by rw [setAt_len (by rw [numB_len];omega)];exact hb)
def packB (fs:List Fl) (ns:List (Bool×Int)):List UInt8:=packE (elemsAt 0 fs) ns (List.replicate (rowSize fs) 0)
theorem fitErr_facts {fs:List Fl} {ns:List (Bool×Int)} (h:fitErr fs ns=0):layErr fs=0∧(elemsAt 0 fs).length=ns.length∧fitAll (elemsAt 0 fs) ns=true:=by
 unfold fitErr at h
 split at h
 ·rename_i h0
  split at h
  ·rename_i h1
   split at h
   ·rename_i h2;exact ⟨h0,h1,h2⟩
   ·cases h
  ·cases h
 ·contradiction
theorem fitAll_at {es:List (Int×Nat)} {ns:List (Bool×Int)} (h:fitAll es ns=true) {i:Nat} {e:Int×Nat} {b:Bool} {N:Int} (he:es[i]? = some e) (hv:ns[i]? = some (b,N)):formB b N=true∧kK e.1=true∧fitZ e.1 (zv b N)=true:=by
 have:=List.all_eq_true.1 h _ (cZ (zip_at he hv))
 simp only [fitB,Bool.and_eq_true] at this
 exact ⟨this.2.1,this.1,this.2.2⟩
end Go.Proofs.YtopiioklkkiedaaGreatDoor
end
section
namespace Go.Proofs.YtopiioklkkiedaaGreatDoor
open Go Go.Lg Go.Lg.Fld
set_option maxRecDepth 100000
variable (X:Nat→Option Obj)
def qn (z:Int):Bool×Int:=(decide (z<0),mg z)
theorem zv_qn (z:Int):zv (qn z).1 (qn z).2=z:=by
 unfold qn zv mg
 by_cases h:z<0
 ·simp [h]
 ·simp [h]
def rdE (s:List UInt8) (e:Int×Nat):Int:=nbK e.1 (le ((s.drop e.2).take (kW e.1)))
def readOk (es:List (Int×Nat)) (s:List UInt8):Bool:=es.all fun e=>fitZ e.1 (rdE s e)
def unpZ (fs:List Fl) (s:List UInt8):List Int:=(elemsAt 0 fs).map (rdE s)
def unpOk (fs:List Fl) (s:List UInt8):Bool:=decide (s.length=rowSize fs)&&(readOk (elemsAt 0 fs) s&&(packB fs ((unpZ fs s).map qn)==s))
def unpErr (fs:List Fl) (s:List UInt8):Int:=if layErr fs=0 then (if unpOk fs s=true then 0 else 4) else layErr fs
def nsV (zs:List Int):List Value:=(zs.map fun z=>nmV (qn z)).flatten
theorem nsV_len (zs:List Int):(nsV zs).length=zs.length*3:=by
 induction zs with
 | nil=>rfl
 | cons z t ih=>simp only [nsV,List.map_cons,List.flatten_cons,cS] at ih ⊢;rw [ih];simp [nmV];omega
theorem read_R {es:List (Int×Nat)} {s:List UInt8} {T:Nat} (hW:Within es T) (hs:s.length=T) {e:Int×Nat} (he:e∈es):((s.drop e.2).take (kW e.1)).length=kW e.1∧R127 (rdE s e):=by
 have h:=hW e he
 have hl:((s.drop e.2).take (kW e.1)).length=kW e.1:=by rw [cW,cX];omega
 refine ⟨hl,?_⟩
 have hb:=le_lt ((s.drop e.2).take (kW e.1))
 rw [hl] at hb
 exact nb_R h.1 hb
theorem nums_in2 {zs:List Int} (h:∀ z∈zs,R127 z):∀ n∈zs.map qn,In2 n.2:=fun n hn=>by
 obtain ⟨z,hz,rfl⟩:=List.mem_map.1 hn
 exact mg_in2 (h z hz)
def unpR (fs:List Fl) (s:List UInt8):LV:=if unpErr fs s=0 then .tup [.one (.slc 1000001 0 (unpZ fs s).length 3),Sn .i64 0] else .tup [Vnil,Sn .i64 (unpErr fs s)]
end Go.Proofs.YtopiioklkkiedaaGreatDoor
end
section
namespace Go.Lg.Fld
open Go Go.Lg
def elemsN (fs:List Fl):Nat:=if layErr fs=0 then (elemsAt 0 fs).length else 0
def sumC (fs:List Fl):Nat:=(fs.map Fl.n).sum
def startN (fs:List Fl) (i:Int):Nat:=if layErr fs=0∧0≤i∧i<fs.length then sumC (fs.take i.toNat) else 0
abbrev planV (size:Int) (c:CV):SV:=.agg [.val (.int .i64 size),c]
theorem elems_sum:∀ (l:List Fl) (a:Nat),(elemsAt a l).length=sumC l
 | [],_=>rfl
 | f::t,a=>by
  simp only [elemsAt,cS,cT,List.length_range,elems_sum t]
  simp [sumC]
theorem sum_snoc (l:List Fl) (f:Fl):sumC (l++[f])=sumC l+f.n:=by simp [sumC]
theorem sum_le:∀ (l:List Fl),l.all Fl.ok=true→sumC l≤8*l.length:=fun l h=>by
 have:=(elems_len l 0 h).2
 rw [elems_sum] at this
 exact this
def canB (fs:List Fl):Bool:=decide (fs.length≤8)&&fs.all Fl.ok
theorem canB_err {fs:List Fl} (h:canB fs=false):layErr fs=1:=by
 unfold canB at h
 unfold layErr
 by_cases h8:8<fs.length
 ·rw [if_pos h8]
 ·rw [if_neg h8]
  rw [cL (show fs.length≤8 by omega),Bool.true_and] at h
  rw [h,if_neg (by simp)]
theorem canB_ok {fs:List Fl} (h:canB fs=true):fs.length≤8∧fs.all Fl.ok=true∧layErr fs=if 256<rowSize fs then 5 else 0:=by
 unfold canB at h
 rw [Bool.and_eq_true,decide_eq_true_eq] at h
 refine ⟨h.1,h.2,?_⟩
 unfold layErr
 rw [if_neg (by omega),if_pos h.2]
theorem round_up {n:Nat} (h:isWd n) (a:Nat):(a+n-1)/n*n=roundUp a n:=by
 unfold roundUp
 rcases h with rfl|rfl|rfl|rfl<;>omega
def blankB (l:List UInt8):Bool:=l.all fun c=>c==0
theorem dropWhile_nil {l:List UInt8}:l.dropWhile (· == (0:UInt8))=[]↔l.all (fun c=>c==0)=true:=by
 induction l with
 | nil=>simp
 | cons c t ih =>
  rw [List.dropWhile_cons]
  cases hc:(c==0) with
  | true=>rw [if_pos rfl,ih,List.all_cons,hc,Bool.true_and]
  | false=>rw [if_neg (by simp),List.all_cons,hc,Bool.false_and];simp
theorem trim_blank (l:List UInt8):(Lib.trimB l 0==[])=blankB l:=by
 unfold blankB
 have h1:Lib.trimB l 0=[]↔l.all (fun c=>c==0)=true:=by
  unfold Lib.trimB Lib.trimLeftB Lib.trimRightB
  rw [dropWhile_nil,List.all_reverse]
  constructor
  ·intro h
   have h2:l.reverse.dropWhile (· == (0:UInt8))=[]:=by
    cases e:l.reverse.dropWhile (· == (0:UInt8)) with
    | nil=>rfl
    | cons c t =>
     have h3:=List.head_dropWhile_not (fun x=>x==(0:UInt8)) (l:=l.reverse) (by rw [e];simp)
     rw [e] at h
     simp only [List.all_cons,Bool.and_eq_true] at h
     simp only [e,List.head_cons] at h3
     rw [h.1] at h3
     cases h3
   rw [dropWhile_nil,List.all_reverse] at h2
   exact h2
  ·intro h
   have h2:l.reverse.dropWhile (· == (0:UInt8))=[]:=by rw [dropWhile_nil,List.all_reverse];exact h
   rw [h2];rfl
 cases hb:l.all (fun c=>c==0) with
 | true=>rw [h1.2 hb];rfl
 | false =>
  refine cN fun e => ?_
  rw [h1.1 e] at hb
  cases hb
end Go.Lg.Fld
namespace Go.Proofs.YtopiioklkkiedaaGreatDoor
open Go Go.Lg Go.Lg.Fld
set_option maxRecDepth 100000
variable (X:Nat→Option Obj)
theorem trimRight_spec (l:List UInt8) (hl:l.length<4611686018427387904):PSpec Tryz.prog X 163 [Ls l,Ln .u8 0] (Ls (Lib.trimRightB l 0)):=by
 refine cC Tryz.func163 rfl (by kernel_rfl) rfl rfl ?_
 intro C
 (refine aA<|rgN<|kas O<|aB<|aA<|aG ?_)
 refine cG (fun m σ=>∃ k:Nat,k≤l.length∧m=k∧(∀ (j:Nat) b,k≤j→l[j]? = some b→b=0)∧σ=⟨[(0,Ls (l.take k)),(1,Ln .u8 0)],[],X⟩) l.length
  ⟨_,Le.of (by exact ⟨by rw [dC];rfl,rfl,trivial⟩) (by exact trivial) (by exact rfl) (by exact rfl) (by exact rfl),l.length,by omega,rfl,(fun j b hj hb=>by rw [List.getElem?_eq_none hj] at hb;cases hb),rfl⟩ ?_
 rintro m σ ⟨k,hk,rfl,hz,rfl⟩
 have hlen:(⟨(l.take m).toArray⟩:ByteArray).size=m:=by show (l.take m).length=m;rw [cW];omega
 by_cases h0:m=0
 ·subst h0
  rw [Lib.trimRightB_take l 0 0 hk hz (fun _ h=>absurd h (by omega))]
  (refine aA<|aA<|rgN<|kmv O<|kln O<|aS O O (cK (by omega)) dO<|kmv O<|aC O O O<|aC O O O<|aC O O O<|aC O O O<|aC O O O<|aC O O O<|aC O O O ?_;refine kpf O O<|aB<|aF O ?_;refine aJ<|aA<|rgN<|kmv O<|kas O<|aB<|aI ?_)
  exact ⟨[_],⟨O,trivial⟩,O⟩
 ·obtain ⟨c,hc⟩:∃ c,l[m-1]? = some c:=⟨_,cU (by omega)⟩
  have hc':(l.take m)[m-1]? = some c:=by rw [List.getElem?_take,if_pos (by omega)];exact hc
  have hm1:((m:Nat):Int)-1=((m-1:Nat):Int):=by omega
  have hw:IntKind.i64.wrap (((⟨(l.take m).toArray⟩:ByteArray).size:Nat)-1:Int)=((m-1:Nat):Int):=by rw [hlen,cE (by omega)];omega
  by_cases hcz:c=0
  ·have hcut:(⟨(l.take m).toArray⟩:ByteArray).extract 0 (m-1)=⟨(l.take (m-1)).toArray⟩:=by rw [str_cut,List.drop_zero,List.take_take];congr 3;omega
   have hz':∀ (j:Nat) b,m-1≤j→l[j]? = some b→b=0:=fun j b hj hb=>by
    by_cases e:j=m-1
    ·subst e;rw [hc] at hb;cases hb;exact hcz
    ·exact hz j b (by omega) hb
   have heq:(((c.toNat:Nat):Int)==0)=true:=by rw [hcz];rfl
   (refine aA<|aA<|rgN<|kmv O<|kln O<|aS O O (cL (by rw [hlen];omega)) dO<|kmv O<|gmv O O O<|gmv O O O<|K.lenStr O (dP O O) ?_;refine bA O O hw (dP O O) ?_;refine bB O O (by omega) (str_at (by rw [dD];exact hc')) (dP O O) ?_;refine gmv O O O<|bC O O heq (dP O O) ?_;refine kpt O O<|aB<|aE O ?_;refine aH ?_;refine aG<|rgN<|kmv O<|kmv O<|kln O<|bA O O hw dO<|bM (l:=0) (h:=m-1) (kl:=.i64) (kh:=.i64) O StrT.u O O ⟨(by omega),(by omega)⟩ hcut dO<|kas O<|aB ?_)
   exact ⟨m-1,_,by omega,Le.of (by exact ⟨O,O,trivial⟩) (by exact trivial) (by exact O) (by exact O) (by exact O),m-1,by omega,O,hz',O⟩
  ·have heq:(((c.toNat:Nat):Int)==0)=false:=cN fun e=>hcz (by
    have h5:c.toNat=0:=by omega
    exact UInt8.toNat_inj.1 h5)
   rw [Lib.trimRightB_take l 0 m hk hz (fun b _ hb=>by rw [hc] at hb;cases hb;exact hcz)]
   (refine aA<|aA<|rgN<|kmv O<|kln O<|aS O O (cL (by rw [hlen];omega)) dO<|kmv O<|gmv O O O<|gmv O O O<|K.lenStr O (dP O O) ?_;refine bA O O hw (dP O O) ?_;refine bB O O (by omega) (str_at (by rw [dD];exact hc')) (dP O O) ?_;refine gmv O O O<|bC O O heq (dP O O) ?_;refine kpt O O<|aB<|aF O ?_;refine aJ<|aA<|rgN<|kmv O<|kas O<|aB<|aI ?_)
   exact ⟨[_],⟨O,trivial⟩,O⟩
theorem trimLeft_spec (l:List UInt8) (hl:l.length<4611686018427387904):PSpec Tryz.prog X 162 [Ls l,Ln .u8 0] (Ls (Lib.trimLeftB l 0)):=by
 refine cC Tryz.func162 rfl (by kernel_rfl) rfl rfl ?_
 intro C
 (refine aA<|rgN<|kas O<|aB<|aA<|aG ?_)
 refine cG (fun m σ=>∃ k:Nat,k≤l.length∧m=l.length-k∧(∀ (j:Nat) b,j<k→l[j]? = some b→b=0)∧σ=⟨[(0,Ls (l.drop k)),(1,Ln .u8 0)],[],X⟩) l.length
  ⟨_,Le.of (by exact ⟨rfl,rfl,trivial⟩) (by exact trivial) (by exact rfl) (by exact rfl) (by exact rfl),0,by omega,rfl,(fun j b hj=>absurd hj (by omega)),rfl⟩ ?_
 rintro m σ ⟨k,hk,rfl,hz,rfl⟩
 have hlen:(⟨(l.drop k).toArray⟩:ByteArray).size=l.length-k:=by show (l.drop k).length=_;rw [cX]
 by_cases h0:k=l.length
 ·subst h0
  rw [Lib.trimLeftB_drop l 0 l.length hk hz (fun b hb=>by rw [List.getElem?_eq_none (dK _)] at hb;cases hb)]
  (refine aA<|aA<|rgN<|kmv O<|kln O<|aS O O (cK (by rw [hlen];omega)) dO<|kmv O<|aC O O O<|aC O O O<|aC O O O<|aC O O O<|kpf O O<|aB<|aF O ?_;refine aJ<|aA<|rgN<|kmv O<|kas O<|aB<|aI ?_)
  exact ⟨[_],⟨O,trivial⟩,O⟩
 ·obtain ⟨c,hc⟩:∃ c,l[k]? = some c:=⟨_,cU (by omega)⟩
  have hc':(l.drop k)[0]? = some c:=by rw [List.getElem?_drop];exact hc
  by_cases hcz:c=0
  ·have hcut:(⟨(l.drop k).toArray⟩:ByteArray).extract 1 (l.length-k)=⟨(l.drop (k+1)).toArray⟩:=by rw [str_cut,List.drop_drop,List.take_of_length_le (by rw [cX];omega)]
   have hz':∀ (j:Nat) b,j<k+1→l[j]? = some b→b=0:=fun j b hj hb=>by
    by_cases e:j=k
    ·subst e;rw [hc] at hb;cases hb;exact hcz
    ·exact hz j b (by omega) hb
   have heq:(((c.toNat:Nat):Int)==0)=true:=by rw [hcz];rfl
   (refine aA<|aA<|rgN<|kmv O<|kln O<|aS O O (cL (by rw [hlen];omega)) dO<|kmv O<|gmv O O O<|bB O O (by omega) (str_at hc') (dP O O) ?_;refine gmv O O O<|bC O O heq (dP O O) ?_;refine kpt O O<|aB<|aE O ?_;refine aH ?_;refine aG<|rgN<|kmv O<|bM (l:=1) (h:=l.length-k) (kl:=.i64) (kh:=.i64) O StrT.u O hlen.symm ⟨(by omega),(by rw [hlen];omega)⟩ hcut dO<|kas O<|aB ?_)
   exact ⟨_,_,by omega,Le.of (by exact ⟨O,O,trivial⟩) (by exact trivial) (by exact O) (by exact O) (by exact O),k+1,by omega,O,hz',O⟩
  ·have heq:(((c.toNat:Nat):Int)==0)=false:=cN fun e=>hcz (by
    have h5:c.toNat=0:=by omega
    exact UInt8.toNat_inj.1 h5)
   rw [Lib.trimLeftB_drop l 0 k hk hz (fun b hb=>by rw [hc] at hb;cases hb;exact hcz)]
   (refine aA<|aA<|rgN<|kmv O<|kln O<|aS O O (cL (by rw [hlen];omega)) dO<|kmv O<|gmv O O O<|bB O O (by omega) (str_at hc') (dP O O) ?_;refine gmv O O O<|bC O O heq (dP O O) ?_;refine kpt O O<|aB<|aF O ?_;refine aJ<|aA<|rgN<|kmv O<|kas O<|aB<|aI ?_)
   exact ⟨[_],⟨O,trivial⟩,O⟩
theorem trimRight_len (l:List UInt8):(Lib.trimRightB l 0).length≤l.length:=by
 unfold Lib.trimRightB
 rw [List.length_reverse]
 exact Nat.le_trans (List.dropWhile_sublist _).length_le (by rw [List.length_reverse];exact dK _)
theorem trim_spec (l:List UInt8) (hl:l.length<4611686018427387904):PSpec Tryz.prog X 122 [Ls l,Ls [0]] (Ls (Lib.trimB l 0)):=by
 refine cC Tryz.func122 rfl (by kernel_rfl) rfl rfl ?_
 intro C
 by_cases h:l=[]
 ·subst h
  (refine aA<|rgN<|kas O<|aB<|aA<|aA<|rgN<|kmv O<|kse O O (strs_eq (r:=true) (by decide))<|kmv O<|aC O O O<|aC O O O<|kpt O O<|aB ?_;refine aE O ?_;refine aA<|rgN<|kmv O<|kas O<|aB<|aI ?_)
  exact ⟨[_],⟨O,trivial⟩,O⟩
 ·have hR:=trimRight_spec X l hl
  have hL:=trimLeft_spec X (Lib.trimRightB l 0) (Nat.lt_of_le_of_lt (trimRight_len l) hl)
  (refine aA<|rgN<|kas O<|aB<|aA<|aA<|rgN<|kmv O<|kse O O (strs_eq (r:=false) (cN h))<|kmv O<|gmv O O O<|K.strEq O O (strs_eq (r:=false) (by decide)) (dP O O) ?_;refine kpf O O<|aB<|aF O ?_;refine aH ?_;refine aA<|aA<|rgN<|kmv O<|kln O<|keq O O O<|kmv O<|gmv O O O<|bB O O (by omega) (str_at O) (dP O O) ?_;refine bK O O O (dP O O) ?_;refine kpt O O<|aB<|aE O ?_;refine aA<|rgD mixed<|kmv O<|kmv O<|bB O O (by omega) (str_at O) dO<|kca O O (hR)<|kmv O<|bB O O (by omega) (str_at O) dO<|kca O O (hL)<|kas O<|aB<|rgA ?_;refine aI ?_)
  exact ⟨[_],⟨O,trivial⟩,O⟩
theorem isBlank_spec (l:List UInt8) (hl:l.length<4611686018427387904) (r:Bool) (hr:blankB l=r):PSpec Tryz.prog X 82 [Ls l] (Lb r):=by
 subst hr
 have hT:=trim_spec X l hl
 rw [← trim_blank]
 refine cC Tryz.func82 rfl (by kernel_rfl) rfl rfl ?_
 intro C
 (refine aA<|rgN<|kas O<|aB<|aA<|rgN<|kmv O<|kca O O (hT)<|kse O O (strs_eq O)<|kas O<|aB<|aI ?_)
 exact ⟨[_],⟨O,trivial⟩,O⟩
theorem multipleFrom_spec (a w:Nat) (hw:isWd w) (ha:a<1000000):PSpec Tryz.prog X 117 [Ln .i64 (a:Nat),Ln .i64 (w:Nat)] (Ln .i64 (roundUp a w:Nat)):=by
 rw [← round_up hw]
 have hw8:1≤w∧w≤8:=by rcases hw with e|e|e|e<;>omega
 have hq:((a+w-1:Nat):Int)/((w:Nat):Int)=(((a+w-1)/w:Nat):Int):=(Int.natCast_ediv _ _).symm
 have hs:IntKind.i64.wrap ((a:Nat)+(w:Nat)-1:Int)=((a+w-1:Nat):Int):=by rw [cE (by omega)];omega
 have hd:IntKind.i64.wrap (((a+w-1:Nat):Int).tdiv ((w:Nat):Int))=(((a+w-1)/w:Nat):Int):=by rw [quo_i64 (by omega) (by omega)];exact hq
 have hb:(a+w-1)/w*w≤a+w-1:=Nat.div_mul_le_self _ _
 have hm:IntKind.i64.wrap ((((a+w-1)/w:Nat):Int)*((w:Nat):Int))=(((a+w-1)/w*w:Nat):Int):=by
  rw [← Int.natCast_mul,cE (by omega)]
 refine cC Tryz.func117 rfl (by kernel_rfl) rfl rfl ?_
 intro C
 (refine aA<|rgN<|kas O<|aB<|aA<|rgN<|kmv O<|kmv O<|kad O O (cE (by omega))<|bA O O hs dO<|kmv O<|K.quo O O (by omega) hd dO<|kmv O<|bL O O hm dO ?_;refine kas O<|aB<|aI ?_)
 exact ⟨[_],⟨O,trivial⟩,O⟩
theorem sumOfCounts_spec (ad:Option Addr) (cap:Nat) (fs:List Fl) (hin:FieldsIn X ad fs) (h8:fs.length≤8) (hall:fs.all Fl.ok=true):PSpec Tryz.prog X 69 [Lx ad fs.length cap] (Ln .i64 (sumC fs:Nat)):=by
 refine cC Tryz.func69 rfl (by kernel_rfl) rfl rfl ?_
 intro C
 (refine aA<|rgN<|kas O<|aB<|aA<|rgN<|kas O<|aB<|aA<|aA<|rgN<|kmv O<|aQ O bZ O dO ?_;refine kmv O<|aB<|aG ?_)
 refine cG (fun m σ=>∃ i:Nat,i≤fs.length∧m=fs.length-i∧σ=⟨[(3,Ln .i64 (sumC (fs.take i):Nat)),(6,Lx ad fs.length cap),(7,Ln .i64 (fs.length:Nat)),(8,Ln .i64 (i:Nat))],[],X⟩) fs.length
  ⟨_,Le.of (by exact ⟨rfl,rfl,rfl,rfl,trivial⟩) (by exact trivial) (by exact rfl) (by exact rfl) (by exact rfl),0,by omega,by omega,rfl⟩ ?_
 rintro m σ ⟨i,hi,rfl,rfl⟩
 have hs:=sum_le (fs.take i) (by rw [List.all_eq_true] at hall ⊢;exact fun f hf=>hall f (List.mem_of_mem_take hf))
 rw [cW] at hs
 by_cases hlt:i<fs.length
 ·obtain ⟨f,hf⟩:∃ f,fs[i]? = some f:=⟨_,cU hlt⟩
  obtain ⟨blk,off,arr,el,fr,rfl,hX,hsz,hcells⟩:=hin.at hf
  have hio:off+Int.toNat (i:Int)*3=off+i*3:=by simp
  obtain ⟨hw,hn1,hn8,hnc⟩:=ok_w (List.all_eq_true.1 hall f (cZ hf))
  have hfc:f.vals.map CV.val=[.val (.string ⟨f.nm.toArray⟩),.val (.int .i64 f.kind),.val (.int .i64 (f.n:Nat))]:=by rw [hnc];rfl
  rw [hfc] at hcells
  have hadd:IntKind.i64.wrap (((sumC (fs.take i):Nat):Int)+((f.n:Nat):Int))=((sumC (fs.take (i+1)):Nat):Int):=by
   rw [take_snoc hf,sum_snoc,cE (by omega)];omega
  (refine aA<|rgN<|klt O O (cL (by omega))<|aB<|aA<|aE O ?_;refine aH ?_;refine aA<|aG<|aA<|rgN<|aR O O bZ (by omega) hio dO<|aY O hX (by kernel_rfl) hsz hcells dO<|aP O dO ?_;refine aM O O O O O O dO ?_;refine aB<|rgN<|kmv O<|kfa O O ?_;refine kl1 O O O<|kad O O hadd<|kas O<|aB<|rgN<|kad O O (cE (by omega))<|kmv O<|aB ?_)
  exact ⟨_,_,by omega,Le.of (by exact ⟨O,O,O,O,trivial⟩) (by exact trivial) (by exact O) (by exact O) (by exact O),i+1,by omega,O,O⟩
 ·have e:i=fs.length:=by omega
  subst e
  rw [dC]
  (refine aA<|rgN<|klt O O (cK (by omega))<|aB<|aA<|aF O ?_;refine aJ<|aA<|rgN<|kmv O<|kas O<|aB<|aI ?_)
  exact ⟨[_],⟨O,trivial⟩,O⟩
end Go.Proofs.YtopiioklkkiedaaGreatDoor
end
section
namespace Go.Lg.Fld
open Go Go.Lg
theorem take_ok {fs:List Fl} (h:fs.all Fl.ok=true) (i:Nat):(fs.take i).all Fl.ok=true:=by
 rw [List.all_eq_true] at h ⊢
 exact fun f hf=>h f (List.mem_of_mem_take hf)
theorem drop_at {α:Type} {l:List α} {i:Nat} {x:α} (h:l[i]? = some x):l.drop i=x::l.drop (i+1):=by
 obtain ⟨hi,e⟩:=List.getElem?_eq_some_iff.1 h
 rw [List.drop_eq_getElem_cons hi,e]
theorem fill_set {α:Type} {S:List α} {z x:α} {n i:Nat} (hS:S.length=i) (hi:i<n):(S++List.replicate (n-i) z).set i x=(S++[x])++List.replicate (n-(i+1)) z:=by
 rw [List.set_append_right _ _ (by omega),hS,Nat.sub_self]
 have:n-i=(n-(i+1))+1:=by omega
 rw [this,List.replicate_succ,List.set_cons_zero,dJ]
 rfl
theorem fill_at {α:Type} {S:List α} {z x:α} {n i:Nat} (hS:S.length=i):((S++[x])++List.replicate n z)[i]? = some x:=by
 rw [dJ,List.getElem?_append_right (by omega),hS,Nat.sub_self]
 rfl
theorem fields_take {X:Nat→Option Obj} {ad:Option Addr} {fs:List Fl} (h:FieldsIn X ad fs) (i:Nat):FieldsIn X ad (fs.take i):=
 ⟨fun j r hr=>h.rows j r (by
  rw [List.map_take,List.getElem?_take] at hr
  split at hr
  ·exact hr
  ·cases hr),fun f hf=>h.small f (List.mem_of_mem_take hf)⟩
end Go.Lg.Fld
namespace Go.Proofs.YtopiioklkkiedaaGreatDoor
open Go Go.Lg Go.Lg.Fld
set_option maxRecDepth 100000
variable (X:Nat→Option Obj)
theorem canBe_spec (ad:Option Addr) (cap:Nat) (fs:List Fl) (hin:FieldsIn X ad fs) (hbig:fs.length<4611686018427387904) (r:Bool) (hr:canB fs=r):PSpec Tryz.prog X 115 [Lx ad fs.length cap] (Lb r):=by
 subst hr
 refine cC Tryz.func115 rfl (by kernel_rfl) rfl rfl ?_
 intro C
 by_cases hlong:8<fs.length
 ·have hc:canB fs=false:=by unfold canB;rw [cK (by omega),Bool.false_and]
  rw [hc]
  (refine aA<|rgN<|kas O<|aB<|aA<|aA<|rgN<|kmv O<|aQ O bZ O dO ?_;refine aS O O (cL (by omega)) dO<|aB<|aE O ?_;refine aA<|rgN<|kas O<|aB<|aI ?_)
  exact ⟨[_],⟨O,trivial⟩,O⟩
 have h8:fs.length≤8:=by omega
 have hcb:canB fs=fs.all Fl.ok:=by unfold canB;rw [cL h8,Bool.true_and]
 rw [hcb]
 (refine aA<|rgN<|kas O<|aB<|aA<|aA<|rgN<|kmv O<|aQ O bZ O dO ?_;refine aS O O (cK (by omega)) dO<|aB<|aF O ?_;refine aH ?_;refine aA<|aA<|rgN<|kmv O<|aQ O bZ O dO ?_;refine kmv O<|aB<|aG ?_)
 refine cG (fun m σ=>∃ i:Nat,i≤fs.length∧m=fs.length-i∧(fs.take i).all Fl.ok=true∧σ=⟨[(8,Lx ad fs.length cap),(9,Ln .i64 (fs.length:Nat)),(10,Ln .i64 (i:Nat))],[],X⟩) fs.length
  ⟨_,Le.of (by exact ⟨rfl,rfl,rfl,trivial⟩) (by exact trivial) (by exact rfl) (by exact rfl) (by exact rfl),0,by omega,by omega,rfl,rfl⟩ ?_
 rintro m σ ⟨i,hi,rfl,hall,rfl⟩
 by_cases hlt:i<fs.length
 ·obtain ⟨f,hf⟩:∃ f,fs[i]? = some f:=⟨_,cU hlt⟩
  obtain ⟨blk,off,arr,el,fr,rfl,hX,hsz,hcells⟩:=hin.at hf
  have hio:off+Int.toNat (i:Int)*3=off+i*3:=by simp
  have hmem:f∈fs:=cZ hf
  have hsm:=hin.small f hmem
  have hB:=fSize_spec X f.kind
  cases hok:f.ok with
  | false =>
   have hno:fs.all Fl.ok=false:=by
    cases e:fs.all Fl.ok with
    | false=>rfl
    | true=>rw [List.all_eq_true.1 e f hmem] at hok;cases hok
   rw [hno]
   by_cases h0:kW f.kind=0
   ·rw [h0] at hB
    (refine aA<|rgN<|klt O O (cL (by omega))<|aB<|aA<|aE O ?_;refine aH ?_;refine aA<|aG<|aA<|rgN<|aR O O bZ (by omega) hio dO<|aY O hX (by kernel_rfl) hsz hcells dO<|aP O dO ?_;refine aM O O O O O O dO ?_;refine aB<|aA<|rgN<|kfa O O ?_;refine kl1 O O O<|kca O O (hB)<|keq O O (cR (by omega))<|kmv O<|aC O O O<|aC O O O<|aC O O O<|kpt O O<|kmv O<|aC O O O<|aC O O O<|aC O O O<|kpt O O<|aB ?_;refine aE O ?_;refine aA<|rgN<|kas O<|aB<|aI ?_)
    exact ⟨[_],⟨O,trivial⟩,O⟩
   ·have hk:kK f.kind=true:=by
     cases e:kK f.kind with
     | true=>rfl
     | false=>exact absurd ((kW_zero f.kind).2 e) h0
    by_cases h1:f.count<1
    ·(refine aA<|rgN<|klt O O (cL (by omega))<|aB<|aA<|aE O ?_;refine aH ?_;refine aA<|aG<|aA<|rgN<|aR O O bZ (by omega) hio dO<|aY O hX (by kernel_rfl) hsz hcells dO<|aP O dO ?_;refine aM O O O O O O dO ?_;refine aB<|aA<|rgN<|kfa O O ?_;refine kl1 O O O<|kca O O (hB)<|keq O O (cN (by omega))<|kmv O<|aN O O (dP O O) ?_;refine aO O O O (dP O O) ?_;refine bK O O (cL (by omega)) (dP O O) ?_;refine kpf O O<|kmv O<|aC O O O<|aC O O O<|aC O O O<|kpt O O<|aB<|aE O ?_;refine aA<|rgN<|kas O<|aB<|aI ?_)
     exact ⟨[_],⟨O,trivial⟩,O⟩
    ·have h2:8<f.count:=by
      unfold Fl.ok at hok
      rw [hk,cL (show 1≤f.count by omega)] at hok
      simpa using hok
     (refine aA<|rgN<|klt O O (cL (by omega))<|aB<|aA<|aE O ?_;refine aH ?_;refine aA<|aG<|aA<|rgN<|aR O O bZ (by omega) hio dO<|aY O hX (by kernel_rfl) hsz hcells dO<|aP O dO ?_;refine aM O O O O O O dO ?_;refine aB<|aA<|rgN<|kfa O O ?_;refine kl1 O O O<|kca O O (hB)<|keq O O (cN (by omega))<|kmv O<|aN O O (dP O O) ?_;refine aO O O O (dP O O) ?_;refine bK O O (cK (by omega)) (dP O O) ?_;refine kpf O O<|kmv O<|aN O O (dP O O) ?_;refine aO O O O (dP O O) ?_;refine aS O O (cL (by omega)) (dP O O) ?_;refine kpf O O<|aB<|aE O ?_;refine aA<|rgN<|kas O<|aB<|aI ?_)
     exact ⟨[_],⟨O,trivial⟩,O⟩
  | true =>
   have hall':=take_all hall hf hok
   obtain ⟨hw,hn1,hn8,hnc⟩:=ok_w hok
   have hw1:1≤kW f.kind:=by have hwk:kW f.kind=f.w:=rfl;rcases hw with e|e|e|e<;>omega
   (refine aA<|rgN<|klt O O (cL (by omega))<|aB<|aA<|aE O ?_;refine aH ?_;refine aA<|aG<|aA<|rgN<|aR O O bZ (by omega) hio dO<|aY O hX (by kernel_rfl) hsz hcells dO<|aP O dO ?_;refine aM O O O O O O dO ?_;refine aB<|aA<|rgN<|kfa O O ?_;refine kl1 O O O<|kca O O (hB)<|keq O O (cN (by omega))<|kmv O<|aN O O (dP O O) ?_;refine aO O O O (dP O O) ?_;refine bK O O (cK (by omega)) (dP O O) ?_;refine kpf O O<|kmv O<|aN O O (dP O O) ?_;refine aO O O O (dP O O) ?_;refine aS O O (cK (by omega)) (dP O O) ?_;refine kpf O O<|aB<|aF O ?_;refine aH ?_;refine rgN<|kad O O (cE (by omega))<|kmv O<|aB ?_)
   exact ⟨_,_,by omega,Le.of (by exact ⟨O,O,O,trivial⟩) (by exact trivial) (by exact O) (by exact O) (by exact O),i+1,by omega,O,hall',O⟩
 ·have e:i=fs.length:=by omega
  subst e
  rw [dC] at hall
  rw [hall]
  (refine aA<|rgN<|klt O O (cK (by omega))<|aB<|aA<|aF O ?_;refine aJ<|aA<|rgN<|kas O<|aB<|aI ?_)
  exact ⟨[_],⟨O,trivial⟩,O⟩
theorem Of_no (ad:Option Addr) (cap:Nat) (fs:List Fl) (hin:FieldsIn X ad fs) (hbig:fs.length<4611686018427387904) (h:canB fs=false):
  PSpec Tryz.prog X 78 [Lx ad fs.length cap] (.tup [planV 0 (.val (.slice none 0 0)),Sn .i64 1]):=by
 have hc:=canBe_spec X ad cap fs hin hbig false h
 refine cC Tryz.func78 rfl (by kernel_rfl) rfl rfl ?_
 intro C
 (refine aA<|rgN<|aP O dO ?_;refine kas O<|aB<|aA<|aA<|rgN<|kmv O<|kca O O (hc)<|aV O O dO<|aB<|aE O ?_;refine aA<|rgN<|aT O O (by exact O) (by exact nl2 O O O) dO ?_;refine aM O O O O O O dO ?_;refine kas O<|aB<|aI ?_)
 exact ⟨[_,_],⟨⟨_,_,O,O,O,.inl ⟨AggT.h,O⟩⟩,O,trivial⟩,O⟩
def ofR (fs:List Fl):LV:=if layErr fs=0 then .tup [planV (rowSize fs:Nat) (.slc 1000001 0 fs.length 1),Sn .i64 0] else .tup [planV 0 (.val (.slice none 0 0)),Sn .i64 (layErr fs)]
def ofBx (fs:List Fl):List (Nat×Option Box):=if layErr fs=0 then [(1000001,some ⟨3,(ntV (startsAt 0 fs)).map .val,false⟩)] else []
set_option maxHeartbeats 3200000 in
theorem Of_can (ad:Option Addr) (cap:Nat) (fs:List Fl) (hin:FieldsIn X ad fs) (hbig:fs.length<4611686018427387904) (h:canB fs=true):
  MSpec Tryz.prog X 78 [Lx ad fs.length cap] [] (ofR fs) (ofBx fs):=by
 have hc:=canBe_spec X ad cap fs hin hbig true h
 obtain ⟨h8,hall,hle⟩:=canB_ok h
 refine cD Tryz.func78 rfl (by kernel_rfl) rfl (by unfold ofR ofBx;split<;>rfl) (by unfold ofBx;split<;>exact (by repeat' (first|refine bS ?_ ?_|rfl|exact bU|exact bT|exact bV rfl))) rfl rfl ?_
 intro C
 have hmk:slcBuild Tryz.prog 103 fs.length=some (List.replicate fs.length (.int .i64 0),1,3):=slcBuild_one (by kernel_rfl) (by kernel_rfl) (by omega)
 (refine aA<|rgN<|aP O dO ?_;refine kas O<|aB<|aA<|aA<|rgN<|kmv O<|kca O O (hc)<|aV O O dO<|aB<|aF O ?_;refine aH ?_;refine aA<|rgN<|kmv O<|aQ O bZ O dO ?_;refine K.makeSlc (m:=fs.length) (bytes:=8) O O hmk (by kernel_rfl) (by omega) O O dO<|kas O<|aB<|aA<|rgN<|kas O<|kas O<|aB<|aA<|aA<|rgN<|kmv O<|aQ O bZ O dO ?_;refine kmv O<|aB<|aG ?_)
 refine cG (fun m σ=>∃ i:Nat,i≤fs.length∧m=fs.length-i∧σ=⟨[(2,.sv (.one (.ptr 2 0))),(4,.sv (.one (.slc 17 0 fs.length 1))),(5,Ln .i64 (endAt 0 (fs.take i):Nat)),(6,Ln .i64 (greatW (fs.take i):Nat)),(18,Lx ad fs.length cap),(19,Ln .i64 (fs.length:Nat)),(20,Ln .i64 (i:Nat))],[(2,some ⟨155,[.val (.int .i64 0),.val (.slice none 0 0)],false⟩),(17,some ⟨3,(ntV (startsAt 0 (fs.take i))++List.replicate (fs.length-i) (Value.int .i64 0)).map .val,false⟩)],X⟩) fs.length
  ⟨_,Le.of (by exact ⟨rfl,rfl,rfl,rfl,rfl,rfl,rfl,trivial⟩) (by exact ⟨rfl,rfl,trivial⟩) (by exact rfl) (by exact rfl) (by repeat' (first|refine bS ?_ ?_|rfl|exact bU|exact bT|exact bV rfl)),0,by omega,by omega,rfl⟩ ?_
 rintro m σ ⟨i,hi,rfl,rfl⟩
 have ht:=take_ok hall i
 have hSl:=starts_len (fs.take i) 0
 have hend:=end_le (fs.take i) 0 ht
 have hgw:=great_wd (fs.take i) ht
 have htl:(fs.take i).length=i:=by rw [cW];omega
 rw [htl] at hSl hend
 by_cases hlt:i<fs.length
 ·obtain ⟨f,hf⟩:∃ f,fs[i]? = some f:=⟨_,cU hlt⟩
  obtain ⟨blk,off,arr,el,fr,rfl,hX,hsz,hcells⟩:=hin.at hf
  have hio:off+Int.toNat (i:Int)*3=off+i*3:=by simp
  have hi1:0+Int.toNat (i:Int)*1=i:=by simp
  have hB:=fSize_spec X f.kind
  have hS:startsAt 0 (fs.take (i+1))=startsAt 0 (fs.take i)++[roundUp (endAt 0 (fs.take i)) f.w]:=by rw [take_snoc hf,starts_snoc]
  have hA:endAt 0 (fs.take (i+1))=roundUp (endAt 0 (fs.take i)) f.w+f.w*f.n:=by rw [take_snoc hf,end_snoc]
  have hG:greatW (fs.take (i+1))=max (greatW (fs.take i)) f.w:=by rw [take_snoc hf,great_snoc]
  obtain ⟨hw,hn1,hn8,hnc⟩:=ok_w (List.all_eq_true.1 hall f (cZ hf))
  have hM:=multipleFrom_spec X (endAt 0 (fs.take i)) f.w hw (by omega)
  have hR:=round_facts hw (endAt 0 (fs.take i))
  have hwk:kW f.kind=f.w:=rfl
  rw [hwk] at hB
  have hw8:1≤f.w∧f.w≤8:=by rcases hw with e|e|e|e<;>omega
  have hwn:f.w*f.n≤64:=Nat.le_trans (Nat.mul_le_mul hw8.2 hn8) (by decide)
  have hfc:f.vals.map CV.val=[.val (.string ⟨f.nm.toArray⟩),.val (.int .i64 f.kind),.val (.int .i64 (f.n:Nat))]:=by rw [hnc];rfl
  rw [hfc] at hcells
  generalize startsAt 0 (fs.take i)=S at *
  generalize endAt 0 (fs.take i)=a at *
  generalize greatW (fs.take i)=g at *
  generalize f.w=w at *
  generalize f.n=n at *
  generalize hT:roundUp a w=T at *
  have hnS:(ntV S).length=i:=by simp [ntV,hSl]
  have hlt2:Nat.blt i (((ntV S++List.replicate (fs.length-i) (Value.int .i64 0)).map CV.val).length)=true:=by rw [Nat.blt_eq,cT,cS,hnS,dA];omega
  have hset:((ntV S++List.replicate (fs.length-i) (Value.int .i64 0)).map CV.val).set i (.val (.int .i64 (T:Nat)))=(ntV (S++[T])++List.replicate (fs.length-(i+1)) (Value.int .i64 0)).map CV.val:=by
   rw [← List.map_set,fill_set hnS hlt];simp [ntV]
  have hget:((ntV (S++[T])++List.replicate (fs.length-(i+1)) (Value.int .i64 0)).map CV.val)[i]? = some (.val (.int .i64 (T:Nat))):=by
   rw [dI,show ntV (S++[T])=ntV S++[.int .i64 (T:Nat)] by simp [ntV],fill_at hnS];rfl
  have hmul:IntKind.i64.wrap (((w:Nat):Int)*((n:Nat):Int))=((w*n:Nat):Int):=by rw [← Int.natCast_mul,cE (by omega)]
  have hadd:IntKind.i64.wrap (((T:Nat):Int)+((w*n:Nat):Int))=((T+w*n:Nat):Int):=by rw [cE (by omega)];omega
  have hmx:(if ((w:Nat):Int)>((g:Nat):Int) then ((w:Nat):Int) else ((g:Nat):Int))=((max g w:Nat):Int):=by split<;>omega
  (refine aA<|rgN<|klt O O (cL (by omega))<|aB<|aA<|aE O ?_;refine aH ?_;refine aA<|aG<|aA<|rgN<|kmv O<|aR O O bZ (by omega) hio dO<|aY O hX (by kernel_rfl) hsz hcells dO<|aP O dO ?_;refine kas O<|aM O O O O O O dO ?_;refine aB<|aA<|rgN<|kfa O O ?_;refine kl1 O O O<|kca O O (hB)<|kas O<|aB<|aA<|rgN<|kmv O<|kmv O<|kmv O<|kmv O<|kca O O (hM)<|K.indexSlc O O (by omega) hi1 dO ?_;refine bG O O O O hlt2 hset dO<|aB<|aA<|rgD mixed<|kmv O<|kmv O<|K.indexSlc O O (by omega) hi1 dO ?_;refine kl1 O O hget<|kmv O<|kfa O O ?_;refine kl1 O O O<|bL O O hmul dO<|kad O O hadd<|kas O<|aB<|rgA ?_;refine rgN<|kmv O<|kmv O<|K.max2 O O hmx dO ?_;refine kas O<|aB<|rgN<|kad O O (cE (by omega))<|kmv O<|aB ?_)
  exact ⟨_,_,by omega,Le.of (by exact ⟨rfl,rfl,by rw [hA];rfl,by rw [hG];rfl,rfl,rfl,rfl,trivial⟩) (by exact ⟨rfl,by rw [hS];rfl,trivial⟩) (by exact rfl) (by exact rfl) (by repeat' (first|refine bS ?_ ?_|rfl|exact bU|exact bT|exact bV rfl)),i+1,by omega,rfl,rfl⟩
 ·have e:i=fs.length:=by omega
  subst e
  rw [dC] at *
  have hM:=multipleFrom_spec X (endAt 0 fs) (greatW fs) hgw (by omega)
  rw [show roundUp (endAt 0 fs) (greatW fs)=rowSize fs from rfl] at hM
  unfold ofR ofBx
  rw [hle]
  have hz:(ntV (startsAt 0 fs)++List.replicate (fs.length-fs.length) (Value.int .i64 0)).map CV.val=(ntV (startsAt 0 fs)).map CV.val:=by rw [Nat.sub_self,List.replicate_zero,dG]
  rw [hz]
  have hT:rowSize fs<1000000:=by
   have h1:=round_facts hgw (endAt 0 fs)
   have h2:greatW fs≤8:=by rcases hgw with e|e|e|e<;>omega
   have h3:rowSize fs=roundUp (endAt 0 fs) (greatW fs):=rfl
   omega
  generalize rowSize fs=T at *
  by_cases h256:256<T
  ·rw [if_pos h256,if_neg (by decide),if_neg (by decide)]
   (refine aA<|rgN<|klt O O (cK (by omega))<|aB<|aA<|aF O ?_;refine aJ<|aA<|rgN<|kmv O<|kmv O<|kca O O (hM)<|kas O<|aB<|aA<|aA<|rgN<|kmv O<|aS O O (cL (by omega)) dO<|aB ?_;refine aE O ?_;refine aA<|rgN<|aT O O (by exact O) (by exact nl2 O O O) dO ?_;refine aM O O O O O O dO ?_;refine kas O<|aB<|aI ?_)
   exact ⟨[],⟨[_,_],⟨⟨_,_,O,O,O,.inl ⟨AggT.h,O⟩⟩,O,trivial⟩,O⟩,trivial,O,O⟩
  ·rw [if_neg h256,if_pos rfl,if_pos rfl]
   (refine aA<|rgN<|klt O O (cK (by omega))<|aB<|aA<|aF O ?_;refine aJ<|aA<|rgN<|kmv O<|kmv O<|kca O O (hM)<|kas O<|aB<|aA<|aA<|rgN<|kmv O<|aS O O (cK (by omega)) dO<|aB ?_;refine aF O ?_;refine aH ?_;refine aA<|rgN<|kmv O<|kmv O<|aT O O (by exact O) (by exact nl2 O O O) dO ?_;refine aM O O O O O O dO ?_;refine kas O<|aB<|aI ?_)
   exact ⟨[(1000001,17)],⟨[_,_],⟨⟨_,_,rfl,rfl,rfl,.inl ⟨AggT.h,rfl⟩⟩,rfl,trivial⟩,rfl⟩,(by repeat' (first|exact trivial|refine cM ⟨_,rfl,?_⟩ ?_|refine cM ⟨_,rfl⟩ ?_|rfl|exact bW _ _ _ _|exact bX _ _ _ _|exact bY rfl)),rfl,rfl⟩
end Go.Proofs.YtopiioklkkiedaaGreatDoor
end
section
namespace Go.Lg.Fld
open Go Go.Lg
theorem elVs_fit {l:List (Int×Nat)} {i:Nat} {e:Int×Nat} (h:l[i]? = some e):Nat.ble (i*2+2) ((elVs l).map CV.val).length=true:=by
 have:=(List.getElem?_eq_some_iff.1 h).1
 rw [Nat.ble_eq,cT,elVs_len];omega
theorem elVs_row {l:List (Int×Nat)} {i:Nat} {e:Int×Nat} (h:l[i]? = some e):(((elVs l).map CV.val).drop (i*2)).take 2=[.val (.int .i64 e.1),.val (.int .i64 (e.2:Nat))]:=by
 obtain ⟨h1,h2⟩:=elVs_at h
 rw [drop_at h1,List.take_succ_cons,drop_at h2]
 rfl
end Go.Lg.Fld
namespace Go.Proofs.YtopiioklkkiedaaGreatDoor
open Go Go.Lg Go.Lg.Fld
set_option maxRecDepth 100000
variable (X:Nat→Option Obj)
theorem Of_err (ad:Option Addr) (cap:Nat) (fs:List Fl) (hin:FieldsIn X ad fs) (hbig:fs.length<4611686018427387904) (h:layErr fs≠0):
  PSpec Tryz.prog X 78 [Lx ad fs.length cap] (.tup [planV 0 (.val (.slice none 0 0)),Sn .i64 (layErr fs)]):=by
 cases hc:canB fs with
 | false=>rw [canB_err hc];exact Of_no X ad cap fs hin hbig hc
 | true =>
  have:=Of_can X ad cap fs hin hbig hc
  unfold ofR ofBx at this
  rw [if_neg h,if_neg h] at this
  exact this.plain
theorem Of_ok (ad:Option Addr) (cap:Nat) (fs:List Fl) (hin:FieldsIn X ad fs) (hbig:fs.length<4611686018427387904) (h:layErr fs=0):
  MSpec Tryz.prog X 78 [Lx ad fs.length cap] [] (.tup [planV (rowSize fs:Nat) (.slc 1000001 0 fs.length 1),Sn .i64 0]) [(1000001,some ⟨3,(ntV (startsAt 0 fs)).map .val,false⟩)]:=by
 cases hc:canB fs with
 | false=>rw [canB_err hc] at h;exact absurd h (by decide)
 | true =>
  have:=Of_can X ad cap fs hin hbig hc
  unfold ofR ofBx at this
  rw [if_pos h,if_pos h] at this
  exact this
theorem Check_spec (ad:Option Addr) (cap:Nat) (fs:List Fl) (hin:FieldsIn X ad fs) (hbig:fs.length<4611686018427387904):PSpec Tryz.prog X 66 [Lx ad fs.length cap] (Ln .i64 (layErr fs)):=by
 refine cC Tryz.func66 rfl (by kernel_rfl) rfl rfl ?_
 intro C
 by_cases h:layErr fs=0
 ·have hO:=Of_ok X ad cap fs hin hbig h
  rw [h]
  generalize rowSize fs=T at *
  generalize startsAt 0 fs=S at *
  (refine aA<|rgN<|kas O<|aB<|aA<|rgN<|kmv O<|bE [(1000001,501)] (.tup [planV (T:Nat) (.slc 501 0 fs.length 1),Sn .i64 0]) [(501,some ⟨3,(ntV S).map .val,false⟩)] (hO) O O (by exact trivial) O O O O O (by exact (.box O (bX _ _ _ _) .nil)) dO<|kmv O<|kex O O<|kex O O<|aP O dO ?_;refine aM O O O O O O dO ?_;refine kas O<|aB<|aA<|rgN<|kmv O<|kas O<|aB<|aI ?_)
  exact ⟨[_],⟨O,trivial⟩,O⟩
 ·have hO:=Of_err X ad cap fs hin hbig h
  generalize layErr fs=e at *
  (refine aA<|rgN<|kas O<|aB<|aA<|rgN<|kmv O<|kca O O (hO)<|kmv O<|kex O O<|kex O O<|aP O dO ?_;refine aM O O O O O O dO ?_;refine kas O<|aB<|aA<|rgN<|kmv O<|kas O<|aB<|aI ?_)
  exact ⟨[_],⟨O,trivial⟩,O⟩
theorem Elems_spec (ad:Option Addr) (cap:Nat) (fs:List Fl) (hin:FieldsIn X ad fs) (hbig:fs.length<4611686018427387904):PSpec Tryz.prog X 34 [Lx ad fs.length cap] (Ln .i64 (elemsN fs:Nat)):=by
 have hC:=Check_spec X ad cap fs hin hbig
 refine cC Tryz.func34 rfl (by kernel_rfl) rfl rfl ?_
 intro C
 unfold elemsN
 rw [elems_sum]
 by_cases h:layErr fs=0
 ·obtain ⟨h8,hall,_⟩:=layErr_facts h
  have hS:=sumOfCounts_spec X ad cap fs hin h8 hall
  rw [if_pos h]
  rw [h] at hC
  (refine aA<|rgN<|kas O<|aB<|aA<|aA<|rgN<|kmv O<|kca O O (hC)<|kne O O ((cO (by omega)))<|aB<|aF O ?_;refine aH ?_;refine aA<|rgN<|kmv O<|kca O O (hS)<|kas O<|aB<|aI ?_)
  exact ⟨[_],⟨O,trivial⟩,O⟩
 ·rw [if_neg h]
  generalize layErr fs=e at *
  (refine aA<|rgN<|kas O<|aB<|aA<|aA<|rgN<|kmv O<|kca O O (hC)<|kne O O (cP (by omega))<|aB<|aE O ?_;refine aA<|rgN<|kas O<|aB<|aI ?_)
  exact ⟨[_],⟨O,trivial⟩,O⟩
theorem Start_spec (ad:Option Addr) (cap:Nat) (fs:List Fl) (hcap:fs.length≤cap) (i:Int) (hi : -9223372036854775808≤i∧i<9223372036854775808) (hin:FieldsIn X ad fs) (hbig:fs.length<4611686018427387904):PSpec Tryz.prog X 68 [Lx ad fs.length cap,Ln .i64 i] (Ln .i64 (startN fs i:Nat)):=by
 have hC:=Check_spec X ad cap fs hin hbig
 refine cC Tryz.func68 rfl (by kernel_rfl) rfl rfl ?_
 intro C
 unfold startN
 by_cases h0:0≤i
 ·by_cases h1:i<fs.length
  ·by_cases h:layErr fs=0
   ·obtain ⟨h8,hall,_⟩:=layErr_facts h
    obtain ⟨j,rfl⟩:∃ j:Nat,i=(j:Nat):=⟨i.toNat,by omega⟩
    rw [dD]
    have hj:j<fs.length:=by omega
    obtain ⟨f,hf⟩:∃ f,fs[j]? = some f:=⟨_,cU hj⟩
    obtain ⟨blk,off,arr,el,fr,rfl,_⟩:=hin.at hf
    have hS:=sumOfCounts_spec X (some ⟨blk,off,none⟩) cap (fs.take j) (fields_take hin j) (by rw [cW];omega) (take_ok hall j)
    rw [cW,Nat.min_eq_left (Nat.le_of_lt hj)] at hS
    rw [if_pos ⟨h,by omega,by omega⟩]
    rw [h] at hC
    (refine aA<|rgN<|kas O<|aB<|aA<|aA<|rgN<|kmv O<|klt O O (cK (by omega))<|kmv O<|gmv O O O<|gmv O O O<|aQ O bZ O (dP O O) ?_;refine bD O O (cK (by omega)) (dP O O) ?_;refine kpf O O<|kmv O<|gmv O O O<|gca O O (hC) O O<|aX O O ((cO (by omega))) (dP O O) ?_;refine kpf O O<|aB<|aF O ?_;refine aH ?_;refine aA<|rgN<|kmv O<|kmv O<|K.cutX (h:=j) (kh:=.i64) O O bZ (by omega) (by omega) dO ?_;refine kca O O (hS)<|kas O<|aB<|aI ?_)
    exact ⟨[_],⟨O,trivial⟩,O⟩
   ·rw [if_neg (fun hc=>h hc.1)]
    generalize layErr fs=e at *
    (refine aA<|rgN<|kas O<|aB<|aA<|aA<|rgN<|kmv O<|klt O O (cK (by omega))<|kmv O<|gmv O O O<|gmv O O O<|aQ O bZ O (dP O O) ?_;refine bD O O (cK (by omega)) (dP O O) ?_;refine kpf O O<|kmv O<|gmv O O O<|gca O O (hC) O O<|aX O O (cP (by omega)) (dP O O) ?_;refine kpf O O<|aB<|aE O ?_;refine aA<|rgN<|kas O<|aB<|aI ?_)
    exact ⟨[_],⟨O,trivial⟩,O⟩
  ·rw [if_neg (fun hc=>h1 hc.2.2)]
   (refine aA<|rgN<|kas O<|aB<|aA<|aA<|rgN<|kmv O<|klt O O (cK (by omega))<|kmv O<|gmv O O O<|gmv O O O<|aQ O bZ O (dP O O) ?_;refine bD O O (cL (by omega)) (dP O O) ?_;refine kpf O O<|kmv O<|aC O O O<|aC O O O<|aC O O O<|kpt O O<|aB<|aE O ?_;refine aA<|rgN<|kas O<|aB<|aI ?_)
   exact ⟨[_],⟨O,trivial⟩,O⟩
 ·rw [if_neg (fun hc=>h0 hc.2.1)]
  (refine aA<|rgN<|kas O<|aB<|aA<|aA<|rgN<|kmv O<|klt O O (cL (by omega))<|kmv O<|aC O O O<|aC O O O<|aC O O O<|aC O O O ?_;refine kpt O O<|kmv O<|aC O O O<|aC O O O<|aC O O O<|kpt O O<|aB<|aE O ?_;refine aA<|rgN<|kas O<|aB<|aI ?_)
  exact ⟨[_],⟨O,trivial⟩,O⟩
theorem zeroNums (n:Nat):(List.replicate n (nmV (qn 0))).flatten=nsV (List.replicate n 0):=by
 unfold nsV
 rw [List.map_replicate]
theorem starts_at:∀ {l:List Fl} {a i:Nat} {f:Fl},l[i]? = some f→(startsAt a l)[i]? = some (roundUp (endAt a (l.take i)) f.w)
 | [],_,i,f,h=>by simp at h
 | g::t,a,0,f,h=>by
  simp only [List.getElem?_cons_zero,Option.some.injEq] at h
  subst h;rfl
 | g::t,a,i+1,f,h=>by
  have:=starts_at (l:=t) (a:=roundUp a g.w+g.w*g.n) (i:=i) (f:=f) (by simpa using h)
  simpa [startsAt,endAt] using this
set_option maxHeartbeats 3200000 in
theorem slotsOf_spec (ad:Option Addr) (cap:Nat) (fs:List Fl) (T:Nat) (hin:FieldsIn X ad fs) (h8:fs.length≤8) (hall:fs.all Fl.ok=true):
  MSpec Tryz.prog X 79 [Lx ad fs.length cap,.sv (planV (T:Nat) (.slc 1000001 0 fs.length 1))] [(1000001,some ⟨3,(ntV (startsAt 0 fs)).map .val,false⟩)] (.sv (.one (.slc 1000002 0 (elemsAt 0 fs).length 2)))
   [(1000001,some ⟨3,(ntV (startsAt 0 fs)).map .val,false⟩),(1000002,some ⟨161,(elVs (elemsAt 0 fs)).map .val,Nat.blt 0 (elemsAt 0 fs).length⟩)]:=by
 have hst:∀ {i:Nat} {f:Fl},fs[i]? = some f→(startsAt 0 fs)[i]? = some (roundUp (endAt 0 (fs.take i)) f.w):=fun h=>starts_at h
 refine cD Tryz.func79 rfl (by kernel_rfl) rfl rfl (by exact (by repeat' (first|refine bS ?_ ?_|rfl|exact bU|exact bT|exact bV rfl))) rfl rfl ?_
 intro C
 generalize startsAt 0 fs=S at *
 (refine aA<|rgN<|aL O O O dO<|kas O<|aB<|aA<|rgN<|aZ (zs:=[]) (sz:=2) (e:=161) (by kernel_rfl) O O O O O O dO<|kas O<|aB<|aA<|aA<|rgN<|kmv O ?_;refine aQ O bZ O dO ?_;refine kmv O<|aB<|aG ?_)
 refine cG (fun m σ=>∃ i:Nat,i≤fs.length∧m=fs.length-i∧σ=⟨[(3,.sv (.one (.ptr 3 0))),(5,.sv (.one (.slc 500 0 (elemsAt 0 (fs.take i)).length 2))),(10,Lx ad fs.length cap),(11,Ln .i64 (fs.length:Nat)),(12,Ln .i64 (i:Nat))],[(1000001,some ⟨3,(ntV S).map .val,false⟩),(3,some ⟨155,[.val (.int .i64 (T:Nat)),.slc 1000001 0 fs.length 1],false⟩),(500,some ⟨161,(elVs (elemsAt 0 (fs.take i))).map .val,Nat.blt 0 (elemsAt 0 (fs.take i)).length⟩)],X⟩) fs.length
  ⟨_,Le.ofR [(500,9)] (by exact ⟨rfl,rfl,rfl,rfl,rfl,trivial⟩) (by repeat' (first|exact trivial|refine cM ⟨_,rfl,?_⟩ ?_|refine cM ⟨_,rfl⟩ ?_|rfl|exact bW _ _ _ _|exact bX _ _ _ _|exact bY rfl)) (by exact rfl) (by exact rfl) (by repeat' (first|refine bS ?_ ?_|rfl|exact bU|exact bT|exact bV rfl)) (by exact rfl) (by exact rfl),0,by omega,by omega,rfl⟩ ?_
 rintro m σ ⟨i,hi,rfl,rfl⟩
 have ht:=take_ok hall i
 have hend:=end_le (fs.take i) 0 ht
 have hEl:=elems_len (fs.take i) 0 ht
 have htl:(fs.take i).length=i:=by rw [cW];omega
 rw [htl] at hend hEl
 by_cases hlt:i<fs.length
 ·obtain ⟨f,hf⟩:∃ f,fs[i]? = some f:=⟨_,cU hlt⟩
  obtain ⟨blk,off,arr,el,fr,rfl,hX,hsz,hcells⟩:=hin.at hf
  have hio:off+Int.toNat (i:Int)*3=off+i*3:=by simp
  have hi1:0+Int.toNat (i:Int)*1=i:=by simp
  have hB:=fSize_spec X f.kind
  obtain ⟨hw,hn1,hn8,hnc⟩:=ok_w (List.all_eq_true.1 hall f (cZ hf))
  have hR:=round_facts hw (endAt 0 (fs.take i))
  have hwk:kW f.kind=f.w:=rfl
  rw [hwk] at hB
  have hw8:1≤f.w∧f.w≤8:=by rcases hw with e|e|e|e<;>omega
  have hE:elemsAt 0 (fs.take (i+1))=elemsAt 0 (fs.take i)++(List.range f.n).map (fun j=>(f.kind,roundUp (endAt 0 (fs.take i)) f.w+f.w*j)):=by rw [take_snoc hf,elems_snoc]
  have hfc:f.vals.map CV.val=[.val (.string ⟨f.nm.toArray⟩),.val (.int .i64 f.kind),.val (.int .i64 (f.n:Nat))]:=by rw [hnc];rfl
  rw [hfc] at hcells
  have hgetS:((ntV S).map CV.val)[i]? = some (.val (.int .i64 (roundUp (endAt 0 (fs.take i)) f.w:Nat))):=by
   rw [dI,show ntV S=S.map (fun n:Nat=>Value.int .i64 (n:Nat)) from rfl,dI,hst hf];rfl
  generalize elemsAt 0 (fs.take i)=E at *
  generalize hT:roundUp (endAt 0 (fs.take i)) f.w=b at *
  generalize endAt 0 (fs.take i)=a at *
  generalize f.w=w at *
  generalize f.n=n at *
  (refine aA<|rgN<|klt O O (cL (by omega))<|aB<|aA<|aE O ?_;refine aH ?_;refine aA<|aG<|aA<|rgN<|kmv O<|aR O O bZ (by omega) hio dO<|aY O hX (by kernel_rfl) hsz hcells dO<|aP O dO ?_;refine kas O<|aM O O O O O O dO ?_;refine aB<|aA<|rgN<|kfa O O ?_;refine kl1 O O O<|kmv O<|aB<|aG ?_)
  refine cG (fun m σ=>∃ j:Nat,j≤n∧m=n-j∧σ=⟨[(3,.sv (.one (.ptr 3 0))),(5,.sv (.one (.slc 500 0 (E.length+j) 2))),(6,Ln .i64 (i:Nat)),(7,.sv (.one (.ptr 7 0))),(10,Lx (some ⟨blk,off,none⟩) fs.length cap),(11,Ln .i64 (fs.length:Nat)),(12,Ln .i64 (i:Nat)),(18,Ln .i64 (n:Nat)),(19,Ln .i64 (j:Nat))],[(1000001,some ⟨3,(ntV S).map .val,false⟩),(3,some ⟨155,[.val (.int .i64 (T:Nat)),.slc 1000001 0 fs.length 1],false⟩),(500,some ⟨161,(elVs (E++(List.range j).map (fun q=>(f.kind,b+w*q)))).map .val,Nat.blt 0 (E.length+j)⟩),(7,some ⟨83,[.val (.string ⟨f.nm.toArray⟩),.val (.int .i64 f.kind),.val (.int .i64 (n:Nat))],false⟩)],X⟩) n
   ⟨_,Le.ofR [] (by exact ⟨rfl,rfl,rfl,rfl,rfl,rfl,rfl,rfl,rfl,trivial⟩) (by rw [List.range_zero,List.map_nil,dG];exact (by repeat' (first|exact trivial|refine cM ⟨_,rfl,?_⟩ ?_|refine cM ⟨_,rfl⟩ ?_|rfl|exact bW _ _ _ _|exact bX _ _ _ _|exact bY rfl))) (by exact rfl) (by exact rfl) (by repeat' (first|refine bS ?_ ?_|rfl|exact bU|exact bT|exact bV rfl)) (by exact rfl) (by exact rfl),0,by omega,rfl,rfl⟩ ?_
  rintro m σ ⟨j,hj,rfl,rfl⟩
  have hwj:w*j≤64:=Nat.le_trans (Nat.mul_le_mul hw8.2 (Nat.le_trans hj hn8)) (by decide)
  by_cases hjn:j<n
  ·have hrg:(List.range (j+1)).map (fun q=>(f.kind,b+w*q))=(List.range j).map (fun q=>(f.kind,b+w*q))++[(f.kind,b+w*j)]:=by rw [List.range_succ,dE];rfl
   have hcl2:((elVs (E++(List.range j).map (fun q=>(f.kind,b+w*q)))).map CV.val).length=(E.length+j)*2:=by rw [cT,elVs_len];simp
   have hnc2:(elVs (E++(List.range j).map (fun q=>(f.kind,b+w*q)))).map CV.val++[.val (.int .i64 f.kind),.val (.int .i64 (b+w*j:Nat))]=(elVs (E++(List.range (j+1)).map (fun q=>(f.kind,b+w*q)))).map CV.val:=by
    rw [hrg,← dJ,elVs_app (E++_) [_],dE]
    rfl
   have hmul:IntKind.i64.wrap (((j:Nat):Int)*((w:Nat):Int))=((w*j:Nat):Int):=by rw [← Int.natCast_mul,Nat.mul_comm,cE (by omega)]
   have hadd:IntKind.i64.wrap (((b:Nat):Int)+((w*j:Nat):Int))=((b+w*j:Nat):Int):=by rw [cE (by omega)];omega
   (refine aA<|rgN<|klt O O (cL (by omega))<|aB<|aA<|aE O ?_;refine aH ?_;refine aA<|aG<|aA<|rgN<|kmv O<|kas O<|aB<|rgD mixed<|kmv O<|kfa O O ?_;refine kl1 O O O<|kfa O O ?_;refine kl1 O O O<|kmv O<|K.indexSlc O O (by omega) hi1 dO ?_;refine kl1 O O hgetS<|kmv O<|kfa O O ?_;refine kl1 O O O<|kca O O (hB)<|bL O O hmul dO<|kad O O hadd<|aT O O (by exact O) (by exact nl2 O O O) dO ?_;refine aZ (zs:=[.int .i64 0,.int .i64 0]) (sz:=2) (e:=161) (by kernel_rfl) O O O O O O dO<|bP (by_:=16) (e2:=161) (l2:=[.val (.int .i64 f.kind),.val (.int .i64 (b+w*j:Nat))]) (nl:=E.length+(j+1)) O O hcl2 O O (dK _) O O (by kernel_rfl) (by kernel_rfl) (by omega) (by omega) O O hnc2 dO<|kas O<|aB<|rgA ?_;refine rgN<|kad O O (cE (by omega))<|kmv O<|aB ?_)
   exact ⟨_,_,by omega,Le.ofR [(500,38)] (by exact ⟨rfl,rfl,rfl,rfl,rfl,rfl,rfl,rfl,rfl,trivial⟩) (by repeat' (first|exact trivial|refine cM ⟨_,rfl,?_⟩ ?_|refine cM ⟨_,rfl⟩ ?_|rfl|exact bW _ _ _ _|exact bX _ _ _ _|exact bY rfl)) (by exact rfl) (by exact rfl) (by repeat' (first|refine bS ?_ ?_|rfl|exact bU|exact bT|exact bV rfl)) (by exact rfl) (by exact rfl),j+1,by omega,rfl,rfl⟩
  ·have e:j=n:=by omega
   subst e
   have hEn:(E++(List.range j).map (fun q=>(f.kind,b+w*q))).length=E.length+j:=by simp
   (refine aA<|rgN<|klt O O (cK (by omega))<|aB<|aA<|aF O ?_;refine aJ<|rgN<|kad O O (cE (by omega))<|kmv O<|aB ?_)
   exact ⟨_,_,by omega,Le.ofR [] (by exact ⟨rfl,by rw [hE,hEn];rfl,rfl,rfl,rfl,trivial⟩) (by rw [hE,hEn];exact (by repeat' (first|exact trivial|refine cM ⟨_,rfl,?_⟩ ?_|refine cM ⟨_,rfl⟩ ?_|rfl|exact bW _ _ _ _|exact bX _ _ _ _|exact bY rfl))) (by exact rfl) (by exact rfl) (by repeat' (first|refine bS ?_ ?_|rfl|exact bU|exact bT|exact bV rfl)) (by exact rfl) (by exact rfl),i+1,by omega,rfl,rfl⟩
 ·have e:i=fs.length:=by omega
  subst e
  rw [dC] at *
  generalize elemsAt 0 fs=E at *
  (refine aA<|rgN<|klt O O (cK (by omega))<|aB<|aA<|aF O ?_;refine aJ<|aA<|rgN<|kmv O<|kas O<|aB<|aI ?_)
  exact ⟨[(1000002,500)],⟨[_],⟨rfl,trivial⟩,rfl⟩,(by repeat' (first|exact trivial|refine cM ⟨_,rfl,?_⟩ ?_|refine cM ⟨_,rfl⟩ ?_|rfl|exact bW _ _ _ _|exact bX _ _ _ _|exact bY rfl)),rfl,rfl⟩
theorem slotEnd_spec (k:Int) (at_:Nat) (ha:at_<1000000):PSpec Tryz.prog X 81 [.sv (.agg [.val (.int .i64 k),.val (.int .i64 (at_:Nat))])] (Ln .i64 (at_+kW k:Nat)):=by
 have hB:=fSize_spec X k
 have hw8:=(kfacts k).2.2.2.2
 have hadd:IntKind.i64.wrap (((at_:Nat):Int)+((kW k:Nat):Int))=((at_+kW k:Nat):Int):=by rw [cE (by omega)];omega
 refine cC Tryz.func81 rfl (by kernel_rfl) rfl rfl ?_
 intro C
 (refine aA<|rgN<|aL O O O dO<|kas O<|aB<|aA<|rgD mixed<|kfa O O ?_;refine kl1 O O O<|kfa O O ?_;refine kl1 O O O<|kca O O (hB)<|kad O O hadd<|kas O<|aB<|rgA ?_;refine aI ?_)
 exact ⟨[_],⟨O,trivial⟩,O⟩
end Go.Proofs.YtopiioklkkiedaaGreatDoor
end
section
namespace Go.Lg.Fld
open Go Go.Lg
theorem splice_bc (B s:List UInt8) (p:Nat):splice (B.map bc) p (s.map bc)=(setAt B p s).map bc:=by
 unfold splice setAt
 simp [List.map_take,List.map_drop]
end Go.Lg.Fld
namespace Go.Proofs.YtopiioklkkiedaaGreatDoor
open Go Go.Lg Go.Lg.Fld
set_option maxRecDepth 100000
variable (X:Nat→Option Obj)
set_option maxHeartbeats 1600000 in
theorem lFit_any (ad ad2:Option Addr) (cap cap2:Nat) (fs:List Fl) (ns:List (Bool×Int)) (hin:FieldsIn X ad fs) (hbig:fs.length<4611686018427387904) (hns:NumsIn X ad2 ns):
  PSpec Tryz.prog X 65 [Lx ad fs.length cap,Lx ad2 ns.length cap2] (Ln .i64 (fitErr fs ns)):=by
 refine cC Tryz.func65 rfl (by kernel_rfl) rfl rfl ?_
 intro C
 unfold fitErr
 by_cases hl:layErr fs=0
 ·have hO:=Of_ok X ad cap fs hin hbig hl
  obtain ⟨h8,hall,_⟩:=layErr_facts hl
  have hSl:=slotsOf_spec X ad cap fs (rowSize fs) hin h8 hall
  have hEl:=elems_len fs 0 hall
  rw [if_pos hl]
  generalize elemsAt 0 fs=E at *
  generalize startsAt 0 fs=S at *
  generalize rowSize fs=T at *
  by_cases hn:E.length=ns.length
  ·rw [if_pos hn]
   (refine aA<|rgN<|kas O<|aB<|aA<|rgN<|kmv O<|bE [(1000001,501)] (.tup [planV (T:Nat) (.slc 501 0 fs.length 1),Sn .i64 0]) [(501,some ⟨3,(ntV S).map .val,false⟩)] (hO) O O (by exact trivial) O O O O O (by exact (.box O (bX _ _ _ _) .nil)) dO<|kmv O<|kex O O<|kex O O<|aP O dO ?_;refine aM O O O O O O dO ?_;refine kas O<|aB<|aA<|aA<|rgN<|kmv O<|kne O O ((cO (by omega)))<|aB<|aF O ?_;refine aH ?_;refine aA<|rgN<|kmv O<|aK O O O dO ?_;refine bE [(1000001,501),(1000002,502)] (.sv (.one (.slc 502 0 E.length 2))) [(501,some ⟨3,(ntV S).map .val,false⟩),(502,some ⟨161,(elVs E).map .val,Nat.blt 0 E.length⟩)] (hSl) O O (by exact (cM ⟨_,O,(bX _ _ _ _)⟩ trivial)) (by exact (bS bT O)) O O O O (by exact (.box O (bX _ _ _ _) (.box O (bX _ _ _ _) .nil))) dO<|kas O<|aB<|aA<|aA<|rgN<|kmv O<|aQ O bZ O dO ?_;refine kmv O<|K.lenSlc O bZ O dO ?_;refine kne O O ((cO (by omega)))<|aB<|aF O ?_;refine aH ?_;refine aA<|aA<|rgN<|kmv O<|K.lenSlc O bZ O dO ?_;refine kmv O<|aB<|aG ?_)
   refine cG (fun m σ=>∃ i:Nat,i≤E.length∧m=E.length-i∧((E.zip ns).take i).all (fun p=>fitB p.1.1 p.2.1 p.2.2)=true∧σ=⟨[(1,Lx ad2 ns.length cap2),(26,.sv (.one (.slc 502 0 E.length 2))),(27,Ln .i64 (E.length:Nat)),(28,Ln .i64 (i:Nat))],[(502,some ⟨161,(elVs E).map .val,Nat.blt 0 E.length⟩)],X⟩) E.length
    ⟨_,Le.of (by exact ⟨rfl,rfl,rfl,rfl,trivial⟩) (by exact ⟨rfl,trivial⟩) (by exact rfl) (by exact rfl) (by repeat' (first|refine bS ?_ ?_|rfl|exact bU|exact bT|exact bV rfl)),0,by omega,rfl,rfl,rfl⟩ ?_
   rintro m σ ⟨i,hi,rfl,hpre,rfl⟩
   by_cases hlt:i<E.length
   ·obtain ⟨e,he⟩:∃ e,E[i]? = some e:=⟨_,cU hlt⟩
    obtain ⟨⟨b,N⟩,hv⟩:∃ v,ns[i]? = some v:=⟨_,cU (by omega)⟩
    obtain ⟨hN,blk,off,arr,el,fr,rfl,hX,hsz,hcells⟩:=hns.at hv
    have hio:off+Int.toNat (i:Int)*3=off+i*3:=by simp
    have hie:0+Int.toNat (i:Int)*2=i*2:=by simp
    have hc:=elVs_row he
    have hbl:=elVs_fit he
    have hzip:=zip_at he hv
    have hF:=Fits_spec X e.1 b N hN
    cases hf:fitB e.1 b N with
    | true =>
     have hF':=hF true hf
     (refine aA<|rgN<|klt O O (cL (by omega))<|aB<|aA<|aE O ?_;refine aH ?_;refine aA<|aG<|aA<|rgN<|kmv O<|K.indexSlc O O (by omega) hie dO ?_;refine bJ O O hbl hc dO ?_;refine aP O dO ?_;refine kas O<|aM O O O O O O dO ?_;refine aB<|aA<|rgD mixed<|kfa O O ?_;refine kl1 O O O<|kmv O<|kmv O<|aR O O bZ (by omega) hio dO<|aY O hX (by kernel_rfl) hsz hcells dO<|kca O O (hF')<|aV O O dO<|aB<|rgA ?_;refine aF O ?_;refine aH ?_;refine rgN<|kad O O (cE (by omega))<|kmv O<|aB ?_)
     exact ⟨_,_,by omega,Le.of (by exact ⟨rfl,rfl,rfl,rfl,trivial⟩) (by exact ⟨rfl,trivial⟩) (by exact rfl) (by exact rfl) (by repeat' (first|refine bS ?_ ?_|rfl|exact bU|exact bT|exact bV rfl)),i+1,by omega,rfl,by rw [take_snoc hzip,List.all_append,hpre];simp [hf],rfl⟩
    | false =>
     have hF':=hF false hf
     have hno:fitAll E ns=false:=by
      unfold fitAll
      cases h:(E.zip ns).all (fun p=>fitB p.1.1 p.2.1 p.2.2) with
      | false=>rfl
      | true=>have:=List.all_eq_true.1 h _ (cZ hzip);rw [hf] at this;cases this
     rw [hno]
     (refine aA<|rgN<|klt O O (cL (by omega))<|aB<|aA<|aE O ?_;refine aH ?_;refine aA<|aG<|aA<|rgN<|kmv O<|K.indexSlc O O (by omega) hie dO ?_;refine bJ O O hbl hc dO ?_;refine aP O dO ?_;refine kas O<|aM O O O O O O dO ?_;refine aB<|aA<|rgD mixed<|kfa O O ?_;refine kl1 O O O<|kmv O<|kmv O<|aR O O bZ (by omega) hio dO<|aY O hX (by kernel_rfl) hsz hcells dO<|kca O O (hF')<|aV O O dO<|aB<|rgA ?_;refine aE O ?_;refine aA<|rgN<|kas O<|aB<|aI ?_)
     exact ⟨[_],⟨O,trivial⟩,O⟩
   ·have e:i=E.length:=by omega
    subst e
    have hyes:fitAll E ns=true:=by
     rw [List.take_of_length_le (by rw [List.length_zip];omega)] at hpre
     exact hpre
    rw [hyes]
    (refine aA<|rgN<|klt O O (cK (by omega))<|aB<|aA<|aF O ?_;refine aJ<|aA<|rgN<|kas O<|aB<|aI ?_)
    exact ⟨[_],⟨O,trivial⟩,O⟩
  ·rw [if_neg hn]
   (refine aA<|rgN<|kas O<|aB<|aA<|rgN<|kmv O<|bE [(1000001,501)] (.tup [planV (T:Nat) (.slc 501 0 fs.length 1),Sn .i64 0]) [(501,some ⟨3,(ntV S).map .val,false⟩)] (hO) O O (by exact trivial) O O O O O (by exact (.box O (bX _ _ _ _) .nil)) dO<|kmv O<|kex O O<|kex O O<|aP O dO ?_;refine aM O O O O O O dO ?_;refine kas O<|aB<|aA<|aA<|rgN<|kmv O<|kne O O ((cO (by omega)))<|aB<|aF O ?_;refine aH ?_;refine aA<|rgN<|kmv O<|aK O O O dO ?_;refine bE [(1000001,501),(1000002,502)] (.sv (.one (.slc 502 0 E.length 2))) [(501,some ⟨3,(ntV S).map .val,false⟩),(502,some ⟨161,(elVs E).map .val,Nat.blt 0 E.length⟩)] (hSl) O O (by exact (cM ⟨_,O,(bX _ _ _ _)⟩ trivial)) (by exact (bS bT O)) O O O O (by exact (.box O (bX _ _ _ _) (.box O (bX _ _ _ _) .nil))) dO<|kas O<|aB<|aA<|aA<|rgN<|kmv O<|aQ O bZ O dO ?_;refine kmv O<|K.lenSlc O bZ O dO ?_;refine kne O O (cP (by omega))<|aB<|aE O ?_;refine aA<|rgN<|kas O<|aB<|aI ?_)
   exact ⟨[_],⟨O,trivial⟩,O⟩
 ·have hO:=Of_err X ad cap fs hin hbig hl
  rw [if_neg hl]
  generalize layErr fs=e at *
  (refine aA<|rgN<|kas O<|aB<|aA<|rgN<|kmv O<|kca O O (hO)<|kmv O<|kex O O<|kex O O<|aP O dO ?_;refine aM O O O O O O dO ?_;refine kas O<|aB<|aA<|aA<|rgN<|kmv O<|kne O O (cP (by omega))<|aB<|aE O ?_;refine aA<|rgN<|kmv O<|kas O<|aB<|aI ?_)
  exact ⟨[_],⟨O,trivial⟩,O⟩
theorem lFit_spec (ad ad2:Option Addr) (cap cap2:Nat) (fs:List Fl) (ns:List (Bool×Int)) (hin:FieldsIn X ad fs) (hbig:fs.length<4611686018427387904) (hns:NumsIn X ad2 ns) (_:ns.length<4611686018427387904):
  PSpec Tryz.prog X 65 [Lx ad fs.length cap,Lx ad2 ns.length cap2] (Ln .i64 (fitErr fs ns)):=lFit_any X ad ad2 cap cap2 fs ns hin hbig hns
def packR (fs:List Fl) (ns:List (Bool×Int)):List UInt8:=if fitErr fs ns=0 then packB fs ns else []
set_option maxHeartbeats 1600000 in
theorem lPack_spec (ad ad2:Option Addr) (cap cap2:Nat) (fs:List Fl) (ns:List (Bool×Int)) (hin:FieldsIn X ad fs) (hbig:fs.length<4611686018427387904) (hns:NumsIn X ad2 ns) (hnb:ns.length<4611686018427387904):
  PSpec Tryz.prog X 42 [Lx ad fs.length cap,Lx ad2 ns.length cap2] (.tup [Ss (packR fs ns),Sn .i64 (fitErr fs ns)]):=by
 have hFit:=lFit_spec X ad ad2 cap cap2 fs ns hin hbig hns hnb
 refine cC Tryz.func42 rfl (by kernel_rfl) rfl rfl ?_
 intro C
 unfold packR
 by_cases h:fitErr fs ns=0
 ·rw [if_pos h,h]
  rw [h] at hFit
  obtain ⟨hl,hn,hfit⟩:=fitErr_facts h
  have hO:=Of_ok X ad cap fs hin hbig hl
  obtain ⟨h8,hall,hT⟩:=layErr_facts hl
  have hSl:=slotsOf_spec X ad cap fs (rowSize fs) hin h8 hall
  have hW:=within_row hall
  have hEl:=elems_len fs 0 hall
  unfold packB
  generalize elemsAt 0 fs=E at *
  generalize startsAt 0 fs=S at *
  generalize rowSize fs=T at *
  have hmk:slcBuild Tryz.prog 117 T=some (List.replicate T (.int .u8 0),1,5):=slcBuild_one (by kernel_rfl) (by kernel_rfl) (by omega)
  have hz0:(List.replicate T (Value.int .u8 0)).map CV.val=(List.replicate T (0:UInt8)).map bc:=by rw [List.map_replicate,List.map_replicate];rfl
  (refine aA<|rgN<|kas O<|kas O<|aB<|aA<|aA<|rgN<|kmv O<|kmv O<|kca O O (hFit)<|kas O<|aB<|aA ?_;refine rgN<|kmv O<|kne O O ((cO (by omega)))<|aB<|aF O ?_;refine aH ?_;refine aA<|rgN<|kmv O<|bE [(1000001,501)] (.tup [planV (T:Nat) (.slc 501 0 fs.length 1),Sn .i64 0]) [(501,some ⟨3,(ntV S).map .val,false⟩)] (hO) O O (by exact trivial) O O O O O (by exact (.box O (bX _ _ _ _) .nil)) dO<|kmv O<|kex O O<|kex O O<|aP O dO ?_;refine aM O O O O O O dO ?_;refine kas O<|aB<|aA<|rgN<|kfa O O ?_;refine kl1 O O O<|K.makeSlc (m:=T) (bytes:=1) O O hmk (by kernel_rfl) (by omega) hz0 O dO<|kas O<|aB<|aA<|aA<|rgN<|kmv O<|aK O O O dO ?_;refine bE [(1000001,501),(1000002,502)] (.sv (.one (.slc 502 0 E.length 2))) [(501,some ⟨3,(ntV S).map .val,false⟩),(502,some ⟨161,(elVs E).map .val,Nat.blt 0 E.length⟩)] (hSl) O O (by exact (cM ⟨_,O,(bX _ _ _ _)⟩ trivial)) (by exact (bS bT O)) O O O O (by exact (.box O (bX _ _ _ _) (.box O (bX _ _ _ _) .nil))) dO<|K.lenSlc O bZ O dO ?_;refine kmv O<|aB<|aG ?_)
  refine cG (fun m σ=>∃ i:Nat,i≤E.length∧m=E.length-i∧σ=⟨[(1,Lx ad2 ns.length cap2),(9,.sv (.one (.slc 500 0 T 1))),(30,.sv (.one (.slc 502 0 E.length 2))),(31,Ln .i64 (E.length:Nat)),(32,Ln .i64 (i:Nat))],[(502,some ⟨161,(elVs E).map .val,Nat.blt 0 E.length⟩),(500,some ⟨5,(packE (E.take i) (ns.take i) (List.replicate T 0)).map bc,false⟩)],X⟩) E.length
   ⟨_,Le.ofR [(500,27)] (by exact ⟨rfl,rfl,rfl,rfl,rfl,trivial⟩) (by repeat' (first|exact trivial|refine cM ⟨_,rfl,?_⟩ ?_|refine cM ⟨_,rfl⟩ ?_|rfl|exact bW _ _ _ _|exact bX _ _ _ _|exact bY rfl)) (by exact rfl) (by exact rfl) (by repeat' (first|refine bS ?_ ?_|rfl|exact bU|exact bT|exact bV rfl)) (by exact rfl) (by exact rfl),0,by omega,rfl,rfl⟩ ?_
  rintro m σ ⟨i,hi,rfl,rfl⟩
  have hbl:(packE (E.take i) (ns.take i) (List.replicate T 0)).length=T:=packE_len (fun e he=>hW e (List.mem_of_mem_take he)) (by rw [dA])
  by_cases hlt:i<E.length
  ·obtain ⟨e,he⟩:∃ e,E[i]? = some e:=⟨_,cU hlt⟩
   obtain ⟨⟨b,N⟩,hv⟩:∃ v,ns[i]? = some v:=⟨_,cU (by omega)⟩
   obtain ⟨hN,blk,off,arr,el,fr,rfl,hX,hsz,hcells⟩:=hns.at hv
   have hio:off+Int.toNat (i:Int)*3=off+i*3:=by simp
   have hie:0+Int.toNat (i:Int)*2=i*2:=by simp
   have hc:=elVs_row he
   have hbf:=elVs_fit he
   obtain ⟨g1,g2,g3⟩:=fitAll_at hfit he hv
   have hP:=Put_q X e.1 (zv b N) g2 g3
   rw [← LI_q hN g1] at hP
   have hnext:packE (E.take (i+1)) (ns.take (i+1)) (List.replicate T 0)=setAt (packE (E.take i) (ns.take i) (List.replicate T 0)) e.2 (numB e.1 (b,N)):=by
    rw [take_snoc he,take_snoc hv,packE_snoc]
    rw [cW,cW];omega
   have hWe:=(hW e (cZ he)).2
   have hw1:1≤kW e.1:=by rcases kW_in g2 with x|x|x|x<;>omega
   have hsl:(leB (kW e.1) (wdK e.1 (zv b N))).length=kW e.1:=leB_length _ _
   have hnb2:numB e.1 (b,N)=leB (kW e.1) (wdK e.1 (zv b N)):=rfl
   rw [hnb2] at hnext
   have hw8:=(kfacts e.1).2.2.2.2
   have hspl:=splice_bc (packE (E.take i) (ns.take i) (List.replicate T 0)) (leB (kW e.1) (wdK e.1 (zv b N))) e.2
   rw [← hnext] at hspl
   generalize leB (kW e.1) (wdK e.1 (zv b N))=s at *
   generalize packE (E.take i) (ns.take i) (List.replicate T 0)=B at *
   (refine aA<|rgN<|klt O O (cL (by omega))<|aB<|aA<|aE O ?_;refine aH ?_;refine aA<|aG<|aA<|rgN<|kmv O<|K.indexSlc O O (by omega) hie dO ?_;refine bJ O O hbf hc dO ?_;refine aP O dO ?_;refine kas O<|aM O O O O O O dO ?_;refine aB<|aA<|rgD mixed<|kfa O O ?_;refine kl1 O O O<|kmv O<|kmv O<|aR O O bZ (by omega) hio dO<|aY O hX (by kernel_rfl) hsz hcells dO<|kca O O (hP)<|kmv O<|kex O O<|kex O O<|kas O<|kas O<|aB<|rgA ?_;refine rgN<|kmv O<|kfa O O ?_;refine kl1 O O O<|K.fromSlc (l:=e.2) (kh:=.i64) (off':=e.2) O O bZ (by omega) (by omega) O dO ?_;refine kmv O<|K.copyStr (e:=5) O O O (by kernel_rfl) (by kernel_rfl) (by omega) (by rw [cT];omega) O hspl dO ?_;refine aB<|rgN<|kad O O (cE (by omega))<|kmv O<|aB ?_)
   exact ⟨_,_,by omega,Le.of (by exact ⟨O,O,O,O,O,trivial⟩) (by exact ⟨O,O,trivial⟩) (by exact O) (by exact O) (by repeat' (first|refine bS ?_ ?_|rfl|exact bU|exact bT|exact bV O)),i+1,by omega,O,O⟩
  ·have e:i=E.length:=by omega
   subst e
   rw [dC,List.take_of_length_le (Nat.le_of_eq hn.symm)] at *
   generalize packE E ns (List.replicate T 0)=B at *
   have hlen:0+T≤(B.map bc).length:=by rw [cT];omega
   have hcut:((B.map bc).drop 0).take T=B.map bc:=by rw [List.drop_zero,List.take_of_length_le (by rw [cT];omega)]
   (refine aA<|rgN<|klt O O (cK (by omega))<|aB<|aA<|aF O ?_;refine aJ<|aA<|rgN<|kmv O<|bR O O (by kernel_rfl) StrT.u hlen hcut dO<|kas O<|kas O<|aB<|aI ?_)
   exact ⟨[_,_],⟨O,O,trivial⟩,O⟩
 ·rw [if_neg h]
  generalize fitErr fs ns=e at *
  (refine aA<|rgN<|kas O<|kas O<|aB<|aA<|aA<|rgN<|kmv O<|kmv O<|kca O O (hFit)<|kas O<|aB<|aA ?_;refine rgN<|kmv O<|kne O O (cP (by omega))<|aB<|aE O ?_;refine aA<|rgN<|kmv O<|kas O<|kas O<|aB<|aI ?_)
  exact ⟨[_,_],⟨O,O,trivial⟩,O⟩
end Go.Proofs.YtopiioklkkiedaaGreatDoor
end
section
namespace Go.Lg.Fld
open Go Go.Lg
theorem leB_of:∀ (l:List UInt8),leB l.length (le l)=l
 | []=>rfl
 | c::t=>by
  have ih:=leB_of t
  have hc:=c.toNat_lt
  have h1:(c.toNat+256*le t)%256=c.toNat:=by omega
  have h2:(c.toNat+256*le t)/256=le t:=by omega
  show UInt8.ofNat ((c.toNat+256*le t)%256)::leB t.length ((c.toNat+256*le t)/256)=c::t
  rw [h1,h2,ih,UInt8.ofNat_toNat]
theorem wd_nb {k:Int} {v:Nat} (h:kK k=true) (hv:v<256^kW k):wdK k (nbK k v)=v:=by
 obtain ⟨h1,h2,h3⟩:=kM_facts h
 have hv:v<kM k:=hv
 unfold wdK nbK
 split
 ·have e:((v:Int)-(kM k:Int))%(kM k:Int)=v:=by
   rw [← Int.add_emod_right,Int.sub_add_cancel]
   exact Int.emod_eq_of_lt (by omega) (by omega)
  rw [e];omega
 ·rw [Int.emod_eq_of_lt (by omega) (by omega)];omega
end Go.Lg.Fld
namespace Go.Proofs.YtopiioklkkiedaaGreatDoor
open Go Go.Lg Go.Lg.Fld
set_option maxRecDepth 100000
abbrev ApartE (es:List (Int×Nat)):Prop:=es.Pairwise fun e e'=>e.2+kW e.1≤e'.2
theorem elems_apart:∀ (l:List Fl) (a:Nat),l.all Fl.ok=true→ApartE (elemsAt a l)
 | [],_,_=>List.Pairwise.nil
 | f::t,a,h=>by
  have h0:=h
  simp only [List.all_cons,Bool.and_eq_true] at h
  unfold ApartE
  simp only [elemsAt]
  rw [List.pairwise_append]
  refine ⟨?_,elems_apart t _ h.2,?_⟩
  ·rw [List.pairwise_map]
   refine List.Pairwise.imp (R:=fun i j=>i<j) ?_ List.pairwise_lt_range
   intro i j hij
   have:f.w*i+f.w≤f.w*j:=by rw [← Nat.mul_succ];exact Nat.mul_le_mul_left _ hij
   show roundUp a f.w+f.w*i+f.w≤roundUp a f.w+f.w*j
   omega
  ·intro e he e' he'
   obtain ⟨i,hi,rfl⟩:=List.mem_map.1 he
   have hi:=List.mem_range.1 hi
   have h2:=(elems_in t _ h.2 e' he').2.1
   have:f.w*i+f.w≤f.w*f.n:=by rw [← Nat.mul_succ];exact Nat.mul_le_mul_left _ hi
   show roundUp a f.w+f.w*i+f.w≤e'.2
   omega
theorem setAt_take {b s:List UInt8} {p q:Nat} (hq:q≤p) (hp:p≤b.length):(setAt b p s).take q=b.take q:=by
 unfold setAt
 rw [dJ,List.take_append_of_le_length (by rw [cW];omega),List.take_take,Nat.min_eq_left hq]
theorem packE_take {T q:Nat}:∀ {es:List (Int×Nat)} {ns:List (Bool×Int)} {b:List UInt8},Within es T→(∀ e∈es,q≤e.2)→b.length=T→(packE es ns b).take q=b.take q
 | [],_,b,_,_,_=>rfl
 | _::_,[],b,_,_,_=>rfl
 | e::t,v::u,b,hw,hq,hb=>by
  have h1:=(hw e (by simp)).2
  have hl:(setAt b e.2 (numB e.1 v)).length=T:=by rw [setAt_len (by rw [numB_len];omega)];exact hb
  show (packE t u (setAt b e.2 (numB e.1 v))).take q=b.take q
  rw [packE_take (fun x hx=>hw x (by simp [hx])) (fun x hx=>hq x (by simp [hx])) hl]
  exact setAt_take (hq e (by simp)) (by omega)
theorem setAt_get {b s:List UInt8} {p:Nat} (h:p+s.length≤b.length) (i:Nat):(setAt b p s)[i]? = if p≤i∧i<p+s.length then s[i-p]? else b[i]? := by
 unfold setAt
 have hl:(b.take p).length=p:=by rw [cW];omega
 by_cases h1:i<p
 ·rw [if_neg (by omega),dJ,dN (by omega),List.getElem?_take,if_pos h1]
 ·by_cases h2:i<p+s.length
  ·rw [if_pos ⟨by omega,h2⟩,dJ,List.getElem?_append_right (by omega),hl,dN (by omega)]
  ·rw [if_neg (by omega),List.getElem?_append_right (by rw [cS];omega),cS,hl,List.getElem?_drop]
   congr 1
   omega
theorem nsV_splice:∀ (zs:List Int) (k:Nat) (z:Int),k<zs.length→splice ((nsV zs).map CV.val) (k*3) (cQ z)=(nsV (zs.set k z)).map CV.val
 | [],k,z,h=>by simp at h
 | y::t,0,z,_=>by
  have e:(nsV (y::t)).map CV.val=cQ y++(nsV t).map CV.val:=by simp [nsV,nmV,qn]
  have e2:(nsV (z::t)).map CV.val=cQ z++(nsV t).map CV.val:=by simp [nsV,nmV,qn]
  show splice ((nsV (y::t)).map CV.val) (0*3) (cQ z)=(nsV (z::t)).map CV.val
  rw [e,e2]
  rfl
 | y::t,k+1,z,h=>by
  have ih:=nsV_splice t k z (by simpa using h)
  have e:(nsV (y::t)).map CV.val=cQ y++(nsV t).map CV.val:=by simp [nsV,nmV,qn]
  have e2:(nsV (y::t.set k z)).map CV.val=cQ y++(nsV (t.set k z)).map CV.val:=by simp [nsV,nmV,qn]
  show splice ((nsV (y::t)).map CV.val) ((k+1)*3) (cQ z)=(nsV (y::t.set k z)).map CV.val
  rw [e,e2,← ih]
  unfold splice
  rw [show (k+1)*3=3+k*3 by omega]
  have l3:(cQ y).length=3:=rfl
  have l3':(cQ z).length=3:=rfl
  rw [l3',List.take_append,List.drop_append,l3,List.take_of_length_le (by rw [l3];omega),List.drop_of_length_le (by rw [l3];omega)]
  rw [show 3+k*3-3=k*3 by omega,show 3+k*3+3-3=k*3+3 by omega]
  simp only [dJ,List.nil_append]
def gapsB:Nat→List (Int×Nat)→List UInt8→Bool
 | a,[],s=>blankB (s.drop a)
 | a,e::t,s=>blankB ((s.drop a).take (e.2-a))&&gapsB (e.2+kW e.1) t s
theorem blank_at {l:List UInt8} (h:blankB l=true) {i:Nat} {c:UInt8} (hi:l[i]? = some c):c=0:=by
 have:=List.all_eq_true.1 h c (cZ hi)
 simpa using this
theorem blank_of {l:List UInt8} (h:∀ (i:Nat) (c:UInt8),l[i]? = some c→c=0):blankB l=true:=by
 unfold blankB
 refine List.all_eq_true.2 fun c hc => ?_
 obtain ⟨i,hi⟩:=List.getElem?_of_mem hc
 rw [h i c hi]
 rfl
theorem numB_read {s:List UInt8} {e:Int×Nat} (hk:kK e.1=true) (h:e.2+kW e.1≤s.length):numB e.1 (qn (rdE s e))=(s.drop e.2).take (kW e.1):=by
 have hl:((s.drop e.2).take (kW e.1)).length=kW e.1:=by rw [cW,cX];omega
 have hb:=le_lt ((s.drop e.2).take (kW e.1))
 rw [hl] at hb
 show leB (kW e.1) (wdK e.1 (zv (qn (rdE s e)).1 (qn (rdE s e)).2))=_
 rw [zv_qn]
 unfold rdE
 rw [wd_nb hk hb]
 have h2:=leB_of ((s.drop e.2).take (kW e.1))
 rw [hl] at h2
 exact h2
theorem pre_get {s:List UInt8} {a T:Nat} (hs:s.length=T) (ha:a≤T) (i:Nat):(s.take a++List.replicate (T-a) (0:UInt8))[i]? = if i<a then s[i]? else if i<T then some 0 else none:=by
 have hl:(s.take a).length=a:=by rw [cW];omega
 by_cases h1:i<a
 ·rw [if_pos h1,dN (by omega),List.getElem?_take,if_pos h1]
 ·rw [if_neg h1,List.getElem?_append_right (by omega),hl,List.getElem?_replicate]
  by_cases h2:i<T
  ·rw [if_pos h2,if_pos (by omega)]
  ·rw [if_neg h2,if_neg (by omega)]
theorem gaps_pack {T:Nat} {s:List UInt8} (hs:s.length=T):∀ {es:List (Int×Nat)} {a:Nat},Within es T→ApartE es→(∀ e∈es,a≤e.2)→a≤T →
  (packE es ((es.map (rdE s)).map qn) (s.take a++List.replicate (T-a) 0)==s)=gapsB a es s
 | [],a,_,_,_,ha=>by
  show (s.take a++List.replicate (T-a) 0==s)=blankB (s.drop a)
  cases hb:blankB (s.drop a) with
  | true =>
   refine cR (List.ext_getElem? fun i => ?_)
   rw [pre_get hs ha]
   by_cases h1:i<a
   ·rw [if_pos h1]
   ·rw [if_neg h1]
    by_cases h2:i<T
    ·rw [if_pos h2]
     obtain ⟨c,hc⟩:∃ c,s[i]? = some c:=⟨_,cU (by omega)⟩
     rw [hc,blank_at (c:=c) hb (i:=i-a) (by rw [List.getElem?_drop,Nat.add_sub_cancel' (by omega)];exact hc)]
    ·rw [if_neg h2,List.getElem?_eq_none (by omega)]
  | false =>
   refine cN fun e => ?_
   rw [blank_of (fun i c hc => ?_)] at hb
   ·cases hb
   ·rw [List.getElem?_drop] at hc
    have hi:=(List.getElem?_eq_some_iff.1 hc).1
    rw [← e,pre_get hs ha,if_neg (by omega),if_pos (by omega)] at hc
    exact (Option.some.inj hc).symm
 | e::t,a,hw,hp,hge,ha=>by
  have he:=hw e (by simp)
  have hae:=hge e (by simp)
  have h2:∀ x∈t,e.2+kW e.1≤x.2:=(List.pairwise_cons.1 hp).1
  have hnb:=numB_read (s:=s) he.1 (by rw [hs];exact he.2)
  have hbl:((s.drop e.2).take (kW e.1)).length=kW e.1:=by rw [cW,cX];omega
  have hl0:(s.take a++List.replicate (T-a) (0:UInt8)).length=T:=by rw [cS,cW,dA];omega
  show (packE t ((t.map (rdE s)).map qn) (setAt (s.take a++List.replicate (T-a) 0) e.2 (numB e.1 (qn (rdE s e))))==s)=(blankB ((s.drop a).take (e.2-a))&&gapsB (e.2+kW e.1) t s)
  rw [hnb]
  cases hb:blankB ((s.drop a).take (e.2-a)) with
  | true =>
   rw [Bool.true_and,← gaps_pack hs (fun x hx=>hw x (by simp [hx])) (List.pairwise_cons.1 hp).2 h2 he.2]
   congr 2
   refine List.ext_getElem? fun i => ?_
   rw [setAt_get (by rw [hl0,hbl];exact he.2),pre_get hs ha,pre_get hs he.2,hbl]
   by_cases c1:e.2≤i∧i<e.2+kW e.1
   ·rw [if_pos c1,if_pos c1.2,List.getElem?_take,if_pos (by omega),List.getElem?_drop,Nat.add_sub_cancel' c1.1]
   ·rw [if_neg c1]
    by_cases c2:i<a
    ·rw [if_pos c2,if_pos (by omega)]
    ·rw [if_neg c2]
     by_cases c3:i<e.2+kW e.1
     ·rw [if_pos c3,if_pos (by omega)]
      obtain ⟨c,hc⟩:∃ c,s[i]? = some c:=⟨_,cU (by omega)⟩
      rw [hc,blank_at (c:=c) hb (i:=i-a) (by rw [List.getElem?_take,if_pos (by omega),List.getElem?_drop,Nat.add_sub_cancel' (by omega)];exact hc)]
     ·rw [if_neg c3]
  | false =>
   rw [Bool.false_and]
   refine cN fun h => ?_
   have hls:(setAt (s.take a++List.replicate (T-a) 0) e.2 ((s.drop e.2).take (kW e.1))).length=T:=by rw [setAt_len (by rw [hl0,hbl];exact he.2)];exact hl0
   have h3:=packE_take (ns:=(t.map (rdE s)).map qn) (q:=e.2) (fun x hx=>hw x (by simp [hx])) (fun x hx=>Nat.le_trans (Nat.le_add_right _ _) (h2 x hx)) hls
   rw [h,setAt_take (dK _) (by rw [hl0];omega)] at h3
   rw [blank_of (fun i c hc => ?_)] at hb
   ·cases hb
   ·rw [List.getElem?_take] at hc
    split at hc
    ·rename_i hi
     rw [List.getElem?_drop] at hc
     have h4:=congrArg (fun l=>l[a+i]?) h3
     simp only [List.getElem?_take] at h4
     rw [if_pos (by omega),if_pos (by omega),hc,pre_get hs ha,if_neg (by omega),if_pos (by omega)] at h4
     exact Option.some.inj h4
    ·cases hc
variable (X:Nat→Option Obj)
def lunpBx (fs:List Fl) (s:List UInt8):List (Nat×Option Box):=if unpErr fs s=0 then [(1000001,some ⟨86,(nsV (unpZ fs s)).map .val,false⟩)] else []
set_option maxHeartbeats 6400000 in
theorem lUnpack_spec (ad:Option Addr) (cap:Nat) (fs:List Fl) (s:List UInt8) (hin:FieldsIn X ad fs) (hbig:fs.length<4611686018427387904):
  MSpec Tryz.prog X 41 [Lx ad fs.length cap,Ls s] [] (unpR fs s) (lunpBx fs s):=by
 refine cD Tryz.func41 rfl (by kernel_rfl) rfl (by unfold unpR lunpBx;split<;>rfl) (by unfold lunpBx;split<;>exact (by repeat' (first|refine bS ?_ ?_|rfl|exact bU|exact bT|exact bV rfl))) rfl rfl ?_
 intro C
 have hzs:(⟨s.toArray⟩:ByteArray).size=s.length:=rfl
 by_cases hl:layErr fs=0
 ·have hO:=Of_ok X ad cap fs hin hbig hl
  obtain ⟨h8,hall,hT⟩:=layErr_facts hl
  have hSl:=slotsOf_spec X ad cap fs (rowSize fs) hin h8 hall
  have hW:=within_row hall
  have hEl:=elems_len fs 0 hall
  have hue:unpErr fs s=if unpOk fs s=true then 0 else 4:=if_pos hl
  unfold unpR lunpBx
  rw [hue]
  unfold unpOk packB
  have hzl:(unpZ fs s).length=(elemsAt 0 fs).length:=by simp [unpZ]
  have hzd:unpZ fs s=(elemsAt 0 fs).map (rdE s):=rfl
  have hAp:=elems_apart fs 0 hall
  generalize hZ:unpZ fs s=Z at *
  generalize elemsAt 0 fs=E at *
  generalize startsAt 0 fs=S at *
  generalize rowSize fs=T at *
  by_cases hn:s.length=T
  ·have hgp:=gaps_pack hn hW hAp (fun _ _=>Nat.zero_le _) (Nat.zero_le _)
   rw [List.take_zero,List.nil_append,Nat.sub_zero,← hzd] at hgp
   rw [cL hn,Bool.true_and,hgp]
   have hmk:slcBuild Tryz.prog 28 E.length=some (nsV (List.replicate E.length 0),3,86):=by
    rw [← zeroNums]
    exact slcBuild_many (z := #[.bool false,.int .u64 0,.int .u64 0]) (by kernel_rfl) (by kernel_rfl) O (by omega)
   (refine aA<|rgN<|kas O<|kas O<|aB<|aA<|rgN<|kmv O<|bE [(1000001,501)] (.tup [planV (T:Nat) (.slc 501 0 fs.length 1),Sn .i64 0]) [(501,some ⟨3,(ntV S).map .val,false⟩)] (hO) O O (by exact trivial) O O O O O (by exact (.box O (bX _ _ _ _) .nil)) dO<|kmv O<|kex O O<|kex O O<|aP O dO ?_;refine aM O O O O O O dO ?_;refine kas O<|aB<|aA<|aA<|rgN<|kmv O<|kne O O ((cO (by omega)))<|aB<|aF O ?_;refine aH ?_;refine aA<|aA<|rgN<|kmv O<|kln O<|kfa O O ?_;refine kl1 O O O<|kne O O ((cO (by omega)))<|aB<|aF O ?_;refine aH ?_;refine aA<|rgN<|kmv O<|aK O O O dO ?_;refine bE [(1000001,501),(1000002,502)] (.sv (.one (.slc 502 0 E.length 2))) [(501,some ⟨3,(ntV S).map .val,false⟩),(502,some ⟨161,(elVs E).map .val,Nat.blt 0 E.length⟩)] (hSl) O O (by exact (cM ⟨_,O,(bX _ _ _ _)⟩ trivial)) (by exact (bS bT O)) O O O O (by exact (.box O (bX _ _ _ _) (.box O (bX _ _ _ _) .nil))) dO<|kas O<|aB<|aA<|rgN<|kmv O<|K.lenSlc O bZ O dO ?_;refine K.makeSlc (m:=E.length) (bytes:=24) O O hmk (by kernel_rfl) (by omega) O O dO<|kas O<|aB<|aA<|rgN<|kas O<|aB<|aA<|aA<|rgN<|kmv O<|K.lenSlc O bZ O dO ?_;refine kmv O<|aB<|aG ?_)
   refine cG (fun m σ=>∃ i a:Nat,i≤E.length∧m=E.length-i∧readOk E s=readOk (E.drop i) s∧gapsB 0 E s=gapsB a (E.drop i) s∧(∀ e∈E.drop i,a≤e.2)∧a≤T∧σ=⟨[(1,Ls s),(9,.sv (.one (.slc 500 0 E.length 3))),(10,Ln .i64 (a:Nat)),(32,.sv (.one (.slc 502 0 E.length 2))),(33,Ln .i64 (E.length:Nat)),(34,Ln .i64 (i:Nat))],[(502,some ⟨161,(elVs E).map .val,Nat.blt 0 E.length⟩),(500,some ⟨86,(nsV (Z.take i++List.replicate (E.length-i) 0)).map .val,false⟩)],X⟩) E.length
    ⟨_,Le.ofR [(500,31)] (by exact ⟨rfl,rfl,rfl,rfl,rfl,rfl,trivial⟩) (by repeat' (first|exact trivial|refine cM ⟨_,rfl,?_⟩ ?_|refine cM ⟨_,rfl⟩ ?_|rfl|exact bW _ _ _ _|exact bX _ _ _ _|exact bY rfl)) (by exact rfl) (by exact rfl) (by repeat' (first|refine bS ?_ ?_|rfl|exact bU|exact bT|exact bV rfl)) (by exact rfl) (by exact rfl),0,0,by omega,rfl,rfl,rfl,(fun _ _=>Nat.zero_le _),Nat.zero_le _,rfl⟩ ?_
   rintro m σ ⟨i,a,hi,rfl,hrd0,hgp0,hge,haT,rfl⟩
   by_cases hlt:i<E.length
   ·obtain ⟨e,he⟩:∃ e,E[i]? = some e:=⟨_,cU hlt⟩
    have hz:Z[i]? = some (rdE s e):=by rw [hzd,dI,he];rfl
    have hm:=cZ he
    have hdr:=drop_at he
    have hio:0+Int.toNat (i:Int)*3=i*3:=by simp
    have hie:0+Int.toNat (i:Int)*2=i*2:=by simp
    have hc:=elVs_row he
    have hbf:=elVs_fit he
    have hWe:=hW e hm
    have hrd:=read_R hW hn hm
    have hG:=Get_q X e.1 ((s.drop e.2).take (kW e.1)) hWe.1 hrd.1
    have hEnd:=slotEnd_spec X e.1 e.2 (by omega)
    have hcut:(⟨s.toArray⟩:ByteArray).extract e.2 (e.2+kW e.1)=⟨((s.drop e.2).take (kW e.1)).toArray⟩:=by rw [str_cut,Nat.add_sub_cancel_left]
    have hw8:=(kfacts e.1).2.2.2.2
    rw [hdr] at hge hgp0 hrd0
    have hae:=hge e (by simp)
    have hcut2:(⟨s.toArray⟩:ByteArray).extract a e.2=⟨((s.drop a).take (e.2-a)).toArray⟩:=str_cut _ _ _
    have hBk:=isBlank_spec X ((s.drop a).take (e.2-a)) (by rw [cW,cX];omega)
    have hro:readOk (e::E.drop (i+1)) s=(fitZ e.1 (rdE s e)&&readOk (E.drop (i+1)) s):=rfl
    have hgo:gapsB a (e::E.drop (i+1)) s=(blankB ((s.drop a).take (e.2-a))&&gapsB (e.2+kW e.1) (E.drop (i+1)) s):=rfl
    rw [hro] at hrd0
    rw [hgo] at hgp0
    rw [show nbK e.1 (le ((s.drop e.2).take (kW e.1)))=rdE s e from rfl] at hG
    have hvl:(Z.take i++List.replicate (E.length-i) (0:Int)).length=E.length:=by rw [cS,cW,dA];omega
    have hsp:=fun z=>nsV_splice (Z.take i++List.replicate (E.length-i) (0:Int)) i z (by omega)
    have hm3:i*3+3≤((nsV (Z.take i++List.replicate (E.length-i) (0:Int))).map CV.val).length:=by rw [cT,nsV_len,hvl];omega
    have hset:(Z.take i++List.replicate (E.length-i) (0:Int)).set i (rdE s e)=Z.take (i+1)++List.replicate (E.length-(i+1)) 0:=by
     rw [fill_set (by rw [cW];omega) hlt,take_snoc hz]
    have hge2:∀ x∈E.drop (i+1),e.2+kW e.1≤x.2:=by
     have h5:=hAp.sublist (List.drop_sublist i E)
     rw [hdr] at h5
     exact (List.pairwise_cons.1 h5).1
    cases hf:fitZ e.1 (rdE s e) with
    | true =>
     rw [hf,if_pos rfl] at hG
     rw [hf,Bool.true_and] at hrd0
     have hsp1:=hsp (rdE s e)
     rw [hset] at hsp1
     cases hbk:blankB ((s.drop a).take (e.2-a)) with
     | true =>
      have hBk':=hBk true hbk
      rw [hbk,Bool.true_and] at hgp0
      generalize (s.drop e.2).take (kW e.1)=t at *
      generalize (s.drop a).take (e.2-a)=u at *
      generalize kW e.1=w at *
      generalize rdE s e=z at *
      (refine aA<|rgN<|klt O O (cL (by omega))<|aB<|aA<|aE O ?_;refine aH ?_;refine aA<|aG<|aA<|rgN<|kmv O<|K.indexSlc O O (by omega) hie dO ?_;refine bJ O O hbf hc dO ?_;refine aP O dO ?_;refine kas O<|aM O O O O O O dO ?_;refine aB<|aA<|rgD mixed<|kmv O<|kmv O<|kfa O O ?_;refine kl1 O O O<|kmv O<|kfa O O ?_;refine kl1 O O O<|aK O O O dO ?_;refine kca O O (hEnd)<|bM (l:=e.2) (h:=e.2+w) (kl:=.i64) (kh:=.i64) O StrT.u O O ⟨(by omega),(by omega)⟩ hcut dO<|kca O O (hG)<|kmv O<|kex O O<|kex O O<|K.indexSlc O O (by omega) hio dO ?_;refine K.store O O O O (by kernel_rfl) hm3 hsp1 dO<|kas O<|aB<|rgA ?_;refine aA<|aA<|rgN<|kmv O<|kne O O ((cO (by omega)))<|kmv O<|gmv O O O<|gmv O O O<|aN O O (dP O O) ?_;refine aO O O O (dP O O) ?_;refine bM (l:=a) (h:=e.2) (kl:=.i64) (kh:=.i64) O StrT.u O O ⟨(by omega),(by omega)⟩ hcut2 (dP O O) ?_;refine gca O O (hBk') O O<|aV O O (dP O O) ?_;refine kpf O O<|aB<|aF O ?_;refine aH ?_;refine rgN<|aK O O O dO ?_;refine kca O O (hEnd)<|kas O<|aB<|rgN<|kad O O (cE (by omega))<|kmv O<|aB ?_)
      exact ⟨_,_,by omega,Le.of (by exact ⟨O,O,O,O,O,O,trivial⟩) (by exact ⟨O,O,trivial⟩) (by exact O) (by exact O) (by repeat' (first|refine bS ?_ ?_|rfl|exact bU|exact bT|exact bV O)),i+1,e.2+w,by omega,O,hrd0,hgp0,hge2,(by omega),O⟩
     | false =>
      have hBk':=hBk false hbk
      rw [hgp0,hbk,Bool.false_and,Bool.and_false,if_neg (by simp),if_neg (by decide),if_neg (by decide)]
      generalize (s.drop e.2).take (kW e.1)=t at *
      generalize (s.drop a).take (e.2-a)=u at *
      generalize kW e.1=w at *
      generalize rdE s e=z at *
      (refine aA<|rgN<|klt O O (cL (by omega))<|aB<|aA<|aE O ?_;refine aH ?_;refine aA<|aG<|aA<|rgN<|kmv O<|K.indexSlc O O (by omega) hie dO ?_;refine bJ O O hbf hc dO ?_;refine aP O dO ?_;refine kas O<|aM O O O O O O dO ?_;refine aB<|aA<|rgD mixed<|kmv O<|kmv O<|kfa O O ?_;refine kl1 O O O<|kmv O<|kfa O O ?_;refine kl1 O O O<|aK O O O dO ?_;refine kca O O (hEnd)<|bM (l:=e.2) (h:=e.2+w) (kl:=.i64) (kh:=.i64) O StrT.u O O ⟨(by omega),(by omega)⟩ hcut dO<|kca O O (hG)<|kmv O<|kex O O<|kex O O<|K.indexSlc O O (by omega) hio dO ?_;refine K.store O O O O (by kernel_rfl) hm3 hsp1 dO<|kas O<|aB<|rgA ?_;refine aA<|aA<|rgN<|kmv O<|kne O O ((cO (by omega)))<|kmv O<|gmv O O O<|gmv O O O<|aN O O (dP O O) ?_;refine aO O O O (dP O O) ?_;refine bM (l:=a) (h:=e.2) (kl:=.i64) (kh:=.i64) O StrT.u O O ⟨(by omega),(by omega)⟩ hcut2 (dP O O) ?_;refine gca O O (hBk') O O<|aV O O (dP O O) ?_;refine kpf O O<|aB<|aE O ?_;refine aA<|rgN<|kas O<|kas O<|aB<|aI ?_)
      exact ⟨[],⟨[_,_],⟨O,O,trivial⟩,O⟩,trivial,O,O⟩
    | false =>
     rw [hf,if_neg (by simp)] at hG
     have hsp0:=hsp 0
     rw [hrd0,hf,Bool.false_and,Bool.false_and,if_neg (by simp),if_neg (by decide),if_neg (by decide)]
     generalize (s.drop e.2).take (kW e.1)=t at *
     generalize kW e.1=w at *
     (refine aA<|rgN<|klt O O (cL (by omega))<|aB<|aA<|aE O ?_;refine aH ?_;refine aA<|aG<|aA<|rgN<|kmv O<|K.indexSlc O O (by omega) hie dO ?_;refine bJ O O hbf hc dO ?_;refine aP O dO ?_;refine kas O<|aM O O O O O O dO ?_;refine aB<|aA<|rgD mixed<|kmv O<|kmv O<|kfa O O ?_;refine kl1 O O O<|kmv O<|kfa O O ?_;refine kl1 O O O<|aK O O O dO ?_;refine kca O O (hEnd)<|bM (l:=e.2) (h:=e.2+w) (kl:=.i64) (kh:=.i64) O StrT.u O O ⟨(by omega),(by omega)⟩ hcut dO<|kca O O (hG)<|kmv O<|kex O O<|kex O O<|K.indexSlc O O (by omega) hio dO ?_;refine K.store O O O O (by kernel_rfl) hm3 hsp0 dO<|kas O<|aB<|rgA ?_;refine aA<|aA<|rgN<|kmv O<|kne O O (cP (by omega))<|kmv O<|aC O O O<|aC O O O<|aC O O O<|aC O O O<|aC O O O<|aC O O O<|aC O O O<|kpt O O ?_;refine aB<|aE O ?_;refine aA<|rgN<|kas O<|kas O<|aB<|aI ?_)
     exact ⟨[],⟨[_,_],⟨O,O,trivial⟩,O⟩,trivial,O,O⟩
   ·have e:i=E.length:=by omega
    subst e
    rw [List.drop_length] at hrd0 hgp0
    rw [hrd0,hgp0,show readOk [] s=true from rfl,Bool.true_and,show gapsB a [] s=blankB (s.drop a) from rfl]
    have hfin:(nsV (Z.take E.length++List.replicate (E.length-E.length) (0:Int))).map CV.val=(nsV Z).map CV.val:=by rw [List.take_of_length_le (by omega),Nat.sub_self,List.replicate_zero,dG]
    rw [hfin]
    have hcut:(⟨s.toArray⟩:ByteArray).extract a s.length=⟨(s.drop a).toArray⟩:=by rw [str_cut,List.take_of_length_le (by rw [cX];omega)]
    have hBk:=isBlank_spec X (s.drop a) (by rw [cX];omega)
    cases hbk:blankB (s.drop a) with
    | true =>
     have hBk':=hBk true hbk
     rw [if_pos rfl,if_pos rfl,if_pos rfl]
     (refine aA<|rgN<|klt O O (cK (by omega))<|aB<|aA<|aF O ?_;refine aJ<|aA<|aA<|rgN<|kmv O<|kmv O<|bM (l:=a) (h:=s.length) (kl:=.i64) (kh:=.i64) O StrT.u O hzs.symm ⟨(by omega),(by omega)⟩ hcut dO<|kca O O (hBk')<|aV O O dO<|aB<|aF O ?_;refine aH ?_;refine aA<|rgN<|kmv O<|kas O<|kas O<|aB<|aI ?_)
     exact ⟨[(1000001,500)],⟨[_,_],⟨rfl,rfl,trivial⟩,by rw [hzl];rfl⟩,(by repeat' (first|exact trivial|refine cM ⟨_,rfl,?_⟩ ?_|refine cM ⟨_,rfl⟩ ?_|rfl|exact bW _ _ _ _|exact bX _ _ _ _|exact bY rfl)),rfl,rfl⟩
    | false =>
     have hBk':=hBk false hbk
     rw [if_neg (by simp),if_neg (by decide),if_neg (by decide)]
     (refine aA<|rgN<|klt O O (cK (by omega))<|aB<|aA<|aF O ?_;refine aJ<|aA<|aA<|rgN<|kmv O<|kmv O<|bM (l:=a) (h:=s.length) (kl:=.i64) (kh:=.i64) O StrT.u O hzs.symm ⟨(by omega),(by omega)⟩ hcut dO<|kca O O (hBk')<|aV O O dO<|aB<|aE O ?_;refine aA<|rgN<|kas O<|kas O<|aB<|aI ?_)
     exact ⟨[],⟨[_,_],⟨O,O,trivial⟩,O⟩,trivial,O,O⟩
  ·rw [cK hn,Bool.false_and,if_neg (by simp),if_neg (by decide),if_neg (by decide)]
   (refine aA<|rgN<|kas O<|kas O<|aB<|aA<|rgN<|kmv O<|bE [(1000001,501)] (.tup [planV (T:Nat) (.slc 501 0 fs.length 1),Sn .i64 0]) [(501,some ⟨3,(ntV S).map .val,false⟩)] (hO) O O (by exact trivial) O O O O O (by exact (.box O (bX _ _ _ _) .nil)) dO<|kmv O<|kex O O<|kex O O<|aP O dO ?_;refine aM O O O O O O dO ?_;refine kas O<|aB<|aA<|aA<|rgN<|kmv O<|kne O O ((cO (by omega)))<|aB<|aF O ?_;refine aH ?_;refine aA<|aA<|rgN<|kmv O<|kln O<|kfa O O ?_;refine kl1 O O O<|kne O O (cP (by omega))<|aB<|aE O ?_;refine aA<|rgN<|kas O<|kas O<|aB<|aI ?_)
   exact ⟨[],⟨[_,_],⟨O,O,trivial⟩,O⟩,trivial,O,O⟩
 ·have hO:=Of_err X ad cap fs hin hbig hl
  have hue:unpErr fs s=layErr fs:=if_neg hl
  unfold unpR lunpBx
  rw [hue,if_neg hl,if_neg hl]
  generalize layErr fs=e at *
  (refine aA<|rgN<|kas O<|kas O<|aB<|aA<|rgN<|kmv O<|kca O O (hO)<|kmv O<|kex O O<|kex O O<|aP O dO ?_;refine aM O O O O O O dO ?_;refine kas O<|aB<|aA<|aA<|rgN<|kmv O<|kne O O (cP (by omega))<|aB<|aE O ?_;refine aA<|rgN<|kmv O<|kas O<|kas O<|aB<|aI ?_)
  exact ⟨[],⟨[_,_],⟨O,O,trivial⟩,O⟩,trivial,O,O⟩
end Go.Proofs.YtopiioklkkiedaaGreatDoor
end
section
namespace Go.Proofs.YtopiioklkkiedaaGreatDoor
open Go Go.Lg Go.Lg.Fld
set_option maxRecDepth 100000
variable (X:Nat→Option Obj)
theorem lUnpack_err (ad:Option Addr) (cap:Nat) (fs:List Fl) (s:List UInt8) (hin:FieldsIn X ad fs) (hbig:fs.length<4611686018427387904) (h:unpErr fs s≠0):
  PSpec Tryz.prog X 41 [Lx ad fs.length cap,Ls s] (.tup [Vnil,Sn .i64 (unpErr fs s)]):=by
 have:=lUnpack_spec X ad cap fs s hin hbig
 unfold unpR lunpBx at this
 rw [if_neg h,if_neg h] at this
 exact this.plain
theorem lUnpack_ok (ad:Option Addr) (cap:Nat) (fs:List Fl) (s:List UInt8) (hin:FieldsIn X ad fs) (hbig:fs.length<4611686018427387904) (h:unpErr fs s=0):
  MSpec Tryz.prog X 41 [Lx ad fs.length cap,Ls s] [] (.tup [.one (.slc 1000001 0 (unpZ fs s).length 3),Sn .i64 0]) [(1000001,some ⟨86,(nsV (unpZ fs s)).map .val,false⟩)]:=by
 have:=lUnpack_spec X ad cap fs s hin hbig
 unfold unpR lunpBx at this
 rw [if_pos h,if_pos h] at this
 exact this
end Go.Proofs.YtopiioklkkiedaaGreatDoor
end
section
namespace Go.Lg.Fld
open Go Go.Lg
instance:DecidableEq Fl:=fun a b=>decidable_of_iff (a.nm=b.nm∧a.kind=b.kind∧a.count=b.count) ⟨fun ⟨h1,h2,h3⟩=>by cases a;cases b;simp_all,fun h=>by rw [h];exact ⟨rfl,rfl,rfl⟩⟩
structure Cp where
 id:Int
 nm:List UInt8
 fs:List Fl
instance:DecidableEq Cp:=fun a b=>decidable_of_iff (a.id=b.id∧a.nm=b.nm∧a.fs=b.fs) ⟨fun ⟨h1,h2,h3⟩=>by cases a;cases b;simp_all,fun h=>by rw [h];exact ⟨rfl,rfl,rfl⟩⟩
structure Sc where
 ver:Int
 cs:List Cp
instance:DecidableEq Sc:=fun a b=>decidable_of_iff (a.ver=b.ver∧a.cs=b.cs) ⟨fun ⟨h1,h2⟩=>by cases a;cases b;simp_all,fun h=>by rw [h];exact ⟨rfl,rfl⟩⟩
def letB (c:UInt8):Bool:=decide (97≤c.toNat)&&decide (c.toNat≤122)
def digB (c:UInt8):Bool:=decide (48≤c.toNat)&&decide (c.toNat≤57)
def nmC (l:List UInt8) (i:Nat):Bool:=letB (l.getD i 0)||(digB (l.getD i 0)&&decide (i≠0))
def nmB (l:List UInt8):Bool:=decide (1≤l.length)&&decide (l.length≤12)&&(List.range l.length).all (nmC l)
def firstE (f:Nat→Int):Nat→Nat→Int
 | _,0=>0
 | i,n+1=>if f i=0 then firstE f (i+1) n else f i
theorem firstE_none {f:Nat→Int}:∀ {n i:Nat},(∀ j,i≤j→j<i+n→f j=0)→firstE f i n=0
 | 0,_,_=>rfl
 | n+1,i,h=>by
  unfold firstE
  rw [if_pos (h i (dK _) (by omega))]
  exact firstE_none fun j h1 h2=>h j (by omega) (by omega)
theorem firstE_some {f:Nat→Int} {e:Int}:∀ {n i k:Nat},(∀ j,i≤j→j<k→f j=0)→i≤k→k<i+n→f k=e→e≠0→firstE f i n=e
 | 0,_,_,_,h1,h2,_,_=>by omega
 | n+1,i,k,h,h1,h2,he,h0=>by
  unfold firstE
  by_cases e1:i=k
  ·subst e1;rw [if_neg (by rw [he];exact h0),he]
  ·rw [if_pos (h i (dK _) (by omega))]
   exact firstE_some (fun j h3 h4=>h j (by omega) h4) (by omega) (by omega) he h0
theorem firstE_zero {f:Nat→Int}:∀ {n i:Nat},firstE f i n=0→∀ j,i≤j→j<i+n→f j=0
 | 0,_,_,_,h1,h2=>by omega
 | n+1,i,h,j,h1,h2=>by
  unfold firstE at h
  split at h
  ·rename_i h3
   by_cases e:j=i
   ·rw [e];exact h3
   ·exact firstE_zero h j (by omega) (by omega)
  ·rename_i h3;exact absurd h h3
def fldE (fs:List Fl) (k:Nat):Int:=match fs[k]? with
 | some f=>if nmB f.nm=true then (if (fs.take k).any (fun g=>g.nm==f.nm)=true then 4 else 0) else 4
 | none=>0
def prevId (cs:List Cp) (i:Nat):Int:=(cs[i-1]?.map Cp.id).getD 0
def cmpE (cs:List Cp) (i:Nat):Int:=match cs[i]? with
 | some c =>
  if c.id<1∨24<c.id∨(0<i∧c.id≤prevId cs i) then 1
  else if nmB c.nm=true then (if (cs.take i).any (fun g=>g.nm==c.nm)=true then 4 else if firstE (fldE c.fs) 0 c.fs.length=0 then layErr c.fs else 4) else 4
 | none=>0
def chkE (s:Sc):Int:=if s.ver<1∨1073741824<s.ver then 1 else firstE (cmpE s.cs) 0 s.cs.length
structure CompsIn (X:Nat→Option Obj) (ad:Option Addr) (cs:List Cp):Prop where
 at_:∀ (i:Nat) (c:Cp),cs[i]? = some c→∃ (blk off:Nat) (arr:Array Value) (el:TypeId) (fr:Nat×Nat) (fad:Option Addr) (fcap:Nat),ad=some ⟨blk,off,none⟩∧X blk=some (.cells arr el fr)∧off+i*3+3≤arr.size ∧
  (arr.toList.drop (off+i*3)).take 3=[.int .i64 c.id,.string ⟨c.nm.toArray⟩,.slice fad c.fs.length fcap]∧FieldsIn X fad c.fs
 small:∀ c∈cs,-9223372036854775808≤c.id∧c.id<9223372036854775808
theorem FieldsIn.mono {X Y:Nat→Option Obj} (hXY:∀ b o,X b=some o→Y b=some o) {ad:Option Addr} {fs:List Fl} (h:FieldsIn X ad fs):FieldsIn Y ad fs:=⟨RowsIn.mono h.rows hXY,h.small⟩
theorem CompsIn.mono {X Y:Nat→Option Obj} (hXY:∀ b o,X b=some o→Y b=some o) {ad:Option Addr} {cs:List Cp} (h:CompsIn X ad cs):CompsIn Y ad cs:=⟨fun i c hc=>by
 obtain ⟨blk,off,arr,el,fr,fad,fcap,h1,h2,h3,h4,h5⟩:=h.at_ i c hc
 exact ⟨blk,off,arr,el,fr,fad,fcap,h1,hXY _ _ h2,h3,h4,h5.mono hXY⟩,h.small⟩
theorem three_at {arr:Array Value} {p:Nat} {a b c:Value} (h:(arr.toList.drop p).take 3=[a,b,c]):arr[p]? = some a∧arr[p+1]? = some b∧arr[p+2]? = some c:=by
 have key:∀ j,j<3→arr[p+j]? = [a,b,c][j]? := fun j hj=>by
  rw [← h,List.getElem?_take,if_pos hj,List.getElem?_drop,Array.getElem?_toList]
 exact ⟨key 0 (by omega),key 1 (by omega),key 2 (by omega)⟩
theorem CompsIn.get {X:Nat→Option Obj} {ad:Option Addr} {cs:List Cp} (h:CompsIn X ad cs) {i:Nat} {c:Cp} (hc:cs[i]? = some c):∃ (blk off:Nat) (arr:Array Value) (el:TypeId) (fr:Nat×Nat) (fad:Option Addr) (fcap:Nat),ad=some ⟨blk,off,none⟩∧X blk=some (.cells arr el fr)∧off+i*3+3≤arr.size ∧
  ((arr.toList.drop (off+i*3)).take 3).map CV.val=[.val (.int .i64 c.id),.val (.string ⟨c.nm.toArray⟩),.val (.slice fad c.fs.length fcap)]∧arr[off+i*3]? = some (.int .i64 c.id)∧arr[off+i*3+1]? = some (.string ⟨c.nm.toArray⟩)∧arr[off+i*3+2]? = some (.slice fad c.fs.length fcap)∧FieldsIn X fad c.fs:=by
 obtain ⟨blk,off,arr,el,fr,fad,fcap,h1,h2,h3,h4,h5⟩:=h.at_ i c hc
 obtain ⟨g1,g2,g3⟩:=three_at h4
 exact ⟨blk,off,arr,el,fr,fad,fcap,h1,h2,h3,by rw [h4];rfl,g1,g2,g3,h5⟩
def NamesIn (cs:List Cp):Prop := ∀ c∈cs,c.nm.length≤9223372036854775807∧∀ f∈c.fs,f.nm.length≤9223372036854775807
def SmallC (cs:List Cp):Prop:=cs.length≤30∧∀ c∈cs,c.fs.length≤12∧c.nm.length≤100∧∀ f∈c.fs,f.nm.length≤100
end Go.Lg.Fld
namespace Go.Proofs.YtopiioklkkiedaaGreatDoor
open Go Go.Lg Go.Lg.Fld
abbrev Sx (ver:Int) (ad:Option Addr) (n cap:Nat):LV:=.sv (.agg [.val (.int .i64 ver),.val (.slice ad n cap)])
abbrev Cx (c:Cp) (fad:Option Addr) (fcap:Nat):LV:=.sv (.agg [.val (.int .i64 c.id),.val (.string ⟨c.nm.toArray⟩),.val (.slice fad c.fs.length fcap)])
end Go.Proofs.YtopiioklkkiedaaGreatDoor
end
section
namespace Go.Proofs.YtopiioklkkiedaaGreatDoor
open Go Go.Lg Go.Lg.Fld
set_option maxRecDepth 100000
variable (X:Nat→Option Obj)
theorem getD_of {α:Type} {l:List α} {i:Nat} {d x:α} (h:l[i]? = some x):l.getD i d=x:=by rw [List.getD_eq_getElem?_getD,h];rfl
theorem nmB_false {l:List UInt8} {i:Nat} (hi:i<l.length) (h:nmC l i=false):nmB l=false:=by
 unfold nmB
 rw [Bool.and_eq_false_iff]
 right
 exact List.all_eq_false.2 ⟨i,List.mem_range.2 hi,by rw [h];simp⟩
theorem nmB_true {l:List UInt8} (h1:1≤l.length) (h2:l.length≤12) (h:∀ j,j<l.length→nmC l j=true):nmB l=true:=by
 unfold nmB
 rw [cL h1,cL h2,Bool.true_and,Bool.true_and]
 exact List.all_eq_true.2 fun j hj=>h j (List.mem_range.1 hj)
end Go.Proofs.YtopiioklkkiedaaGreatDoor
end
section
namespace Go.Lg.Fld
open Go Go.Lg
def findI {α:Type} (p:α→Bool) (l:List α):Int:=match l.findIdx? p with|some i=>(i:Nat)|none => -1
theorem findI_some {α:Type} {p:α→Bool} {l:List α} {i:Nat} {x:α} (h:∀ (j:Nat) (y:α),j<i→l[j]? = some y→p y=false) (hx:l[i]? = some x) (hp:p x=true):findI p l=(i:Nat):=by
 unfold findI
 obtain ⟨hi,e⟩:=List.getElem?_eq_some_iff.1 hx
 rw [List.findIdx?_eq_some_iff_getElem.2 ⟨hi,by rw [e];exact hp,fun j hj=>by rw [h j _ hj (cU (by omega))];simp⟩]
theorem findI_none {α:Type} {p:α→Bool} {l:List α} (h:∀ (j:Nat) (y:α),l[j]? = some y→p y=false):findI p l = -1:=by
 unfold findI
 rw [List.findIdx?_eq_none_iff.2 fun x hx=>by
  obtain ⟨j,hj⟩:=List.mem_iff_getElem?.1 hx
  exact h j x hj]
end Go.Lg.Fld
namespace Go.Proofs.YtopiioklkkiedaaGreatDoor
open Go Go.Lg Go.Lg.Fld
set_option maxRecDepth 100000
variable (X:Nat→Option Obj)
abbrev sxB (k:Nat) (ver:Int) (ad:Option Addr) (n cap:Nat):Nat×Option Box:=(k,some ⟨33,[.val (.int .i64 ver),.val (.slice ad n cap)],false⟩)
end Go.Proofs.YtopiioklkkiedaaGreatDoor
end
section
namespace Go.Lg.Fld
open Go Go.Lg
structure Pt where
 comp:Int
 val:List (Bool×Int)
theorem any_true {α:Type} {p:α→Bool} {l:List α} {k i:Nat} {y:α} (hk:k<i) (hy:l[k]? = some y) (hp:p y=true):(l.take i).any p=true:=by
 rw [List.any_eq_true]
 exact ⟨y,cZ (by rw [List.getElem?_take,if_pos hk];exact hy),hp⟩
theorem any_false {α:Type} {p:α→Bool} {l:List α} {i:Nat} (h:∀ (j:Nat) (y:α),j<i→l[j]? = some y→p y=false):(l.take i).any p=false:=by
 rw [List.any_eq_false]
 intro y hy
 obtain ⟨j,hj⟩:=List.mem_iff_getElem?.1 hy
 rw [List.getElem?_take] at hj
 split at hj
 ·rename_i h1;rw [h j y h1 hj];simp
 ·cases hj
theorem two_at {arr:Array Value} {p:Nat} {a b:Value} (h:(arr.toList.drop p).take 2=[a,b]):arr[p]? = some a∧arr[p+1]? = some b:=by
 have key:∀ j,j<2→arr[p+j]? = [a,b][j]? := fun j hj=>by
  rw [← h,List.getElem?_take,if_pos hj,List.getElem?_drop,Array.getElem?_toList]
 exact ⟨key 0 (by omega),key 1 (by omega)⟩
end Go.Lg.Fld
namespace Go.Proofs.YtopiioklkkiedaaGreatDoor
open Go Go.Lg Go.Lg.Fld
set_option maxRecDepth 100000
def partE (cs:List Cp) (p:Pt):Int:=match cs.find? (fun c=>c.id==p.comp) with|some c=>fitErr c.fs p.val|none=>6
def ptE (cs:List Cp) (ps:List Pt) (i:Nat):Int:=match ps[i]? with
 | some p=>if (ps.take i).any (fun g=>g.comp==p.comp)=true then 1 else partE cs p
 | none=>0
def partsE (cs:List Cp) (ps:List Pt):Int:=firstE (ptE cs ps) 0 ps.length
structure PartsIn (X:Nat→Option Obj) (ad:Option Addr) (ps:List Pt):Prop where
 at_:∀ (i:Nat) (p:Pt),ps[i]? = some p→∃ (blk off:Nat) (arr:Array Value) (el:TypeId) (fr:Nat×Nat) (vad:Option Addr) (vcap:Nat),ad=some ⟨blk,off,none⟩∧X blk=some (.cells arr el fr)∧off+i*2+2≤arr.size ∧
  (arr.toList.drop (off+i*2)).take 2=[.int .i64 p.comp,.slice vad p.val.length vcap]∧NumsIn X vad p.val
 small:∀ p∈ps,-9223372036854775808≤p.comp∧p.comp<9223372036854775808
theorem PartsIn.get {X:Nat→Option Obj} {ad:Option Addr} {ps:List Pt} (h:PartsIn X ad ps) {i:Nat} {p:Pt} (hc:ps[i]? = some p):∃ (blk off:Nat) (arr:Array Value) (el:TypeId) (fr:Nat×Nat) (vad:Option Addr) (vcap:Nat),ad=some ⟨blk,off,none⟩∧X blk=some (.cells arr el fr)∧off+i*2+2≤arr.size ∧
  ((arr.toList.drop (off+i*2)).take 2).map CV.val=[.val (.int .i64 p.comp),.val (.slice vad p.val.length vcap)]∧arr[off+i*2]? = some (.int .i64 p.comp)∧arr[off+i*2+1]? = some (.slice vad p.val.length vcap)∧NumsIn X vad p.val:=by
 obtain ⟨blk,off,arr,el,fr,vad,vcap,h1,h2,h3,h4,h5⟩:=h.at_ i p hc
 obtain ⟨g1,g2⟩:=two_at h4
 exact ⟨blk,off,arr,el,fr,vad,vcap,h1,h2,h3,by rw [h4];rfl,g1,g2,h5⟩
abbrev Px (p:Pt) (vad:Option Addr) (vcap:Nat):LV:=.sv (.agg [.val (.int .i64 p.comp),.val (.slice vad p.val.length vcap)])
theorem find_at {cs:List Cp} {i:Nat} {c:Cp} {id:Int} (hpre:∀ (j:Nat) (y:Cp),j<i→cs[j]? = some y→(y.id==id)=false) (hc:cs[i]? = some c) (he:c.id=id):cs.find? (fun c=>c.id==id)=some c:=by
 obtain ⟨hi,e⟩:=List.getElem?_eq_some_iff.1 hc
 rw [List.find?_eq_some_iff_getElem]
 refine ⟨by rw [beq_iff_eq];exact he,i,hi,e,fun j hj => ?_⟩
 rw [hpre j _ hj (cU (by omega))];rfl
theorem find_no {cs:List Cp} {id:Int} (h:∀ (j:Nat) (y:Cp),cs[j]? = some y→(y.id==id)=false):cs.find? (fun c=>c.id==id)=none:=by
 rw [List.find?_eq_none]
 intro c hc
 obtain ⟨j,hj⟩:=List.mem_iff_getElem?.1 hc
 rw [h j c hj];simp
theorem find_cases (cs:List Cp) (id:Int):(∃ (i:Nat) (c:Cp),cs[i]? = some c∧c.id=id∧∀ (j:Nat) (y:Cp),j<i→cs[j]? = some y→(y.id==id)=false)∨∀ (j:Nat) (y:Cp),cs[j]? = some y→(y.id==id)=false:=by
 cases hf:cs.findIdx? (fun c=>c.id==id) with
 | some i =>
  obtain ⟨hi,h1,h2⟩:=List.findIdx?_eq_some_iff_getElem.1 hf
  refine .inl ⟨i,cs[i],cU hi,by simpa using h1,fun j y hj hy => ?_⟩
  have:=h2 j hj
  obtain ⟨hj',e⟩:=List.getElem?_eq_some_iff.1 hy
  rw [e] at this
  cases hb:y.id==id with
  | false=>rfl
  | true=>exact absurd hb this
 | none =>
  have:=List.findIdx?_eq_none_iff.1 hf
  exact .inr fun j y hy=>this y (cZ hy)
variable (X:Nat→Option Obj)
theorem ptE_at {cs:List Cp} {ps:List Pt} {i:Nat} {p:Pt} (h:ps[i]? = some p):ptE cs ps i=if (ps.take i).any (fun g=>g.comp==p.comp)=true then 1 else partE cs p:=by unfold ptE;rw [h]
end Go.Proofs.YtopiioklkkiedaaGreatDoor
end
section
namespace Go.Proofs.YtopiioklkkiedaaGreatDoor
open Go Go.Lg Go.Lg.Fld Go.RowKit Go.ChangeShapes Go.WideShapes Go.Joins
set_option maxRecDepth 100000
section
variable {H:Type} {enc:TypeId×Value→H} {w:World}
theorem cellsS:Tryz.prog.cellsOf 33=2:=by kernel_rfl
end
end Go.Proofs.YtopiioklkkiedaaGreatDoor
end
section
namespace Go.Lg.Fml
structure Ins where
 op:Int
 a:Int
 b:Int
 k:Bool×Int
 deriving DecidableEq
def takes (op:Int):Nat:=if op=16 then 3 else if op=10∨op=15 then 1 else if 5≤op∧op≤17 then 2 else 0
theorem takes_le (op:Int):takes op≤3:=by unfold takes;split<;>(try split)<;>(try split)<;>omega
inductive Tr where
 | n0 (x:Ins)
 | n1 (x:Ins) (a:Tr)
 | n2 (x:Ins) (a b:Tr)
 | n3 (x:Ins) (a b c:Tr)
def Tr.flat:Tr→List Ins
 | .n0 x=>[x]
 | .n1 x a=>a.flat++[x]
 | .n2 x a b=>a.flat++(b.flat++[x])
 | .n3 x a b c=>a.flat++(b.flat++(c.flat++[x]))
def Tr.ok:Tr→Prop
 | .n0 x=>takes x.op=0
 | .n1 x a=>takes x.op=1∧a.ok
 | .n2 x a b=>takes x.op=2∧a.ok∧b.ok
 | .n3 x a b c=>takes x.op=3∧a.ok∧b.ok∧c.ok
section
variable {V:Type} (one:Ins→List V→Except Int V)
def Tr.ev:Tr→Except Int V
 | .n0 x=>one x []
 | .n1 x a=>match a.ev with
  | .error e=>.error e
  | .ok u=>one x [u]
 | .n2 x a b=>match a.ev with
  | .error e=>.error e
  | .ok u=>match b.ev with
   | .error e=>.error e
   | .ok v=>one x [u,v]
 | .n3 x a b c=>match a.ev with
  | .error e=>.error e
  | .ok u=>match b.ev with
   | .error e=>.error e
   | .ok v=>match c.ev with
    | .error e=>.error e
    | .ok w=>one x [u,v,w]
def run:List Ins→List V→Except Int (List V)
 | [],st=>.ok st
 | x::t,st=>match one x (st.take (takes x.op)).reverse with
  | .error e=>.error e
  | .ok v=>run t (v::st.drop (takes x.op))
variable {one}
theorem run_flat:∀ {t:Tr} {rest:List Ins} {st:List V},t.ok→run one (t.flat++rest) st=match t.ev one with | .error e=>.error e | .ok v=>run one rest (v::st)
 | .n0 x,rest,st,h=>by
  have h:takes x.op=0:=h
  simp only [Tr.flat,List.cons_append,List.nil_append,run,Tr.ev,h,List.take_zero,List.drop_zero,List.reverse_nil]
 | .n1 x a,rest,st,h=>by
  obtain ⟨h1,h2⟩:=h
  simp only [Tr.flat,List.append_assoc,Tr.ev]
  rw [run_flat h2]
  cases a.ev one with
  | error e=>rfl
  | ok u =>
   simp only [List.cons_append,List.nil_append,run,h1]
   simp only [List.take_succ_cons,List.take_zero,List.drop_succ_cons,List.drop_zero,List.reverse_cons,List.reverse_nil,List.nil_append]
 | .n2 x a b,rest,st,h=>by
  obtain ⟨h1,h2,h3⟩:=h
  simp only [Tr.flat,List.append_assoc,Tr.ev]
  rw [run_flat h2]
  cases a.ev one with
  | error e=>rfl
  | ok u =>
   simp only
   rw [run_flat h3]
   cases b.ev one with
   | error e=>rfl
   | ok v =>
    simp only [List.cons_append,List.nil_append,run,h1]
    simp only [List.take_succ_cons,List.take_zero,List.drop_succ_cons,List.drop_zero,List.reverse_cons,List.reverse_nil,List.nil_append,List.cons_append]
 | .n3 x a b c,rest,st,h=>by
  obtain ⟨h1,h2,h3,h4⟩:=h
  simp only [Tr.flat,List.append_assoc,Tr.ev]
  rw [run_flat h2]
  cases a.ev one with
  | error e=>rfl
  | ok u =>
   simp only
   rw [run_flat h3]
   cases b.ev one with
   | error e=>rfl
   | ok v =>
    simp only
    rw [run_flat h4]
    cases c.ev one with
    | error e=>rfl
    | ok w =>
     simp only [List.cons_append,List.nil_append,run,h1]
     simp only [List.take_succ_cons,List.take_zero,List.drop_succ_cons,List.drop_zero,List.reverse_cons,List.reverse_nil,List.nil_append,List.cons_append]
theorem run_app:∀ {l r:List Ins} {st:List V},run one (l++r) st=match run one l st with | .error e=>.error e | .ok st'=>run one r st'
 | [],r,st=>rfl
 | x::l,r,st=>by
  simp only [List.cons_append,run]
  cases one x (st.take (takes x.op)).reverse with
  | error e=>rfl
  | ok v=>exact run_app
end
def dep (okI:Ins→Bool):Nat→List Ins→Option Nat
 | n,[]=>some n
 | n,x::t=>if okI x=true∧takes x.op≤n∧n-takes x.op+1≤16 then dep okI (n-takes x.op+1) t else none
theorem dep_app {okI:Ins→Bool}:∀ {l r:List Ins} {n:Nat},dep okI n (l++r)=(dep okI n l).bind fun m=>dep okI m r
 | [],r,n=>rfl
 | x::l,r,n=>by
  simp only [List.cons_append,dep]
  split
  ·exact dep_app
  ·rfl
def flats:List Tr→List Ins
 | []=>[]
 | t::ts=>flats ts++t.flat
theorem dep_trees {okI:Ins→Bool}:∀ {l:List Ins} {ts:List Tr} {m:Nat},dep okI ts.length l=some m→(∀ t∈ts,t.ok)→∃ ts',ts'.length=m∧(∀ t∈ts',t.ok)∧flats ts'=flats ts++l
 | [],ts,m,h,ho=>by
  simp only [dep,Option.some.injEq] at h
  exact ⟨ts,h,ho,by rw [List.append_nil]⟩
 | x::l,ts,m,h,ho=>by
  simp only [dep] at h
  split at h
  ·rename_i hx
   obtain ⟨_,h1,_⟩:=hx
   have h3:=takes_le x.op
   have key:∃ us:List Tr,us.length=ts.length-takes x.op+1∧(∀ t∈us,t.ok)∧flats us=flats ts++[x]:=by
    rcases (show takes x.op=0∨takes x.op=1∨takes x.op=2∨takes x.op=3 by omega) with e|e|e|e
    ·exact ⟨.n0 x::ts,by rw [e];rfl,fun t ht=>by
      rcases List.mem_cons.1 ht with rfl|ht
      ·exact e
      ·exact ho t ht,rfl⟩
    ·match ts,ho,h1 with
     | a::ts,ho,_=>exact ⟨.n1 x a::ts,by rw [e];rfl,fun t ht=>by
       rcases List.mem_cons.1 ht with rfl|ht
       ·exact ⟨e,ho a List.mem_cons_self⟩
       ·exact ho t (List.mem_cons_of_mem _ ht),by simp only [flats,Tr.flat,List.append_assoc]⟩
     | [],_,h1=>rw [e] at h1;cases h1
    ·match ts,ho,h1 with
     | b::a::ts,ho,_=>exact ⟨.n2 x a b::ts,by rw [e];rfl,fun t ht=>by
       rcases List.mem_cons.1 ht with rfl|ht
       ·exact ⟨e,ho a (by simp),ho b (by simp)⟩
       ·exact ho t (by simp [ht]),by simp only [flats,Tr.flat,List.append_assoc]⟩
     | [_],_,h1=>rw [e] at h1;simp at h1
     | [],_,h1=>rw [e] at h1;cases h1
    ·match ts,ho,h1 with
     | c::b::a::ts,ho,_=>exact ⟨.n3 x a b c::ts,by rw [e];rfl,fun t ht=>by
       rcases List.mem_cons.1 ht with rfl|ht
       ·exact ⟨e,ho a (by simp),ho b (by simp),ho c (by simp)⟩
       ·exact ho t (by simp [ht]),by simp only [flats,Tr.flat,List.append_assoc]⟩
     | [_,_],_,h1=>rw [e] at h1;simp at h1
     | [_],_,h1=>rw [e] at h1;simp at h1
     | [],_,h1=>rw [e] at h1;cases h1
   obtain ⟨us,u1,u2,u3⟩:=key
   rw [← u1] at h
   obtain ⟨ts',t1,t2,t3⟩:=dep_trees h u2
   exact ⟨ts',t1,t2,by rw [t3,u3,List.append_assoc];rfl⟩
  ·cases h
theorem parse {okI:Ins→Bool} {l:List Ins} (h:dep okI 0 l=some 1):∃ t:Tr,t.ok∧t.flat=l:=by
 obtain ⟨ts,h1,h2,h3⟩:=dep_trees (ts:=[]) h (fun t ht=>by cases ht)
 match ts,h1 with
 | [t],_=>exact ⟨t,h2 t List.mem_cons_self,h3⟩
def surplus:List Ins→Int
 | []=>0
 | x::t=>(takes x.op:Int)-1+surplus t
def Back (l:List Ins):Prop := ∀ p s:List Ins,l=p++s→p≠[]→0≤surplus s
def Tr.ends (p:Nat):Tr→List Nat
 | .n0 _=>[]
 | .n1 _ a=>[p+a.flat.length-1]
 | .n2 _ a b=>[p+a.flat.length-1,p+a.flat.length+b.flat.length-1]
 | .n3 _ a b c=>[p+a.flat.length-1,p+a.flat.length+b.flat.length-1,p+a.flat.length+b.flat.length+c.flat.length-1]
def Tr.top:Tr→Ins
 | .n0 x=>x
 | .n1 x _=>x
 | .n2 x _ _=>x
 | .n3 x _ _ _=>x
end Go.Lg.Fml
end
section
namespace Go.Lg.Fld
open Go Go.Lg
section
variable {cs:List Cp} {i:Nat} {c:Cp}
theorem cmpE_at (h:cs[i]? = some c):cmpE cs i=if c.id<1∨24<c.id∨(0<i∧c.id≤prevId cs i) then 1
  else if nmB c.nm=true then (if (cs.take i).any (fun g=>g.nm==c.nm)=true then 4 else if firstE (fldE c.fs) 0 c.fs.length=0 then layErr c.fs else 4) else 4:=by unfold cmpE;rw [h]
theorem fldE_at {fs:List Fl} {k:Nat} {f:Fl} (h:fs[k]? = some f):fldE fs k=if nmB f.nm=true then (if (fs.take k).any (fun g=>g.nm==f.nm)=true then 4 else 0) else 4:=by unfold fldE;rw [h]
theorem prev_at {p:Cp} (h:cs[i-1]? = some p):prevId cs i=p.id:=by unfold prevId;rw [h];rfl
end
theorem FieldsIn.nm {X:Nat→Option Obj} {ad:Option Addr} {fs:List Fl} (h:FieldsIn X ad fs) {k:Nat} {f:Fl} (hf:fs[k]? = some f):
  ∃ (blk off:Nat) (arr:Array Value) (el:TypeId) (fr:Nat×Nat),ad=some ⟨blk,off,none⟩∧X blk=some (.cells arr el fr)∧arr[off+k*3]? = some (.string ⟨f.nm.toArray⟩):=by
 obtain ⟨blk,off,arr,el,fr,h1,h2,h3,h4⟩:=h.rows k f.vals (by rw [dI,hf];rfl)
 exact ⟨blk,off,arr,el,fr,h1,h2,(three_at h4).1⟩
end Go.Lg.Fld
namespace Go.Proofs.YtopiioklkkiedaaGreatDoor
open Go Go.Lg Go.Lg.Fld
set_option maxRecDepth 100000
variable (X:Nat→Option Obj)
abbrev cpB (k:Nat) (c:Cp) (fad:Option Addr) (fcap:Nat):Nat×Option Box:=(k,some ⟨24,[.val (.int .i64 c.id),.val (.string ⟨c.nm.toArray⟩),.val (.slice fad c.fs.length fcap)],false⟩)
end Go.Proofs.YtopiioklkkiedaaGreatDoor
end
section
namespace Go.Lg.Fld
open Go Go.Lg
def rowsZ:List Cp→List Value→List Value
 | c::cs,v::vs=>.int .i64 c.id :: .string ⟨c.nm.toArray⟩::v::rowsZ cs vs
 | _,_=>[]
theorem rowsZ_len:∀ {cs:List Cp} {cells:List Value},cells.length=cs.length→(rowsZ cs cells).length=cs.length*3
 | [],[],_=>rfl
 | c::cs,v::vs,h=>by
  simp only [rowsZ,dF] at h ⊢
  rw [rowsZ_len (cs:=cs) (cells:=vs) (by omega)];omega
 | [],_::_,h=>by simp at h
 | _::_,[],h=>by simp at h
theorem rowsZ_split:∀ {cs:List Cp} {cells:List Value} {i:Nat} {c:Cp} {v:Value},cs[i]? = some c→cells[i]? = some v →
  rowsZ cs cells=rowsZ (cs.take i) (cells.take i) ++ .int .i64 c.id :: .string ⟨c.nm.toArray⟩::v::rowsZ (cs.drop (i+1)) (cells.drop (i+1))
 | [],_,i,c,v,h,_=>by simp at h
 | _::_,[],i,c,v,_,h=>by simp at h
 | a::cs,u::vs,0,c,v,h1,h2=>by
  simp only [List.getElem?_cons_zero,Option.some.injEq] at h1 h2
  subst h1 h2
  rfl
 | a::cs,u::vs,i+1,c,v,h1,h2=>by
  simp only [List.getElem?_cons_succ] at h1 h2
  simp only [rowsZ,List.take_succ_cons,List.drop_succ_cons,List.cons_append]
  rw [rowsZ_split h1 h2]
def flV (fs:List Fl):List Value:=(fs.map Fl.vals).flatten
theorem flV_len (fs:List Fl):(flV fs).length=fs.length*3:=by
 unfold flV
 induction fs with
 | nil=>rfl
 | cons f t ih=>rw [List.map_cons,List.flatten_cons,cS,ih,dF];simp [Fl.vals];omega
theorem flV_at:∀ {fs:List Fl} {k:Nat} {f:Fl},fs[k]? = some f→k*3+3≤(flV fs).length∧((flV fs).drop (k*3)).take 3=f.vals
 | [],k,f,h=>by simp at h
 | a::t,0,f,h=>by
  simp only [List.getElem?_cons_zero,Option.some.injEq] at h
  subst h
  refine ⟨by rw [flV_len,dF];omega,?_⟩
  unfold flV
  rw [Nat.zero_mul,List.drop_zero,List.map_cons,List.flatten_cons,List.take_append_of_le_length (by simp [Fl.vals])]
  rfl
 | a::t,k+1,f,h=>by
  obtain ⟨h1,h2⟩:=flV_at (fs:=t) (k:=k) (f:=f) (by simpa using h)
  refine ⟨by rw [flV_len] at h1 ⊢;simp;omega,?_⟩
  rw [← h2]
  unfold flV
  rw [List.map_cons,List.flatten_cons,show (k+1)*3=a.vals.length+k*3 by simp [Fl.vals];omega,List.drop_length_add_append]
theorem fields_block {Y:Nat→Option Obj} {blk:Nat} {arr:Array Value} {el:TypeId} {fr:Nat×Nat} {fs:List Fl} {sp:List Value} (hY:Y blk=some (.cells arr el fr)) (ha:arr.toList=flV fs++sp)
  (hs:∀ f∈fs,(-9223372036854775808≤f.kind∧f.kind<9223372036854775808)∧(-9223372036854775808≤f.count∧f.count<9223372036854775808)):FieldsIn Y (some ⟨blk,0,none⟩) fs:=by
 refine ⟨fun k r hr => ?_,hs⟩
 rw [dI] at hr
 cases hf:fs[k]? with
 | none=>rw [hf] at hr;cases hr
 | some f =>
  rw [hf] at hr
  simp only [Option.map_some,Option.some.injEq] at hr
  subst hr
  obtain ⟨h1,h2⟩:=flV_at hf
  refine ⟨blk,0,arr,el,fr,O,hY,?_,?_⟩
  ·rw [← Array.length_toList,ha,cS];omega
  ·rw [ha,Nat.zero_add,List.drop_append_of_le_length (by omega),List.take_append_of_le_length (by rw [cX];omega)];exact h2
def InB (cs:List Cp):Prop := ∀ c∈cs,(-9223372036854775808≤c.id∧c.id<9223372036854775808)∧∀ f∈c.fs,(-9223372036854775808≤f.kind∧f.kind<9223372036854775808)∧(-9223372036854775808≤f.count∧f.count<9223372036854775808)
theorem leaf_in {Y:Nat→Option Obj} {v:Value} {el:TypeId} {fs:List Fl} (h:SliceZ Y v el 3 (flV fs))
  (hs:∀ f∈fs,(-9223372036854775808≤f.kind∧f.kind<9223372036854775808)∧(-9223372036854775808≤f.count∧f.count<9223372036854775808)):∃ fad fcap,v = .slice fad fs.length fcap∧FieldsIn Y fad fs:=by
 rcases h with ⟨h0,ad,cap,rfl⟩|⟨b,⟨len,cap,arr,fr,rfl,h2,h3,h4,h5,sp,h6⟩,h0⟩
 ·have hl:fs.length=0:=by have:=flV_len fs;rw [h0,dL] at this;omega
  have e:fs=[]:=List.eq_nil_of_length_eq_zero hl
  subst e
  exact ⟨ad,cap,rfl,fun k r hr=>(by simp at hr),fun f hf=>(by cases hf)⟩
 ·rw [flV_len] at h2
  have e:fs.length=len:=by omega
  subst e
  exact ⟨some ⟨b,0,none⟩,cap,O,fields_block h5 h6 hs⟩
theorem comps_block {Y:Nat→Option Obj} {blk:Nat} {arr:Array Value} {el fel:TypeId} {fr:Nat×Nat} {cs:List Cp} {cells sp:List Value} (hY:Y blk=some (.cells arr el fr)) (ha:arr.toList=rowsZ cs cells++sp) (hl:cells.length=cs.length) (hb:InB cs)
  (hf:∀ (i:Nat) (c:Cp) (v:Value),cs[i]? = some c→cells[i]? = some v→SliceZ Y v fel 3 (flV c.fs)):CompsIn Y (some ⟨blk,0,none⟩) cs:=by
 refine ⟨fun i c hc => ?_,fun c hc=>(hb c hc).1⟩
 have hi:=(List.getElem?_eq_some_iff.1 hc).1
 obtain ⟨v,hv⟩:∃ v,cells[i]? = some v:=⟨_,cU (by omega)⟩
 obtain ⟨fad,fcap,rfl,hF⟩:=leaf_in (hf i c v hc hv) (hb c (cZ hc)).2
 have hpre:(rowsZ (cs.take i) (cells.take i)).length=i*3:=by rw [rowsZ_len (by rw [cW,cW,hl]),cW,Nat.min_eq_left (by omega)]
 refine ⟨blk,0,arr,el,fr,fad,fcap,O,hY,?_,?_,hF⟩
 ·rw [← Array.length_toList,ha,cS,rowsZ_len hl];omega
 ·rw [ha,rowsZ_split hc hv,Nat.zero_add,dJ,← hpre,List.drop_left];rfl
end Go.Lg.Fld
namespace Go.Proofs.YtopiioklkkiedaaGreatDoor
open Go Go.Lg Go.Lg.Fld
set_option maxRecDepth 100000
def scR (cs:List Cp):Rsc:=⟨fun ρ H=>∃ (arr:Array Value) (fr:Nat×Nat) (cells sp:List Value),
 H ρ.1=some (.cells arr 24 fr)∧arr.size=ρ.2∧arr.toList=rowsZ cs cells++sp∧Twigs (cutM H ρ.1) 83 3 [] cells (cs.map fun c=>flV c.fs)∧InB cs⟩
abbrev scB (k:Nat) (cs:List Cp):Nat×Option Box:=(k,some ⟨0,[],.res (scR cs)⟩)
theorem scR_in {cs:List Cp} {blk m:Nat} {H Y:Nat→Option Obj} (h:(scR cs).holds (blk,m) H) (hY:∀ b o,H b=some o→Y b=some o):CompsIn Y (some ⟨blk,0,none⟩) cs:=by
 obtain ⟨arr,fr,cells,sp,h1,_,h3,G,hb⟩:=h
 have hl:cells.length=cs.length:=by rw [G.len,cT]
 refine comps_block (fel:=83) (hY _ _ h1) h3 hl hb fun i c v hc hv => ?_
 refine (G.at_ i v (flV c.fs) (by simp) hv (by rw [dI,hc];rfl)).mono fun b hb' => ?_
 have hne:=G.some_of (by simp) hv hb'
 cases hc2:cutM H blk b with
 | none=>exact absurd hc2 hne
 | some o=>exact hY b o (cutM_some hc2).2
end Go.Proofs.YtopiioklkkiedaaGreatDoor
end
