/- A piece of a proof over this program: contracts of its functions, and a logic to prove them by. -/
import Derived.Test.YtamplgnbbanamaaGreatDoorF2
import Derived.Test.YtamplgnbbanamaaGreatDoorF3
import Derived.Lib.TrimByte
import Derived.Lib.ItoaNum
import Derived.Test.YtamplgnbbanamaaGreatDoorRows
import Derived.Lib.ItoaLen
section
namespace Go.Proofs.YtamplgnbbanamaaGreatDoor
open Go Go.Lg Go.Lg.Arith Go.RowKit
variable (X:Nat→Option Obj)
theorem mg_nonneg (z:Int):0≤mg z:=by unfold mg;split<;>omega
theorem OfWord_spec (n:Int):PSpec Tryz.prog X 48 [Ln .u64 n] (.sv (.agg [.val (.bool false),.val (.int .u64 0),.val (.int .u64 n)])):=by
  refine cF Tryz.func48 rfl (by kernel_rfl) rfl rfl ?_
  intro C
  (refine aA<|rgN<|aP O dR ?_;refine aB<|aA<|rgN<|kmv O<|aT O O (by exact O) (by exact nl3 O O O O) dR ?_;refine aM O O O O O O dR ?_;refine aB<|aI ?_)
  exact ⟨[_],⟨⟨_,_,O,O,O,.inl ⟨AggT.h,O⟩⟩,trivial⟩,O⟩
theorem Of_spec (n:Int) (hn : -9223372036854775808≤n∧n<9223372036854775808):PSpec Tryz.prog X 23 [Ln .i64 n] (LQ n):=by
  refine cF Tryz.func23 rfl (by kernel_rfl) rfl rfl ?_
  intro C
  by_cases c:n<0
  · have w1:IntKind.u64.wrap n=n+18446744073709551616:=by rw [IntKind.wrap_u64];omega
    have w2:IntKind.u64.wrap (0-(n+18446744073709551616)) = -n:=by rw [IntKind.wrap_u64];omega
    (refine aA<|rgN<|aP O dR ?_;refine aB<|aA<|aA<|rgN<|kmv O<|klt O O (cP (by omega))<|aB<|aE O ?_;refine aA<|rgN<|kmv O<|kcv O w1 ?_;refine K.neg O w2 dR<|aT O O (by exact O) (by exact nl3 O O O O) dR ?_;refine aM O O O O O O dR ?_;refine aB<|aI ?_)
    refine ⟨[_],⟨⟨_,_,O,O,O,.inl ⟨AggT.h,O⟩⟩,trivial⟩,?_⟩
    unfold LQ LI
    rw [mg_neg c,cP c,show -n/18446744073709551616=0 by omega,show -n%18446744073709551616 = -n by omega]
    rfl
  · (refine aA<|rgN<|aP O dR ?_;refine aB<|aA<|aA<|rgN<|kmv O<|klt O O (cO (by omega))<|aB<|aF O ?_;refine aH ?_;refine aA<|rgN<|kmv O<|kcv O (by exact wrap_u64 (by omega)) ?_;refine kca O O (OfWord_spec _ _)<|aM O O O O O O dR ?_;refine aB<|aI ?_)
    refine ⟨[_],⟨⟨_,_,O,O,O,.inl ⟨AggT.h,O⟩⟩,trivial⟩,?_⟩
    unfold LQ LI
    rw [mg_pos (by omega),cO c,show n/18446744073709551616=0 by omega,show n%18446744073709551616=n by omega]
    rfl
theorem eqI {b b':Bool} {h l h' l':Int} (r:Bool) (hr:(b==b'&&(h==h'&&l==l'))=r) (w:World):
    (Op.equalIn 10000 64 (.agg [.bool b,.int .u64 h,.int .u64 l].toArray) (.agg [.bool b',.int .u64 h',.int .u64 l'].toArray)).run Tryz.prog w = .ok r w:=by
  subst hr
  rw [show (10000:Nat)=9999+1 from rfl,run_equalIn_agg w 9999 64 _ _ (by kernel_rfl) (by kernel_rfl)]
  simp only [Program.fieldsOf,Tryz.underlying64]
  go_simp
  cases b<;>cases b'<;>by_cases h1:h=h'<;>by_cases h2:l=l'<;>simp [h1,h2]
end Go.Proofs.YtamplgnbbanamaaGreatDoor
end
section
namespace Go.Proofs.YtamplgnbbanamaaGreatDoor
open Go Go.Lg
abbrev rd (k:Nat) (l:List UInt8) (b:Bool):List (Nat×Option Box):=[(k,some ⟨109,[vs l,.val (.bool b)],false⟩)]
variable (X:Nat→Option Obj)
def isW (n:Int):Bool:=decide (n=1)||(decide (n=2)||(decide (n=4)||decide (n=8)))
theorem isWidth_spec (n:Int) (r:Bool) (hr:isW n=r):PSpec Tryz.prog X 51 [Ln .i64 n] (Lb r):=by
  refine cF Tryz.func51 rfl (by kernel_rfl) rfl rfl ?_
  intro C
  subst hr
  by_cases h1:n=1
  · (refine aA<|rgN<|kas O<|aB<|aA<|rgN<|kmv O<|keq O O (cU (by omega))<|kmv O<|aC O O O<|aC O O O<|kpt O O<|kmv O<|aC O O O ?_;refine aC O O O<|kpt O O<|kmv O<|aC O O O<|aC O O O<|kpt O O<|kas O<|aB<|aI ?_)
    exact ⟨[_],⟨rfl,trivial⟩,by unfold isW;rw [cP h1];rfl⟩
  · by_cases h2:n=2
    · (refine aA<|rgN<|kas O<|aB<|aA<|rgN<|kmv O<|keq O O (cR (by omega))<|kmv O<|gmv O O O<|bC O O (cU (by omega)) (dS O O) ?_;refine kpf O O<|kmv O<|aC O O O<|aC O O O<|kpt O O<|kmv O<|aC O O O<|aC O O O<|kpt O O<|kas O<|aB<|aI ?_)
      exact ⟨[_],⟨rfl,trivial⟩,by unfold isW;rw [cO h1,cP h2];rfl⟩
    · by_cases h4:n=4
      · (refine aA<|rgN<|kas O<|aB<|aA<|rgN<|kmv O<|keq O O (cR (by omega))<|kmv O<|gmv O O O<|bC O O (cR (by omega)) (dS O O) ?_;refine kpf O O<|kmv O<|gmv O O O<|bC O O (cU (by omega)) (dS O O) ?_;refine kpf O O<|kmv O<|aC O O O<|aC O O O<|kpt O O<|kas O<|aB<|aI ?_)
        exact ⟨[_],⟨rfl,trivial⟩,by unfold isW;rw [cO h1,cO h2,cP h4];rfl⟩
      · by_cases h8:n=8
        · (refine aA<|rgN<|kas O<|aB<|aA<|rgN<|kmv O<|keq O O (cR (by omega))<|kmv O<|gmv O O O<|bC O O (cR (by omega)) (dS O O) ?_;refine kpf O O<|kmv O<|gmv O O O<|bC O O (cR (by omega)) (dS O O) ?_;refine kpf O O<|kmv O<|gmv O O O<|bC O O (cU (by omega)) (dS O O) ?_;refine kpf O O<|kas O<|aB<|aI ?_)
          exact ⟨[_],⟨rfl,trivial⟩,by unfold isW;rw [cO h1,cO h2,cO h4,cP h8];rfl⟩
        · (refine aA<|rgN<|kas O<|aB<|aA<|rgN<|kmv O<|keq O O (cR (by omega))<|kmv O<|gmv O O O<|bC O O (cR (by omega)) (dS O O) ?_;refine kpf O O<|kmv O<|gmv O O O<|bC O O (cR (by omega)) (dS O O) ?_;refine kpf O O<|kmv O<|gmv O O O<|bC O O (cR (by omega)) (dS O O) ?_;refine kpf O O<|kas O<|aB<|aI ?_)
          exact ⟨[_],⟨rfl,trivial⟩,by unfold isW;rw [cO h1,cO h2,cO h4,cO h8];rfl⟩
theorem Read_spec (l:List UInt8):MSpec Tryz.prog X 32 [Ls l] [] (Lp 1000001) (rd 1000001 l false):=by
  refine cG Tryz.func32 rfl (by kernel_rfl) rfl rfl rfl rfl rfl ?_
  intro C
  (refine aA<|rgN<|kas O<|aB<|aA<|rgN<|kmv O<|aT O O (by exact O) (by exact nl2 O O O) dR ?_;refine aL O O O dR<|kas O<|aB<|aI ?_)
  exact ⟨[(1000001,5)],⟨[_],⟨O,trivial⟩,O⟩,⟨⟨_,O,O⟩,trivial⟩,O,O⟩
theorem Bad_spec (l:List UInt8) (b:Bool):MSpec Tryz.prog X 62 [Lp 1000000] (rd 1000000 l b) (Lb b) (rd 1000000 l b):=by
  refine cG Tryz.func62 rfl (by kernel_rfl) rfl rfl rfl rfl rfl ?_
  intro C
  (refine aA<|rgN<|kas O<|aB<|aA<|rgN<|kmv O<|K.ptrNil O (by kernel_rfl) (.inl ⟨O,O⟩) dR<|kmv O<|gmv O O O<|bI O (dS O O) ?_;refine aN O O (dS O O) ?_;refine aO O O O (dS O O) ?_;refine kpf O O<|kas O<|aB<|aI ?_)
  exact ⟨[],⟨[_],⟨O,trivial⟩,O⟩,⟨⟨_,O,O⟩,trivial⟩,O,O⟩
theorem spoil_spec (l:List UInt8) (b:Bool):MSpec Tryz.prog X 56 [Lp 1000000] (rd 1000000 l b) (.tup []) (rd 1000000 l true):=by
  refine cG Tryz.func56 rfl (by kernel_rfl) rfl rfl rfl rfl rfl ?_
  intro C
  (refine aA<|rgN<|kmv O<|K.ptrNil O (by kernel_rfl) (.inr ⟨O,O⟩) dR<|aB<|aE O ?_;refine rgN<|kmv O<|bI O dR<|kfa O O ?_;refine bG O O O O O (nl2 O O O) dR<|aB ?_)
  exact ⟨[],⟨[],trivial,O⟩,⟨⟨_,O,O⟩,trivial⟩,O,O⟩
end Go.Proofs.YtamplgnbbanamaaGreatDoor
end
section
namespace Go.Lg
open Go
def le:List UInt8→Nat
  | []=>0
  | c::t=>c.toNat+256*le t
theorem le_lt:∀ (l:List UInt8),le l<256^l.length
  | []=>by simp [le]
  | c::t=>by
    have:=le_lt t
    have hc:=c.toNat_lt
    simp only [le,dI,Nat.pow_succ]
    omega
theorem le_snoc:∀ (l:List UInt8) (c:UInt8),le (l++[c])=le l+c.toNat*256^l.length
  | [],c=>by simp [le]
  | d::t,c=>by
    have e:256*(c.toNat*256^t.length)=c.toNat*(256^t.length*256):=by rw [Nat.mul_left_comm,Nat.mul_comm 256]
    simp only [List.cons_append,le,le_snoc t c,dI,Nat.pow_succ,Nat.mul_add]
    omega
theorem le_take {l:List UInt8} {i:Nat} {c:UInt8} (h:l[i]? = some c):le (l.take (i+1))=le (l.take i)+c.toNat*256^i:=by
  have hi:=(List.getElem?_eq_some_iff.1 h).1
  rw [List.take_add_one,h]
  have:=le_snoc (l.take i) c
  rw [cZ,Nat.min_eq_left (by omega)] at this
  exact this
def leB:Nat→Nat→List UInt8
  | 0,_=>[]
  | k+1,n=>UInt8.ofNat (n%256)::leB k (n/256)
theorem leB_length:∀ (k n:Nat),(leB k n).length=k
  | 0,_=>rfl
  | k+1,n=>by simp [leB,leB_length k]
theorem leB_get:∀ (k n i:Nat),i<k→(leB k n)[i]? = some (UInt8.ofNat (n/256^i%256))
  | 0,_,_,h=>by omega
  | k+1,n,0,_=>by simp [leB]
  | k+1,n,i+1,h=>by
    simp only [leB,List.getElem?_cons_succ]
    rw [leB_get k (n/256) i (by omega),Nat.pow_succ,Nat.mul_comm,Nat.div_div_eq_div_mul]
theorem le_leB:∀ (k n:Nat),n<256^k→le (leB k n)=n
  | 0,n,h=>by simp at h;subst h;rfl
  | k+1,n,h=>by
    have e:(UInt8.ofNat (n%256)).toNat=n%256:=by rw [UInt8.toNat_ofNat'];exact Nat.mod_eq_of_lt (by omega)
    simp only [leB,le,e,le_leB k (n/256) (by rw [Nat.pow_succ] at h;omega)]
    omega
theorem take_next {w n i:Nat} (h:i<w):((leB w n).take i).map bc++[bc (UInt8.ofNat (n/256^i%256))]=((leB w n).take (i+1)).map bc:=by
  rw [List.take_add_one,leB_get w n i h,dH]
  rfl
def lo (w n i:Nat):List UInt8:=(leB w n).take i++List.replicate (w-i) 0
theorem lo_set {w n i:Nat} (h:i<w):(((lo w n i).map bc).set (0+i*1) (bc (UInt8.ofNat (n/256^i%256))))=(lo w n (i+1)).map bc:=by
  rw [Nat.zero_add,Nat.mul_one,← List.map_set]
  congr 1
  unfold lo
  have hl:((leB w n).take i).length=i:=by rw [cZ,leB_length];omega
  rw [List.set_append_right _ _ (by omega),hl,Nat.sub_self,List.take_add_one,leB_get w n i h]
  have:w-i=(w-(i+1))+1:=by omega
  rw [this,List.replicate_succ]
  simp
theorem lo_len (w n i:Nat) (h:i≤w):((lo w n i).map bc).length=w:=by
  unfold lo
  rw [cW,cV,cZ,leB_length,dE]
  omega
theorem lo_all (w n:Nat):lo w n w=leB w n:=by
  unfold lo
  rw [Nat.sub_self,List.take_of_length_le (by rw [leB_length];exact dN _)]
  simp
theorem or_low {x y c:Int} {s:Nat} (hs:s≤64) (hx:0≤x∧x*2^s<18446744073709551616) (hy:0≤y∧y<2^s) (hc:y+x*2^s=c):bits .or .u64 y (x*2^s)=c:=by
  have h:=or_apart hs hx hy
  obtain ⟨A,rfl⟩:=Int.eq_ofNat_of_zero_le hx.1
  obtain ⟨B,rfl⟩:=Int.eq_ofNat_of_zero_le hy.1
  have e:((A:Int)*2^s)=((A*2^s:Nat):Int):=by rw [Int.natCast_mul,Int.natCast_pow];rfl
  have e':((2:Int)^s)=((2^s:Nat):Int):=by rw [Int.natCast_pow];rfl
  have h1:A*2^s<18446744073709551616:=by have:=hx.2;rw [e] at this;omega
  have h3:2^s≤18446744073709551616:=by
    have:2^s≤2^64:=Nat.pow_le_pow_right (by decide) hs
    exact this
  have h2:B<18446744073709551616:=by have:=hy.2;rw [e'] at this;omega
  have hcomm:bits .or .u64 (B:Int) ((A:Int)*2^s)=bits .or .u64 ((A:Int)*2^s) B:=by
    rw [e,u64_or_nat _ _ h2 h1,u64_or_nat _ _ h1 h2,Nat.or_comm]
  rw [hcomm,h]
  omega
end Go.Lg
namespace Go.Proofs.YtamplgnbbanamaaGreatDoor
open Go Go.Lg
variable (X:Nat→Option Obj)
theorem p256 (i:Nat):(256:Nat)^i=2^(8*i):=by rw [Nat.pow_mul]
theorem onumber_spec (l:List UInt8) (hl:l.length≤8):PSpec Tryz.prog X 57 [Ls l] (Ln .u64 (le l:Nat)):=by
  refine cF Tryz.func57 rfl (by kernel_rfl) rfl rfl ?_
  intro C
  (refine aA<|rgN<|kas O<|aB<|aA<|rgN<|kas O<|aB<|aA<|aA<|rgN<|kmv O<|kln O<|kmv O ?_;refine aB<|aG ?_)
  refine cL (fun m σ=>∃ i:Nat,i≤l.length∧m=l.length-i∧σ=⟨[(0,Ls l),(3,Ln .u64 (le (l.take i):Nat)),(6,Ln .i64 (l.length:Nat)),(7,Ln .i64 (i:Nat))],[],X⟩) l.length
    ⟨_,Le.of (by exact ⟨rfl,rfl,rfl,rfl,trivial⟩) (by exact trivial) (by exact rfl) (by exact rfl) (by exact rfl),0,Nat.zero_le _,rfl,rfl⟩ ?_
  rintro m σ ⟨i,hi,rfl,rfl⟩
  by_cases hlt:i<l.length
  · obtain ⟨b,hb⟩:∃ b,l[i]? = some b:=⟨_,cX hlt⟩
    have hb':(⟨l.toArray⟩:ByteArray)[Int.toNat (i:Int)]? = some b:=str_at hb
    have hnx:=le_take hb
    have h8:8*i≤56:=by omega
    have w8:IntKind.i64.wrap (8*(i:Int))=((8*i:Nat):Int):=by rw [cH (by omega)];omega
    have hc:=b.toNat_lt
    have hlo:=le_lt (l.take i)
    rw [cZ,Nat.min_eq_left hi,p256] at hlo
    have hp:2^(8*i)≤2^56:=Nat.pow_le_pow_right (by decide) h8
    have hbb:b.toNat*2^(8*i)≤255*2^56:=Nat.mul_le_mul (by omega) hp
    have ec:((b.toNat:Int))*2^(8*i)=((b.toNat*2^(8*i):Nat):Int):=by rw [Int.natCast_mul,Int.natCast_pow];rfl
    have ep:((2:Int)^(8*i))=((2^(8*i):Nat):Int):=by rw [Int.natCast_pow];rfl
    have hs:=shl_s (a:=(b.toNat:Int)) (s:=8*i) (c:=(b.toNat:Int)*2^(8*i)) (by omega) rfl (by rw [ec];omega)
    have ho:=or_low (x:=(b.toNat:Int)) (y:=(le (l.take i):Nat)) (s:=8*i) (c:=(le (l.take (i+1)):Nat)) (by omega) (by rw [ec];omega) (by rw [ep];omega) (by rw [ec,hnx,p256];omega)
    (refine aA<|rgN<|klt O O (cP (by omega))<|aB<|aA<|aE O ?_;refine aH ?_;refine aA<|aG<|aA<|rgN<|kmv O<|kas O<|aB<|rgN<|kmv O<|kmv O<|kmv O<|K.indexStr O O (by omega) hb' dR<|kcv O (by exact wrap_u64 (by omega)) ?_;refine kmv O<|bL O O w8 dR<|K.shl O O (by omega) hs dR<|K.bitop (by simp) O O ho dR<|kas O<|aB<|rgN<|kad O O (cH (by omega))<|kmv O<|aB ?_)
    exact ⟨_,_,by omega,Le.of (by exact ⟨O,O,O,O,trivial⟩) (by exact trivial) (by exact O) (by exact O) (by exact O),i+1,by omega,O,O⟩
  · have e:i=l.length:=by omega
    subst e
    rw [dF]
    (refine aA<|rgN<|klt O O (cO (by omega))<|aB<|aA<|aF O ?_;refine aJ<|aA<|rgN<|kmv O<|kas O<|aB<|aI ?_)
    exact ⟨[_],⟨O,trivial⟩,O⟩
end Go.Proofs.YtamplgnbbanamaaGreatDoor
end
section
namespace Go.Proofs.YtamplgnbbanamaaGreatDoor
open Go Go.Lg
variable (X:Nat→Option Obj)
theorem low_1 (n:Nat) (hn:n<18446744073709551616):PSpec Tryz.prog X 53 [Ln .i64 1,Ln .u64 (n:Nat)] (Ls (leB 1 n)):=by
  refine cF Tryz.func53 rfl (by kernel_rfl) rfl rfl ?_
  intro C
  (refine aA<|rgN<|kas O<|aB<|aA<|rgN<|kmv O<|K.makeSlc (m:=1) (zs:=List.replicate 1 (.int .u8 0)) (sz:=1) (e:=5) (bytes:=1) (zc:=(lo 1 n 0).map bc) O O (by kernel_rfl) (by kernel_rfl) (by decide) O O dR<|kas O<|aB<|aA<|aA<|rgN<|kmv O ?_;refine K.lenSlc O cC O dR ?_;refine kmv O<|aB<|aG ?_)
  refine cL (fun m σ=>∃ i:Nat,i≤1∧m=1-i∧σ=⟨[(1,Ln .u64 (n:Nat)),(5,.sv (.one (.slc 8 0 1))),(10,Ln .i64 1),(11,Ln .i64 (i:Nat))],[(8,some ⟨5,(lo 1 n i).map bc,false⟩)],X⟩) 1
    ⟨_,Le.of (by exact ⟨rfl,rfl,rfl,rfl,trivial⟩) (by exact ⟨rfl,trivial⟩) (by exact rfl) (by exact rfl) (by repeat' (first|refine bT ?_ ?_|rfl|exact bV|exact bU|exact bW rfl)),0,Nat.zero_le _,rfl,rfl⟩ ?_
  rintro m σ ⟨i,hi,rfl,rfl⟩
  by_cases hlt:i<1
  · have w8:IntKind.i64.wrap (8*(i:Int))=((8*i:Nat):Int):=by rw [cH (by omega)];omega
    have ed:((n:Nat):Int)/2^(8*i)=((n/256^i:Nat):Int):=by rw [p256,Int.natCast_ediv,Int.natCast_pow];rfl
    have hs:=(shr_s (a:=((n:Nat):Int)) (s:=8*i) (by omega)).trans ed
    have hv:IntKind.u8.wrap ((n/256^i:Nat):Int)=((UInt8.ofNat (n/256^i%256)).toNat:Nat):=by
      rw [UInt8.toNat_ofNat',Nat.mod_eq_of_lt (Nat.mod_lt _ (by decide)),IntKind.wrap_u8]
      omega
    have hbl:Nat.blt (0+i*1) ((lo 1 n i).map bc).length=true:=by rw [lo_len _ _ _ hi,Nat.blt_eq];omega
    (refine aA<|rgN<|klt O O (cP (by omega))<|aB<|aA<|aE O ?_;refine aH ?_;refine aA<|aG<|aA<|rgN<|kmv O<|kas O<|aB<|rgN<|kmv O<|kmv O<|kmv O<|kmv O<|bL O O w8 dR<|bO O O (by omega) hs dR ?_;refine kcv O hv ?_;refine K.indexSlc O O (by omega) O dR ?_;refine bG O O O O hbl (lo_set hlt) dR<|aB<|rgN<|kad O O (cH (by omega))<|kmv O<|aB ?_)
    exact ⟨_,_,by omega,Le.of (by exact ⟨O,O,O,O,trivial⟩) (by exact ⟨O,trivial⟩) (by exact O) (by exact O) (by repeat' (first|refine bT ?_ ?_|rfl|exact bV|exact bU|exact bW O)),i+1,by omega,O,O⟩
  · have e:i=1:=by omega
    subst e
    have hlen:0+1≤((lo 1 n 1).map bc).length:=by rw [lo_len _ _ _ (dN _)];omega
    have hcut:(((lo 1 n 1).map bc).drop 0).take 1=(leB 1 n).map bc:=by
      rw [List.drop_zero,List.take_of_length_le (by rw [lo_len _ _ _ (dN _)];exact dN _),lo_all]
    (refine aA<|rgN<|klt O O (cO (by omega))<|aB<|aA<|aF O ?_;refine aJ<|aA<|rgN<|kmv O<|bS O O (by kernel_rfl) StrT.u hlen hcut dR<|kas O<|aB<|aI ?_)
    exact ⟨[_],⟨O,trivial⟩,O⟩
theorem low_4 (n:Nat) (hn:n<18446744073709551616):PSpec Tryz.prog X 53 [Ln .i64 4,Ln .u64 (n:Nat)] (Ls (leB 4 n)):=by
  refine cF Tryz.func53 rfl (by kernel_rfl) rfl rfl ?_
  intro C
  (refine aA<|rgN<|kas O<|aB<|aA<|rgN<|kmv O<|K.makeSlc (m:=4) (zs:=List.replicate 4 (.int .u8 0)) (sz:=1) (e:=5) (bytes:=1) (zc:=(lo 4 n 0).map bc) O O (by kernel_rfl) (by kernel_rfl) (by decide) O O dR<|kas O<|aB<|aA<|aA<|rgN<|kmv O ?_;refine K.lenSlc O cC O dR ?_;refine kmv O<|aB<|aG ?_)
  refine cL (fun m σ=>∃ i:Nat,i≤4∧m=4-i∧σ=⟨[(1,Ln .u64 (n:Nat)),(5,.sv (.one (.slc 8 0 4))),(10,Ln .i64 4),(11,Ln .i64 (i:Nat))],[(8,some ⟨5,(lo 4 n i).map bc,false⟩)],X⟩) 4
    ⟨_,Le.of (by exact ⟨rfl,rfl,rfl,rfl,trivial⟩) (by exact ⟨rfl,trivial⟩) (by exact rfl) (by exact rfl) (by repeat' (first|refine bT ?_ ?_|rfl|exact bV|exact bU|exact bW rfl)),0,Nat.zero_le _,rfl,rfl⟩ ?_
  rintro m σ ⟨i,hi,rfl,rfl⟩
  by_cases hlt:i<4
  · have w8:IntKind.i64.wrap (8*(i:Int))=((8*i:Nat):Int):=by rw [cH (by omega)];omega
    have ed:((n:Nat):Int)/2^(8*i)=((n/256^i:Nat):Int):=by rw [p256,Int.natCast_ediv,Int.natCast_pow];rfl
    have hs:=(shr_s (a:=((n:Nat):Int)) (s:=8*i) (by omega)).trans ed
    have hv:IntKind.u8.wrap ((n/256^i:Nat):Int)=((UInt8.ofNat (n/256^i%256)).toNat:Nat):=by
      rw [UInt8.toNat_ofNat',Nat.mod_eq_of_lt (Nat.mod_lt _ (by decide)),IntKind.wrap_u8]
      omega
    have hbl:Nat.blt (0+i*1) ((lo 4 n i).map bc).length=true:=by rw [lo_len _ _ _ hi,Nat.blt_eq];omega
    (refine aA<|rgN<|klt O O (cP (by omega))<|aB<|aA<|aE O ?_;refine aH ?_;refine aA<|aG<|aA<|rgN<|kmv O<|kas O<|aB<|rgN<|kmv O<|kmv O<|kmv O<|kmv O<|bL O O w8 dR<|bO O O (by omega) hs dR ?_;refine kcv O hv ?_;refine K.indexSlc O O (by omega) O dR ?_;refine bG O O O O hbl (lo_set hlt) dR<|aB<|rgN<|kad O O (cH (by omega))<|kmv O<|aB ?_)
    exact ⟨_,_,by omega,Le.of (by exact ⟨O,O,O,O,trivial⟩) (by exact ⟨O,trivial⟩) (by exact O) (by exact O) (by repeat' (first|refine bT ?_ ?_|rfl|exact bV|exact bU|exact bW O)),i+1,by omega,O,O⟩
  · have e:i=4:=by omega
    subst e
    have hlen:0+4≤((lo 4 n 4).map bc).length:=by rw [lo_len _ _ _ (dN _)];omega
    have hcut:(((lo 4 n 4).map bc).drop 0).take 4=(leB 4 n).map bc:=by
      rw [List.drop_zero,List.take_of_length_le (by rw [lo_len _ _ _ (dN _)];exact dN _),lo_all]
    (refine aA<|rgN<|klt O O (cO (by omega))<|aB<|aA<|aF O ?_;refine aJ<|aA<|rgN<|kmv O<|bS O O (by kernel_rfl) StrT.u hlen hcut dR<|kas O<|aB<|aI ?_)
    exact ⟨[_],⟨O,trivial⟩,O⟩
theorem low_8 (n:Nat) (hn:n<18446744073709551616):PSpec Tryz.prog X 53 [Ln .i64 8,Ln .u64 (n:Nat)] (Ls (leB 8 n)):=by
  refine cF Tryz.func53 rfl (by kernel_rfl) rfl rfl ?_
  intro C
  (refine aA<|rgN<|kas O<|aB<|aA<|rgN<|kmv O<|K.makeSlc (m:=8) (zs:=List.replicate 8 (.int .u8 0)) (sz:=1) (e:=5) (bytes:=1) (zc:=(lo 8 n 0).map bc) O O (by kernel_rfl) (by kernel_rfl) (by decide) O O dR<|kas O<|aB<|aA<|aA<|rgN<|kmv O ?_;refine K.lenSlc O cC O dR ?_;refine kmv O<|aB<|aG ?_)
  refine cL (fun m σ=>∃ i:Nat,i≤8∧m=8-i∧σ=⟨[(1,Ln .u64 (n:Nat)),(5,.sv (.one (.slc 8 0 8))),(10,Ln .i64 8),(11,Ln .i64 (i:Nat))],[(8,some ⟨5,(lo 8 n i).map bc,false⟩)],X⟩) 8
    ⟨_,Le.of (by exact ⟨rfl,rfl,rfl,rfl,trivial⟩) (by exact ⟨rfl,trivial⟩) (by exact rfl) (by exact rfl) (by repeat' (first|refine bT ?_ ?_|rfl|exact bV|exact bU|exact bW rfl)),0,Nat.zero_le _,rfl,rfl⟩ ?_
  rintro m σ ⟨i,hi,rfl,rfl⟩
  by_cases hlt:i<8
  · have w8:IntKind.i64.wrap (8*(i:Int))=((8*i:Nat):Int):=by rw [cH (by omega)];omega
    have ed:((n:Nat):Int)/2^(8*i)=((n/256^i:Nat):Int):=by rw [p256,Int.natCast_ediv,Int.natCast_pow];rfl
    have hs:=(shr_s (a:=((n:Nat):Int)) (s:=8*i) (by omega)).trans ed
    have hv:IntKind.u8.wrap ((n/256^i:Nat):Int)=((UInt8.ofNat (n/256^i%256)).toNat:Nat):=by
      rw [UInt8.toNat_ofNat',Nat.mod_eq_of_lt (Nat.mod_lt _ (by decide)),IntKind.wrap_u8]
      omega
    have hbl:Nat.blt (0+i*1) ((lo 8 n i).map bc).length=true:=by rw [lo_len _ _ _ hi,Nat.blt_eq];omega
    (refine aA<|rgN<|klt O O (cP (by omega))<|aB<|aA<|aE O ?_;refine aH ?_;refine aA<|aG<|aA<|rgN<|kmv O<|kas O<|aB<|rgN<|kmv O<|kmv O<|kmv O<|kmv O<|bL O O w8 dR<|bO O O (by omega) hs dR ?_;refine kcv O hv ?_;refine K.indexSlc O O (by omega) O dR ?_;refine bG O O O O hbl (lo_set hlt) dR<|aB<|rgN<|kad O O (cH (by omega))<|kmv O<|aB ?_)
    exact ⟨_,_,by omega,Le.of (by exact ⟨O,O,O,O,trivial⟩) (by exact ⟨O,trivial⟩) (by exact O) (by exact O) (by repeat' (first|refine bT ?_ ?_|rfl|exact bV|exact bU|exact bW O)),i+1,by omega,O,O⟩
  · have e:i=8:=by omega
    subst e
    have hlen:0+8≤((lo 8 n 8).map bc).length:=by rw [lo_len _ _ _ (dN _)];omega
    have hcut:(((lo 8 n 8).map bc).drop 0).take 8=(leB 8 n).map bc:=by
      rw [List.drop_zero,List.take_of_length_le (by rw [lo_len _ _ _ (dN _)];exact dN _),lo_all]
    (refine aA<|rgN<|klt O O (cO (by omega))<|aB<|aA<|aF O ?_;refine aJ<|aA<|rgN<|kmv O<|bS O O (by kernel_rfl) StrT.u hlen hcut dR<|kas O<|aB<|aI ?_)
    exact ⟨[_],⟨O,trivial⟩,O⟩
end Go.Proofs.YtamplgnbbanamaaGreatDoor
end
section
namespace Go.Proofs.YtamplgnbbanamaaGreatDoor
open Go Go.Lg
variable (X:Nat→Option Obj)
abbrev w0 (k:Nat):List (Nat×Option Box):=[(k,some ⟨76,[.val (.pointer none),.val (.int .i64 0)],false⟩)]
abbrev w1 (k ks kb:Nat) (l:List UInt8):List (Nat×Option Box):=
  [(k,some ⟨76,[.ptr ks 0,.val (.int .i64 (l.length:Nat))],false⟩),(ks,some ⟨107,[.slc kb 0 l.length],false⟩),(kb,some ⟨5,l.map bc,true⟩)]
theorem String_0:MSpec Tryz.prog X 28 [Lp 1000000] (w0 1000000) (Ls []) (w0 1000000):=by
  refine cG Tryz.func28 rfl (by kernel_rfl) rfl rfl rfl rfl rfl ?_
  intro C
  (refine aA<|rgN<|kas O<|aB<|aA<|aA<|rgN<|kmv O<|K.ptrNil O (by kernel_rfl) (.inl ⟨O,O⟩) dR<|kmv O<|gmv O O O<|bI O (dS O O) ?_;refine aN O O (dS O O) ?_;refine aO O O O (dS O O) ?_;refine K.nilNil O (by kernel_rfl) (.inl ⟨O,O⟩) (dS O O) ?_;refine kpf O O<|aB<|aE O ?_;refine aA<|rgN<|kas O<|aB<|aI ?_)
  exact ⟨[],⟨[_],⟨O,trivial⟩,O⟩,⟨⟨_,O,O⟩,trivial⟩,O,O⟩
theorem String_1 (l:List UInt8):MSpec Tryz.prog X 28 [Lp 1000000] (w1 1000000 1000001 1000002 l) (Ls l) (w1 1000000 1000001 1000002 l):=by
  refine cG Tryz.func28 rfl (by kernel_rfl) rfl rfl (by repeat' (first|refine bT ?_ ?_|rfl|exact bV|exact bU|exact bW rfl)) rfl rfl ?_
  intro C
  have hlen:0+l.length≤(l.map bc).length:=by rw [cW];omega
  have hcut:((l.map bc).drop 0).take l.length=l.map bc:=by rw [List.drop_zero,List.take_of_length_le (by rw [cW];exact dN _)]
  (refine aA<|rgN<|kas O<|aB<|aA<|aA<|rgN<|kmv O<|K.ptrNil O (by kernel_rfl) (.inl ⟨O,O⟩) dR<|kmv O<|gmv O O O<|bI O (dS O O) ?_;refine aN O O (dS O O) ?_;refine aO O O O (dS O O) ?_;refine K.ptrNil O (by kernel_rfl) (.inl ⟨O,O⟩) (dS O O) ?_;refine kpf O O<|aB<|aF O ?_;refine aH ?_;refine aA<|rgD mixed<|kmv O<|bI O dR<|kfa O O ?_;refine kl1 O O O<|bI O dR<|kfa O O ?_;refine kl1 O O O<|kmv O<|bI O dR<|kfa O O ?_;refine kl1 O O O<|K.cutSlc O O cC (dN _) dR<|bS O O (by kernel_rfl) StrT.u hlen hcut dR<|kas O<|aB<|rgA ?_;refine aI ?_)
  exact ⟨[],⟨[_],⟨rfl,trivial⟩,rfl⟩,(by repeat' (first|exact trivial|refine cQ ⟨_,rfl,?_⟩ ?_|refine cQ ⟨_,rfl⟩ ?_|rfl|exact bX _ _ _ _|exact bY _ _ _ _|exact bZ rfl)),rfl,rfl⟩
theorem WRaw_0 (s:List UInt8) (hs:s.length<1000000000):MSpec Tryz.prog X 52 [Lp 1000000,Ls s] (w0 1000000) (Lb true) (w1 1000000 1000001 1000002 s):=by
  refine cG Tryz.func52 rfl (by kernel_rfl) rfl rfl (by repeat' (first|refine bT ?_ ?_|rfl|exact bV|exact bU|exact bW rfl)) rfl rfl ?_
  intro C
  (refine aA<|rgN<|kas O<|aB<|aA<|aA<|rgN<|kmv O<|K.ptrNil O (by kernel_rfl) (.inl ⟨O,O⟩) dR<|aB<|aF O ?_;refine aH ?_;refine aA<|aA<|rgD mixed<|kmv O<|bI O dR<|kfa O O ?_;refine kl1 O O O<|K.nilNil O (by kernel_rfl) (.inl ⟨O,O⟩) dR<|kmv O<|aC O O O<|aC O O O<|aC O O O<|aC O O O<|aC O O O<|aC O O O<|aC O O O<|aC O O O<|aC O O O<|aC O O O<|aC O O O ?_;refine aC O O O<|aC O O O<|kpt O O<|aB<|rgA ?_;refine aE O ?_;refine rgN<|kmv O<|kmv O<|aU [] (w0 1000000) (String_0 X) O O (by exact (cQ ⟨_,O,O⟩ trivial)) (by exact (bT (bT O (bT O O)) O)) O O O O (by exact (.box O O .nil)) dR<|K.strBytes (e:=5) O StrT.u (by kernel_rfl) (by kernel_rfl) O dR<|aT O O (by exact O) (by exact nl1 O O) dR ?_;refine aL O O O dR<|bI O dR<|kfa O O ?_;refine bG O O O O O (nl2 O O O) dR<|aB<|aA<|rgD mixed<|kmv O<|bI O dR<|kfa O O ?_;refine kl1 O O O<|kmv O<|bI O dR<|kfa O O ?_;refine kl1 O O O<|bI O dR<|kfa O O ?_;refine kl1 O O O<|kmv O<|K.appendStr (by_:=1) O O O O (by kernel_rfl) StrT.u (by simp only [dO];omega) (by simp only [dO];omega) O (Nat.zero_add _) (List.nil_append _) dR<|bI O dR<|kfa O O ?_;refine bG O O O O O (nl1 O O) dR<|aB<|rgA ?_;refine aA<|rgN<|kmv O<|kmv O<|bI O dR<|kfa O O ?_;refine kl1 O O O<|bI O dR<|kfa O O ?_;refine kl1 O O O<|K.lenSlc O cC O dR ?_;refine bI O dR<|kfa O O ?_;refine bG O O O O O (nl2 O O O) dR<|aB<|aA<|rgN<|kas O<|aB<|aI ?_)
  exact ⟨[(1000001,32),(1000002,47)],⟨[_],⟨rfl,trivial⟩,rfl⟩,(by repeat' (first|exact trivial|refine cQ ⟨_,rfl,?_⟩ ?_|refine cQ ⟨_,rfl⟩ ?_|rfl|exact bX _ _ _ _|exact bY _ _ _ _|exact bZ rfl)),rfl,rfl⟩
theorem WRaw_1 (l s:List UInt8) (hs:l.length+s.length<1000000000):MSpec Tryz.prog X 52 [Lp 1000000,Ls s] (w1 1000000 1000001 1000002 l) (Lb true) (w1 1000000 1000001 1000003 (l++s)++[(1000002,none)]):=by
  refine cG Tryz.func52 rfl (by kernel_rfl) rfl rfl (by repeat' (first|refine bT ?_ ?_|rfl|exact bV|exact bU|exact bW rfl)) rfl rfl ?_
  intro C
  ((refine aA<|rgN<|kas O<|aB<|aA<|aA<|rgN<|kmv O<|K.ptrNil O (by kernel_rfl) (.inl ⟨O,O⟩) dR<|aB<|aF O ?_;refine aH ?_;refine aA<|aA<|rgD mixed<|kmv O<|bI O dR<|kfa O O ?_;refine kl1 O O O<|K.ptrNil O (by kernel_rfl) (.inl ⟨O,O⟩) dR<|kmv O<|gmv O O O<|bI O (dS O O) ?_;refine aN O O (dS O O) ?_;refine aO O O O (dS O O) ?_;refine gmv O O O<|bI O (dS O O) ?_;refine aN O O (dS O O) ?_;refine aO O O O (dS O O) ?_;refine bI O (dS O O) ?_;refine aN O O (dS O O) ?_;refine aO O O O (dS O O) ?_);(refine K.lenSlc O cC O (dS O O) ?_;refine aX O O ((cS (by omega))) (dS O O) ?_;refine kpf O O<|aB<|rgA ?_;refine aF O ?_;refine aH ?_;refine aA<|rgD mixed<|kmv O<|bI O dR<|kfa O O ?_;refine kl1 O O O<|kmv O<|bI O dR<|kfa O O ?_;refine kl1 O O O<|bI O dR<|kfa O O ?_;refine kl1 O O O<|kmv O<|K.appendStr (by_:=1) O O (cW _) O (by kernel_rfl) StrT.u (by omega) (by omega) O (cV).symm (dH).symm dR<|bI O dR<|kfa O O ?_;refine bG O O O O O (nl1 O O) dR<|aB<|rgA ?_;refine aA<|rgN<|kmv O<|kmv O<|bI O dR<|kfa O O ?_;refine kl1 O O O<|bI O dR<|kfa O O ?_);(refine kl1 O O O<|K.lenSlc O cC O dR ?_;refine bI O dR<|kfa O O ?_;refine bG O O O O O (nl2 O O O) dR<|aB<|aA<|rgN<|kas O<|aB<|aI ?_))
  exact ⟨[(1000003,47)],⟨[_],⟨rfl,trivial⟩,rfl⟩,(by repeat' (first|exact trivial|refine cQ ⟨_,rfl,?_⟩ ?_|refine cQ ⟨_,rfl⟩ ?_|rfl|exact bX _ _ _ _|exact bY _ _ _ _|exact bZ rfl)),rfl,rfl⟩
end Go.Proofs.YtamplgnbbanamaaGreatDoor
end
section
namespace Go.Proofs.YtamplgnbbanamaaGreatDoor
open Go Go.Lg
variable (X:Nat→Option Obj)
def fitW (w:Int) (n:Nat):Bool:=isW w&&decide (n<256^w.toNat)
theorem oshr_1 (n:Nat):((n:Nat):Int).fdiv (2^(min (((8*1:Nat):Int)).toNat IntKind.u64.bits))=((n/256^1:Nat):Int):=by
  have ed:((n:Nat):Int)/2^(8*1)=((n/256^1:Nat):Int):=by rw [p256,Int.natCast_ediv,Int.natCast_pow];rfl
  exact (shr_s (a:=((n:Nat):Int)) (s:=8*1) (by omega)).trans ed
theorem WNum_0_1 (n:Nat) (hn:n<18446744073709551616) (h:n<256^1):MSpec Tryz.prog X 26 [Lp 1000000,Ln .i64 1,Ln .u64 (n:Nat)] (w0 1000000) (Lb true) (w1 1000000 1000001 1000002 (leB 1 n)):=by
  refine cG Tryz.func26 rfl (by kernel_rfl) rfl rfl (by repeat' (first|refine bT ?_ ?_|rfl|exact bV|exact bU|exact bW rfl)) rfl rfl ?_
  intro C
  have hz:((n/256^1:Nat):Int)=0:=by rw [Nat.div_eq_of_lt h];rfl
  have hs:=(oshr_1 n).trans hz
  (refine aA<|rgN<|kas O<|aB<|aA<|aA<|rgN<|kmv O<|kca O O (isWidth_spec X _ true O)<|aV O O dR<|kmv O<|gmv O O O<|gmv O O O<|bL O O (c:=((8*1:Nat):Int)) O (dS O O) ?_;refine bO O O (by decide) hs (dS O O) ?_;refine aX O O ((cS (by omega))) (dS O O) ?_;refine kpf O O<|aB<|aF O ?_;refine aH ?_;refine aA<|rgN<|kmv O<|kmv O<|kmv O<|kca O O (low_1 X n hn)<|aU [(1000001,501),(1000002,502)] (w1 1000000 501 502 (leB 1 n)) (WRaw_0 X _ (by rw [leB_length];decide)) O O (by exact (cQ ⟨_,O,O⟩ trivial)) (by exact (bT (bT O (bT O O)) O)) O O O O (by exact (.box O O (.box O O (.box O O .nil)))) dR<|kas O<|aB<|aI ?_)
  exact ⟨[(1000001,501),(1000002,502)],⟨[_],⟨rfl,trivial⟩,rfl⟩,(by repeat' (first|exact trivial|refine cQ ⟨_,rfl,?_⟩ ?_|refine cQ ⟨_,rfl⟩ ?_|rfl|exact bX _ _ _ _|exact bY _ _ _ _|exact bZ rfl)),rfl,rfl⟩
theorem WNum_1_1 (l:List UInt8) (n:Nat) (hn:n<18446744073709551616) (h:n<256^1) (hl:l.length<900000000):MSpec Tryz.prog X 26 [Lp 1000000,Ln .i64 1,Ln .u64 (n:Nat)] (w1 1000000 1000001 1000002 l) (Lb true) (w1 1000000 1000001 1000003 (l++leB 1 n)++[(1000002,none)]):=by
  refine cG Tryz.func26 rfl (by kernel_rfl) rfl rfl (by repeat' (first|refine bT ?_ ?_|rfl|exact bV|exact bU|exact bW rfl)) rfl rfl ?_
  intro C
  have hz:((n/256^1:Nat):Int)=0:=by rw [Nat.div_eq_of_lt h];rfl
  have hs:=(oshr_1 n).trans hz
  (refine aA<|rgN<|kas O<|aB<|aA<|aA<|rgN<|kmv O<|kca O O (isWidth_spec X _ true O)<|aV O O dR<|kmv O<|gmv O O O<|gmv O O O<|bL O O (c:=((8*1:Nat):Int)) O (dS O O) ?_;refine bO O O (by decide) hs (dS O O) ?_;refine aX O O ((cS (by omega))) (dS O O) ?_;refine kpf O O<|aB<|aF O ?_;refine aH ?_;refine aA<|rgN<|kmv O<|kmv O<|kmv O<|kca O O (low_1 X n hn)<|aU [(1000003,503)] (w1 1000000 1000001 503 (l++leB 1 n)++[(1000002,none)]) (WRaw_1 X l _ (by rw [leB_length];omega)) O O (by exact (cQ ⟨_,O,O⟩ (cQ ⟨_,O,O⟩ (cQ ⟨_,O,(bX _ _ _ _)⟩ trivial)))) (by exact (bT (bT O (bT O O)) (bT (bT O O) (bT bV O)))) O O O O (by exact (.box O O (.box O O (.box O (bX _ _ _ _) (.dead O .nil))))) dR<|kas O<|aB<|aI ?_)
  exact ⟨[(1000003,503)],⟨[_],⟨rfl,trivial⟩,rfl⟩,(by repeat' (first|exact trivial|refine cQ ⟨_,rfl,?_⟩ ?_|refine cQ ⟨_,rfl⟩ ?_|rfl|exact bX _ _ _ _|exact bY _ _ _ _|exact bZ rfl)),rfl,rfl⟩
theorem oshr_4 (n:Nat):((n:Nat):Int).fdiv (2^(min (((8*4:Nat):Int)).toNat IntKind.u64.bits))=((n/256^4:Nat):Int):=by
  have ed:((n:Nat):Int)/2^(8*4)=((n/256^4:Nat):Int):=by rw [p256,Int.natCast_ediv,Int.natCast_pow];rfl
  exact (shr_s (a:=((n:Nat):Int)) (s:=8*4) (by omega)).trans ed
theorem WNum_1_4 (l:List UInt8) (n:Nat) (hn:n<18446744073709551616) (h:n<256^4) (hl:l.length<900000000):MSpec Tryz.prog X 26 [Lp 1000000,Ln .i64 4,Ln .u64 (n:Nat)] (w1 1000000 1000001 1000002 l) (Lb true) (w1 1000000 1000001 1000003 (l++leB 4 n)++[(1000002,none)]):=by
  refine cG Tryz.func26 rfl (by kernel_rfl) rfl rfl (by repeat' (first|refine bT ?_ ?_|rfl|exact bV|exact bU|exact bW rfl)) rfl rfl ?_
  intro C
  have hz:((n/256^4:Nat):Int)=0:=by rw [Nat.div_eq_of_lt h];rfl
  have hs:=(oshr_4 n).trans hz
  (refine aA<|rgN<|kas O<|aB<|aA<|aA<|rgN<|kmv O<|kca O O (isWidth_spec X _ true O)<|aV O O dR<|kmv O<|gmv O O O<|gmv O O O<|bL O O (c:=((8*4:Nat):Int)) O (dS O O) ?_;refine bO O O (by decide) hs (dS O O) ?_;refine aX O O ((cS (by omega))) (dS O O) ?_;refine kpf O O<|aB<|aF O ?_;refine aH ?_;refine aA<|rgN<|kmv O<|kmv O<|kmv O<|kca O O (low_4 X n hn)<|aU [(1000003,503)] (w1 1000000 1000001 503 (l++leB 4 n)++[(1000002,none)]) (WRaw_1 X l _ (by rw [leB_length];omega)) O O (by exact (cQ ⟨_,O,O⟩ (cQ ⟨_,O,O⟩ (cQ ⟨_,O,(bX _ _ _ _)⟩ trivial)))) (by exact (bT (bT O (bT O O)) (bT (bT O O) (bT bV O)))) O O O O (by exact (.box O O (.box O O (.box O (bX _ _ _ _) (.dead O .nil))))) dR<|kas O<|aB<|aI ?_)
  exact ⟨[(1000003,503)],⟨[_],⟨rfl,trivial⟩,rfl⟩,(by repeat' (first|exact trivial|refine cQ ⟨_,rfl,?_⟩ ?_|refine cQ ⟨_,rfl⟩ ?_|rfl|exact bX _ _ _ _|exact bY _ _ _ _|exact bZ rfl)),rfl,rfl⟩
theorem oshr_8 (n:Nat):((n:Nat):Int).fdiv (2^(min (((8*8:Nat):Int)).toNat IntKind.u64.bits))=((n/256^8:Nat):Int):=by
  have ed:((n:Nat):Int)/2^(8*8)=((n/256^8:Nat):Int):=by rw [p256,Int.natCast_ediv,Int.natCast_pow];rfl
  exact (shr_s (a:=((n:Nat):Int)) (s:=8*8) (by omega)).trans ed
theorem WNum_1_8 (l:List UInt8) (n:Nat) (hn:n<18446744073709551616) (h:n<256^8) (hl:l.length<900000000):MSpec Tryz.prog X 26 [Lp 1000000,Ln .i64 8,Ln .u64 (n:Nat)] (w1 1000000 1000001 1000002 l) (Lb true) (w1 1000000 1000001 1000003 (l++leB 8 n)++[(1000002,none)]):=by
  refine cG Tryz.func26 rfl (by kernel_rfl) rfl rfl (by repeat' (first|refine bT ?_ ?_|rfl|exact bV|exact bU|exact bW rfl)) rfl rfl ?_
  intro C
  have hz:((n/256^8:Nat):Int)=0:=by rw [Nat.div_eq_of_lt h];rfl
  have hs:=(oshr_8 n).trans hz
  (refine aA<|rgN<|kas O<|aB<|aA<|aA<|rgN<|kmv O<|kca O O (isWidth_spec X _ true O)<|aV O O dR<|kmv O<|gmv O O O<|gmv O O O<|bL O O (c:=((8*8:Nat):Int)) O (dS O O) ?_;refine bO O O (by decide) hs (dS O O) ?_;refine aX O O ((cS (by omega))) (dS O O) ?_;refine kpf O O<|aB<|aF O ?_;refine aH ?_;refine aA<|rgN<|kmv O<|kmv O<|kmv O<|kca O O (low_8 X n hn)<|aU [(1000003,503)] (w1 1000000 1000001 503 (l++leB 8 n)++[(1000002,none)]) (WRaw_1 X l _ (by rw [leB_length];omega)) O O (by exact (cQ ⟨_,O,O⟩ (cQ ⟨_,O,O⟩ (cQ ⟨_,O,(bX _ _ _ _)⟩ trivial)))) (by exact (bT (bT O (bT O O)) (bT (bT O O) (bT bV O)))) O O O O (by exact (.box O O (.box O O (.box O (bX _ _ _ _) (.dead O .nil))))) dR<|kas O<|aB<|aI ?_)
  exact ⟨[(1000003,503)],⟨[_],⟨rfl,trivial⟩,rfl⟩,(by repeat' (first|exact trivial|refine cQ ⟨_,rfl,?_⟩ ?_|refine cQ ⟨_,rfl⟩ ?_|rfl|exact bX _ _ _ _|exact bY _ _ _ _|exact bZ rfl)),rfl,rfl⟩
end Go.Proofs.YtamplgnbbanamaaGreatDoor
end
section
namespace Go.Proofs.YtamplgnbbanamaaGreatDoor
open Go Go.Lg
variable (X:Nat→Option Obj)
theorem rlen (l:List UInt8):(⟨l.toArray⟩:ByteArray).size=l.length:=rfl
theorem Left_spec (l:List UInt8) (b:Bool):MSpec Tryz.prog X 61 [Lp 1000000] (rd 1000000 l b) (Ln .i64 (if b=true then 0 else (l.length:Nat))) (rd 1000000 l b):=by
  refine cG Tryz.func61 rfl (by kernel_rfl) rfl rfl rfl rfl rfl ?_
  intro C
  cases b with
  | false =>
    (refine aA<|rgN<|kas O<|aB<|aA<|aA<|rgN<|kmv O<|aU [] (rd 1000000 l false) (Bad_spec X l false) O O (by exact (cQ ⟨_,O,O⟩ trivial)) (by exact (bT (bT O (bT O O)) O)) O O O O (by exact (.box O O .nil)) dR<|aB<|aF O ?_;refine aH ?_;refine aA<|rgN<|kmv O<|bI O dR<|kfa O O ?_;refine kl1 O O O<|kln O<|kas O<|aB<|aI ?_)
    exact ⟨[],⟨[_],⟨O,trivial⟩,O⟩,⟨⟨_,O,O⟩,trivial⟩,O,O⟩
  | true =>
    (refine aA<|rgN<|kas O<|aB<|aA<|aA<|rgN<|kmv O<|aU [] (rd 1000000 l true) (Bad_spec X l true) O O (by exact (cQ ⟨_,O,O⟩ trivial)) (by exact (bT (bT O (bT O O)) O)) O O O O (by exact (.box O O .nil)) dR<|aB<|aE O ?_;refine aA<|rgN<|kas O<|aB<|aI ?_)
    exact ⟨[],⟨[_],⟨O,trivial⟩,O⟩,⟨⟨_,O,O⟩,trivial⟩,O,O⟩
theorem Done_spec (l:List UInt8) (b:Bool) (e:Bool) (he:(l==[])=e):MSpec Tryz.prog X 36 [Lp 1000000] (rd 1000000 l b) (Lb (!b&&e)) (rd 1000000 l b):=by
  refine cG Tryz.func36 rfl (by kernel_rfl) rfl rfl rfl rfl rfl ?_
  intro C
  cases b with
  | false =>
    (refine aA<|rgN<|kas O<|aB<|aA<|rgN<|kmv O<|aU [] (rd 1000000 l false) (Bad_spec X l false) O O (by exact (cQ ⟨_,O,O⟩ trivial)) (by exact (bT (bT O (bT O O)) O)) O O O O (by exact (.box O O .nil)) dR<|aV O O dR<|kmv O<|gmv O O O<|bI O (dS O O) ?_;refine aN O O (dS O O) ?_;refine aO O O O (dS O O) ?_;refine K.strEq O O (strs_eq he) (dS O O) ?_;refine kpt O O<|kas O<|aB<|aI ?_)
    exact ⟨[],⟨[_],⟨O,trivial⟩,O⟩,⟨⟨_,O,O⟩,trivial⟩,O,O⟩
  | true =>
    (refine aA<|rgN<|kas O<|aB<|aA<|rgN<|kmv O<|aU [] (rd 1000000 l true) (Bad_spec X l true) O O (by exact (cQ ⟨_,O,O⟩ trivial)) (by exact (bT (bT O (bT O O)) O)) O O O O (by exact (.box O O .nil)) dR<|aV O O dR<|kmv O<|aC O O O<|aC O O O<|aC O O O<|aC O O O ?_;refine aC O O O<|kpf O O<|kas O<|aB<|aI ?_)
    exact ⟨[],⟨[_],⟨O,trivial⟩,O⟩,⟨⟨_,O,O⟩,trivial⟩,O,O⟩
def rawOk (l:List UInt8) (b:Bool) (n:Int):Bool := !b&&decide (0≤n∧n≤l.length)
theorem Raw_ok (l:List UInt8) (n:Nat) (hn:n≤l.length) (hl:l.length<4611686018427387904):MSpec Tryz.prog X 58 [Lp 1000000,Ln .i64 (n:Nat)] (rd 1000000 l false) (Ls (l.take n)) (rd 1000000 (l.drop n) false):=by
  refine cG Tryz.func58 rfl (by kernel_rfl) rfl rfl rfl rfl rfl ?_
  intro C
  have hz:=rlen l
  have c1:(⟨l.toArray⟩:ByteArray).extract 0 n=⟨(l.take n).toArray⟩:=by rw [str_cut,List.drop_zero,Nat.sub_zero]
  have c2:(⟨l.toArray⟩:ByteArray).extract n (⟨l.toArray⟩:ByteArray).size=⟨(l.drop n).toArray⟩:=by
    rw [str_cut,hz,List.take_of_length_le (by rw [dA];exact dN _)]
  have hL:=Left_spec X l false
  rw [if_neg (by simp)] at hL
  (refine aA<|rgN<|kas O<|aB<|aA<|aA<|rgN<|kmv O<|klt O O (cO (by omega))<|kmv O<|gmv O O O<|gmv O O O<|aU [] (rd 1000000 l false) (hL) O O (by exact (cQ ⟨_,O,O⟩ trivial)) (by exact (bT (bT O (bT O O)) O)) O O O O (by exact (.box O O .nil)) (dS O O) ?_;refine aS O O (cO (by omega)) (dS O O) ?_;refine kpf O O<|aB<|aF O ?_;refine aH ?_;refine aA<|aA<|rgN<|kmv O<|aU [] (rd 1000000 l false) (Bad_spec X l false) O O (by exact (cQ ⟨_,O,O⟩ trivial)) (by exact (bT (bT O (bT O O)) O)) O O O O (by exact (.box O O .nil)) dR<|aB<|aF O ?_;refine aH ?_;refine aA<|rgN<|kmv O<|bI O dR<|kfa O O ?_;refine kl1 O O O<|kmv O<|K.sliceStr (l:=0) (h:=n) (kl:=.i64) (kh:=.i64) O StrT.u O O ⟨(by omega),(by omega)⟩ c1 dR<|kas O<|aB<|aA<|rgN<|kmv O<|kmv O<|bI O dR<|kfa O O ?_;refine kl1 O O O<|kmv O<|K.sliceStr (l:=n) (h:=(⟨l.toArray⟩:ByteArray).size) (kl:=.i64) (kh:=.i64) O StrT.u O O ⟨(by omega),(by omega)⟩ c2 dR<|bI O dR<|kfa O O ?_;refine bG O O O O O (nl2 O O O) dR<|aB<|aA<|rgN<|kmv O<|kas O<|aB<|aI ?_)
  exact ⟨[],⟨[_],⟨O,trivial⟩,O⟩,⟨⟨_,O,O⟩,trivial⟩,O,O⟩
theorem Raw_no (l:List UInt8) (b:Bool) (n:Int) (h:rawOk l b n=false):MSpec Tryz.prog X 58 [Lp 1000000,Ln .i64 n] (rd 1000000 l b) (Ls []) (rd 1000000 l true):=by
  refine cG Tryz.func58 rfl (by kernel_rfl) rfl rfl rfl rfl rfl ?_
  intro C
  have hL:=Left_spec X l b
  by_cases h0:n<0
  · (refine aA<|rgN<|kas O<|aB<|aA<|aA<|rgN<|kmv O<|klt O O (cP (by omega))<|kmv O<|aC O O O<|aC O O O<|aC O O O<|aC O O O ?_;refine kpt O O<|aB<|aE O ?_;refine rgN<|kmv O<|aU [] (rd 1000000 l true) (spoil_spec X l b) O O (by exact (cQ ⟨_,O,O⟩ trivial)) (by exact (bT (bT O (bT O O)) O)) O O O O (by exact (.box O O .nil)) dR<|aB<|aA<|aA<|rgN<|kmv O<|aU [] (rd 1000000 l true) (Bad_spec X l true) O O (by exact (cQ ⟨_,O,O⟩ trivial)) (by exact (bT (bT O (bT O O)) O)) O O O O (by exact (.box O O .nil)) dR<|aB<|aE O ?_;refine aA<|rgN<|kas O<|aB<|aI ?_)
    exact ⟨[],⟨[_],⟨O,trivial⟩,O⟩,⟨⟨_,O,O⟩,trivial⟩,O,O⟩
  · cases b with
    | false =>
      rw [if_neg (by simp)] at hL
      have hgt:(l.length:Int)<n:=by
        have:¬ (0≤n∧n≤l.length):=by simpa [rawOk] using h
        omega
      (refine aA<|rgN<|kas O<|aB<|aA<|aA<|rgN<|kmv O<|klt O O (cO (by omega))<|kmv O<|gmv O O O<|gmv O O O<|aU [] (rd 1000000 l false) (hL) O O (by exact (cQ ⟨_,O,O⟩ trivial)) (by exact (bT (bT O (bT O O)) O)) O O O O (by exact (.box O O .nil)) (dS O O) ?_;refine aS O O (cP (by omega)) (dS O O) ?_;refine kpf O O<|aB<|aE O ?_;refine rgN<|kmv O<|aU [] (rd 1000000 l true) (spoil_spec X l false) O O (by exact (cQ ⟨_,O,O⟩ trivial)) (by exact (bT (bT O (bT O O)) O)) O O O O (by exact (.box O O .nil)) dR<|aB<|aA<|aA<|rgN<|kmv O<|aU [] (rd 1000000 l true) (Bad_spec X l true) O O (by exact (cQ ⟨_,O,O⟩ trivial)) (by exact (bT (bT O (bT O O)) O)) O O O O (by exact (.box O O .nil)) dR<|aB<|aE O ?_;refine aA<|rgN<|kas O<|aB<|aI ?_)
      exact ⟨[],⟨[_],⟨O,trivial⟩,O⟩,⟨⟨_,O,O⟩,trivial⟩,O,O⟩
    | true =>
      rw [if_pos rfl] at hL
      by_cases hp:0<n
      · (refine aA<|rgN<|kas O<|aB<|aA<|aA<|rgN<|kmv O<|klt O O (cO (by omega))<|kmv O<|gmv O O O<|gmv O O O<|aU [] (rd 1000000 l true) (hL) O O (by exact (cQ ⟨_,O,O⟩ trivial)) (by exact (bT (bT O (bT O O)) O)) O O O O (by exact (.box O O .nil)) (dS O O) ?_;refine aS O O (cP (by omega)) (dS O O) ?_;refine kpf O O<|aB<|aE O ?_;refine rgN<|kmv O<|aU [] (rd 1000000 l true) (spoil_spec X l true) O O (by exact (cQ ⟨_,O,O⟩ trivial)) (by exact (bT (bT O (bT O O)) O)) O O O O (by exact (.box O O .nil)) dR<|aB<|aA<|aA<|rgN<|kmv O<|aU [] (rd 1000000 l true) (Bad_spec X l true) O O (by exact (cQ ⟨_,O,O⟩ trivial)) (by exact (bT (bT O (bT O O)) O)) O O O O (by exact (.box O O .nil)) dR<|aB<|aE O ?_;refine aA<|rgN<|kas O<|aB<|aI ?_)
        exact ⟨[],⟨[_],⟨O,trivial⟩,O⟩,⟨⟨_,O,O⟩,trivial⟩,O,O⟩
      · (refine aA<|rgN<|kas O<|aB<|aA<|aA<|rgN<|kmv O<|klt O O (cO (by omega))<|kmv O<|gmv O O O<|gmv O O O<|aU [] (rd 1000000 l true) (hL) O O (by exact (cQ ⟨_,O,O⟩ trivial)) (by exact (bT (bT O (bT O O)) O)) O O O O (by exact (.box O O .nil)) (dS O O) ?_;refine aS O O (cO (by omega)) (dS O O) ?_;refine kpf O O<|aB<|aF O ?_;refine aH ?_;refine aA<|aA<|rgN<|kmv O<|aU [] (rd 1000000 l true) (Bad_spec X l true) O O (by exact (cQ ⟨_,O,O⟩ trivial)) (by exact (bT (bT O (bT O O)) O)) O O O O (by exact (.box O O .nil)) dR<|aB<|aE O ?_;refine aA<|rgN<|kas O<|aB<|aI ?_)
        exact ⟨[],⟨[_],⟨O,trivial⟩,O⟩,⟨⟨_,O,O⟩,trivial⟩,O,O⟩
end Go.Proofs.YtamplgnbbanamaaGreatDoor
end
section
namespace Go.Proofs.YtamplgnbbanamaaGreatDoor
open Go Go.Lg
variable (X:Nat→Option Obj)
theorem isW_bound {n:Int} (h:isW n=true):1≤n∧n≤8:=by
  unfold isW at h
  simp only [Bool.or_eq_true,decide_eq_true_eq] at h
  omega
theorem Num_ok (l:List UInt8) (w:Nat) (hw:isW (w:Int)=true) (hn:w≤l.length) (hl:l.length<4611686018427387904):MSpec Tryz.prog X 34 [Lp 1000000,Ln .i64 (w:Nat)] (rd 1000000 l false) (Ln .u64 (le (l.take w):Nat)) (rd 1000000 (l.drop w) false):=by
  have hb:=isW_bound hw
  refine cG Tryz.func34 rfl (by kernel_rfl) rfl rfl rfl rfl rfl ?_
  intro C
  (refine aA<|rgN<|kas O<|aB<|aA<|aA<|rgN<|kmv O<|kca O O (isWidth_spec X _ true hw)<|aV O O dR<|aB<|aF O ?_;refine aH ?_;refine aA<|rgN<|kmv O<|kmv O<|aU [] (rd 1000000 (l.drop w) false) (Raw_ok X l w hn hl) O O (by exact (cQ ⟨_,O,O⟩ trivial)) (by exact (bT (bT O (bT O O)) O)) O O O O (by exact (.box O O .nil)) dR<|kca O O (onumber_spec X _ (by rw [cZ];omega))<|kas O<|aB<|aI ?_)
  exact ⟨[],⟨[_],⟨O,trivial⟩,O⟩,⟨⟨_,O,O⟩,trivial⟩,O,O⟩
theorem Num_no (l:List UInt8) (b:Bool) (w:Int) (h:(isW w&&rawOk l b w)=false):MSpec Tryz.prog X 34 [Lp 1000000,Ln .i64 w] (rd 1000000 l b) (Ln .u64 0) (rd 1000000 l true):=by
  refine cG Tryz.func34 rfl (by kernel_rfl) rfl rfl rfl rfl rfl ?_
  intro C
  cases hw:isW w with
  | false =>
    (refine aA<|rgN<|kas O<|aB<|aA<|aA<|rgN<|kmv O<|kca O O (isWidth_spec X _ false hw)<|aV O O dR<|aB<|aE O ?_;refine aA<|rgN<|kmv O<|aU [] (rd 1000000 l true) (spoil_spec X l b) O O (by exact (cQ ⟨_,O,O⟩ trivial)) (by exact (bT (bT O (bT O O)) O)) O O O O (by exact (.box O O .nil)) dR<|aB<|aA<|rgN<|kas O<|aB<|aI ?_)
    exact ⟨[],⟨[_],⟨O,trivial⟩,O⟩,⟨⟨_,O,O⟩,trivial⟩,O,O⟩
  | true =>
    have h2:rawOk l b w=false:=by rw [hw] at h;simpa using h
    (refine aA<|rgN<|kas O<|aB<|aA<|aA<|rgN<|kmv O<|kca O O (isWidth_spec X _ true hw)<|aV O O dR<|aB<|aF O ?_;refine aH ?_;refine aA<|rgN<|kmv O<|kmv O<|aU [] (rd 1000000 l true) (Raw_no X l b w h2) O O (by exact (cQ ⟨_,O,O⟩ trivial)) (by exact (bT (bT O (bT O O)) O)) O O O O (by exact (.box O O .nil)) dR<|kca O O (onumber_spec X [] (by decide))<|kas O<|aB<|aI ?_)
    exact ⟨[],⟨[_],⟨O,trivial⟩,O⟩,⟨⟨_,O,O⟩,trivial⟩,O,O⟩
theorem le4 (l:List UInt8):le (l.take 4)<4294967296:=by
  have h:=le_lt (l.take 4)
  refine Nat.lt_of_lt_of_le h ?_
  exact Nat.le_trans (Nat.pow_le_pow_right (by decide) (by rw [cZ];omega)) (show 256^4≤4294967296 by decide)
def partOk (l:List UInt8) (b:Bool) (most:Int):Bool := !b&&(decide (4≤l.length)&&(decide ((le (l.take 4):Int)≤most)&&decide (le (l.take 4)≤l.length-4)))
theorem Part_ok (l:List UInt8) (most:Int) (hm:most<9223372036854775808) (h:partOk l false most=true) (hl:l.length<4611686018427387904):MSpec Tryz.prog X 60 [Lp 1000000,Ln .i64 most] (rd 1000000 l false) (Ls ((l.drop 4).take (le (l.take 4)))) (rd 1000000 ((l.drop 4).drop (le (l.take 4))) false):=by
  simp only [partOk,Bool.not_false,Bool.true_and,Bool.and_eq_true,decide_eq_true_eq] at h
  obtain ⟨h1,h2,h3⟩:=h
  have h4:=le4 l
  have hN:=Num_ok X l 4 rfl h1 hl
  have hd:(l.drop 4).length=l.length-4:=dA
  generalize le (l.take 4)=z at *
  generalize l.drop 4=t at *
  have wm:IntKind.u64.wrap most=most:=by rw [IntKind.wrap_u64];omega
  refine cG Tryz.func60 rfl (by kernel_rfl) rfl rfl rfl rfl rfl ?_
  intro C
  (refine aA<|rgN<|kas O<|aB<|aA<|rgN<|kmv O<|aU [] (rd 1000000 t false) (hN) O O (by exact (cQ ⟨_,O,O⟩ trivial)) (by exact (bT (bT O (bT O O)) O)) O O O O (by exact (.box O O .nil)) dR<|kas O<|aB<|aA<|aA<|rgN<|kmv O ?_;refine klt O O (cO (by omega))<|kmv O<|gmv O O O<|gmv O O O<|K.conv O wm (dS O O) ?_;refine aS O O (cO (by omega)) (dS O O) ?_;refine kpf O O<|aB<|aF O ?_;refine aH ?_;refine aA<|rgN<|kmv O<|kmv O<|kcv O (by exact cH (by omega)) ?_;refine aU [] (rd 1000000 (t.drop z) false) (Raw_ok X t z (by omega) (by omega)) O O (by exact (cQ ⟨_,O,O⟩ trivial)) (by exact (bT (bT O (bT O O)) O)) O O O O (by exact (.box O O .nil)) dR<|kas O<|aB<|aI ?_)
  exact ⟨[],⟨[_],⟨O,trivial⟩,O⟩,⟨⟨_,O,O⟩,trivial⟩,O,O⟩
end Go.Proofs.YtamplgnbbanamaaGreatDoor
end
section
namespace Go.Lg.Fld
open Go Go.Lg
def kN (k:Int):List UInt8:=if k=1 then [98,111,111,108] else if k=2 then [105,56] else if k=3 then [105,49,54] else if k=4 then [105,51,50] else if k=5 then [105,54,52] else if k=6 then [117,56] else if k=7 then [117,49,54] else if k=8 then [117,51,50] else if k=9 then [117,54,52] else if k=10 then [114,101,102] else []
def kW (k:Int):Nat:=if k=1 then 1 else if k=2 then 1 else if k=3 then 2 else if k=4 then 4 else if k=5 then 8 else if k=6 then 1 else if k=7 then 2 else if k=8 then 4 else if k=9 then 8 else if k=10 then 8 else 0
def kK (k:Int):Bool:=decide (1≤k)&&decide (k≤10)
end Go.Lg.Fld
namespace Go.Proofs.YtamplgnbbanamaaGreatDoor
open Go Go.Lg Go.Lg.Fld
set_option maxRecDepth 100000
variable (X:Nat→Option Obj)
end Go.Proofs.YtamplgnbbanamaaGreatDoor
end
section
namespace Go.Proofs.YtamplgnbbanamaaGreatDoor
open Go Go.Lg Go.Lg.Fld
set_option maxRecDepth 100000
variable (X:Nat→Option Obj)
abbrev cI (b:Bool) (n:Int):List CV:=[.val (.bool b),.val (.int .u64 (n/18446744073709551616)),.val (.int .u64 (n%18446744073709551616))]
end Go.Proofs.YtamplgnbbanamaaGreatDoor
end
section
namespace Go.Lg.Dig
open Go Go.Lg
def dg (n j:Nat):Nat:=n/256^j%256
def dv (d:Nat):CV:=.val (.int .i64 (d:Nat))
def dlf (f:Nat→Nat):List Nat:=(List.range 40).map f
def num (b:Bool) (f:Nat→Nat):List CV:=.val (.bool b)::(dlf f).map dv
theorem dlf_congr {f g:Nat→Nat} (h:∀ j,j<40→f j=g j):dlf f=dlf g:=by
  unfold dlf
  exact List.map_congr_left fun j hj=>h j (List.mem_range.1 hj)
theorem num_congr {b:Bool} {f g:Nat→Nat} (h:∀ j,j<40→f j=g j):num b f=num b g:=by
  unfold num
  rw [dlf_congr h]
theorem num_at {b:Bool} {f:Nat→Nat} {i:Nat} (hi:i<40):(num b f)[1+i*1]? = some (dv (f i)):=by
  rw [Nat.mul_one,Nat.add_comm]
  simp [num,dlf,hi]
theorem num_set {b:Bool} {f:Nat→Nat} {i d:Nat} (hi:i<40):(num b f).set (1+i*1) (dv d)=num b (fun j=>if j=i then d else f j):=by
  rw [Nat.mul_one,Nat.add_comm]
  unfold num
  rw [List.set_cons_succ]
  congr 1
  apply List.ext_getElem?
  intro j
  rw [List.getElem?_set]
  by_cases h:i=j
  · subst h
    simp [dlf,hi]
  · rw [if_neg h]
    by_cases hj:j<40
    · simp [dlf,hj,show ¬ j=i from fun e=>h e.symm]
    · simp [dlf,hj]
theorem num_sign {b c:Bool} {f:Nat→Nat}:(num b f).set 0 (.val (.bool c))=num c f:=rfl
theorem dg_lt (n j:Nat):dg n j<256:=Nat.mod_lt _ (by decide)
theorem pow_pos (j:Nat):0<256^j:=Nat.pow_pos (by decide)
theorem dg_high {n j:Nat} (h:n<256^j):dg n j=0:=by
  unfold dg
  rw [Nat.div_eq_of_lt h]
theorem dg_zero (j:Nat):dg 0 j=0:=by
  unfold dg
  rw [Nat.zero_div]
theorem mod_next (n i:Nat):n%256^(i+1)=n%256^i+dg n i*256^i:=by
  unfold dg
  rw [Nat.pow_succ,Nat.mod_mul,Nat.mul_comm (256^i)]
theorem div_next (n i:Nat):n/256^i=n/256^(i+1)*256+dg n i:=by
  unfold dg
  rw [Nat.pow_succ,← Nat.div_div_eq_div_mul]
  omega
theorem pow40:256^40=2135987035920910082395021706169552114602704522356652769947041607822219725780640550022962086936576:=by decide
end Go.Lg.Dig
namespace Go.Lg.Dig
open Go Go.Lg
theorem num_length {b:Bool} {f:Nat→Nat}:(num b f).length=41:=by simp [num,dlf]
theorem num_blt {b:Bool} {f:Nat→Nat} {i:Nat} (hi:i<40):Nat.blt (1+i*1) (num b f).length=true:=by
  rw [num_length,Nat.blt_eq]
  omega
theorem div_div (n i:Nat):n/256^i/256=n/256^(i+1):=by rw [Nat.pow_succ,Nat.div_div_eq_div_mul]
end Go.Lg.Dig
namespace Go.Lg.Dig
def bor (M N i:Nat):Nat:=if M%256^i<N%256^i then 1 else 0
theorem bor_le (M N i:Nat):bor M N i≤1:=by unfold bor;split<;>omega
theorem sub_div {M N i:Nat} (h:N≤M):(M-N)/256^i=M/256^i-N/256^i-bor M N i∧N/256^i+bor M N i≤M/256^i:=by
  have hp:=pow_pos i
  have e1:=Nat.div_add_mod M (256^i)
  have e2:=Nat.div_add_mod N (256^i)
  have m1:=Nat.mod_lt M hp
  have m2:=Nat.mod_lt N hp
  unfold bor
  generalize 256^i=p at *
  have hle:N/p≤M/p:=Nat.div_le_div_right h
  generalize M/p=A at *
  generalize N/p=B at *
  generalize M%p=m at *
  generalize N%p=n at *
  by_cases c:m<n
  · rw [if_pos c]
    have hlt:B+1≤A:=by
      by_cases e:A=B
      · subst e;omega
      · omega
    refine ⟨Nat.div_eq_of_lt_le ?_ ?_,hlt⟩
    · obtain ⟨k,rfl⟩:∃ k,A=B+1+k:=⟨A-(B+1),by omega⟩
      rw [show B+1+k-B-1=k by omega,Nat.mul_comm k]
      rw [Nat.mul_add,Nat.mul_add] at e1
      omega
    · obtain ⟨k,rfl⟩:∃ k,A=B+1+k:=⟨A-(B+1),by omega⟩
      rw [show B+1+k-B-1+1=k+1 by omega,Nat.mul_comm (k+1),Nat.mul_add]
      rw [Nat.mul_add,Nat.mul_add] at e1
      omega
  · rw [if_neg c]
    refine ⟨Nat.div_eq_of_lt_le ?_ ?_,by omega⟩
    · obtain ⟨k,rfl⟩:∃ k,A=B+k:=⟨A-B,by omega⟩
      rw [show B+k-B-0=k by omega,Nat.mul_comm k]
      rw [Nat.mul_add] at e1
      omega
    · obtain ⟨k,rfl⟩:∃ k,A=B+k:=⟨A-B,by omega⟩
      rw [show B+k-B-0+1=k+1 by omega,Nat.mul_comm (k+1),Nat.mul_add]
      rw [Nat.mul_add] at e1
      omega
theorem bor_next (M N i:Nat):bor M N (i+1)=if dg M i<dg N i+bor M N i then 1 else 0:=by
  have hp:=pow_pos i
  have m1:=Nat.mod_lt M hp
  have m2:=Nat.mod_lt N hp
  unfold bor
  rw [mod_next,mod_next]
  generalize 256^i=p at *
  generalize M%p=m at *
  generalize N%p=n at *
  generalize dg M i=a
  generalize dg N i=b
  rcases Nat.lt_trichotomy a b with h|h|h
  · obtain ⟨k,rfl⟩:∃ k,b=a+1+k:=⟨b-(a+1),by omega⟩
    rw [if_pos (by rw [Nat.add_mul,Nat.add_mul];omega),if_pos (by omega)]
  · subst h
    by_cases c:m<n
    · rw [if_pos (by omega),if_pos c,if_pos (by omega)]
    · rw [if_neg (by omega),if_neg c,if_neg (by omega)]
  · obtain ⟨k,rfl⟩:∃ k,a=b+1+k:=⟨a-(b+1),by omega⟩
    rw [if_neg (by rw [Nat.add_mul,Nat.add_mul];omega),if_neg (by split<;>omega)]
theorem sub_digit {M N i:Nat} (h:N≤M):
    (dg M i<dg N i+bor M N i→dg (M-N) i+dg N i+bor M N i=dg M i+256)∧(dg N i+bor M N i≤dg M i→dg (M-N) i+dg N i+bor M N i=dg M i):=by
  obtain ⟨e,hle⟩:=sub_div (i:=i) h
  have hb:=bor_le M N i
  unfold dg
  rw [e]
  generalize M/256^i=A at *
  generalize N/256^i=B at *
  generalize bor M N i=c at *
  omega
theorem lt_digit {M N i:Nat} (h:M/256^(i+1)=N/256^(i+1)) (hd:dg M i<dg N i):M<N:=by
  have d1:=div_next M i
  have d2:=div_next N i
  rcases Nat.lt_or_ge M N with c|c
  · exact c
  · have:=Nat.div_le_div_right (c:=256^i) c
    omega
end Go.Lg.Dig
namespace Go.Lg.Dig
theorem dg_mod {n i k:Nat} (h:i<k):dg (n%256^k) i=dg n i:=by
  obtain ⟨t,rfl⟩:∃ t,k=i+1+t:=⟨k-(i+1),by omega⟩
  unfold dg
  rw [Nat.pow_add,Nat.pow_succ,Nat.mul_assoc,Nat.mod_mul_right_div_self,Nat.mod_mul_right_mod]
theorem dg_shift (n k i:Nat):dg n (k+i)=dg (n/256^k) i:=by
  unfold dg
  rw [Nat.pow_add,Nat.div_div_eq_div_mul]
end Go.Lg.Dig
namespace Go.Lg.Dig
open Go Go.Lg
theorem dg_add_mul {T y k x:Nat} (h:x<k):dg (T+y*256^k) x=dg T x:=by
  rw [← dg_mod h,Nat.add_mul_mod_self_right,dg_mod h]
theorem dg_mid {C t i x:Nat} (ht:t<256):dg (C*256^(i+1)+t*256^i) x=if x<i then 0 else if x=i then t else dg C (x-(i+1)):=by
  have hp:=pow_pos i
  have e:C*256^(i+1)+t*256^i=0+(C*256+t)*256^i:=by rw [Nat.pow_succ,Nat.add_mul,Nat.mul_assoc,Nat.mul_comm 256,Nat.zero_add]
  by_cases c:x<i
  · rw [if_pos c,e,dg_add_mul c,dg_zero]
  · rw [if_neg c]
    obtain ⟨y,rfl⟩:∃ y,x=i+y:=⟨x-i,by omega⟩
    rw [dg_shift,e,Nat.zero_add,Nat.mul_div_cancel _ hp]
    by_cases c2:i+y=i
    · have:y=0:=by omega
      subst this
      rw [if_pos c2]
      unfold dg
      rw [Nat.pow_zero,Nat.div_one]
      omega
    · rw [if_neg c2]
      obtain ⟨z,rfl⟩:∃ z,y=1+z:=⟨y-1,by omega⟩
      rw [dg_shift,show i+(1+z)-(i+1)=z by omega]
      congr 1
      rw [Nat.pow_one]
      omega
end Go.Lg.Dig
namespace Go.Lg.Dig
open Go Go.Lg
theorem num_blt0 {b:Bool} {f:Nat→Nat}:Nat.blt 0 (num b f).length=true:=by rw [num_length];rfl
def shf (R t x:Nat):Nat:=if t<x then dg R (x-1) else dg R x
theorem shf_start (s:Bool) (R:Nat):num s (shf R 39)=num s (dg R):=num_congr fun x hx=>by unfold shf;rw [if_neg (by omega)]
theorem shf_step (s:Bool) (R t:Nat):num s (fun x=>if x=t+1 then dg R t else shf R (t+1) x)=num s (shf R t):=num_congr fun x _=>by
  unfold shf
  by_cases c:x=t+1
  · subst c
    rw [if_pos rfl,if_pos (by omega),show t+1-1=t by omega]
  · rw [if_neg c]
    simp only [show (t+1<x↔t<x) by omega]
theorem shf_end (s:Bool) (R d:Nat) (hd:d<256):num s (fun x=>if x=0 then d else shf R 0 x)=num s (dg (R*256+d)):=num_congr fun x _=>by
  unfold shf
  cases x with
  | zero =>
    rw [if_pos rfl]
    unfold dg
    rw [Nat.pow_zero,Nat.div_one]
    omega
  | succ y =>
    rw [if_neg (by omega),if_pos (by omega),Nat.add_comm y 1,dg_shift,show 1+y-1=y by omega,Nat.pow_one,show (R*256+d)/256=R by omega]
theorem mid_step (s:Bool) {C t i:Nat} (ht:t+1<256):num s (fun x=>if x=i then t+1 else dg (C*256^(i+1)+t*256^i) x)=num s (dg (C*256^(i+1)+(t+1)*256^i)):=num_congr fun x _=>by
  rw [dg_mid (by omega),dg_mid ht]
  by_cases c:x=i
  · rw [if_pos c,if_neg (by omega),if_pos c]
  · rw [if_neg c]
    by_cases c2:x<i
    · rw [if_pos c2,if_pos c2]
    · rw [if_neg c2,if_neg c2,if_neg c,if_neg c]
theorem mid_at {C t i:Nat} (ht:t<256):dg (C*256^(i+1)+t*256^i) i=t:=by rw [dg_mid ht,if_neg (by omega),if_pos rfl]
theorem quo_step {A B i t V:Nat} (hB:0<B) (h:V+t*B=A/256^(i+1)%B*256+dg A i) (hV:V<B):
    A/256^i/B*256^i=A/256^(i+1)/B*256^(i+1)+t*256^i∧A/256^i%B=V:=by
  have e1:=div_next A i
  have e2:=Nat.div_add_mod (A/256^(i+1)) B
  have e3:A/256^i=V+B*(A/256^(i+1)/B*256+t):=by
    rw [e1,Nat.mul_add,Nat.mul_comm B t,← Nat.mul_assoc]
    generalize B*(A/256^(i+1)/B)=x at *
    omega
  constructor
  · rw [e3,Nat.add_mul_div_left _ _ hB,Nat.div_eq_of_lt hV,Nat.zero_add,Nat.add_mul,Nat.pow_succ,Nat.mul_assoc,Nat.mul_comm 256]
  · rw [e3,Nat.add_mul_mod_self_left,Nat.mod_eq_of_lt hV]
end Go.Lg.Dig
end
section
namespace Go.Proofs.YtamplgnbbanamaaGreatDoor
open Go Go.Lg Go.Lg.Arith Go.Lg.Dig Go.RowKit
variable (X:Nat→Option Obj)
abbrev LN (b:Bool) (f:Nat→Nat):LV:=.sv (.agg (num b f))
abbrev SN (b:Bool) (f:Nat→Nat):SV:=.agg (num b f)
def two (l h i:Nat) (j:Nat):Nat:=if j<i then dg l j else if 8≤j∧j<8+i then dg h (j-8) else 0
theorem two_dg {l h:Nat} (hl:l<18446744073709551616) (hh:h<18446744073709551616) (j:Nat):two l h 8 j=dg (h*18446744073709551616+l) j:=by
  have e64:18446744073709551616=256^8:=by decide
  unfold two dg
  by_cases h1:j<8
  · rw [if_pos h1]
    obtain ⟨k,hk⟩:∃ k,8=j+1+k:=⟨7-j,by omega⟩
    have hp:=pow_pos j
    rw [e64,hk,Nat.pow_add,Nat.pow_succ]
    generalize 256^k=q
    generalize 256^j=p at *
    rw [show h*(p*256*q)+l=l+p*(256*(q*h)) by rw [Nat.mul_comm h,Nat.mul_assoc,Nat.mul_assoc,Nat.add_comm],Nat.add_mul_div_left _ _ hp]
    omega
  · rw [if_neg h1]
    obtain ⟨k,rfl⟩:∃ k,j=8+k:=⟨j-8,by omega⟩
    have e:(h*18446744073709551616+l)/256^(8+k)=h/256^k:=by
      rw [Nat.pow_add,← e64,← Nat.div_div_eq_div_mul]
      congr 1
      omega
    rw [e]
    by_cases h2:8+k<16
    · rw [if_pos ⟨by omega,by omega⟩,show 8+k-8=k by omega]
    · rw [if_neg (by omega)]
      have:h<256^k:=Nat.lt_of_lt_of_le hh (by rw [e64];exact Nat.pow_le_pow_right (by decide) (by omega))
      rw [Nat.div_eq_of_lt this]
theorem From_raw (b:Bool) (h l:Nat) (hh:h<18446744073709551616) (hl:l<18446744073709551616):
    PSpec Tryz.prog X 99 [Li b (h:Nat) (l:Nat)] (LN b (two l h 8)):=by
  refine cF Tryz.func99 rfl (by kernel_rfl) rfl (by kernel_rfl) ?_
  intro C
  (refine aA<|rgN<|aL O O O dR<|aP O dR ?_;refine aB<|aA<|rgN<|kfa O O ?_;refine kl1 O O O<|aT O O (by exact O) (by exact O) dR ?_;refine aP O dR ?_;refine aM O O O O O O dR ?_;refine aB<|aA<|rgN<|kfa O O ?_;refine kl1 O O O<|kas O<|aB<|aA<|rgN<|kfa O O ?_;refine kl1 O O O<|kas O<|aB<|aA<|aA<|rgN<|kas O<|aB<|aG ?_)
  refine cL (fun m σ=>∃ i:Nat,i≤8∧m=8-i∧σ=⟨[(2,.sv (.one (.ptr 2 0))),(3,.sv (.one (.ptr 3 0))),(4,Ln .u64 ((h/256^i:Nat):Int)),(5,Ln .u64 ((l/256^i:Nat):Int)),(6,Ln .i64 (i:Nat))],[(2,some { elem:=161,cells:=num false (fun _=>0) }),(3,some { elem:=161,cells:=num b (two l h i) })],X⟩) 8
    ⟨_,Le.of (by exact ⟨rfl,rfl,by rw [Nat.pow_zero,Nat.div_one];rfl,by rw [Nat.pow_zero,Nat.div_one];rfl,rfl,trivial⟩) (by exact ⟨rfl,rfl,trivial⟩) (by exact rfl) (by exact rfl) (by exact rfl),0,by omega,rfl,rfl⟩ ?_
  rintro m σ ⟨i,hi,rfl,rfl⟩
  by_cases h8:i<8
  · have bl:l/256^i≤l:=Nat.div_le_self _ _
    have bh:h/256^i≤h:=Nat.div_le_self _ _
    have el:dg l i=l/256^i%256:=rfl
    have eh:dg h i=h/256^i%256:=rfl
    have nl:=div_div l i
    have nh:=div_div h i
    have step:num b (fun j=>if j=8+i then dg h i else if j=i then dg l i else two l h i j)=num b (two l h (i+1)):=by
      refine num_congr fun j _ => ?_
      unfold two
      by_cases c1:j=i
      · subst c1
        rw [if_neg (by omega),if_pos rfl,if_pos (by omega)]
      · by_cases c2:j=8+i
        · subst c2
          rw [if_pos rfl,if_neg (by omega),if_pos ⟨by omega,by omega⟩,show 8+i-8=i by omega]
        · rw [if_neg c2,if_neg c1]
          simp only [show (j<i+1↔j<i) by omega,show (8≤j∧j<8+(i+1)↔8≤j∧j<8+i) by omega]
    generalize hu':l/256^(i+1)=u' at *
    generalize hv':h/256^(i+1)=v' at *
    generalize l/256^i=u at *
    generalize h/256^i=v at *
    have wl:IntKind.i64.wrap ((u:Int)%256)=((dg l i:Nat):Int):=by rw [cH (by omega)];omega
    have wh:IntKind.i64.wrap ((v:Int)%256)=((dg h i:Nat):Int):=by rw [cH (by omega)];omega
    have ql:IntKind.u64.wrap ((u:Int).tdiv 256)=(u':Int):=by rw [quo_u64 (by omega) (by omega)];omega
    have qh:IntKind.u64.wrap ((v:Int).tdiv 256)=(v':Int):=by rw [quo_u64 (by omega) (by omega)];omega
    (refine aA<|aA<|rgN<|kmv O<|klt O O (cP (by omega))<|aB<|aE O ?_;refine aH ?_;refine aA<|aG<|aA<|rgN<|kmv O<|kmv O<|K.rem O O (by omega) (rem_pos (by omega)) dR<|kcv O wl ?_;refine kfa O O ?_;refine K.indexArr O O (by omega) O dR ?_;refine bG O O O O (num_blt (i:=i) (by omega)) (num_set (i:=i) (d:=dg l i) (by omega)) dR<|aB<|aA<|rgN<|kmv O<|kad O O (cH (by omega))<|kmv O<|K.rem O O (by omega) (rem_pos (by omega)) dR<|kcv O wh ?_;refine kfa O O ?_;refine K.indexArr O O (by omega) O dR ?_;refine bG O O O O (num_blt (i:=8+i) (by omega)) (num_set (i:=8+i) (d:=dg h i) (by omega)) dR<|aB<|aA<|rgN<|kmv O<|K.quo O O (by omega) ql dR<|kas O<|aB<|rgN<|kmv O<|K.quo O O (by omega) qh dR<|kas O<|aB<|rgN ?_;refine kmv O<|kad O O (cH (by omega))<|kas O<|aB ?_)
    exact ⟨_,_,by omega,Le.of (by exact ⟨rfl,rfl,by rw [hv'];rfl,by rw [hu'];rfl,rfl,trivial⟩) (by exact ⟨rfl,by rw [← step];rfl,trivial⟩) (by exact rfl) (by exact rfl) (by exact rfl),i+1,by omega,rfl,rfl⟩
  · have e:i=8:=by omega
    subst e
    (refine aA<|aA<|rgN<|kmv O<|klt O O (cO (by omega))<|aB<|aF O ?_;refine aJ<|aA<|rgN<|aK O O O dR ?_;refine aM O O O O O O dR ?_;refine aB<|aI ?_)
    exact ⟨[_],⟨⟨_,_,O,O,O,.inl ⟨AggT.h,O⟩⟩,trivial⟩,O⟩
end Go.Proofs.YtamplgnbbanamaaGreatDoor
end
section
namespace Go.Proofs.YtamplgnbbanamaaGreatDoor
open Go Go.Lg Go.Lg.Arith Go.Lg.Dig Go.RowKit
variable (X:Nat→Option Obj)
theorem From_spec (b:Bool) (n:Nat) (hn:n<340282366920938463463374607431768211456):PSpec Tryz.prog X 99 [LI b (n:Nat)] (LN b (dg n)):=by
  have h:=From_raw X b (n/18446744073709551616) (n%18446744073709551616) (by omega) (by omega)
  have e:num b (two (n%18446744073709551616) (n/18446744073709551616) 8)=num b (dg n):=num_congr fun j _=>by
    rw [two_dg (by omega) (by omega),show n/18446744073709551616*18446744073709551616+n%18446744073709551616=n by omega]
  unfold LN at h ⊢
  rw [e] at h
  exact h
abbrev T40:Nat:=256^40
theorem cmp_facts_0 (x y:Int):∃ r,cmpI x y=r∧(x<y→r = -1)∧(x=y→r=0)∧(y<x→r=1):=by
  refine ⟨_,rfl,?_,?_,?_⟩<;>intro h<;>unfold cmpI
  · rw [if_pos h]
  · rw [if_neg (by omega),if_neg (by omega)]
  · rw [if_neg (by omega),if_pos h]
theorem Size_spec (a b:Bool) (M N:Nat) (hM:M<T40) (hN:N<T40) (r:Int) (hr:cmpI M N=r):
    PSpec Tryz.prog X 130 [LN a (dg M),LN b (dg N)] (Ln .i64 r):=by
  refine cF Tryz.func130 rfl (by kernel_rfl) rfl rfl ?_
  intro C
  (refine aA<|rgN<|aL O O O dR<|aL O O O dR<|kas O<|aB<|aA<|aA<|rgN<|kas O<|aB<|aG ?_)
  refine cL (fun m σ=>∃ z:Int,m≤40∧z=(m:Int)-1∧M/256^m=N/256^m∧σ=⟨[(2,.sv (.one (.ptr 2 0))),(3,.sv (.one (.ptr 3 0))),(5,Ln .i64 z)],[(2,some { elem:=161,cells:=num a (dg M) }),(3,some { elem:=161,cells:=num b (dg N) })],X⟩) 40
    ⟨_,Le.of (by exact ⟨rfl,rfl,rfl,trivial⟩) (by exact ⟨rfl,rfl,trivial⟩) (by exact rfl) (by exact rfl) (by exact rfl),39,by omega,rfl,by rw [Nat.div_eq_of_lt hM,Nat.div_eq_of_lt hN],rfl⟩ ?_
  rintro m σ ⟨z,hm,rfl,hq,rfl⟩
  cases m with
  | zero =>
    have e:M=N:=by simpa using hq
    have hr':r=0:=by rw [← hr,e];unfold cmpI;rw [if_neg (by omega),if_neg (by omega)]
    (refine aA<|aA<|rgN<|kmv O<|bD O O (cO (by omega)) dR<|aB<|aF O ?_;refine aJ<|aA<|rgN<|kas O<|aB<|aI ?_)
    exact ⟨[_],⟨rfl,trivial⟩,by rw [hr'];rfl⟩
  | succ i =>
    rw [show (((i+1:Nat):Int)-1)=(i:Int) by omega]
    have hi:i<40:=by omega
    rcases Nat.lt_trichotomy (dg M i) (dg N i) with h|h|h
    · have hlt:=lt_digit hq h
      have hr':r = -1:=by rw [← hr];unfold cmpI;rw [if_pos (by omega)]
      (refine aA<|aA<|rgN<|kmv O<|bD O O (cP (by omega)) dR<|aB<|aE O ?_;refine aH ?_;refine aA<|aG<|aA<|aA<|rgD mixed<|kmv O<|kfa O O ?_;refine K.indexArr O O (by omega) O dR ?_;refine kl1 O O (num_at (i:=i) hi)<|kmv O<|kfa O O ?_;refine K.indexArr O O (by omega) O dR ?_;refine kl1 O O (num_at (i:=i) hi)<|aS O O (cO (by omega)) dR<|aB<|rgA ?_;refine aF O ?_;refine aH ?_;refine aA<|rgD mixed<|kmv O<|kfa O O ?_;refine K.indexArr O O (by omega) O dR ?_;refine kl1 O O (num_at (i:=i) hi)<|kmv O<|kfa O O ?_;refine K.indexArr O O (by omega) O dR ?_;refine kl1 O O (num_at (i:=i) hi)<|klt O O (cP (by omega))<|aB<|rgA ?_;refine aE O ?_;refine aA<|rgN<|kas O<|aB<|aI ?_)
      exact ⟨[_],⟨rfl,trivial⟩,by rw [hr'];rfl⟩
    · have hq':M/256^i=N/256^i:=by rw [div_next M i,div_next N i,hq,h]
      (refine aA<|aA<|rgN<|kmv O<|bD O O (cP (by omega)) dR<|aB<|aE O ?_;refine aH ?_;refine aA<|aG<|aA<|aA<|rgD mixed<|kmv O<|kfa O O ?_;refine K.indexArr O O (by omega) O dR ?_;refine kl1 O O (num_at (i:=i) hi)<|kmv O<|kfa O O ?_;refine K.indexArr O O (by omega) O dR ?_;refine kl1 O O (num_at (i:=i) hi)<|aS O O (cO (by omega)) dR<|aB<|rgA ?_;refine aF O ?_;refine aH ?_;refine aA<|rgD mixed<|kmv O<|kfa O O ?_;refine K.indexArr O O (by omega) O dR ?_;refine kl1 O O (num_at (i:=i) hi)<|kmv O<|kfa O O ?_;refine K.indexArr O O (by omega) O dR ?_;refine kl1 O O (num_at (i:=i) hi)<|klt O O (cO (by omega))<|aB<|rgA ?_;refine aF O ?_;refine aH ?_;refine rgN<|kmv O<|bA O O (cH (by omega)) dR<|kas O<|aB ?_)
      exact ⟨i,_,by omega,Le.of (by exact ⟨O,O,O,trivial⟩) (by exact ⟨O,O,trivial⟩) (by exact O) (by exact O) (by exact O),_,by omega,O,hq',O⟩
    · have hlt:=lt_digit hq.symm h
      have hr':r=1:=by rw [← hr];unfold cmpI;rw [if_neg (by omega),if_pos (by omega)]
      (refine aA<|aA<|rgN<|kmv O<|bD O O (cP (by omega)) dR<|aB<|aE O ?_;refine aH ?_;refine aA<|aG<|aA<|aA<|rgD mixed<|kmv O<|kfa O O ?_;refine K.indexArr O O (by omega) O dR ?_;refine kl1 O O (num_at (i:=i) hi)<|kmv O<|kfa O O ?_;refine K.indexArr O O (by omega) O dR ?_;refine kl1 O O (num_at (i:=i) hi)<|aS O O (cP (by omega)) dR<|aB<|rgA ?_;refine aE O ?_;refine aA<|rgN<|kas O<|aB<|aI ?_)
      exact ⟨[_],⟨rfl,trivial⟩,by rw [hr'];rfl⟩
def low (n i j:Nat):Nat:=if j<i then dg n j else 0
theorem low_step (b:Bool) (n i:Nat):num b (fun j=>if j=i then dg n i else low n i j)=num b (low n (i+1)):=num_congr fun j _=>by
  unfold low
  by_cases c:j=i
  · subst c;rw [if_pos rfl,if_pos (by omega)]
  · rw [if_neg c]
    simp only [show (j<i+1↔j<i) by omega]
theorem low_all (b:Bool) (n:Nat):num b (low n 40)=num b (dg n):=num_congr fun j hj=>by unfold low;rw [if_pos hj]
theorem less_spec (a b:Bool) (M N:Nat) (hMN:N≤M):PSpec Tryz.prog X 131 [LN a (dg M),LN b (dg N)] (LN a (dg (M-N))):=by
  refine cF Tryz.func131 rfl (by kernel_rfl) rfl rfl ?_
  intro C
  (refine aA<|rgN<|aL O O O dR<|aL O O O dR<|aP O dR ?_;refine aB<|aA<|rgN<|kfa O O ?_;refine kl1 O O O<|aT O O (by exact O) (by exact O) dR ?_;refine aP O dR ?_;refine aM O O O O O O dR ?_;refine aB<|aA<|rgN<|kas O<|aB<|aA<|aA<|rgN<|kas O<|aB<|aG ?_)
  refine cL (fun m σ=>∃ i:Nat,i≤40∧m=40-i∧σ=⟨[(2,.sv (.one (.ptr 2 0))),(3,.sv (.one (.ptr 3 0))),(4,.sv (.one (.ptr 4 0))),(5,.sv (.one (.ptr 5 0))),(6,Ln .i64 (bor M N i:Nat)),(7,Ln .i64 (i:Nat))],[(2,some { elem:=161,cells:=num a (dg M) }),(3,some { elem:=161,cells:=num b (dg N) }),(4,some { elem:=161,cells:=num false (fun _=>0) }),(5,some { elem:=161,cells:=num a (low (M-N) i) })],X⟩) 40
    ⟨_,Le.of (by exact ⟨rfl,rfl,rfl,rfl,by rw [show bor M N 0=0 by unfold bor;rw [Nat.pow_zero,Nat.mod_one,Nat.mod_one,if_neg (by omega)]];rfl,rfl,trivial⟩) (by exact ⟨rfl,rfl,rfl,rfl,trivial⟩) (by exact rfl) (by exact rfl) (by exact rfl),0,by omega,rfl,rfl⟩ ?_
  rintro m σ ⟨i,hi,rfl,rfl⟩
  by_cases h40:i<40
  · obtain ⟨s1,s2⟩:=sub_digit (i:=i) hMN
    have hb:=bor_le M N i
    have hn:=bor_next M N i
    have l1:=dg_lt M i
    have l2:=dg_lt N i
    by_cases c:dg M i<dg N i+bor M N i
    · have s:=s1 c
      rw [if_pos c] at hn
      have w:∀ k:Int,k=(dg M i:Int)-dg N i-bor M N i→IntKind.i64.wrap (k+256)=((dg (M-N) i:Nat):Int):=fun k hk=>by rw [cH (by omega)];omega
      (refine aA<|aA<|rgN<|kmv O<|klt O O (cP (by omega))<|aB<|aE O ?_;refine aH ?_;refine aA<|aG<|aA<|rgD mixed<|kmv O<|kfa O O ?_;refine K.indexArr O O (by omega) O dR ?_;refine kl1 O O (num_at (i:=i) h40)<|kmv O<|kfa O O ?_;refine K.indexArr O O (by omega) O dR ?_;refine kl1 O O (num_at (i:=i) h40)<|bA O O (cH (by omega)) dR<|kmv O<|bA O O (cH (by omega)) dR<|kas O<|aB<|rgA ?_;refine aA<|rgN<|kas O<|aB<|aA<|aA<|rgN<|kmv O<|klt O O (cP (by omega))<|aB<|aE O ?_;refine aA<|rgN<|kmv O<|kad O O (w _ O)<|kas O<|aB<|rgN<|kas O<|aB<|rgN<|kmv O<|kmv O<|kfa O O ?_;refine K.indexArr O O (by omega) O dR ?_;refine bG O O O O (num_blt (i:=i) h40) ((num_set (i:=i) h40).trans (low_step a (M-N) i)) dR<|aB<|rgN<|kmv O<|kad O O (cH (by omega))<|kas O<|aB ?_)
      exact ⟨_,_,by omega,Le.of (by exact ⟨rfl,rfl,rfl,rfl,by rw [hn];rfl,rfl,trivial⟩) (by exact ⟨rfl,rfl,rfl,rfl,trivial⟩) (by exact rfl) (by exact rfl) (by exact rfl),i+1,by omega,rfl,rfl⟩
    · have s:=s2 (by omega)
      rw [if_neg c] at hn
      have w:IntKind.i64.wrap (((dg M i:Nat):Int)-(dg N i:Nat)-(bor M N i:Nat))=((dg (M-N) i:Nat):Int):=by rw [cH (by omega)];omega
      (refine aA<|aA<|rgN<|kmv O<|klt O O (cP (by omega))<|aB<|aE O ?_;refine aH ?_;refine aA<|aG<|aA<|rgD mixed<|kmv O<|kfa O O ?_;refine K.indexArr O O (by omega) O dR ?_;refine kl1 O O (num_at (i:=i) h40)<|kmv O<|kfa O O ?_;refine K.indexArr O O (by omega) O dR ?_;refine kl1 O O (num_at (i:=i) h40)<|bA O O (cH (by omega)) dR<|kmv O<|bA O O w dR<|kas O<|aB<|rgA ?_;refine aA<|rgN<|kas O<|aB<|aA<|aA<|rgN<|kmv O<|klt O O (cO (by omega))<|aB<|aF O ?_;refine aH ?_;refine rgN<|kmv O<|kmv O<|kfa O O ?_;refine K.indexArr O O (by omega) O dR ?_;refine bG O O O O (num_blt (i:=i) h40) ((num_set (i:=i) h40).trans (low_step a (M-N) i)) dR<|aB<|rgN<|kmv O<|kad O O (cH (by omega))<|kas O<|aB ?_)
      exact ⟨_,_,by omega,Le.of (by exact ⟨rfl,rfl,rfl,rfl,by rw [hn];rfl,rfl,trivial⟩) (by exact ⟨rfl,rfl,rfl,rfl,trivial⟩) (by exact rfl) (by exact rfl) (by exact rfl),i+1,by omega,rfl,rfl⟩
  · have e:i=40:=by omega
    subst e
    (refine aA<|aA<|rgN<|kmv O<|klt O O (cO (by omega))<|aB<|aF O ?_;refine aJ<|aA<|rgN<|aK O O O dR ?_;refine aM O O O O O O dR ?_;refine aB<|aI ?_)
    exact ⟨[_],⟨⟨_,_,rfl,rfl,rfl,.inl ⟨AggT.h,rfl⟩⟩,trivial⟩,by unfold LN;rw [← low_all];rfl⟩
end Go.Proofs.YtamplgnbbanamaaGreatDoor
end
section
namespace Go.Proofs.YtamplgnbbanamaaGreatDoor
open Go Go.Lg Go.Lg.Arith Go.Lg.Dig Go.RowKit
variable (X:Nat→Option Obj)
theorem Good_spec (b:Bool) (N:Int) (hN:In2 N) (r:Bool) (hr:formB b N=r):PSpec Tryz.prog X 73 [LI b N] (Lb r):=by
  obtain ⟨h0,h1⟩:=hN
  refine cF Tryz.func73 rfl (by kernel_rfl) rfl rfl ?_
  intro C
  by_cases ha:N<170141183460469231731687303715884105728
  · cases b with
    | false =>
      have e:r=true:=by rw [← hr];simp [formB,ha]
      (refine aA<|rgN<|aL O O O dR<|kas O<|aB<|aA<|rgN<|kfa O O ?_;refine kl1 O O O<|klt O O (cP (by omega))<|kmv O<|aN O O (dS O O) ?_;refine aO O O O (dS O O) ?_;refine gmv O O O<|aC O O O<|aC O O O<|aC O O O<|bP O O (dS O O) ?_;refine gmv O O O<|aC O O O<|aC O O O<|aC O O O<|bP O O (dS O O) ?_;refine aV O O (dS O O) ?_;refine kpt O O<|kas O<|aB<|aI ?_)
      exact ⟨[_],⟨rfl,trivial⟩,by rw [e];rfl⟩
    | true =>
      by_cases hh:N/18446744073709551616=0
      · by_cases hl:N%18446744073709551616=0
        · have e:r=false:=by rw [← hr];unfold formB;rw [show (N==0)=true from cU (by omega)];simp
          (refine aA<|rgN<|aL O O O dR<|kas O<|aB<|aA<|rgN<|kfa O O ?_;refine kl1 O O O<|klt O O (cP (by omega))<|kmv O<|aN O O (dS O O) ?_;refine aO O O O (dS O O) ?_;refine gmv O O O<|aN O O (dS O O) ?_;refine aO O O O (dS O O) ?_;refine bC O O (cU (by omega)) (dS O O) ?_;refine bF O O (dS O O) ?_;refine gmv O O O<|aN O O (dS O O) ?_;refine aO O O O (dS O O) ?_;refine bC O O (cU (by omega)) (dS O O) ?_;refine bF O O (dS O O) ?_;refine aV O O (dS O O) ?_;refine kpt O O<|kas O<|aB<|aI ?_)
          exact ⟨[_],⟨rfl,trivial⟩,by rw [e];rfl⟩
        · have e:r=true:=by rw [← hr];unfold formB;rw [show (N==0)=false from cR (by omega)];simp [ha]
          (refine aA<|rgN<|aL O O O dR<|kas O<|aB<|aA<|rgN<|kfa O O ?_;refine kl1 O O O<|klt O O (cP (by omega))<|kmv O<|aN O O (dS O O) ?_;refine aO O O O (dS O O) ?_;refine gmv O O O<|aN O O (dS O O) ?_;refine aO O O O (dS O O) ?_;refine bC O O (cU (by omega)) (dS O O) ?_;refine bF O O (dS O O) ?_;refine gmv O O O<|aN O O (dS O O) ?_;refine aO O O O (dS O O) ?_;refine bC O O (cR (by omega)) (dS O O) ?_;refine bF O O (dS O O) ?_;refine aV O O (dS O O) ?_;refine kpt O O<|kas O<|aB<|aI ?_)
          exact ⟨[_],⟨rfl,trivial⟩,by rw [e];rfl⟩
      · have e:r=true:=by rw [← hr];unfold formB;rw [show (N==0)=false from cR (by omega)];simp [ha]
        (refine aA<|rgN<|aL O O O dR<|kas O<|aB<|aA<|rgN<|kfa O O ?_;refine kl1 O O O<|klt O O (cP (by omega))<|kmv O<|aN O O (dS O O) ?_;refine aO O O O (dS O O) ?_;refine gmv O O O<|aN O O (dS O O) ?_;refine aO O O O (dS O O) ?_;refine bC O O (cR (by omega)) (dS O O) ?_;refine bF O O (dS O O) ?_;refine gmv O O O<|aC O O O<|aC O O O<|aC O O O<|bP O O (dS O O) ?_;refine aV O O (dS O O) ?_;refine kpt O O<|kas O<|aB<|aI ?_)
        exact ⟨[_],⟨rfl,trivial⟩,by rw [e];rfl⟩
  · have e:r=false:=by rw [← hr];simp [formB,ha]
    (refine aA<|rgN<|aL O O O dR<|kas O<|aB<|aA<|rgN<|kfa O O ?_;refine kl1 O O O<|klt O O (cO (by omega))<|kmv O<|aC O O O<|aC O O O<|aC O O O<|aD O O<|aD O O<|aD O O<|aC O O O<|aC O O O<|aD O O<|aD O O<|aD O O ?_;refine aC O O O<|aC O O O<|kpf O O<|kas O<|aB<|aI ?_)
    exact ⟨[_],⟨rfl,trivial⟩,by rw [e];rfl⟩
theorem mg_nat (x:Int):(((mg x).toNat:Nat):Int)=mg x:=by have:=mg_nonneg x;omega
theorem From_q (x:Int) (hx:R127 x):PSpec Tryz.prog X 99 [LQ x] (LN (decide (x<0)) (dg (mg x).toNat)):=by
  have h:=From_spec X (decide (x<0)) (mg x).toNat (by have:=mg_lim hx;have:=mg_nonneg x;omega)
  rw [mg_nat] at h
  exact h
theorem lim40 {n:Nat} (h:n<340282366920938463463374607431768211456):n<T40:=by
  unfold T40
  rw [pow40]
  omega
end Go.Proofs.YtamplgnbbanamaaGreatDoor
end
section
namespace Go.Lg.Fld
open Go Go.Lg
structure Fl where
  nm:List UInt8
  kind:Int
  count:Int
def Fl.vals (f:Fl):List Value:=[.string ⟨f.nm.toArray⟩,.int .i64 f.kind,.int .i64 f.count]
def Fl.w (f:Fl):Nat:=kW f.kind
def Fl.n (f:Fl):Nat:=f.count.toNat
def Fl.ok (f:Fl):Bool:=kK f.kind&&(decide (1≤f.count)&&decide (f.count≤8))
def roundUp (a n:Nat):Nat:=a+(n-a%n)%n
def endAt:Nat→List Fl→Nat
  | a,[]=>a
  | a,f::t=>endAt (roundUp a f.w+f.w*f.n) t
def greatW (l:List Fl):Nat:=l.foldl (fun g f=>max g f.w) 1
def rowSize (l:List Fl):Nat:=roundUp (endAt 0 l) (greatW l)
def layErr (l:List Fl):Int:=if 8<l.length then 1 else if l.all Fl.ok=true then (if 256<rowSize l then 5 else 0) else 1
theorem take_snoc {α:Type} {l:List α} {i:Nat} {f:α} (h:l[i]? = some f):l.take (i+1)=l.take i++[f]:=by
  rw [List.take_add_one,h];rfl
structure FieldsIn (X:Nat→Option Obj) (ad:Option Addr) (fs:List Fl):Prop where
  rows:RowsIn X ad 3 (fs.map Fl.vals)
  small:∀ f∈fs,(-9223372036854775808≤f.kind∧f.kind<9223372036854775808)∧(-9223372036854775808≤f.count∧f.count<9223372036854775808)
end Go.Lg.Fld
end
section
namespace Go.Proofs.YtamplgnbbanamaaGreatDoor
open Go Go.Lg Go.Lg.Fld
set_option maxRecDepth 100000
variable (X:Nat→Option Obj)
abbrev Lx (ad:Option Addr) (n cap:Nat):LV:=.sv (.one (.val (.slice ad n cap)))
abbrev Vnil:SV:=.one (.val (.slice none 0 0))
end Go.Proofs.YtamplgnbbanamaaGreatDoor
end
section
namespace Go.Lg.Fld
open Go Go.Lg
def nmV (n:Bool×Int):List Value:=[.bool n.1,.int .u64 (n.2/18446744073709551616),.int .u64 (n.2%18446744073709551616)]
end Go.Lg.Fld
namespace Go.Proofs.YtamplgnbbanamaaGreatDoor
open Go Go.Lg Go.Lg.Fld
set_option maxRecDepth 100000
variable (X:Nat→Option Obj)
structure NumsIn (X:Nat→Option Obj) (ad:Option Addr) (ns:List (Bool×Int)):Prop where
  rows:Go.Lg.RowsIn X ad 3 (ns.map nmV)
  in2:∀ n∈ns,In2 n.2
theorem NumsIn.at {X:Nat→Option Obj} {ad:Option Addr} {ns:List (Bool×Int)} (h:NumsIn X ad ns) {i:Nat} {b:Bool} {N:Int} (hf:ns[i]? = some (b,N)):
    In2 N∧∃ (blk off:Nat) (arr:Array Value) (el:TypeId) (fr:Nat×Nat),ad=some ⟨blk,off,none⟩∧X blk=some (.cells arr el fr)∧off+i*3+3≤arr.size∧((arr.toList.drop (off+i*3)).take 3).map CV.val=cI b N:=by
  obtain ⟨blk,off,arr,el,fr,h1,h2,h3,h4⟩:=h.rows i (nmV (b,N)) (by rw [dL,hf];rfl)
  exact ⟨h.in2 (b,N) (dD hf),blk,off,arr,el,fr,h1,h2,h3,by rw [h4];rfl⟩
end Go.Proofs.YtamplgnbbanamaaGreatDoor
end
section
namespace Go.Proofs.YtamplgnbbanamaaGreatDoor
open Go Go.Lg Go.Lg.Fld
set_option maxRecDepth 100000
variable (X:Nat→Option Obj)
def qn (z:Int):Bool×Int:=(decide (z<0),mg z)
end Go.Proofs.YtamplgnbbanamaaGreatDoor
end
section
namespace Go.Lg.Fld
open Go Go.Lg
abbrev planV (size:Int) (c:CV):SV:=.agg [.val (.int .i64 size),c]
end Go.Lg.Fld
namespace Go.Proofs.YtamplgnbbanamaaGreatDoor
open Go Go.Lg Go.Lg.Fld
set_option maxRecDepth 100000
variable (X:Nat→Option Obj)
end Go.Proofs.YtamplgnbbanamaaGreatDoor
end
section
namespace Go.Lg.Fld
open Go Go.Lg
end Go.Lg.Fld
namespace Go.Proofs.YtamplgnbbanamaaGreatDoor
open Go Go.Lg Go.Lg.Fld
set_option maxRecDepth 100000
variable (X:Nat→Option Obj)
def ofR (fs:List Fl):LV:=if layErr fs=0 then .tup [planV (rowSize fs:Nat) (.slc 1000001 0 fs.length 1),Sn .i64 0] else .tup [planV 0 (.val (.slice none 0 0)),Sn .i64 (layErr fs)]
end Go.Proofs.YtamplgnbbanamaaGreatDoor
end
section
namespace Go.Lg.Fld
open Go Go.Lg
theorem leB_of:∀ (l:List UInt8),leB l.length (le l)=l
  | []=>rfl
  | c::t=>by
    have ih:=leB_of t
    have hc:=c.toNat_lt
    have h1:(c.toNat+256*le t)%256=c.toNat:=by omega
    have h2:(c.toNat+256*le t)/256=le t:=by omega
    show UInt8.ofNat ((c.toNat+256*le t)%256)::leB t.length ((c.toNat+256*le t)/256)=c::t
    rw [h1,h2,ih,UInt8.ofNat_toNat]
end Go.Lg.Fld
namespace Go.Proofs.YtamplgnbbanamaaGreatDoor
open Go Go.Lg Go.Lg.Fld
set_option maxRecDepth 100000
variable (X:Nat→Option Obj)
end Go.Proofs.YtamplgnbbanamaaGreatDoor
end
section
namespace Go.Lg.Fld
open Go Go.Lg
instance:DecidableEq Fl:=fun a b=>decidable_of_iff (a.nm=b.nm∧a.kind=b.kind∧a.count=b.count) ⟨fun ⟨h1,h2,h3⟩=>by cases a;cases b;simp_all,fun h=>by rw [h];exact ⟨rfl,rfl,rfl⟩⟩
structure Cp where
  id:Int
  nm:List UInt8
  fs:List Fl
instance:DecidableEq Cp:=fun a b=>decidable_of_iff (a.id=b.id∧a.nm=b.nm∧a.fs=b.fs) ⟨fun ⟨h1,h2,h3⟩=>by cases a;cases b;simp_all,fun h=>by rw [h];exact ⟨rfl,rfl,rfl⟩⟩
structure Sc where
  ver:Int
  cs:List Cp
instance:DecidableEq Sc:=fun a b=>decidable_of_iff (a.ver=b.ver∧a.cs=b.cs) ⟨fun ⟨h1,h2⟩=>by cases a;cases b;simp_all,fun h=>by rw [h];exact ⟨rfl,rfl⟩⟩
def letB (c:UInt8):Bool:=decide (97≤c.toNat)&&decide (c.toNat≤122)
def digB (c:UInt8):Bool:=decide (48≤c.toNat)&&decide (c.toNat≤57)
def nmC (l:List UInt8) (i:Nat):Bool:=letB (l.getD i 0)||(digB (l.getD i 0)&&decide (i≠0))
def nmB (l:List UInt8):Bool:=decide (1≤l.length)&&decide (l.length≤12)&&(List.range l.length).all (nmC l)
def firstE (f:Nat→Int):Nat→Nat→Int
  | _,0=>0
  | i,n+1=>if f i=0 then firstE f (i+1) n else f i
def fldE (fs:List Fl) (k:Nat):Int:=match fs[k]? with
  | some f=>if nmB f.nm=true then (if (fs.take k).any (fun g=>g.nm==f.nm)=true then 4 else 0) else 4
  | none=>0
structure CompsIn (X:Nat→Option Obj) (ad:Option Addr) (cs:List Cp):Prop where
  at_:∀ (i:Nat) (c:Cp),cs[i]? = some c→∃ (blk off:Nat) (arr:Array Value) (el:TypeId) (fr:Nat×Nat) (fad:Option Addr) (fcap:Nat),ad=some ⟨blk,off,none⟩∧X blk=some (.cells arr el fr)∧off+i*3+3≤arr.size ∧
    (arr.toList.drop (off+i*3)).take 3=[.int .i64 c.id,.string ⟨c.nm.toArray⟩,.slice fad c.fs.length fcap]∧FieldsIn X fad c.fs
  small:∀ c∈cs,-9223372036854775808≤c.id∧c.id<9223372036854775808
def SmallC (cs:List Cp):Prop:=cs.length≤30∧∀ c∈cs,c.fs.length≤12∧c.nm.length≤100∧∀ f∈c.fs,f.nm.length≤100
end Go.Lg.Fld
namespace Go.Proofs.YtamplgnbbanamaaGreatDoor
open Go Go.Lg Go.Lg.Fld
end Go.Proofs.YtamplgnbbanamaaGreatDoor
end
section
namespace Go.Lg.Fld
open Go Go.Lg
def findI {α:Type} (p:α→Bool) (l:List α):Int:=match l.findIdx? p with|some i=>(i:Nat)|none => -1
theorem findI_some {α:Type} {p:α→Bool} {l:List α} {i:Nat} {x:α} (h:∀ (j:Nat) (y:α),j<i→l[j]? = some y→p y=false) (hx:l[i]? = some x) (hp:p x=true):findI p l=(i:Nat):=by
  unfold findI
  obtain ⟨hi,e⟩:=List.getElem?_eq_some_iff.1 hx
  rw [List.findIdx?_eq_some_iff_getElem.2 ⟨hi,by rw [e];exact hp,fun j hj=>by rw [h j _ hj (cX (by omega))];simp⟩]
theorem findI_none {α:Type} {p:α→Bool} {l:List α} (h:∀ (j:Nat) (y:α),l[j]? = some y→p y=false):findI p l = -1:=by
  unfold findI
  rw [List.findIdx?_eq_none_iff.2 fun x hx=>by
    obtain ⟨j,hj⟩:=List.mem_iff_getElem?.1 hx
    exact h j x hj]
end Go.Lg.Fld
namespace Go.Proofs.YtamplgnbbanamaaGreatDoor
open Go Go.Lg Go.Lg.Fld
set_option maxRecDepth 100000
variable (X:Nat→Option Obj)
end Go.Proofs.YtamplgnbbanamaaGreatDoor
end
section
namespace Go.Lg.Fld
open Go Go.Lg
structure Pt where
  comp:Int
  val:List (Bool×Int)
end Go.Lg.Fld
namespace Go.Proofs.YtamplgnbbanamaaGreatDoor
open Go Go.Lg Go.Lg.Fld
set_option maxRecDepth 100000
structure PartsIn (X:Nat→Option Obj) (ad:Option Addr) (ps:List Pt):Prop where
  at_:∀ (i:Nat) (p:Pt),ps[i]? = some p→∃ (blk off:Nat) (arr:Array Value) (el:TypeId) (fr:Nat×Nat) (vad:Option Addr) (vcap:Nat),ad=some ⟨blk,off,none⟩∧X blk=some (.cells arr el fr)∧off+i*2+2≤arr.size ∧
    (arr.toList.drop (off+i*2)).take 2=[.int .i64 p.comp,.slice vad p.val.length vcap]∧NumsIn X vad p.val
  small:∀ p∈ps,-9223372036854775808≤p.comp∧p.comp<9223372036854775808
variable (X:Nat→Option Obj)
end Go.Proofs.YtamplgnbbanamaaGreatDoor
end
section
namespace Go.Lg.Fml
structure Ins where
  op:Int
  a:Int
  b:Int
  k:Bool×Int
  deriving DecidableEq
def takes (op:Int):Nat:=if op=16 then 3 else if op=10∨op=15 then 1 else if 5≤op∧op≤17 then 2 else 0
theorem takes_le (op:Int):takes op≤3:=by unfold takes;split<;>(try split)<;>(try split)<;>omega
inductive Tr where
  | n0 (x:Ins)
  | n1 (x:Ins) (a:Tr)
  | n2 (x:Ins) (a b:Tr)
  | n3 (x:Ins) (a b c:Tr)
def Tr.flat:Tr→List Ins
  | .n0 x=>[x]
  | .n1 x a=>a.flat++[x]
  | .n2 x a b=>a.flat++(b.flat++[x])
  | .n3 x a b c=>a.flat++(b.flat++(c.flat++[x]))
def Tr.ok:Tr→Prop
  | .n0 x=>takes x.op=0
  | .n1 x a=>takes x.op=1∧a.ok
  | .n2 x a b=>takes x.op=2∧a.ok∧b.ok
  | .n3 x a b c=>takes x.op=3∧a.ok∧b.ok∧c.ok
section
variable {V:Type} (one:Ins→List V→Except Int V)
def Tr.ev:Tr→Except Int V
  | .n0 x=>one x []
  | .n1 x a=>match a.ev with
    | .error e=>.error e
    | .ok u=>one x [u]
  | .n2 x a b=>match a.ev with
    | .error e=>.error e
    | .ok u=>match b.ev with
      | .error e=>.error e
      | .ok v=>one x [u,v]
  | .n3 x a b c=>match a.ev with
    | .error e=>.error e
    | .ok u=>match b.ev with
      | .error e=>.error e
      | .ok v=>match c.ev with
        | .error e=>.error e
        | .ok w=>one x [u,v,w]
def run:List Ins→List V→Except Int (List V)
  | [],st=>.ok st
  | x::t,st=>match one x (st.take (takes x.op)).reverse with
    | .error e=>.error e
    | .ok v=>run t (v::st.drop (takes x.op))
variable {one}
theorem run_flat:∀ {t:Tr} {rest:List Ins} {st:List V},t.ok→run one (t.flat++rest) st=match t.ev one with | .error e=>.error e | .ok v=>run one rest (v::st)
  | .n0 x,rest,st,h=>by
    have h:takes x.op=0:=h
    simp only [Tr.flat,List.cons_append,List.nil_append,run,Tr.ev,h,List.take_zero,List.drop_zero,List.reverse_nil]
  | .n1 x a,rest,st,h=>by
    obtain ⟨h1,h2⟩:=h
    simp only [Tr.flat,List.append_assoc,Tr.ev]
    rw [run_flat h2]
    cases a.ev one with
    | error e=>rfl
    | ok u =>
      simp only [List.cons_append,List.nil_append,run,h1]
      simp only [List.take_succ_cons,List.take_zero,List.drop_succ_cons,List.drop_zero,List.reverse_cons,List.reverse_nil,List.nil_append]
  | .n2 x a b,rest,st,h=>by
    obtain ⟨h1,h2,h3⟩:=h
    simp only [Tr.flat,List.append_assoc,Tr.ev]
    rw [run_flat h2]
    cases a.ev one with
    | error e=>rfl
    | ok u =>
      simp only
      rw [run_flat h3]
      cases b.ev one with
      | error e=>rfl
      | ok v =>
        simp only [List.cons_append,List.nil_append,run,h1]
        simp only [List.take_succ_cons,List.take_zero,List.drop_succ_cons,List.drop_zero,List.reverse_cons,List.reverse_nil,List.nil_append,List.cons_append]
  | .n3 x a b c,rest,st,h=>by
    obtain ⟨h1,h2,h3,h4⟩:=h
    simp only [Tr.flat,List.append_assoc,Tr.ev]
    rw [run_flat h2]
    cases a.ev one with
    | error e=>rfl
    | ok u =>
      simp only
      rw [run_flat h3]
      cases b.ev one with
      | error e=>rfl
      | ok v =>
        simp only
        rw [run_flat h4]
        cases c.ev one with
        | error e=>rfl
        | ok w =>
          simp only [List.cons_append,List.nil_append,run,h1]
          simp only [List.take_succ_cons,List.take_zero,List.drop_succ_cons,List.drop_zero,List.reverse_cons,List.reverse_nil,List.nil_append,List.cons_append]
theorem run_app:∀ {l r:List Ins} {st:List V},run one (l++r) st=match run one l st with | .error e=>.error e | .ok st'=>run one r st'
  | [],r,st=>rfl
  | x::l,r,st=>by
    simp only [List.cons_append,run]
    cases one x (st.take (takes x.op)).reverse with
    | error e=>rfl
    | ok v=>exact run_app
end
def dep (okI:Ins→Bool):Nat→List Ins→Option Nat
  | n,[]=>some n
  | n,x::t=>if okI x=true∧takes x.op≤n∧n-takes x.op+1≤16 then dep okI (n-takes x.op+1) t else none
theorem dep_app {okI:Ins→Bool}:∀ {l r:List Ins} {n:Nat},dep okI n (l++r)=(dep okI n l).bind fun m=>dep okI m r
  | [],r,n=>rfl
  | x::l,r,n=>by
    simp only [List.cons_append,dep]
    split
    · exact dep_app
    · rfl
def flats:List Tr→List Ins
  | []=>[]
  | t::ts=>flats ts++t.flat
theorem dep_trees {okI:Ins→Bool}:∀ {l:List Ins} {ts:List Tr} {m:Nat},dep okI ts.length l=some m→(∀ t∈ts,t.ok)→∃ ts',ts'.length=m∧(∀ t∈ts',t.ok)∧flats ts'=flats ts++l
  | [],ts,m,h,ho=>by
    simp only [dep,Option.some.injEq] at h
    exact ⟨ts,h,ho,by rw [List.append_nil]⟩
  | x::l,ts,m,h,ho=>by
    simp only [dep] at h
    split at h
    · rename_i hx
      obtain ⟨_,h1,_⟩:=hx
      have h3:=takes_le x.op
      have key:∃ us:List Tr,us.length=ts.length-takes x.op+1∧(∀ t∈us,t.ok)∧flats us=flats ts++[x]:=by
        rcases (show takes x.op=0∨takes x.op=1∨takes x.op=2∨takes x.op=3 by omega) with e|e|e|e
        · exact ⟨.n0 x::ts,by rw [e];rfl,fun t ht=>by
            rcases List.mem_cons.1 ht with rfl|ht
            · exact e
            · exact ho t ht,rfl⟩
        · match ts,ho,h1 with
          | a::ts,ho,_=>exact ⟨.n1 x a::ts,by rw [e];rfl,fun t ht=>by
              rcases List.mem_cons.1 ht with rfl|ht
              · exact ⟨e,ho a List.mem_cons_self⟩
              · exact ho t (List.mem_cons_of_mem _ ht),by simp only [flats,Tr.flat,List.append_assoc]⟩
          | [],_,h1=>rw [e] at h1;cases h1
        · match ts,ho,h1 with
          | b::a::ts,ho,_=>exact ⟨.n2 x a b::ts,by rw [e];rfl,fun t ht=>by
              rcases List.mem_cons.1 ht with rfl|ht
              · exact ⟨e,ho a (by simp),ho b (by simp)⟩
              · exact ho t (by simp [ht]),by simp only [flats,Tr.flat,List.append_assoc]⟩
          | [_],_,h1=>rw [e] at h1;simp at h1
          | [],_,h1=>rw [e] at h1;cases h1
        · match ts,ho,h1 with
          | c::b::a::ts,ho,_=>exact ⟨.n3 x a b c::ts,by rw [e];rfl,fun t ht=>by
              rcases List.mem_cons.1 ht with rfl|ht
              · exact ⟨e,ho a (by simp),ho b (by simp),ho c (by simp)⟩
              · exact ho t (by simp [ht]),by simp only [flats,Tr.flat,List.append_assoc]⟩
          | [_,_],_,h1=>rw [e] at h1;simp at h1
          | [_],_,h1=>rw [e] at h1;simp at h1
          | [],_,h1=>rw [e] at h1;cases h1
      obtain ⟨us,u1,u2,u3⟩:=key
      rw [← u1] at h
      obtain ⟨ts',t1,t2,t3⟩:=dep_trees h u2
      exact ⟨ts',t1,t2,by rw [t3,u3,List.append_assoc];rfl⟩
    · cases h
theorem parse {okI:Ins→Bool} {l:List Ins} (h:dep okI 0 l=some 1):∃ t:Tr,t.ok∧t.flat=l:=by
  obtain ⟨ts,h1,h2,h3⟩:=dep_trees (ts:=[]) h (fun t ht=>by cases ht)
  match ts,h1 with
  | [t],_=>exact ⟨t,h2 t List.mem_cons_self,h3⟩
theorem flat_pos:∀ t:Tr,t.flat≠[]
  | .n0 x=>by simp [Tr.flat]
  | .n1 x a=>by simp [Tr.flat]
  | .n2 x a b=>by simp [Tr.flat]
  | .n3 x a b c=>by simp [Tr.flat]
def surplus:List Ins→Int
  | []=>0
  | x::t=>(takes x.op:Int)-1+surplus t
theorem surplus_app:∀ (l r:List Ins),surplus (l++r)=surplus l+surplus r
  | [],r=>by simp [surplus]
  | x::l,r=>by simp only [List.cons_append,surplus,surplus_app l r];omega
theorem flat_sum:∀ {t:Tr},t.ok→surplus t.flat = -1
  | .n0 x,h=>by
    have h:takes x.op=0:=h
    simp [Tr.flat,surplus,h]
  | .n1 x a,h=>by
    obtain ⟨h1,h2⟩:=h
    simp only [Tr.flat,surplus_app,surplus,h1,flat_sum h2];decide
  | .n2 x a b,h=>by
    obtain ⟨h1,h2,h3⟩:=h
    simp only [Tr.flat,surplus_app,surplus,h1,flat_sum h2,flat_sum h3];decide
  | .n3 x a b c,h=>by
    obtain ⟨h1,h2,h3,h4⟩:=h
    simp only [Tr.flat,surplus_app,surplus,h1,flat_sum h2,flat_sum h3,flat_sum h4];decide
def Back (l:List Ins):Prop := ∀ p s:List Ins,l=p++s→p≠[]→0≤surplus s
theorem flat_back:∀ {t:Tr},t.ok→Back t.flat
  | .n0 x,h=>fun p s e hp=>by
    simp only [Tr.flat] at e
    have:s=[]:=by
      cases p with
      | nil=>exact absurd rfl hp
      | cons y p'=>simp only [List.cons_append,List.cons.injEq] at e;exact (List.append_eq_nil_iff.1 e.2.symm).2
    subst this;exact Int.le_refl _
  | .n1 x a,h=>fun p s e hp=>by
    obtain ⟨h1,h2⟩:=h
    simp only [Tr.flat] at e
    rcases List.append_eq_append_iff.1 e with ⟨q,h5,h6⟩|⟨q,h5,h6⟩
    · have:surplus s≤0∧0≤surplus s:=by
        cases q with
        | nil=>simp only [List.nil_append] at h6;rw [← h6];simp [surplus,h1]
        | cons y q' =>
          simp only [List.cons_append,List.cons.injEq] at h6
          have:=(List.append_eq_nil_iff.1 h6.2.symm).2
          subst this;simp [surplus]
      exact this.2
    · rw [h6,surplus_app]
      have h7:surplus [x]=0:=by simp [surplus,h1]
      have h8:=flat_back h2 p q h5 hp
      omega
  | .n2 x a b,h=>fun p s e hp=>by
    obtain ⟨h1,h2,h3⟩:=h
    simp only [Tr.flat] at e
    have hx:surplus [x]=1:=by simp [surplus,h1]
    have tail:∀ p s:List Ins,[x]=p++s→0≤surplus s:=fun p s e=>by
      cases p with
      | nil=>simp only [List.nil_append] at e;rw [← e];omega
      | cons y p'=>simp only [List.cons_append,List.cons.injEq] at e;have:=(List.append_eq_nil_iff.1 e.2.symm).2;subst this;simp [surplus]
    have anyb:∀ p s:List Ins,b.flat=p++s → -1≤surplus s:=fun p s e=>by
      by_cases hp:p=[]
      · subst hp;rw [List.nil_append] at e;rw [← e,flat_sum h3];decide
      · have:=flat_back h3 p s e hp;omega
    rcases List.append_eq_append_iff.1 e with ⟨q,h5,h6⟩|⟨q,h5,h6⟩
    · rcases List.append_eq_append_iff.1 h6 with ⟨q',h7,h8⟩|⟨q',h7,h8⟩
      · exact tail q' s h8
      · rw [h8,surplus_app];have:=anyb q q' h7;omega
    · rw [h6,surplus_app,surplus_app,flat_sum h3]
      have h8:=flat_back h2 p q h5 hp
      omega
  | .n3 x a b c,h=>fun p s e hp=>by
    obtain ⟨h1,h2,h3,h4⟩:=h
    simp only [Tr.flat] at e
    have hx:surplus [x]=2:=by simp [surplus,h1]
    have tail:∀ p s:List Ins,[x]=p++s→0≤surplus s:=fun p s e=>by
      cases p with
      | nil=>simp only [List.nil_append] at e;rw [← e];omega
      | cons y p'=>simp only [List.cons_append,List.cons.injEq] at e;have:=(List.append_eq_nil_iff.1 e.2.symm).2;subst this;simp [surplus]
    have any:∀ {t:Tr},t.ok→(∀ p s:List Ins,t.flat=p++s→p≠[]→0≤surplus s)→∀ p s:List Ins,t.flat=p++s → -1≤surplus s:=fun {t} ht hb p s e=>by
      by_cases hp:p=[]
      · subst hp;rw [List.nil_append] at e;rw [← e,flat_sum ht];decide
      · have:=hb p s e hp;omega
    rcases List.append_eq_append_iff.1 e with ⟨q,h5,h6⟩|⟨q,h5,h6⟩
    · rcases List.append_eq_append_iff.1 h6 with ⟨q',h7,h8⟩|⟨q',h7,h8⟩
      · rcases List.append_eq_append_iff.1 h8 with ⟨q2,h9,h10⟩|⟨q2,h9,h10⟩
        · exact tail q2 s h10
        · rw [h10,surplus_app];have:=any h4 (flat_back h4) q' q2 h9;omega
      · rw [h8,surplus_app,surplus_app,flat_sum h4];have:=any h3 (flat_back h3) q q' h7;omega
    · rw [h6,surplus_app,surplus_app,surplus_app,flat_sum h3,flat_sum h4]
      have h8:=flat_back h2 p q h5 hp
      omega
def Tr.ends (p:Nat):Tr→List Nat
  | .n0 _=>[]
  | .n1 _ a=>[p+a.flat.length-1]
  | .n2 _ a b=>[p+a.flat.length-1,p+a.flat.length+b.flat.length-1]
  | .n3 _ a b c=>[p+a.flat.length-1,p+a.flat.length+b.flat.length-1,p+a.flat.length+b.flat.length+c.flat.length-1]
def Tr.top:Tr→Ins
  | .n0 x=>x
  | .n1 x _=>x
  | .n2 x _ _=>x
  | .n3 x _ _ _=>x
theorem flat_top:∀ t:Tr,∃ l,t.flat=l++[t.top]
  | .n0 x=>⟨[],rfl⟩
  | .n1 x a=>⟨_,rfl⟩
  | .n2 x a b=>⟨a.flat++b.flat,by simp [Tr.flat,Tr.top]⟩
  | .n3 x a b c=>⟨a.flat++(b.flat++c.flat),by simp [Tr.flat,Tr.top]⟩
end Go.Lg.Fml
end
section
namespace Go.Proofs.YtamplgnbbanamaaGreatDoor
open Go Go.Lg Go.Lg.Arith
def textQ (x:Int):List UInt8:=if x<0 then 45::Lib.decDigits (mg x).toNat else Lib.decDigits (mg x).toNat
end Go.Proofs.YtamplgnbbanamaaGreatDoor
end
section
namespace Go.Lg.Fld
open Go Go.Lg
def NamesC (cs:List Cp):Prop := ∀ c∈cs,c.fs.length<4611686018427387904∧c.nm.length≤9223372036854775807∧∀ f∈c.fs,f.nm.length≤9223372036854775807
end Go.Lg.Fld
namespace Go.Proofs.YtamplgnbbanamaaGreatDoor
open Go Go.Lg Go.Lg.Fld
set_option maxRecDepth 100000
variable (X:Nat→Option Obj)
end Go.Proofs.YtamplgnbbanamaaGreatDoor
end
section
namespace Go.Lg.Fld
open Go Go.Lg
end Go.Lg.Fld
namespace Go.Proofs.YtamplgnbbanamaaGreatDoor
open Go Go.Lg Go.Lg.Fld
set_option maxRecDepth 100000
abbrev Lf (f:FuncId) (caps:List Value):LV:=.sv (.one (.val (.func (.func f) #[] caps.toArray)))
variable (X:Nat→Option Obj)
section
variable (ver:Int) (ad:Option Addr) (cap:Nat) (cs:List Cp) (f:FuncId) (caps:List Value) (p:Cp→Bool)
end
theorem at_zero {arr:Array Value} {v:Value} (h:∃ sp,arr.toList=[v]++sp):arr[0]? = some v:=by
  obtain ⟨sp,h⟩:=h
  rw [← Array.getElem?_toList,h];rfl
end Go.Proofs.YtamplgnbbanamaaGreatDoor
end
section
namespace Go.Lg.Fld
open Go Go.Lg
theorem joinM_has {C:Ctx} {Y H:Nat→Option Obj} (hO:OwnedM C Y H) {b:Nat} {o:Obj} (h:Y b=some o):joinM Y H b=some o:=by
  cases hb:H b with
  | none=>rw [joinM_out hb];exact h
  | some o'=>have:=(hO.own b o' hb).2.2;rw [this] at h;cases h
end Go.Lg.Fld
namespace Go.Proofs.YtamplgnbbanamaaGreatDoor
open Go Go.Lg Go.Lg.Fld
set_option maxRecDepth 100000
section
variable {n:Nat} {C:Ctx} {X:Nat→Option Obj} {s:List (Nat×LV)} {bx:List (Nat×Option Box)} {k:Nat}
end
variable (X:Nat→Option Obj)
end Go.Proofs.YtamplgnbbanamaaGreatDoor
end
section
namespace Go.Proofs.YtamplgnbbanamaaGreatDoor
open Go Go.Lg Go.Lg.Fld
set_option maxRecDepth 100000
theorem rows_in {Y:Nat→Option Obj} {blk:Nat} {arr:Array Value} {el:TypeId} {fr:Nat×Nat} {sz:Nat} {rows:List (List Value)} (hY:Y blk=some (.cells arr el fr)) (hl:∀ r∈rows,r.length=sz) (hsp:∃ sp,arr.toList=rows.flatten++sp):Go.Lg.RowsIn Y (some ⟨blk,0,none⟩) sz rows:=fun i r hi=>by
  obtain ⟨sp,e⟩:=hsp
  obtain ⟨h1,h2⟩:=flat_row hl (sp:=sp) hi
  refine ⟨blk,0,arr,el,fr,O,hY,?_,?_⟩
  · rw [← Array.length_toList,e];omega
  · rw [e,Nat.zero_add];exact h2
variable (X:Nat→Option Obj)
end Go.Proofs.YtamplgnbbanamaaGreatDoor
end
section
namespace Go.Lg.Fld
open Go Go.Lg
end Go.Lg.Fld
namespace Go.Proofs.YtamplgnbbanamaaGreatDoor
open Go Go.Lg Go.Lg.Fld
set_option maxRecDepth 100000
variable (X:Nat→Option Obj)
def cs0:List Cp:=[⟨1,[112,111,115],[⟨[120],3,1⟩,⟨[121],3,1⟩]⟩,⟨3,[116,97,103],[]⟩]
end Go.Proofs.YtamplgnbbanamaaGreatDoor
end
section
namespace Go.Lg.Fld
open Go Go.Lg
def Scan {α:Type} (p:α→Bool) (l:List α) (k:Nat) (v:Int):Prop:=(v = -1∧∀ (m:Nat) (y:α),k≤m→l[m]? = some y→p y=false)∨∃ (i:Nat) (c:α),v=(i:Nat)∧l[i]? = some c∧p c=true∧∀ (m:Nat) (y:α),k≤m→m<i→l[m]? = some y→p y=false
end Go.Lg.Fld
namespace Go.Proofs.YtamplgnbbanamaaGreatDoor
open Go Go.Lg Go.Lg.Fld
set_option maxRecDepth 100000
variable (X:Nat→Option Obj)
end Go.Proofs.YtamplgnbbanamaaGreatDoor
end
section
namespace Go.Lg.Fld
open Go Go.Lg
structure Good (cs:List Cp):Prop where
  one:∀ (i:Nat) (c:Cp),cs[i]? = some c→1≤c.id∧c.id≤24∧nmB c.nm=true∧firstE (fldE c.fs) 0 c.fs.length=0∧layErr c.fs=0
  two:∀ (i j:Nat) (c d:Cp),i<j→cs[i]? = some c→cs[j]? = some d→c.id<d.id∧c.nm≠d.nm
end Go.Lg.Fld
end
section
namespace Go.Lg.Fld
open Go Go.Lg
structure Ch where
  kind:Int
  comp:Int
  fld:List UInt8
instance:DecidableEq Ch:=fun a b=>decidable_of_iff (a.kind=b.kind∧a.comp=b.comp∧a.fld=b.fld) ⟨fun ⟨h1,h2,h3⟩=>by cases a;cases b;simp_all,fun h=>by rw [h];exact ⟨rfl,rfl,rfl⟩⟩
def fldAt (fs:List Fl) (nm:List UInt8):Option Fl:=fs.find? fun f=>f.nm==nm
def fldIx (fs:List Fl) (nm:List UInt8):Int:=findI (fun f=>f.nm==nm) fs
theorem fldIx_some {fs:List Fl} {nm:List UInt8} (h:0≤fldIx fs nm):∃ (k:Nat) (g:Fl),fs[k]? = some g∧g.nm=nm∧fldIx fs nm=(k:Nat)∧fldAt fs nm=some g∧∀ (j:Nat) (y:Fl),j<k→fs[j]? = some y→y.nm≠nm:=by
  unfold fldIx findI at h
  cases hf:fs.findIdx? (fun f=>f.nm==nm) with
  | none=>rw [hf] at h;simp only at h;omega
  | some k =>
    obtain ⟨hk,h1,h2⟩:=List.findIdx?_eq_some_iff_getElem.1 hf
    refine ⟨k,fs[k],cX hk,by simpa using h1,by unfold fldIx findI;rw [hf],?_,fun j y hj hy => ?_⟩
    · unfold fldAt
      rw [List.find?_eq_some_iff_getElem]
      exact ⟨h1,k,hk,O,fun j hj=>by simpa using h2 j hj⟩
    · obtain ⟨hj',e⟩:=List.getElem?_eq_some_iff.1 hy
      have:=h2 j hj
      rw [e] at this
      simpa using this
end Go.Lg.Fld
end
section
namespace Go.Lg.Fld
open Go Go.Lg
def Apart (fs:List Fl):Prop:=fs.Pairwise fun f g=>f.nm≠g.nm
end Go.Lg.Fld
end
section
namespace Go.Lg.Fld
open Go Go.Lg
def Ch.vals (x:Ch):List Value:=[.int .i64 x.kind,.int .i64 x.comp,.string ⟨x.fld.toArray⟩]
end Go.Lg.Fld
namespace Go.Proofs.YtamplgnbbanamaaGreatDoor
open Go Go.Lg Go.Lg.Fld
set_option maxRecDepth 100000
variable (X:Nat→Option Obj)
end Go.Proofs.YtamplgnbbanamaaGreatDoor
end
section
namespace Go.Lg.Fld
open Go Go.Lg
def sgn (neg:Bool) (m:Nat):Int:=if neg=true then -(m:Int) else m
theorem sgn_of (v:Int):sgn (decide (v<0)) v.natAbs=v:=by
  unfold sgn
  by_cases h:v<0
  · rw [cP h,if_pos rfl];omega
  · rw [cO h,if_neg (by decide)];omega
theorem sgn_mod (neg:Bool) (m:Nat):(sgn neg m).tmod 10=sgn neg (m%10):=by
  unfold sgn
  cases neg with
  | false=>rfl
  | true =>
    rw [if_pos rfl,if_pos rfl,Int.neg_tmod]
    rfl
theorem sgn_div (neg:Bool) (m:Nat):(sgn neg m).tdiv 10=sgn neg (m/10):=by
  unfold sgn
  cases neg with
  | false=>rfl
  | true =>
    rw [if_pos rfl,if_pos rfl,Int.neg_tdiv]
    rfl
def digI (u m:Nat) (s:List UInt8):Prop:=if m=0∧s≠[] then Lib.decDigits u=s else Lib.decDigits u=Lib.decDigits m++s
theorem digI_start (u:Nat):digI u u []:=by
  unfold digI
  rw [if_neg (by simp),dJ]
theorem digI_step {u m:Nat} {s:List UInt8} (h:digI u m s) (hm:¬(m=0∧s≠[])):digI u (m/10) (UInt8.ofNat (48+m%10)::s):=by
  unfold digI at h
  rw [if_neg hm] at h
  by_cases hl:m<10
  · have e:m/10=0:=by omega
    have e2:m%10=m:=by omega
    unfold digI
    rw [if_pos ⟨e,by simp⟩,h,e2,Lib.decDigits_one hl]
    rfl
  · unfold digI
    rw [if_neg (by omega),h]
    conv=>lhs;rw [Lib.decDigits,dif_neg hl]
    rw [dM]
    rfl
theorem digI_end {u:Nat} {s:List UInt8} (h:digI u 0 s) (hs:s≠[]):Lib.decDigits u=s:=by
  unfold digI at h
  rw [if_pos ⟨rfl,hs⟩] at h
  exact h
theorem digI_len {u m:Nat} {s:List UInt8} (h:digI u m s) (hu:u<18446744073709551616):s.length≤20:=by
  have h1:(Lib.decDigits u).length≤20:=by rw [Lib.decDigits_length];exact Lib.nDigits_le20 u hu
  unfold digI at h
  split at h
  · rw [← h];exact h1
  · rw [h,cV] at h1;omega
theorem digit_toNat (p:Nat) (h:p<10):(UInt8.ofNat (48+p)).toNat=48+p:=by
  simp
  omega
end Go.Lg.Fld
namespace Go.Proofs.YtamplgnbbanamaaGreatDoor
open Go Go.Lg Go.Lg.Fld
set_option maxRecDepth 100000
variable (X:Nat→Option Obj)
set_option maxHeartbeats 1600000 in
theorem rDigits_spec (v:Int) (h0 : -9223372036854775808≤v) (h1:v<9223372036854775808):
    PSpec Tryz.prog X 46 [Ln .i64 v] (Ls (Lib.itoa v)):=by
  refine cF Tryz.func46 rfl (by kernel_rfl) rfl rfl ?_
  intro C
  have hu:v.natAbs<18446744073709551616:=by omega
  have hu2:v.natAbs≤9223372036854775808:=by omega
  have hneg:∀ m:Nat,m<10→IntKind.i64.wrap (0-sgn (decide (v<0)) m)=sgn (!decide (v<0)) m:=fun m hm=>by
    unfold sgn
    cases decide (v<0) with
    | false=>rw [if_neg (by decide),if_pos (by decide)];refine (cH ⟨?_,?_⟩).trans ?_<;>omega
    | true=>rw [if_pos rfl,if_neg (by decide)];refine (cH ⟨?_,?_⟩).trans ?_<;>omega
  (refine aA<|rgN<|kas O<|aB<|aA<|rgN<|kas O<|aB<|aA<|rgN<|kmv O<|klt O O O<|kas O<|aB ?_;refine aA<|aG ?_)
  refine cL (fun k σ=>∃ (m:Nat) (s:List UInt8),m≤v.natAbs∧digI v.natAbs m s∧k=m+(if s=[] then 1 else 0)∧σ=⟨[(0,Ln .i64 (sgn (decide (v<0)) m)),(3,Ls s),(4,Lb (decide (v<0)))],[],X⟩) (v.natAbs+1)
    ⟨⟨[(0,Ln .i64 v),(3,Ls []),(4,Lb (decide (v<0)))],[],X⟩,Le.of (by exact ⟨rfl,rfl,rfl,trivial⟩) (by exact trivial) (by exact rfl) (by exact rfl) (by repeat' (first|refine bT ?_ ?_|rfl|exact bV|exact bU|exact bW rfl)),v.natAbs,[],dN _,digI_start _,by simp,by rw [sgn_of]⟩ ?_
  rintro k σ ⟨m,s,hm,hI,rfl,rfl⟩
  have hsl:=digI_len hI hu
  by_cases hend:m=0∧s≠[]
  · obtain ⟨rfl,hs⟩:=hend
    have he:=digI_end hI hs
    have hse:(s==([]:List UInt8))=false:=cR hs
    have hz:sgn (decide (v<0)) 0=0:=by unfold sgn;split<;>rfl
    rw [hz]
    by_cases hv:v<0
    · rw [show Lib.itoa v=45::s by unfold Lib.itoa;rw [if_pos hv,he]]
      (refine aA<|aA<|rgN<|kmv O<|kse O O (strs_eq (r:=false) hse)<|kmv O<|gmv O O O<|aX O O (r:=false) O (dS O O) ?_;refine kpf O O<|aB<|aF O ?_;refine aJ<|aA<|aA<|rgN<|kmv (lv:=Lb true) (congrArg (fun b=>some (Lb b)) (cP hv))<|aB<|aE O ?_;refine rgN<|kmv O<|bM O O (Nat.le_trans (Nat.add_le_add_left hsl _) (by decide)) (str_add [45] s) dR<|kas O<|aB<|aA<|rgN<|kmv O<|kas O<|aB<|aI ?_)
      exact ⟨[_],⟨O,trivial⟩,O⟩
    · rw [show Lib.itoa v=s by unfold Lib.itoa;rw [if_neg hv,← he];congr 1;omega]
      (refine aA<|aA<|rgN<|kmv O<|kse O O (strs_eq (r:=false) hse)<|kmv O<|gmv O O O<|aX O O (r:=false) O (dS O O) ?_;refine kpf O O<|aB<|aF O ?_;refine aJ<|aA<|aA<|rgN<|kmv (lv:=Lb false) (congrArg (fun b=>some (Lb b)) (cO hv))<|aB<|aF O ?_;refine aH ?_;refine aA<|rgN<|kmv O<|kas O<|aB<|aI ?_)
      exact ⟨[_],⟨O,trivial⟩,O⟩
  · have hst:=digI_step hI hend
    have hp:m%10<10:=Nat.mod_lt _ (by decide)
    have hmod:=sgn_mod (decide (v<0)) m
    have hdiv:IntKind.i64.wrap ((sgn (decide (v<0)) m).tdiv 10)=sgn (decide (v<0)) (m/10):=by
      rw [sgn_div]
      unfold sgn
      refine cH ⟨?_,?_⟩<;>split<;>omega
    have hd:=digit_toNat (m%10) hp
    have hadd:IntKind.i64.wrap (48+((m%10:Nat):Int))=((48+m%10:Nat):Int):=by
      refine (cH ⟨?_,?_⟩).trans ?_<;>omega
    have hcv:IntKind.u8.wrap ((48+m%10:Nat):Int)=(((UInt8.ofNat (48+m%10)).toNat:Nat):Int):=by
      rw [hd]
      refine wrap_u8 ⟨?_,?_⟩<;>omega
    have hcut:((([UInt8.ofNat (48+m%10)]:List UInt8).map bc).drop 0).take 1=([UInt8.ofNat (48+m%10)]:List UInt8).map bc:=rfl
    have hless:m/10+0<m+(if s=[] then 1 else 0):=by
      by_cases hs:s=[]
      · rw [if_pos hs];omega
      · rw [if_neg hs]
        have:m≠0:=fun h=>hend ⟨h,hs⟩
        omega
    have hsa:=str_add [UInt8.ofNat (48+m%10)] s
    have hszA:(⟨([UInt8.ofNat (48+m%10)]:List UInt8).toArray⟩:ByteArray).size+(⟨s.toArray⟩:ByteArray).size≤9223372036854775807:=by
      show 1+s.length≤_
      omega
    have hcond:(s==([]:List UInt8))=true∨((s==([]:List UInt8))=false∧(sgn (decide (v<0)) m != 0)=true):=by
      by_cases hs:s=[]
      · exact .inl (cU hs)
      · refine .inr ⟨cR hs,cT ?_⟩
        have:m≠0:=fun h=>hend ⟨h,hs⟩
        unfold sgn
        split<;>omega
    have hsg:(sgn (decide (v<0)) (m%10)<0∧sgn (!decide (v<0)) (m%10)=((m%10:Nat):Int))∨(¬ sgn (decide (v<0)) (m%10)<0∧sgn (decide (v<0)) (m%10)=((m%10:Nat):Int)):=by
      unfold sgn
      cases decide (v<0) with
      | false=>right;simp;omega
      | true =>
        by_cases h:m%10=0
        · right;simp;omega
        · left;simp;omega
    have hn:=hneg (m%10) hp
    generalize sgn (decide (v<0)) m=z at *
    generalize hz2:sgn (decide (v<0)) (m%10)=z2 at *
    generalize sgn (!decide (v<0)) (m%10)=z3 at *
    generalize hb:UInt8.ofNat (48+m%10)=b at *
    rcases hcond with hc1|⟨hc1,hc2⟩
    · rcases hsg with ⟨hs1,hs2⟩|⟨hs1,hs2⟩
      · rw [hs2] at hn
        (refine aA<|aA<|rgN<|kmv O<|kse O O (strs_eq (r:=true) hc1)<|kmv O<|aC O O O<|aC O O O<|kpt O O<|aB<|aE O ?_;refine aH ?_;refine aG<|aA<|rgN<|kmv O<|K.rem O O (by decide) hmod dR<|kas O<|aB<|aA<|aA<|rgN<|kmv O<|klt O O (cP hs1)<|aB<|aE O ?_;refine rgN<|kmv O<|K.neg O hn dR<|kas O<|aB<|aA<|rgN<|kmv O<|kad O O hadd<|kcv O hcv ?_;refine aZ (zs:=[.int .u8 0]) (sz:=1) (e:=5) (cs':=[b].map bc) (by kernel_rfl) O O O O O O dR<|bS (l:=[b]) O O (by kernel_rfl) StrT.u (dN _) hcut dR<|kmv O<|bM O O hszA hsa dR<|kas O<|aB<|rgN<|kmv O<|K.quo O O (by decide) hdiv dR<|kas O<|aB ?_)
        exact ⟨m/10+0,⟨[(0,Ln .i64 (sgn (decide (v<0)) (m/10))),(3,Ls (b::s)),(4,Lb (decide (v<0)))],[],X⟩,hless,Le.of (by exact ⟨O,O,O,trivial⟩) (by exact trivial) (by exact O) (by exact O) (by repeat' (first|refine bT ?_ ?_|rfl|exact bV|exact bU|exact bW O)),m/10,b::s,by omega,hst,O,O⟩
      · subst hs2
        (refine aA<|aA<|rgN<|kmv O<|kse O O (strs_eq (r:=true) hc1)<|kmv O<|aC O O O<|aC O O O<|kpt O O<|aB<|aE O ?_;refine aH ?_;refine aG<|aA<|rgN<|kmv O<|K.rem O O (by decide) hmod dR<|kas O<|aB<|aA<|aA<|rgN<|kmv O<|klt O O (cO hs1)<|aB<|aF O ?_;refine aH ?_;refine aA<|rgN<|kmv O<|kad O O hadd<|kcv O hcv ?_;refine aZ (zs:=[.int .u8 0]) (sz:=1) (e:=5) (cs':=[b].map bc) (by kernel_rfl) O O O O O O dR<|bS (l:=[b]) O O (by kernel_rfl) StrT.u (dN _) hcut dR<|kmv O<|bM O O hszA hsa dR<|kas O<|aB<|rgN<|kmv O<|K.quo O O (by decide) hdiv dR<|kas O<|aB ?_)
        exact ⟨m/10+0,⟨[(0,Ln .i64 (sgn (decide (v<0)) (m/10))),(3,Ls (b::s)),(4,Lb (decide (v<0)))],[],X⟩,hless,Le.of (by exact ⟨O,O,O,trivial⟩) (by exact trivial) (by exact O) (by exact O) (by repeat' (first|refine bT ?_ ?_|rfl|exact bV|exact bU|exact bW O)),m/10,b::s,by omega,hst,O,O⟩
    · rcases hsg with ⟨hs1,hs2⟩|⟨hs1,hs2⟩
      · rw [hs2] at hn
        (refine aA<|aA<|rgN<|kmv O<|kse O O (strs_eq (r:=false) hc1)<|kmv O<|gmv O O O<|aX O O hc2 (dS O O) ?_;refine kpf O O<|aB<|aE O ?_;refine aH ?_;refine aG<|aA<|rgN<|kmv O<|K.rem O O (by decide) hmod dR<|kas O<|aB<|aA<|aA<|rgN<|kmv O<|klt O O (cP hs1)<|aB<|aE O ?_;refine rgN<|kmv O<|K.neg O hn dR<|kas O<|aB<|aA<|rgN<|kmv O<|kad O O hadd<|kcv O hcv ?_;refine aZ (zs:=[.int .u8 0]) (sz:=1) (e:=5) (cs':=[b].map bc) (by kernel_rfl) O O O O O O dR<|bS (l:=[b]) O O (by kernel_rfl) StrT.u (dN _) hcut dR<|kmv O<|bM O O hszA hsa dR<|kas O<|aB<|rgN<|kmv O<|K.quo O O (by decide) hdiv dR<|kas O<|aB ?_)
        exact ⟨m/10+0,⟨[(0,Ln .i64 (sgn (decide (v<0)) (m/10))),(3,Ls (b::s)),(4,Lb (decide (v<0)))],[],X⟩,hless,Le.of (by exact ⟨O,O,O,trivial⟩) (by exact trivial) (by exact O) (by exact O) (by repeat' (first|refine bT ?_ ?_|rfl|exact bV|exact bU|exact bW O)),m/10,b::s,by omega,hst,O,O⟩
      · subst hs2
        (refine aA<|aA<|rgN<|kmv O<|kse O O (strs_eq (r:=false) hc1)<|kmv O<|gmv O O O<|aX O O hc2 (dS O O) ?_;refine kpf O O<|aB<|aE O ?_;refine aH ?_;refine aG<|aA<|rgN<|kmv O<|K.rem O O (by decide) hmod dR<|kas O<|aB<|aA<|aA<|rgN<|kmv O<|klt O O (cO hs1)<|aB<|aF O ?_;refine aH ?_;refine aA<|rgN<|kmv O<|kad O O hadd<|kcv O hcv ?_;refine aZ (zs:=[.int .u8 0]) (sz:=1) (e:=5) (cs':=[b].map bc) (by kernel_rfl) O O O O O O dR<|bS (l:=[b]) O O (by kernel_rfl) StrT.u (dN _) hcut dR<|kmv O<|bM O O hszA hsa dR<|kas O<|aB<|rgN<|kmv O<|K.quo O O (by decide) hdiv dR<|kas O<|aB ?_)
        exact ⟨m/10+0,⟨[(0,Ln .i64 (sgn (decide (v<0)) (m/10))),(3,Ls (b::s)),(4,Lb (decide (v<0)))],[],X⟩,hless,Le.of (by exact ⟨O,O,O,trivial⟩) (by exact trivial) (by exact O) (by exact O) (by repeat' (first|refine bT ?_ ?_|rfl|exact bV|exact bU|exact bW O)),m/10,b::s,by omega,hst,O,O⟩
end Go.Proofs.YtamplgnbbanamaaGreatDoor
end
section
namespace Go.Proofs.YtamplgnbbanamaaGreatDoor
open Go Go.Lg Go.Lg.Fml
abbrev Nm:=Bool×Int
def gd (n:Nm):Bool:=formB n.1 n.2
def zz (n:Nm):Int:=zv n.1 n.2
def okI (x:Ins):Bool:=(decide (1≤x.op)&&decide (x.op≤17))&&(gd x.k&&((decide (0≤x.a)&&decide (x.a≤7))&&(decide (0≤x.b)&&decide (x.b≤7))))
theorem okI_facts {x:Ins} (h:okI x=true):(1≤x.op∧x.op≤17)∧gd x.k=true∧(0≤x.a∧x.a≤7)∧(0≤x.b∧x.b≤7):=by
  unfold okI at h
  simp only [Bool.and_eq_true,decide_eq_true_eq] at h
  exact ⟨h.1,h.2.1,h.2.2.1,h.2.2.2⟩
def chkX (l:List Ins):Int:=if 64<l.length then 5 else if dep okI 0 l=some 1 then 0 else 4
theorem chkX_zero {l:List Ins} (h:chkX l=0):l.length≤64∧dep okI 0 l=some 1:=by
  unfold chkX at h
  split at h
  · cases h
  · split at h
    · rename_i h1 h2;exact ⟨by omega,h2⟩
    · cases h
theorem dep_ok {okJ:Ins→Bool}:∀ {l:List Ins} {n m:Nat},dep okJ n l=some m→∀ x∈l,okJ x=true
  | [],_,_,_,x,hx=>by cases hx
  | y::l,n,m,h,x,hx=>by
    simp only [dep] at h
    split at h
    · rename_i h1
      rcases List.mem_cons.1 hx with rfl|hx
      · exact h1.1
      · exact dep_ok h x hx
    · cases h
theorem chkX_ok {l:List Ins} (h:chkX l=0):∀ x∈l,okI x=true:=dep_ok (chkX_zero h).2
def truth (b:Bool):Nm:=(false,if b then 1 else 0)
def elemX (fs:List (List Nm)) (a b:Int):Except Int Nm:=
  if a<0∨b<0 then .error 3 else match fs[a.toNat]? with
    | none=>.error 3
    | some r=>match r[b.toNat]? with
      | none=>.error 3
      | some v=>.ok v
def leafX (fs:List (List Nm)) (at_:Int) (x:Ins):Except Int Nm:=
  if x.op=1 then .ok x.k else if x.op=4 then (if at_<0 then .error 3 else .ok (false,at_)) else elemX fs x.a (if x.op=3 then at_ else x.b)
def arith (op x y:Int):Int:=if op=5 then x+y else if op=6 then x-y else if op=7 then x*y else if op=8 then x.tdiv y else x.tmod y
instance decR127 (z:Int):Decidable (R127 z):=by unfold R127;exact inferInstance
def doX (op:Int) (x y:Nm):Except Int Nm:=
  if (gd x&&gd y)=false then .error 1 else if 7<op∧zz y=0 then .error 1 else if R127 (arith op (zz x) (zz y)) then .ok (qn (arith op (zz x) (zz y))) else .error 3
def nodeX (op:Int):List Nm→Except Int Nm
  | [x]=>if gd x=false then .error 1 else if op=10 then .ok (qn (-(zz x))) else .ok (truth (decide (x=(false,0))))
  | [x,y]=>if 5≤op∧op≤9 then doX op x y
    else if op=17 then (if gd y=false then .error 1 else if y=(false,0) then .error 9 else .ok x)
    else if (gd x&&gd y)=false then .error 1
    else if op=11 then .ok (if zz y<zz x then y else x)
    else if op=12 then .ok (if zz x<zz y then y else x)
    else if op=13 then .ok (truth (decide (x=y)))
    else .ok (truth (decide (zz x<zz y)))
  | [x,y,z]=>if gd x=false then .error 1 else .ok (if x=(false,0) then z else y)
  | _=>.error 0
def oneX (fs:List (List Nm)) (at_:Int) (x:Ins) (a:List Nm):Except Int Nm:=if takes x.op=0 then leafX fs at_ x else nodeX x.op a
def dg1 (n:Int):List UInt8:=Lib.itoa n
def wordX (op:Int):List UInt8:=
  if op=5 then [97,100,100] else if op=6 then [115,117,98] else if op=7 then [109,117,108] else if op=8 then [113,117,111] else if op=9 then [114,101,109]
  else if op=10 then [110,101,103] else if op=11 then [108,101,97,115,116] else if op=12 then [103,114,101,97,116] else if op=13 then [115,97,109,101]
  else if op=14 then [108,101,115,115] else if op=15 then [110,111,116] else if op=16 then [112,105,99,107] else [110,101,101,100]
def leafS (x:Ins):List UInt8:=
  if x.op=1 then textQ (zz x.k) else if x.op=2 then ([102]++dg1 x.a)++([46]++dg1 x.b) else if x.op=3 then ([102]++dg1 x.a)++[64] else [64]
def joinS:List (List UInt8)→List UInt8
  | []=>[]
  | [a]=>a
  | a::b::t=>(a++[44])++joinS (b::t)
def oneS (x:Ins) (a:List (List UInt8)):Except Int (List UInt8):=.ok (if takes x.op=0 then leafS x else ((wordX x.op++[40])++joinS a)++[41])
def showX (l:List Ins):List UInt8:=if chkX l=0 then (match run oneS l [] with | .ok [s]=>s|_=>[]) else []
def Tr.txt (t:Tr):List UInt8:=match t.ev oneS with | .ok s=>s | .error _=>[]
theorem ev_txt:∀ t:Tr,t.ev oneS = .ok (Tr.txt t)
  | .n0 x=>rfl
  | .n1 x a=>by unfold Tr.txt;simp only [Tr.ev,ev_txt a];rfl
  | .n2 x a b=>by unfold Tr.txt;simp only [Tr.ev,ev_txt a,ev_txt b];rfl
  | .n3 x a b c=>by unfold Tr.txt;simp only [Tr.ev,ev_txt a,ev_txt b,ev_txt c];rfl
theorem showX_tree {l:List Ins} {t:Tr} (h:chkX l=0) (ht:t.ok) (hl:t.flat=l):showX l=Tr.txt t:=by
  unfold showX
  rw [if_pos h,← hl,← dJ t.flat,run_flat ht,ev_txt t]
  rfl
theorem doX_bad {op:Int} {x y:Nm} (h:(gd x&&gd y)=false):doX op x y = .error 1:=if_pos h
end Go.Proofs.YtamplgnbbanamaaGreatDoor
end
section
namespace Go.Proofs.YtamplgnbbanamaaGreatDoor
open Go Go.Lg Go.Lg.Fml Go.Lg.Fld
def o8 (n:Int):UInt8:=UInt8.ofNat (n%256).toNat
theorem o8_nat {n:Int} (h:0≤n∧n<256):((o8 n).toNat:Int)=n:=by
  unfold o8
  rw [UInt8.toNat_ofNat']
  omega
theorem o8_of (c:UInt8):o8 (c.toNat:Nat)=c:=by
  have h:c.toNat<256:=c.toNat_lt
  apply UInt8.toNat_inj.1
  unfold o8
  rw [UInt8.toNat_ofNat']
  omega
def loW (n:Int):Nat:=(n%18446744073709551616).toNat
def hiW (n:Int):Nat:=(n/18446744073709551616).toNat
def sgB (b:Bool):UInt8:=if b then 1 else 0
def encI (x:Ins):List UInt8:=o8 x.op::(if x.op=1 then sgB x.k.1::(leB 8 (loW x.k.2)++leB 8 (hiW x.k.2)) else if x.op=2 then [o8 x.a,o8 x.b] else if x.op=3 then [o8 x.a] else [])
def encIs:List Ins→List UInt8
  | []=>[]
  | x::t=>encI x++encIs t
theorem encIs_app:∀ (a b:List Ins),encIs (a++b)=encIs a++encIs b
  | [],_=>rfl
  | x::t,b=>by simp only [List.cons_append,encIs,encIs_app t b,List.append_assoc]
def plainI (x:Ins):Bool:=(decide (x.op=1)||decide (x.k=(false,0)))&&((decide (x.op=2)||decide (x.b=0))&&(decide (x.op=2)||(decide (x.op=3)||decide (x.a=0))))
def encX (l:List Ins):List UInt8:=o8 (l.length:Nat)::encIs l
def encErr (l:List Ins):Int:=if chkX l=0 then (if l.all plainI=true then 0 else 1) else chkX l
def encTX (l:List Ins):List UInt8:=if encErr l=0 then encX l else []
def getI:List UInt8→Option (Ins×List UInt8)
  | []=>none
  | o::r=>if o.toNat=1 then (match r with
      | []=>none
      | s::r=>if s.toNat≤1∧16≤r.length then some (⟨1,0,0,(decide (s.toNat=1),((le (r.take 8)+18446744073709551616*le ((r.drop 8).take 8):Nat):Int))⟩,r.drop 16) else none)
    else if o.toNat=2 then (match r with
      | a::b::r=>some (⟨2,(a.toNat:Nat),(b.toNat:Nat),(false,0)⟩,r)
      | _=>none)
    else if o.toNat=3 then (match r with
      | a::r=>some (⟨3,(a.toNat:Nat),0,(false,0)⟩,r)
      | _=>none)
    else some (⟨(o.toNat:Nat),0,0,(false,0)⟩,r)
def getIs:Nat→List UInt8→Option (List Ins×List UInt8)
  | 0,b=>some ([],b)
  | n+1,b=>match getI b with
    | some (x,r)=>match getIs n r with
      | some (l,r')=>some (x::l,r')
      | none=>none
    | none=>none
def decX:List UInt8→Option (List Ins)
  | []=>none
  | n::r=>match getIs n.toNat r with
    | some (l,[])=>if chkX l=0 then some l else none
    | _=>none
def okB (x:Ins):Prop:=(0≤x.op∧x.op<256)∧(0≤x.a∧x.a<256)∧(0≤x.b∧x.b<256)∧In2 x.k.2∧plainI x=true
theorem words {n:Int} (h:In2 n):((loW n+18446744073709551616*hiW n:Nat):Int)=n∧loW n<256^8∧hiW n<256^8:=by
  have hp:(256:Nat)^8=18446744073709551616:=by decide
  unfold In2 at h
  unfold loW hiW
  omega
theorem plain_facts {x:Ins} (h:plainI x=true):(x.op=1∨x.k=(false,0))∧(x.op=2∨x.b=0)∧(x.op=2∨x.op=3∨x.a=0):=by
  unfold plainI at h
  simp only [Bool.and_eq_true,Bool.or_eq_true,decide_eq_true_eq] at h
  exact h
theorem cut16 {A B r:List UInt8} (hA:A.length=8) (hB:B.length=8):(A++B++r).take 8=A∧((A++B++r).drop 8).take 8=B∧(A++B++r).drop 16=r:=by
  have h16:16=(A++B).length:=by rw [List.length_append,hA,hB]
  refine ⟨?_,?_,?_⟩
  · rw [← hA,List.append_assoc,List.take_left]
  · rw [List.append_assoc,← hA,List.drop_left,hA,← hB,List.take_left]
  · rw [h16,List.drop_left]
theorem getI_enc {x:Ins} (h:okB x) (r:List UInt8):getI (encI x++r)=some (x,r):=by
  obtain ⟨h1,h2,h3,h4,h5⟩:=h
  obtain ⟨p1,p2,p3⟩:=plain_facts h5
  obtain ⟨op,a,b,k⟩:=x
  simp only at h1 h2 h3 h4 p1 p2 p3
  have ho:=o8_nat h1
  unfold encI getI
  simp only [List.cons_append]
  by_cases e1:op=1
  · rw [if_pos (by omega),if_pos e1]
    obtain ⟨w1,w2,w3⟩:=words h4
    have hs:(sgB k.1).toNat≤1∧decide ((sgB k.1).toNat=1)=k.1:=by cases k.1<;>decide
    have hl8:(leB 8 (loW k.2)).length=8:=leB_length _ _
    have hh8:(leB 8 (hiW k.2)).length=8:=leB_length _ _
    simp only [List.cons_append]
    obtain ⟨e8,e9,e10⟩:=cut16 (r:=r) hl8 hh8
    rw [if_pos ⟨hs.1,by simp only [List.length_append,hl8,hh8];omega⟩,e8,e9,e10,le_leB _ _ w2,le_leB _ _ w3,w1,hs.2]
    have hb0:b=0:=by omega
    have ha0:a=0:=by omega
    subst e1 hb0 ha0
    rfl
  · rw [if_neg (by omega),if_neg e1]
    have hk : k = (false, 0) := by rcases p1 with h | h
                                   · exact absurd h e1
                                   · exact h
    subst hk
    by_cases e2:op=2
    · rw [if_pos (by omega),if_pos e2]
      simp only [List.cons_append,List.nil_append]
      rw [o8_nat h2,o8_nat h3,e2]
    · rw [if_neg (by omega),if_neg e2]
      have hb0:b=0:=by omega
      subst hb0
      by_cases e3:op=3
      · rw [if_pos (by omega),if_pos e3]
        simp only [List.cons_append,List.nil_append]
        rw [o8_nat h2,e3]
      · rw [if_neg (by omega),if_neg e3]
        have ha0:a=0:=by omega
        subst ha0
        simp only [List.nil_append]
        rw [ho]
theorem getIs_enc:∀ {l:List Ins},(∀ x∈l,okB x)→∀ r:List UInt8,getIs l.length (encIs l++r)=some (l,r)
  | [],_,_=>rfl
  | x::t,h,r=>by
    simp only [List.length_cons,getIs,encIs,List.append_assoc]
    rw [getI_enc (h x (by simp))]
    simp only
    rw [getIs_enc (l:=t) fun g hg=>h g (by simp [hg])]
theorem getI_back {b r:List UInt8} {x:Ins} (h:getI b=some (x,r)):b=encI x++r∧okB x:=by
  unfold getI at h
  split at h
  · cases h
  · rename_i o r0
    have ho:=o.toNat_lt
    split at h
    · rename_i e1
      split at h
      · cases h
      · rename_i s r1
        split at h
        · rename_i hc
          simp only [Option.some.injEq,Prod.mk.injEq] at h
          obtain ⟨rfl,rfl⟩:=h
          have hp:(256:Nat)^8=18446744073709551616:=by decide
          have l1:(r1.take 8).length=8:=by rw [List.length_take];omega
          have l2:((r1.drop 8).take 8).length=8:=by rw [List.length_take,List.length_drop];omega
          have b1:=le_lt (r1.take 8)
          have b2:=le_lt ((r1.drop 8).take 8)
          rw [l1,hp] at b1
          rw [l2,hp] at b2
          have w1:loW ((le (r1.take 8)+18446744073709551616*le ((r1.drop 8).take 8):Nat):Int)=le (r1.take 8):=by unfold loW;omega
          have w2:hiW ((le (r1.take 8)+18446744073709551616*le ((r1.drop 8).take 8):Nat):Int)=le ((r1.drop 8).take 8):=by unfold hiW;omega
          have v1:=leB_of (r1.take 8)
          have v2:=leB_of ((r1.drop 8).take 8)
          rw [l1] at v1
          rw [l2] at v2
          have ho1:o=1:=UInt8.toNat_inj.1 e1
          have hs:s=sgB (decide (s.toNat=1)):=by
            by_cases hs1:s.toNat=1
            · rw [decide_eq_true hs1];exact UInt8.toNat_inj.1 hs1
            · rw [decide_eq_false hs1];exact UInt8.toNat_inj.1 (by show s.toNat=0;omega)
          refine ⟨?_,⟨by simp only;omega,by simp only;omega⟩,⟨by simp only;omega,by simp only;omega⟩,⟨by simp only;omega,by simp only;omega⟩,?_,by simp [plainI]⟩
          · unfold encI
            simp only
            rw [if_pos trivial,w1,w2,v1,v2,← hs,ho1]
            simp only [List.cons_append,List.append_assoc]
            have:r1.take 8++((r1.drop 8).take 8++r1.drop 16)=r1:=by
              rw [show r1.drop 16=(r1.drop 8).drop 8 by rw [List.drop_drop],List.take_append_drop,List.take_append_drop]
            rw [this]
            rfl
          · unfold In2;simp only;omega
        · cases h
    · rename_i e1
      split at h
      · rename_i e2
        split at h
        · rename_i a b r1
          simp only [Option.some.injEq,Prod.mk.injEq] at h
          obtain ⟨rfl,rfl⟩:=h
          have ha:=a.toNat_lt
          have hb:=b.toNat_lt
          have ho1:o=2:=UInt8.toNat_inj.1 e2
          refine ⟨?_,⟨by simp only;omega,by simp only;omega⟩,⟨by simp only;omega,by simp only;omega⟩,⟨by simp only;omega,by simp only;omega⟩,⟨by simp only;omega,by simp only;omega⟩,by simp [plainI]⟩
          unfold encI
          simp only
          rw [if_neg (by decide),if_pos trivial,o8_of,o8_of,ho1]
          rfl
        · cases h
      · rename_i e2
        split at h
        · rename_i e3
          split at h
          · rename_i a r1
            simp only [Option.some.injEq,Prod.mk.injEq] at h
            obtain ⟨rfl,rfl⟩:=h
            have ha:=a.toNat_lt
            have ho1:o=3:=UInt8.toNat_inj.1 e3
            refine ⟨?_,⟨by simp only;omega,by simp only;omega⟩,⟨by simp only;omega,by simp only;omega⟩,⟨by simp only;omega,by simp only;omega⟩,⟨by simp only;omega,by simp only;omega⟩,by simp [plainI]⟩
            unfold encI
            simp only
            rw [if_neg (by decide),if_neg (by decide),if_pos trivial,o8_of,ho1]
            rfl
          · cases h
        · rename_i e3
          simp only [Option.some.injEq,Prod.mk.injEq] at h
          obtain ⟨rfl,rfl⟩:=h
          refine ⟨?_,⟨by simp only;omega,by simp only;omega⟩,⟨by simp only;omega,by simp only;omega⟩,⟨by simp only;omega,by simp only;omega⟩,⟨by show (0:Int)≤0;decide,by show (0:Int)<340282366920938463463374607431768211456;decide⟩,by simp [plainI]⟩
          unfold encI
          simp only
          rw [if_neg (by omega),if_neg (by omega),if_neg (by omega),o8_of]
          rfl
theorem getIs_back:∀ {n:Nat} {b r:List UInt8} {l:List Ins},getIs n b=some (l,r)→b=encIs l++r∧l.length=n∧∀ x∈l,okB x
  | 0,b,r,fs,h=>by
    simp only [getIs,Option.some.injEq,Prod.mk.injEq] at h
    obtain ⟨rfl,rfl⟩:=h
    exact ⟨rfl,rfl,fun f hf=>by cases hf⟩
  | n+1,b,r,fs,h=>by
    unfold getIs at h
    split at h
    · rename_i f r1 hf
      split at h
      · rename_i gs r2 hg
        simp only [Option.some.injEq,Prod.mk.injEq] at h
        obtain ⟨rfl,rfl⟩:=h
        obtain ⟨h1,h2⟩:=getI_back hf
        obtain ⟨h3,h4,h5⟩:=getIs_back hg
        refine ⟨by rw [h1,h3,encIs,List.append_assoc],by rw [List.length_cons,h4],fun g hg => ?_⟩
        rcases List.mem_cons.1 hg with rfl|hg
        · exact h2
        · exact h5 g hg
      · cases h
    · cases h
theorem okB_of {l:List Ins} (h:encErr l=0) (hi:∀ x∈l,In2 x.k.2):chkX l=0∧∀ x∈l,okB x:=by
  unfold encErr at h
  by_cases hz:chkX l=0
  · rw [if_pos hz] at h
    by_cases hp:l.all plainI=true
    · refine ⟨hz,fun x hx => ?_⟩
      obtain ⟨h1,_,h3,h4⟩:=okI_facts (chkX_ok hz x hx)
      exact ⟨by omega,by omega,by omega,hi x hx,List.all_eq_true.1 hp x hx⟩
    · rw [if_neg hp] at h;cases h
  · rw [if_neg hz] at h;exact absurd h hz
theorem decX_enc {l:List Ins} (h:encErr l=0) (hi:∀ x∈l,In2 x.k.2):decX (encX l)=some l:=by
  obtain ⟨hz,hb⟩:=okB_of h hi
  have e:(o8 (l.length:Nat)).toNat=l.length:=by
    have:=o8_nat (n:=(l.length:Nat)) ⟨by omega,by have:=(chkX_zero hz).1;omega⟩
    omega
  have hg:=getIs_enc hb []
  rw [List.append_nil] at hg
  simp only [decX,encX,e,hg]
  rw [if_pos hz]
theorem encX_dec {b:List UInt8} {l:List Ins} (h:decX b=some l):encX l=b∧encErr l=0∧chkX l=0∧∀ x∈l,okB x:=by
  unfold decX at h
  split at h
  · cases h
  · rename_i n r
    split at h
    · rename_i l' hg
      split at h
      · rename_i hz
        simp only [Option.some.injEq] at h
        subst h
        obtain ⟨h1,h2,h3⟩:=getIs_back hg
        refine ⟨?_,?_,hz,h3⟩
        · unfold encX
          rw [h2,o8_of,h1,List.append_nil]
        · unfold encErr
          rw [if_pos hz,if_pos (List.all_eq_true.2 fun x hx=>(h3 x hx).2.2.2.2)]
      · cases h
    · cases h
theorem encI_len (x:Ins):1≤(encI x).length∧(encI x).length≤18:=by
  unfold encI
  split
  · simp only [List.length_cons,List.length_append,leB_length];omega
  · split
    · simp
    · split<;>simp
theorem encIs_len:∀ l:List Ins,(encIs l).length≤l.length*18
  | []=>by simp [encIs]
  | x::t=>by have:=(encI_len x).2;have:=encIs_len t;simp only [encIs,List.length_append,List.length_cons];omega
end Go.Proofs.YtamplgnbbanamaaGreatDoor
end
section
namespace Go.Lg.Fml
def Tr.args:Tr→List Tr
  | .n0 _=>[]
  | .n1 _ a=>[a]
  | .n2 _ a b=>[a,b]
  | .n3 _ a b c=>[a,b,c]
def flatL:List Tr→List Ins
  | []=>[]
  | a::r=>a.flat++flatL r
def endsL (p:Nat):List Tr→List Nat
  | []=>[]
  | a::r=>(p+a.flat.length-1)::endsL (p+a.flat.length) r
theorem flat_args (t:Tr):t.flat=flatL t.args++[t.top]:=by
  cases t<;>simp [Tr.flat,Tr.args,flatL,Tr.top]
theorem ok_args {t:Tr} (h:t.ok):takes t.top.op=t.args.length∧∀ a∈t.args,a.ok:=by
  cases t with
  | n0 x=>exact ⟨h,fun a ha=>by cases ha⟩
  | n1 x a=>exact ⟨h.1,fun u hu=>by simp only [Tr.args,List.mem_cons,List.not_mem_nil,or_false] at hu;subst hu;exact h.2⟩
  | n2 x a b=>exact ⟨h.1,fun u hu=>by
      simp only [Tr.args,List.mem_cons,List.not_mem_nil,or_false] at hu
      rcases hu with rfl|rfl
      · exact h.2.1
      · exact h.2.2⟩
  | n3 x a b c=>exact ⟨h.1,fun u hu=>by
      simp only [Tr.args,List.mem_cons,List.not_mem_nil,or_false] at hu
      rcases hu with rfl|rfl|rfl
      · exact h.2.1
      · exact h.2.2.1
      · exact h.2.2.2⟩
theorem args_le (t:Tr):t.args.length≤3:=by cases t<;>simp [Tr.args]
theorem flatL_app:∀ (a b:List Tr),flatL (a++b)=flatL a++flatL b
  | [],b=>rfl
  | x::a,b=>by simp only [List.cons_append,flatL,flatL_app a b,List.append_assoc]
theorem endsL_app:∀ (a b:List Tr) (p:Nat),endsL p (a++b)=endsL p a++endsL (p+(flatL a).length) b
  | [],b,p=>by simp [endsL,flatL]
  | x::a,b,p=>by simp only [List.cons_append,endsL,flatL,endsL_app a b,List.length_append];rw [Nat.add_assoc]
theorem endsL_len:∀ (us:List Tr) (p:Nat),(endsL p us).length=us.length
  | [],_=>rfl
  | a::r,p=>by simp only [endsL,List.length_cons,endsL_len r]
section
variable {V:Type} (one:Ins→List V→Except Int V)
def evL:List Tr→Except Int (List V)
  | []=>.ok []
  | a::r=>match a.ev one with
    | .error e=>.error e
    | .ok u=>match evL r with
      | .error e=>.error e
      | .ok vs=>.ok (u::vs)
variable {one}
theorem ev_args (t:Tr):t.ev one=match evL one t.args with | .error e=>.error e | .ok vs=>one t.top vs:=by
  cases t with
  | n0 x=>rfl
  | n1 x a =>
    simp only [Tr.ev,Tr.args,evL,Tr.top]
    cases a.ev one<;>rfl
  | n2 x a b =>
    simp only [Tr.ev,Tr.args,evL,Tr.top]
    cases a.ev one with
    | error e=>rfl
    | ok u=>cases b.ev one<;>rfl
  | n3 x a b c =>
    simp only [Tr.ev,Tr.args,evL,Tr.top]
    cases a.ev one with
    | error e=>rfl
    | ok u=>cases b.ev one with
      | error e=>rfl
      | ok v=>cases c.ev one<;>rfl
end
def At (l:List Ins) (p:Nat) (t:Tr):Prop := ∃ pre suf,l=pre++(t.flat++suf)∧pre.length=p
theorem At.len {l:List Ins} {p:Nat} {t:Tr} (h:At l p t):p+t.flat.length≤l.length:=by
  obtain ⟨pre,suf,rfl,rfl⟩:=h
  simp only [List.length_append];omega
theorem At.get {l:List Ins} {p:Nat} {t:Tr} (h:At l p t) {k:Nat} (hk:k<t.flat.length):l[p+k]? = t.flat[k]? := by
  obtain ⟨pre,suf,rfl,rfl⟩:=h
  rw [List.getElem?_append_right (by omega),Nat.add_sub_cancel_left,List.getElem?_append_left hk]
theorem At.top {l:List Ins} {p:Nat} {t:Tr} (h:At l p t):l[p+t.flat.length-1]? = some t.top:=by
  obtain ⟨r,hr⟩:=flat_top t
  have hl:t.flat.length=r.length+1:=by rw [hr];simp
  have:=h.get (k:=r.length) (by omega)
  rw [show p+t.flat.length-1=p+r.length by omega,this,hr,List.getElem?_append_right (Nat.le_refl _),Nat.sub_self]
  rfl
theorem At.arg {l:List Ins} {p:Nat} {t:Tr} (h:At l p t) {i:Nat} {a:Tr} (ha:t.args[i]? = some a):At l (p+(flatL (t.args.take i)).length) a∧(endsL p t.args)[i]? = some (p+(flatL (t.args.take i)).length+a.flat.length-1):=by
  have hsp:t.args=t.args.take i++a::t.args.drop (i+1):=by
    obtain ⟨hi,e⟩:=List.getElem?_eq_some_iff.1 ha
    rw [← e,List.getElem_cons_drop,List.take_append_drop]
  have hil:(t.args.take i).length=i:=by rw [List.length_take];have:=(List.getElem?_eq_some_iff.1 ha).1;omega
  refine ⟨?_,?_⟩
  · obtain ⟨pre,suf,rfl,rfl⟩:=h
    refine ⟨pre++flatL (t.args.take i),flatL (t.args.drop (i+1))++([t.top]++suf),?_,by rw [List.length_append]⟩
    rw [flat_args t]
    conv=>lhs;rw [hsp]
    rw [flatL_app]
    simp only [flatL,List.append_assoc]
  · conv=>lhs;rw [hsp]
    rw [endsL_app,List.getElem?_append_right (by rw [endsL_len,hil];exact Nat.le_refl _),endsL_len,hil,Nat.sub_self]
    rfl
theorem back_step {t:Tr} (ht:t.ok) {k:Nat} {x:Ins} (hx:t.flat[k]? = some x):1+surplus (t.flat.drop k)=(1+surplus (t.flat.drop (k+1)))-1+(takes x.op:Int)∧(k=0→1+surplus (t.flat.drop k)=0)∧(k≠0→1≤1+surplus (t.flat.drop k)):=by
  obtain ⟨hk,e⟩:=List.getElem?_eq_some_iff.1 hx
  have h1:t.flat.drop k=x::t.flat.drop (k+1):=by rw [List.drop_eq_getElem_cons hk,e]
  refine ⟨?_,fun h0 => ?_,fun h0 => ?_⟩
  · rw [h1];simp only [surplus];omega
  · subst h0;rw [List.drop_zero,flat_sum ht];decide
  · have:=flat_back ht (t.flat.take k) (t.flat.drop k) (List.take_append_drop _ _).symm (fun h=>h0 (by have:=congrArg List.length h;rw [List.length_take,List.length_nil] at this;omega))
    omega
end Go.Lg.Fml
end
section
namespace Go.Proofs.YtamplgnbbanamaaGreatDoor
open Go Go.Lg Go.Lg.Fml Go.Lg.Fld
def insV (x:Ins):List Value:=[.int .i64 x.op,.int .i64 x.a,.int .i64 x.b,.bool x.k.1,.int .u64 (x.k.2/18446744073709551616),.int .u64 (x.k.2%18446744073709551616)]
def smallI (x:Ins):Prop:=(-9223372036854775808≤x.op∧x.op<9223372036854775808)∧(-9223372036854775808≤x.a∧x.a<9223372036854775808)∧(-9223372036854775808≤x.b∧x.b<9223372036854775808)∧In2 x.k.2
structure InsIn (X:Nat→Option Obj) (ad:Option Addr) (l:List Ins):Prop where
  rows:Go.Lg.RowsIn X ad 6 (l.map insV)
  small:∀ x∈l,smallI x
theorem InsIn.mono {X Y:Nat→Option Obj} (hXY:∀ b o,X b=some o→Y b=some o) {ad:Option Addr} {l:List Ins} (h:InsIn X ad l):InsIn Y ad l:=⟨h.rows.mono hXY,h.small⟩
theorem InsIn.at {X:Nat→Option Obj} {ad:Option Addr} {l:List Ins} (h:InsIn X ad l) {i:Nat} {x:Ins} (hx:l[i]? = some x):
    ∃ (blk off:Nat) (arr:Array Value) (el:TypeId) (fr:Nat×Nat),ad=some ⟨blk,off,none⟩∧X blk=some (.cells arr el fr)∧off+i*6+6≤arr.size∧((arr.toList.drop (off+i*6)).take 6).map CV.val=(insV x).map CV.val∧arr[off+i*6]? = some (.int .i64 x.op):=by
  obtain ⟨blk,off,arr,el,fr,h1,h2,h3,h4⟩:=h.rows i (insV x) (by rw [dL,hx];rfl)
  refine ⟨blk,off,arr,el,fr,h1,h2,h3,by rw [h4],?_⟩
  have h5:((arr.toList.drop (off+i*6)).take 6)[0]? = some (.int .i64 x.op):=by rw [h4];rfl
  rw [List.getElem?_take,if_pos (by decide),List.getElem?_drop,Nat.add_zero,Array.getElem?_toList] at h5
  exact h5
structure FssIn (X:Nat→Option Obj) (ad:Option Addr) (fss:List (List Nm)):Prop where
  at_:∀ (i:Nat) (r:List Nm),fss[i]? = some r→∃ (blk off:Nat) (arr:Array Value) (el:TypeId) (fr:Nat×Nat) (vad:Option Addr) (vcap:Nat),ad=some ⟨blk,off,none⟩∧X blk=some (.cells arr el fr)∧off+i*1+1≤arr.size∧arr[off+i]? = some (.slice vad r.length vcap)∧NumsIn X vad r
abbrev LIn (x:Ins):LV:=.sv (.agg ((insV x).map .val))
abbrev LEnv (fad:Option Addr) (n cap:Nat) (at_:Int):LV:=.sv (.agg [.val (.slice fad n cap),.val (.int .i64 at_)])
end Go.Proofs.YtamplgnbbanamaaGreatDoor
end
section
namespace Go.Proofs.YtamplgnbbanamaaGreatDoor
open Go Go.Lg Go.Lg.Fml Go.Lg.Fld
structure Rl where
  nw:Int
  old:Int
  ex:List (List Ins)
  deriving DecidableEq
structure Pg where
  va:Int
  vb:Int
  rs:List Rl
  deriving DecidableEq
def firstX:List (List Ins)→Int
  | []=>0
  | c::t=>if encErr c=0 then firstX t else encErr c
def chkR (r:Rl) (last:Int):Int:=if r.nw<1∨24<r.nw∨r.old<0∨24<r.old∨r.nw≤last then 1 else if r.old=0∧r.ex≠[] then 4 else if 8<r.ex.length then 5 else firstX r.ex
def chkRs:Int→List Rl→Int
  | _,[]=>0
  | last,r::t=>if chkR r last=0 then chkRs r.nw t else chkR r last
def verOk (n:Int):Bool:=decide (1≤n)&&decide (n≤1073741824)
def chkP (p:Pg):Int:=if (verOk p.va&&verOk p.vb)=true then chkRs 0 p.rs else 1
theorem firstX_zero:∀ {l:List (List Ins)},firstX l=0→∀ c∈l,encErr c=0
  | [],_,c,hc=>by cases hc
  | d::t,h,c,hc=>by
    unfold firstX at h
    by_cases e:encErr d=0
    · rw [if_pos e] at h
      rcases List.mem_cons.1 hc with rfl|hc
      · exact e
      · exact firstX_zero h c hc
    · rw [if_neg e] at h;exact absurd h e
theorem chkR_zero {r:Rl} {last:Int} (h:chkR r last=0):(1≤r.nw∧r.nw≤24)∧(0≤r.old∧r.old≤24)∧last<r.nw∧(r.old=0→r.ex=[])∧r.ex.length≤8∧firstX r.ex=0:=by
  unfold chkR at h
  split at h
  · cases h
  · rename_i h1
    split at h
    · cases h
    · rename_i h2
      split at h
      · cases h
      · rename_i h3
        refine ⟨by omega,by omega,by omega,fun e => ?_,by omega,h⟩
        by_cases hx:r.ex=[]
        · exact hx
        · exact absurd ⟨e,hx⟩ h2
theorem chkRs_mem:∀ {l:List Rl} {last:Int},chkRs last l=0→∀ r∈l,∃ last',chkR r last'=0
  | [],_,_,r,hr=>by cases hr
  | q::t,last,h,r,hr=>by
    unfold chkRs at h
    by_cases e:chkR q last=0
    · rw [if_pos e] at h
      rcases List.mem_cons.1 hr with rfl|hr
      · exact ⟨last,e⟩
      · exact chkRs_mem h r hr
    · rw [if_neg e] at h;exact absurd h e
theorem chkRs_len:∀ {l:List Rl} {last:Int},0≤last→chkRs last l=0→(l.length:Int)≤max 0 (24-last)
  | [],_,_,_=>by simp;omega
  | q::t,last,h0,h=>by
    unfold chkRs at h
    by_cases e:chkR q last=0
    · rw [if_pos e] at h
      obtain ⟨h1,_,h3,_⟩:=chkR_zero e
      have:=chkRs_len (by omega) h
      rw [dI]
      omega
    · rw [if_neg e] at h;exact absurd h e
theorem chkP_zero {p:Pg} (h:chkP p=0):(1≤p.va∧p.va≤1073741824)∧(1≤p.vb∧p.vb≤1073741824)∧chkRs 0 p.rs=0∧p.rs.length≤24:=by
  unfold chkP at h
  split at h
  · rename_i hv
    unfold verOk at hv
    simp only [Bool.and_eq_true,decide_eq_true_eq] at hv
    have:=chkRs_len (Int.le_refl 0) h
    exact ⟨hv.1,hv.2,h,by omega⟩
  · cases h
def encE (c:List Ins):List UInt8:=leB 4 (encX c).length++encX c
def encEs:List (List Ins)→List UInt8
  | []=>[]
  | c::t=>encE c++encEs t
def encR (r:Rl):List UInt8:=o8 r.nw::o8 r.old::o8 (r.ex.length:Nat)::encEs r.ex
def encRs:List Rl→List UInt8
  | []=>[]
  | r::t=>encR r++encRs t
def encP (p:Pg):List UInt8:=77::(leB 4 p.va.toNat++(leB 4 p.vb.toNat++o8 (p.rs.length:Nat)::encRs p.rs))
theorem encEs_app:∀ (a b:List (List Ins)),encEs (a++b)=encEs a++encEs b
  | [],_=>rfl
  | x::t,b=>by simp only [List.cons_append,encEs,encEs_app t b,dM]
theorem encRs_app:∀ (a b:List Rl),encRs (a++b)=encRs a++encRs b
  | [],_=>rfl
  | x::t,b=>by simp only [List.cons_append,encRs,encRs_app t b,dM]
def get4 (b:List UInt8):Option (Nat×List UInt8):=if 4≤b.length then some (le (b.take 4),b.drop 4) else none
def getE (b:List UInt8):Option (List Ins×List UInt8):=match get4 b with
  | none=>none
  | some (m,r)=>if m≤r.length then (match decX (r.take m) with
    | some l=>some (l,r.drop m)
    | none=>none) else none
def getEs:Nat→List UInt8→Option (List (List Ins)×List UInt8)
  | 0,b=>some ([],b)
  | n+1,b=>match getE b with
    | some (x,r)=>match getEs n r with
      | some (l,r')=>some (x::l,r')
      | none=>none
    | none=>none
def getRl:List UInt8→Option (Rl×List UInt8)
  | n::o::m::r=>match getEs m.toNat r with
    | some (l,r')=>some (⟨(n.toNat:Nat),(o.toNat:Nat),l⟩,r')
    | none=>none
  | _=>none
def getRls:Nat→List UInt8→Option (List Rl×List UInt8)
  | 0,b=>some ([],b)
  | n+1,b=>match getRl b with
    | some (x,r)=>match getRls n r with
      | some (l,r')=>some (x::l,r')
      | none=>none
    | none=>none
def decP (b:List UInt8):Option Pg:=match b with
  | c::r=>if c.toNat=77 then (match get4 r with
    | some (va,r1)=>match get4 r1 with
      | some (vb,n::r2)=>match getRls n.toNat r2 with
        | some (l,[])=>if chkP ⟨(va:Nat),(vb:Nat),l⟩=0 then some ⟨(va:Nat),(vb:Nat),l⟩ else none
        | _=>none
      | _=>none
    | none=>none) else none
  | []=>none
theorem get4_enc {n:Nat} (h:n<4294967296) (r:List UInt8):get4 (leB 4 n++r)=some (n,r):=by
  have hl:=leB_length 4 n
  unfold get4
  rw [if_pos (by rw [cV,hl];omega)]
  have e1:(leB 4 n++r).take 4=leB 4 n:=by rw [← hl];exact List.take_left
  have e2:(leB 4 n++r).drop 4=r:=by rw [← hl];exact List.drop_left
  have hp:(256:Nat)^4=4294967296:=by decide
  rw [e1,e2,le_leB _ _ (by omega)]
theorem get4_back {b r:List UInt8} {n:Nat} (h:get4 b=some (n,r)):b=leB 4 n++r∧n<4294967296:=by
  unfold get4 at h
  split at h
  · rename_i h4
    simp only [Option.some.injEq,Prod.mk.injEq] at h
    obtain ⟨rfl,rfl⟩:=h
    have l1:(b.take 4).length=4:=by rw [cZ];omega
    have v:=leB_of (b.take 4)
    rw [l1] at v
    have hp:(256:Nat)^4=4294967296:=by decide
    have hlt:=le_lt (b.take 4)
    rw [l1,hp] at hlt
    exact ⟨by rw [v,List.take_append_drop],hlt⟩
  · cases h
theorem encX_short {c:List Ins} (h:encErr c=0):(encX c).length<4294967296:=by
  have h1:chkX c=0:=by
    unfold encErr at h
    by_cases hz:chkX c=0
    · exact hz
    · rw [if_neg hz] at h;exact absurd h hz
  have:=(chkX_zero h1).1
  have:=encIs_len c
  unfold encX
  rw [dI]
  omega
theorem getE_enc {c:List Ins} (h:encErr c=0) (hi:∀ x∈c,In2 x.k.2) (r:List UInt8):getE (encE c++r)=some (c,r):=by
  unfold getE encE
  rw [dM,get4_enc (encX_short h)]
  simp only
  rw [if_pos (by rw [cV];omega),List.take_left,List.drop_left,decX_enc h hi]
theorem getE_back {b r:List UInt8} {c:List Ins} (h:getE b=some (c,r)):b=encE c++r∧encErr c=0∧∀ x∈c,In2 x.k.2:=by
  unfold getE at h
  cases h4:get4 b with
  | none=>rw [h4] at h;cases h
  | some p =>
    obtain ⟨m,q⟩:=p
    rw [h4] at h
    simp only at h
    obtain ⟨e1,_⟩:=get4_back h4
    split at h
    · rename_i hm
      cases hd:decX (q.take m) with
      | none=>rw [hd] at h;cases h
      | some l =>
        rw [hd] at h
        simp only [Option.some.injEq,Prod.mk.injEq] at h
        obtain ⟨rfl,rfl⟩:=h
        obtain ⟨h1,h2,_,h3⟩:=encX_dec hd
        refine ⟨?_,h2,fun x hx=>(h3 x hx).2.2.2.1⟩
        unfold encE
        rw [h1,cZ,Nat.min_eq_left hm,dM,List.take_append_drop]
        exact e1
    · cases h
theorem getEs_enc:∀ {l:List (List Ins)},(∀ c∈l,encErr c=0)→(∀ c∈l,∀ x∈c,In2 x.k.2)→∀ r:List UInt8,getEs l.length (encEs l++r)=some (l,r)
  | [],_,_,_=>rfl
  | c::t,h,hi,r=>by
    simp only [dI,getEs,encEs,dM]
    rw [getE_enc (h c (by simp)) (hi c (by simp))]
    simp only
    rw [getEs_enc (l:=t) (fun g hg=>h g (by simp [hg])) (fun g hg=>hi g (by simp [hg]))]
theorem getEs_back:∀ {n:Nat} {b r:List UInt8} {l:List (List Ins)},getEs n b=some (l,r)→b=encEs l++r∧l.length=n∧∀ c∈l,encErr c=0∧∀ x∈c,In2 x.k.2
  | 0,b,r,l,h=>by
    simp only [getEs,Option.some.injEq,Prod.mk.injEq] at h
    obtain ⟨rfl,rfl⟩:=h
    exact ⟨rfl,rfl,fun f hf=>by cases hf⟩
  | n+1,b,r,l,h=>by
    unfold getEs at h
    split at h
    · rename_i f r1 hf
      split at h
      · rename_i gs r2 hg
        simp only [Option.some.injEq,Prod.mk.injEq] at h
        obtain ⟨rfl,rfl⟩:=h
        obtain ⟨h1,h2⟩:=getE_back hf
        obtain ⟨h3,h4,h5⟩:=getEs_back hg
        refine ⟨by rw [h1,h3,encEs,dM],by rw [dI,h4],fun g hg => ?_⟩
        rcases List.mem_cons.1 hg with rfl|hg
        · exact h2
        · exact h5 g hg
      · cases h
    · cases h
def okRl (r:Rl):Prop:=(0≤r.nw∧r.nw<256)∧(0≤r.old∧r.old<256)∧r.ex.length<256∧∀ c∈r.ex,encErr c=0∧∀ x∈c,In2 x.k.2
theorem getRl_enc {r:Rl} (h:okRl r) (b:List UInt8):getRl (encR r++b)=some (r,b):=by
  obtain ⟨h1,h2,h3,h4⟩:=h
  unfold encR getRl
  simp only [List.cons_append]
  have e3:(o8 (r.ex.length:Nat)).toNat=r.ex.length:=by have:=o8_nat (n:=(r.ex.length:Nat)) ⟨by omega,by omega⟩;omega
  rw [e3,getEs_enc (fun c hc=>(h4 c hc).1) (fun c hc=>(h4 c hc).2)]
  simp only
  rw [o8_nat h1,o8_nat h2]
theorem getRl_back {b q:List UInt8} {r:Rl} (h:getRl b=some (r,q)):b=encR r++q∧okRl r:=by
  unfold getRl at h
  split at h
  · rename_i n o m b1
    cases he:getEs m.toNat b1 with
    | none=>rw [he] at h;cases h
    | some p =>
      obtain ⟨l,b2⟩:=p
      rw [he] at h
      simp only [Option.some.injEq,Prod.mk.injEq] at h
      obtain ⟨rfl,rfl⟩:=h
      obtain ⟨h1,h2,h3⟩:=getEs_back he
      have hn:=n.toNat_lt
      have ho:=o.toNat_lt
      have hm:=m.toNat_lt
      refine ⟨?_,⟨by simp only;omega,by simp only;omega⟩,⟨by simp only;omega,by simp only;omega⟩,by simp only;omega,h3⟩
      unfold encR
      simp only [List.cons_append]
      rw [o8_of,o8_of,h2,o8_of,h1]
  · cases h
theorem getRls_enc:∀ {l:List Rl},(∀ r∈l,okRl r)→∀ b:List UInt8,getRls l.length (encRs l++b)=some (l,b)
  | [],_,_=>rfl
  | c::t,h,r=>by
    simp only [dI,getRls,encRs,dM]
    rw [getRl_enc (h c (by simp))]
    simp only
    rw [getRls_enc (l:=t) (fun g hg=>h g (by simp [hg]))]
theorem getRls_back:∀ {n:Nat} {b r:List UInt8} {l:List Rl},getRls n b=some (l,r)→b=encRs l++r∧l.length=n∧∀ c∈l,okRl c
  | 0,b,r,l,h=>by
    simp only [getRls,Option.some.injEq,Prod.mk.injEq] at h
    obtain ⟨rfl,rfl⟩:=h
    exact ⟨rfl,rfl,fun f hf=>by cases hf⟩
  | n+1,b,r,l,h=>by
    unfold getRls at h
    split at h
    · rename_i f r1 hf
      split at h
      · rename_i gs r2 hg
        simp only [Option.some.injEq,Prod.mk.injEq] at h
        obtain ⟨rfl,rfl⟩:=h
        obtain ⟨h1,h2⟩:=getRl_back hf
        obtain ⟨h3,h4,h5⟩:=getRls_back hg
        refine ⟨by rw [h1,h3,encRs,dM],by rw [dI,h4],fun g hg => ?_⟩
        rcases List.mem_cons.1 hg with rfl|hg
        · exact h2
        · exact h5 g hg
      · cases h
    · cases h
def InP (p:Pg):Prop := ∀ r∈p.rs,∀ c∈r.ex,∀ x∈c,In2 x.k.2
theorem okRl_of {p:Pg} (h:chkP p=0) (hi:InP p):∀ r∈p.rs,okRl r:=fun r hr=>by
  obtain ⟨last,hc⟩:=chkRs_mem (chkP_zero h).2.2.1 r hr
  obtain ⟨h1,h2,_,_,h5,h6⟩:=chkR_zero hc
  exact ⟨by omega,by omega,by omega,fun c hc=>⟨firstX_zero h6 c hc,hi r hr c hc⟩⟩
theorem decP_tail {p:Pg} (h:chkP p=0) (hi:InP p) (b:List UInt8):decP (encP p++b)=if b=[] then some p else none:=by
  obtain ⟨h1,h2,h3,h4⟩:=chkP_zero h
  unfold encP decP
  simp only [List.cons_append,dM]
  rw [if_pos (by decide),get4_enc (by omega)]
  simp only
  rw [get4_enc (by omega)]
  simp only
  have e3:(o8 (p.rs.length:Nat)).toNat=p.rs.length:=by have:=o8_nat (n:=(p.rs.length:Nat)) ⟨by omega,by omega⟩;omega
  rw [e3,getRls_enc (okRl_of h hi)]
  have hp:(⟨((p.va.toNat:Nat):Int),((p.vb.toNat:Nat):Int),p.rs⟩:Pg)=p:=by
    obtain ⟨va,vb,rs⟩:=p
    simp only [Pg.mk.injEq,and_true]
    simp only at h1 h2
    omega
  cases b with
  | nil=>simp only [hp];rw [if_pos h];rfl
  | cons x t=>rfl
theorem decP_enc {p:Pg} (h:chkP p=0) (hi:InP p):decP (encP p)=some p:=by
  have:=decP_tail h hi []
  rw [dJ] at this
  exact this
theorem encP_dec {b:List UInt8} {p:Pg} (h:decP b=some p):encP p=b∧chkP p=0∧InP p:=by
  unfold decP at h
  split at h
  · rename_i c r
    split at h
    · rename_i hc
      cases h4:get4 r with
      | none=>rw [h4] at h;cases h
      | some q =>
        obtain ⟨va,r1⟩:=q
        rw [h4] at h
        simp only at h
        split at h
        · rename_i vb n r2 h5
          split at h
          · rename_i l hg
            split at h
            · rename_i hz
              simp only [Option.some.injEq] at h
              subst h
              obtain ⟨e1,_⟩:=get4_back h4
              obtain ⟨e2,_⟩:=get4_back h5
              obtain ⟨e3,e4,e5⟩:=getRls_back hg
              refine ⟨?_,hz,fun r hr c hc=>((e5 r hr).2.2.2 c hc).2⟩
              unfold encP
              simp only [dG]
              rw [e4,o8_of,e1,e2,e3,dJ,show c=77 from UInt8.toNat_inj.1 hc]
            · cases h
          · cases h
        · cases h
    · cases h
  · cases h
end Go.Proofs.YtamplgnbbanamaaGreatDoor
end
section
namespace Go.Lg.Fml
theorem dep_snoc {okJ:Ins→Bool} {l:List Ins} {i n:Nat} {x:Ins} (hd:dep okJ 0 (l.take i)=some n) (hx:l[i]? = some x):dep okJ 0 (l.take (i+1))=if okJ x=true∧takes x.op≤n∧n-takes x.op+1≤16 then some (n-takes x.op+1) else none:=by
  rw [Go.Lg.Fld.take_snoc hx,dep_app,hd]
  show dep okJ n [x]=_
  simp only [dep]
theorem dep_none {okJ:Ins→Bool} {l:List Ins} {i:Nat} (hd:dep okJ 0 (l.take i)=none):dep okJ 0 l=none:=by
  rw [← List.take_append_drop i l,dep_app,hd]
  rfl
theorem dep_le {okJ:Ins→Bool}:∀ {l:List Ins} {n m:Nat},n≤16→dep okJ n l=some m→m≤16
  | [],n,m,hn,h=>by simp only [dep,Option.some.injEq] at h;omega
  | x::l,n,m,hn,h=>by
    simp only [dep] at h
    split at h
    · rename_i h1;exact dep_le h1.2.2 h
    · cases h
end Go.Lg.Fml
namespace Go.Proofs.YtamplgnbbanamaaGreatDoor
open Go Go.Lg Go.Lg.Fml Go.Lg.Fld
set_option maxRecDepth 100000
variable (X:Nat→Option Obj)
instance:ArrB Tryz.prog 150 (List.replicate 18 (.int .i64 0)) 1:=⟨by kernel_rfl⟩
def tkC:List CV:=[.val (.int .i64 0),.val (.int .i64 0),.val (.int .i64 0),.val (.int .i64 0),.val (.int .i64 0),.val (.int .i64 2),.val (.int .i64 2),.val (.int .i64 2),.val (.int .i64 2),.val (.int .i64 2),.val (.int .i64 1),.val (.int .i64 2),.val (.int .i64 2),.val (.int .i64 2),.val (.int .i64 2),.val (.int .i64 1),.val (.int .i64 3),.val (.int .i64 2)]
theorem takes_at {op:Int} (h:5≤op∧op≤17):tkC[op.toNat]? = some (CV.val (.int .i64 (takes op:Nat))):=by
  rcases (show op=5∨op=6∨op=7∨op=8∨op=9∨op=10∨op=11∨op=12∨op=13∨op=14∨op=15∨op=16∨op=17 by omega) with rfl|rfl|rfl|rfl|rfl|rfl|rfl|rfl|rfl|rfl|rfl|rfl|rfl<;>rfl
theorem takes_out {op:Int} (h:op<5∨17<op):takes op=0:=by
  unfold takes
  rw [if_neg (by omega),if_neg (by omega),if_neg (by omega)]
set_option maxHeartbeats 1600000 in
theorem rTakes_spec (op:Int):PSpec Tryz.prog X 74 [Ln .i64 op] (Ln .i64 (takes op:Nat)):=by
  refine cF Tryz.func74 rfl (by kernel_rfl) rfl rfl ?_
  intro C
  by_cases h1:op<5
  · rw [takes_out (.inl h1)]
    (refine aA<|rgN<|kas O<|aB<|aA<|aA<|rgN<|kmv O<|klt O O (cP h1)<|kmv O<|aC O O O<|aC O O O<|kpt O O<|aB ?_;refine aE O ?_;refine aA<|rgN<|kas O<|aB<|aI ?_)
    exact ⟨[_],⟨O,trivial⟩,O⟩
  by_cases h2:17<op
  · rw [takes_out (.inr h2)]
    (refine aA<|rgN<|kas O<|aB<|aA<|aA<|rgN<|kmv O<|klt O O (cO h1)<|kmv O<|gmv O O O<|aS O O (cP h2) (dS O O) ?_;refine kpf O O<|aB<|aE O ?_;refine aA<|rgN<|kas O<|aB<|aI ?_)
    exact ⟨[_],⟨O,trivial⟩,O⟩
  have hat:=takes_at (op:=op) ⟨by omega,by omega⟩
  have hix:0+Int.toNat op*1=op.toNat:=by omega
  (refine aA<|rgN<|kas O<|aB<|aA<|aA<|rgN<|kmv O<|klt O O (cO h1)<|kmv O<|gmv O O O<|aS O O (cO h2) (dS O O) ?_;refine kpf O O<|aB<|aF O ?_;refine aH ?_;refine aA<|rgN<|K.buildArr O O (by exact O) O dR ?_;refine aP O dR ?_;refine aM O O O O O O dR ?_;refine aB<|aA<|rgN<|kmv O<|K.indexArr O O (by omega) hix dR ?_;refine kl1 O O hat<|kas O<|aB<|aI ?_)
  exact ⟨[_],⟨O,trivial⟩,O⟩
theorem chkX_bad {l:List Ins} {i n:Nat} {x:Ins} (h64:¬ 64<l.length) (hd:dep okI 0 (l.take i)=some n) (hx:l[i]? = some x) (hb:¬ (okI x=true∧takes x.op≤n∧n-takes x.op+1≤16)):chkX l=4:=by
  unfold chkX
  rw [if_neg h64,if_neg]
  rw [dep_none (i:=i+1) ((dep_snoc hd hx).trans (if_neg hb))]
  exact fun h=>by cases h
set_option maxHeartbeats 6400000 in
theorem rCheck11 (l:List Ins) (ad:Option Addr) (cap:Nat) (hin:InsIn X ad l) (hbig:l.length<4611686018427387904):PSpec Tryz.prog X 49 [Lx ad l.length cap] (Ln .i64 (chkX l)):=by
  refine cF Tryz.func49 rfl (by kernel_rfl) rfl rfl ?_
  intro C
  by_cases hlong:64<l.length
  · have e:chkX l=5:=if_pos hlong
    rw [e]
    (refine aA<|rgN<|kas O<|aB<|aA<|aA<|rgN<|kmv O<|aQ O cC O dR ?_;refine aS O O (cP (by omega)) dR<|aB<|aE O ?_;refine aA<|rgN<|kas O<|aB<|aI ?_)
    exact ⟨[_],⟨O,trivial⟩,O⟩
  (refine aA<|rgN<|kas O<|aB<|aA<|aA<|rgN<|kmv O<|aQ O cC O dR ?_;refine aS O O (cO (by omega)) dR<|aB<|aF O ?_;refine aH ?_;refine aA<|rgN<|kas O<|aB<|aA<|aA<|rgN<|kas O<|aB<|aG ?_)
  refine cL (fun m σ=>∃ i n:Nat,i≤l.length∧m=l.length-i∧dep okI 0 (l.take i)=some n∧σ=⟨[(0,Lx ad l.length cap),(3,Ln .i64 (n:Nat)),(4,Ln .i64 (i:Nat))],[],X⟩) l.length
    ⟨⟨[(0,Lx ad l.length cap),(3,Ln .i64 (0:Nat)),(4,Ln .i64 (0:Nat))],[],X⟩,Le.of (by exact ⟨rfl,rfl,rfl,trivial⟩) (by exact trivial) (by exact rfl) (by exact rfl) (by exact rfl),0,0,by omega,rfl,rfl,rfl⟩ ?_
  rintro m σ ⟨i,n,hi,rfl,hd,rfl⟩
  have hn16:=dep_le (by omega) hd
  by_cases hlt:i<l.length
  · obtain ⟨x,hx⟩:∃ x,l[i]? = some x:=⟨_,cX hlt⟩
    obtain ⟨blk,off,arr,el,fr,rfl,hX,hsz,hcs,_⟩:=hin.at hx
    have hio:off+Int.toNat (i:Int)*6=off+i*6:=by simp
    obtain ⟨_,_,_,hk2⟩:=hin.small x (dD hx)
    have hG:=Good_spec X x.k.1 x.k.2 hk2 (gd x.k) rfl
    have hT:=rTakes_spec X x.op
    have hbad:=fun h=>chkX_bad (x:=x) hlong hd hx h
    have htk:=takes_le x.op
    by_cases c0:x.op<1
    · rw [hbad (fun h=>by have:=(okI_facts h.1).1;omega)]
      (refine aA<|aA<|rgN<|kmv O<|kmv O<|aQ O cC O dR ?_;refine klt O O (cP (by omega))<|aB<|aE O ?_;refine aH ?_;refine aA<|aG<|aA<|rgN<|kmv O<|kmv O<|aR O O cC (by omega) hio dR<|aY O hX (by kernel_rfl) hsz hcs dR<|aP O dR ?_;refine aM O O O O O O dR ?_;refine aB<|aA<|aA<|rgN<|kfa O O ?_;refine kl1 O O O<|klt O O (cP (by omega))<|kmv O<|aC O O O<|aC O O O<|aC O O O<|kpt O O<|kmv O<|aC O O O<|aC O O O<|aC O O O<|aC O O O<|kpt O O<|kmv O ?_;refine aC O O O<|aC O O O<|aC O O O<|kpt O O<|kmv O<|aC O O O<|aC O O O<|aC O O O<|kpt O O<|kmv O<|aC O O O<|aC O O O<|aC O O O<|kpt O O ?_;refine kmv O<|aC O O O<|aC O O O<|aC O O O<|kpt O O<|kmv O<|aC O O O<|aC O O O<|aC O O O<|aC O O O<|aC O O O<|kpt O O<|aB<|aE O ?_;refine aA<|rgN<|kas O<|aB<|aI ?_)
      exact ⟨[_],⟨O,trivial⟩,O⟩
    by_cases c1:17<x.op
    · rw [hbad (fun h=>by have:=(okI_facts h.1).1;omega)]
      (refine aA<|aA<|rgN<|kmv O<|kmv O<|aQ O cC O dR ?_;refine klt O O (cP (by omega))<|aB<|aE O ?_;refine aH ?_;refine aA<|aG<|aA<|rgN<|kmv O<|kmv O<|aR O O cC (by omega) hio dR<|aY O hX (by kernel_rfl) hsz hcs dR<|aP O dR ?_;refine aM O O O O O O dR ?_;refine aB<|aA<|aA<|rgN<|kfa O O ?_;refine kl1 O O O<|klt O O (cO (by omega))<|kmv O<|aN O O (dS O O) ?_;refine aO O O O (dS O O) ?_;refine aS O O (cP (by omega)) (dS O O) ?_;refine kpf O O<|kmv O<|aC O O O<|aC O O O<|aC O O O<|aC O O O<|kpt O O<|kmv O<|aC O O O<|aC O O O<|aC O O O<|kpt O O<|kmv O<|aC O O O ?_;refine aC O O O<|aC O O O<|kpt O O<|kmv O<|aC O O O<|aC O O O<|aC O O O<|kpt O O<|kmv O<|aC O O O<|aC O O O<|aC O O O<|kpt O O<|kmv O ?_;refine aC O O O<|aC O O O<|aC O O O<|aC O O O<|aC O O O<|kpt O O<|aB<|aE O ?_;refine aA<|rgN<|kas O<|aB<|aI ?_)
      exact ⟨[_],⟨O,trivial⟩,O⟩
    cases hg:gd x.k with
    | false =>
      rw [hbad (fun h=>by rw [(okI_facts h.1).2.1] at hg;cases hg)]
      rw [hg] at hG
      (refine aA<|aA<|rgN<|kmv O<|kmv O<|aQ O cC O dR ?_;refine klt O O (cP (by omega))<|aB<|aE O ?_;refine aH ?_;refine aA<|aG<|aA<|rgN<|kmv O<|kmv O<|aR O O cC (by omega) hio dR<|aY O hX (by kernel_rfl) hsz hcs dR<|aP O dR ?_;refine aM O O O O O O dR ?_;refine aB<|aA<|aA<|rgN<|kfa O O ?_;refine kl1 O O O<|klt O O (cO (by omega))<|kmv O<|aN O O (dS O O) ?_;refine aO O O O (dS O O) ?_;refine aS O O (cO (by omega)) (dS O O) ?_;refine kpf O O<|kmv O<|aN O O (dS O O) ?_;refine bJ O O O (by exact nl3 O O O O) (dS O O) ?_;refine gca O O (hG) O O<|aV O O (dS O O) ?_;refine kpf O O<|kmv O<|aC O O O<|aC O O O<|aC O O O<|kpt O O<|kmv O<|aC O O O<|aC O O O<|aC O O O<|kpt O O<|kmv O<|aC O O O<|aC O O O ?_;refine aC O O O<|kpt O O<|kmv O<|aC O O O<|aC O O O<|aC O O O<|kpt O O<|kmv O<|aC O O O<|aC O O O<|aC O O O<|aC O O O<|aC O O O<|kpt O O ?_;refine aB<|aE O ?_;refine aA<|rgN<|kas O<|aB<|aI ?_)
      exact ⟨[_],⟨O,trivial⟩,O⟩
    | true =>
    rw [hg] at hG
    by_cases c3:x.a<0
    · rw [hbad (fun h=>by have:=(okI_facts h.1).2.2.1;omega)]
      (refine aA<|aA<|rgN<|kmv O<|kmv O<|aQ O cC O dR ?_;refine klt O O (cP (by omega))<|aB<|aE O ?_;refine aH ?_;refine aA<|aG<|aA<|rgN<|kmv O<|kmv O<|aR O O cC (by omega) hio dR<|aY O hX (by kernel_rfl) hsz hcs dR<|aP O dR ?_;refine aM O O O O O O dR ?_;refine aB<|aA<|aA<|rgN<|kfa O O ?_;refine kl1 O O O<|klt O O (cO (by omega))<|kmv O<|aN O O (dS O O) ?_;refine aO O O O (dS O O) ?_;refine aS O O (cO (by omega)) (dS O O) ?_;refine kpf O O<|kmv O<|aN O O (dS O O) ?_;refine bJ O O O (by exact nl3 O O O O) (dS O O) ?_;refine gca O O (hG) O O<|aV O O (dS O O) ?_;refine kpf O O<|kmv O<|aN O O (dS O O) ?_;refine aO O O O (dS O O) ?_;refine bK O O (cP (by omega)) (dS O O) ?_;refine kpf O O<|kmv O<|aC O O O<|aC O O O<|aC O O O<|kpt O O<|kmv O<|aC O O O<|aC O O O<|aC O O O<|kpt O O<|kmv O<|aC O O O<|aC O O O ?_;refine aC O O O<|kpt O O<|kmv O<|aC O O O<|aC O O O<|aC O O O<|aC O O O<|aC O O O<|kpt O O<|aB<|aE O ?_;refine aA<|rgN<|kas O<|aB<|aI ?_)
      exact ⟨[_],⟨O,trivial⟩,O⟩
    by_cases c4:7<x.a
    · rw [hbad (fun h=>by have:=(okI_facts h.1).2.2.1;omega)]
      ((refine aA<|aA<|rgN<|kmv O<|kmv O<|aQ O cC O dR ?_;refine klt O O (cP (by omega))<|aB<|aE O ?_;refine aH ?_;refine aA<|aG<|aA<|rgN<|kmv O<|kmv O<|aR O O cC (by omega) hio dR<|aY O hX (by kernel_rfl) hsz hcs dR<|aP O dR ?_;refine aM O O O O O O dR ?_;refine aB<|aA<|aA<|rgN<|kfa O O ?_;refine kl1 O O O<|klt O O (cO (by omega))<|kmv O<|aN O O (dS O O) ?_;refine aO O O O (dS O O) ?_;refine aS O O (cO (by omega)) (dS O O) ?_;refine kpf O O<|kmv O<|aN O O (dS O O) ?_;refine bJ O O O (by exact nl3 O O O O) (dS O O) ?_;refine gca O O (hG) O O<|aV O O (dS O O) ?_);(refine kpf O O<|kmv O<|aN O O (dS O O) ?_;refine aO O O O (dS O O) ?_;refine bK O O (cO (by omega)) (dS O O) ?_;refine kpf O O<|kmv O<|aN O O (dS O O) ?_;refine aO O O O (dS O O) ?_;refine aS O O (cP (by omega)) (dS O O) ?_;refine kpf O O<|kmv O<|aC O O O<|aC O O O<|aC O O O<|kpt O O<|kmv O<|aC O O O<|aC O O O<|aC O O O<|kpt O O<|kmv O<|aC O O O<|aC O O O ?_;refine aC O O O<|aC O O O<|aC O O O<|kpt O O<|aB<|aE O ?_;refine aA<|rgN<|kas O<|aB<|aI ?_))
      exact ⟨[_],⟨O,trivial⟩,O⟩
    by_cases c5:x.b<0
    · rw [hbad (fun h=>by have:=(okI_facts h.1).2.2.2;omega)]
      ((refine aA<|aA<|rgN<|kmv O<|kmv O<|aQ O cC O dR ?_;refine klt O O (cP (by omega))<|aB<|aE O ?_;refine aH ?_;refine aA<|aG<|aA<|rgN<|kmv O<|kmv O<|aR O O cC (by omega) hio dR<|aY O hX (by kernel_rfl) hsz hcs dR<|aP O dR ?_;refine aM O O O O O O dR ?_;refine aB<|aA<|aA<|rgN<|kfa O O ?_;refine kl1 O O O<|klt O O (cO (by omega))<|kmv O<|aN O O (dS O O) ?_;refine aO O O O (dS O O) ?_;refine aS O O (cO (by omega)) (dS O O) ?_;refine kpf O O<|kmv O<|aN O O (dS O O) ?_;refine bJ O O O (by exact nl3 O O O O) (dS O O) ?_;refine gca O O (hG) O O<|aV O O (dS O O) ?_);(refine kpf O O<|kmv O<|aN O O (dS O O) ?_;refine aO O O O (dS O O) ?_;refine bK O O (cO (by omega)) (dS O O) ?_;refine kpf O O<|kmv O<|aN O O (dS O O) ?_;refine aO O O O (dS O O) ?_;refine aS O O (cO (by omega)) (dS O O) ?_;refine kpf O O<|kmv O<|aN O O (dS O O) ?_;refine aO O O O (dS O O) ?_;refine bK O O (cP (by omega)) (dS O O) ?_;refine kpf O O<|kmv O<|aC O O O<|aC O O O<|aC O O O<|kpt O O<|kmv O<|aC O O O<|aC O O O<|aC O O O<|aC O O O<|aC O O O<|kpt O O<|aB ?_;refine aE O ?_;refine aA<|rgN<|kas O<|aB<|aI ?_))
      exact ⟨[_],⟨O,trivial⟩,O⟩
    by_cases c6:7<x.b
    · rw [hbad (fun h=>by have:=(okI_facts h.1).2.2.2;omega)]
      ((refine aA<|aA<|rgN<|kmv O<|kmv O<|aQ O cC O dR ?_;refine klt O O (cP (by omega))<|aB<|aE O ?_;refine aH ?_;refine aA<|aG<|aA<|rgN<|kmv O<|kmv O<|aR O O cC (by omega) hio dR<|aY O hX (by kernel_rfl) hsz hcs dR<|aP O dR ?_;refine aM O O O O O O dR ?_;refine aB<|aA<|aA<|rgN<|kfa O O ?_;refine kl1 O O O<|klt O O (cO (by omega))<|kmv O<|aN O O (dS O O) ?_;refine aO O O O (dS O O) ?_;refine aS O O (cO (by omega)) (dS O O) ?_;refine kpf O O<|kmv O<|aN O O (dS O O) ?_;refine bJ O O O (by exact nl3 O O O O) (dS O O) ?_;refine gca O O (hG) O O<|aV O O (dS O O) ?_);(refine kpf O O<|kmv O<|aN O O (dS O O) ?_;refine aO O O O (dS O O) ?_;refine bK O O (cO (by omega)) (dS O O) ?_;refine kpf O O<|kmv O<|aN O O (dS O O) ?_;refine aO O O O (dS O O) ?_;refine aS O O (cO (by omega)) (dS O O) ?_;refine kpf O O<|kmv O<|aN O O (dS O O) ?_;refine aO O O O (dS O O) ?_;refine bK O O (cO (by omega)) (dS O O) ?_;refine kpf O O<|kmv O<|aN O O (dS O O) ?_;refine aO O O O (dS O O) ?_;refine aS O O (cP (by omega)) (dS O O) ?_);(refine kpf O O<|kmv O<|aC O O O<|aC O O O<|aC O O O<|aC O O O<|aC O O O<|kpt O O<|aB<|aE O ?_;refine aA<|rgN<|kas O<|aB<|aI ?_))
      exact ⟨[_],⟨O,trivial⟩,O⟩
    by_cases c7:n<takes x.op
    · rw [hbad (fun h=>by have:=h.2.1;omega)]
      ((refine aA<|aA<|rgN<|kmv O<|kmv O<|aQ O cC O dR ?_;refine klt O O (cP (by omega))<|aB<|aE O ?_;refine aH ?_;refine aA<|aG<|aA<|rgN<|kmv O<|kmv O<|aR O O cC (by omega) hio dR<|aY O hX (by kernel_rfl) hsz hcs dR<|aP O dR ?_;refine aM O O O O O O dR ?_;refine aB<|aA<|aA<|rgN<|kfa O O ?_;refine kl1 O O O<|klt O O (cO (by omega))<|kmv O<|aN O O (dS O O) ?_;refine aO O O O (dS O O) ?_;refine aS O O (cO (by omega)) (dS O O) ?_;refine kpf O O<|kmv O<|aN O O (dS O O) ?_;refine bJ O O O (by exact nl3 O O O O) (dS O O) ?_;refine gca O O (hG) O O<|aV O O (dS O O) ?_);(refine kpf O O<|kmv O<|aN O O (dS O O) ?_;refine aO O O O (dS O O) ?_;refine bK O O (cO (by omega)) (dS O O) ?_;refine kpf O O<|kmv O<|aN O O (dS O O) ?_;refine aO O O O (dS O O) ?_;refine aS O O (cO (by omega)) (dS O O) ?_;refine kpf O O<|kmv O<|aN O O (dS O O) ?_;refine aO O O O (dS O O) ?_;refine bK O O (cO (by omega)) (dS O O) ?_;refine kpf O O<|kmv O<|aN O O (dS O O) ?_;refine aO O O O (dS O O) ?_;refine aS O O (cO (by omega)) (dS O O) ?_);(refine kpf O O<|kmv O<|gmv O O O<|aN O O (dS O O) ?_;refine aO O O O (dS O O) ?_;refine gca O O (hT) O O<|bK O O (cP (by omega)) (dS O O) ?_;refine kpf O O<|aB<|aE O ?_;refine aA<|rgN<|kas O<|aB<|aI ?_))
      exact ⟨[_],⟨O,trivial⟩,O⟩
    have hok:okI x=true:=by
      unfold okI
      rw [hg,cP (show 1≤x.op by omega),cP (show x.op≤17 by omega),cP (show 0≤x.a by omega),cP (show x.a≤7 by omega),cP (show 0≤x.b by omega),cP (show x.b≤7 by omega)]
      rfl
    have hsub:IntKind.i64.wrap ((n:Int)-(takes x.op:Nat))=((n-takes x.op:Nat):Int):=by rw [cH (by omega)];omega
    have hadd:IntKind.i64.wrap (((n-takes x.op:Nat):Int)+1)=((n-takes x.op+1:Nat):Int):=by rw [cH (by omega)];omega
    by_cases c8:16<n-takes x.op+1
    · rw [hbad (fun h=>by have:=h.2.2;omega)]
      ((refine aA<|aA<|rgN<|kmv O<|kmv O<|aQ O cC O dR ?_;refine klt O O (cP (by omega))<|aB<|aE O ?_;refine aH ?_;refine aA<|aG<|aA<|rgN<|kmv O<|kmv O<|aR O O cC (by omega) hio dR<|aY O hX (by kernel_rfl) hsz hcs dR<|aP O dR ?_;refine aM O O O O O O dR ?_;refine aB<|aA<|aA<|rgN<|kfa O O ?_;refine kl1 O O O<|klt O O (cO (by omega))<|kmv O<|aN O O (dS O O) ?_;refine aO O O O (dS O O) ?_;refine aS O O (cO (by omega)) (dS O O) ?_;refine kpf O O<|kmv O<|aN O O (dS O O) ?_;refine bJ O O O (by exact nl3 O O O O) (dS O O) ?_;refine gca O O (hG) O O<|aV O O (dS O O) ?_);(refine kpf O O<|kmv O<|aN O O (dS O O) ?_;refine aO O O O (dS O O) ?_;refine bK O O (cO (by omega)) (dS O O) ?_;refine kpf O O<|kmv O<|aN O O (dS O O) ?_;refine aO O O O (dS O O) ?_;refine aS O O (cO (by omega)) (dS O O) ?_;refine kpf O O<|kmv O<|aN O O (dS O O) ?_;refine aO O O O (dS O O) ?_;refine bK O O (cO (by omega)) (dS O O) ?_;refine kpf O O<|kmv O<|aN O O (dS O O) ?_;refine aO O O O (dS O O) ?_;refine aS O O (cO (by omega)) (dS O O) ?_);(refine kpf O O<|kmv O<|gmv O O O<|aN O O (dS O O) ?_;refine aO O O O (dS O O) ?_;refine gca O O (hT) O O<|bK O O (cO (by omega)) (dS O O) ?_;refine kpf O O<|aB<|aF O ?_;refine aH ?_;refine aA<|rgN<|kmv O<|kfa O O ?_;refine kl1 O O O<|kca O O (hT)<|bA O O hsub dR<|kad O O hadd<|kas O<|aB<|aA<|rgN<|kmv O<|aS O O (cP (by omega)) dR<|aB<|aE O ?_;refine aA<|rgN<|kas O<|aB<|aI ?_))
      exact ⟨[_],⟨O,trivial⟩,O⟩
    have hadi:IntKind.i64.wrap ((i:Int)+1)=((i+1:Nat):Int):=by rw [cH (by omega)];omega
    have hnext:=(dep_snoc hd hx).trans (if_pos ⟨hok,by omega,by omega⟩)
    ((refine aA<|aA<|rgN<|kmv O<|kmv O<|aQ O cC O dR ?_;refine klt O O (cP (by omega))<|aB<|aE O ?_;refine aH ?_;refine aA<|aG<|aA<|rgN<|kmv O<|kmv O<|aR O O cC (by omega) hio dR<|aY O hX (by kernel_rfl) hsz hcs dR<|aP O dR ?_;refine aM O O O O O O dR ?_;refine aB<|aA<|aA<|rgN<|kfa O O ?_;refine kl1 O O O<|klt O O (cO (by omega))<|kmv O<|aN O O (dS O O) ?_;refine aO O O O (dS O O) ?_;refine aS O O (cO (by omega)) (dS O O) ?_;refine kpf O O<|kmv O<|aN O O (dS O O) ?_;refine bJ O O O (by exact nl3 O O O O) (dS O O) ?_;refine gca O O (hG) O O<|aV O O (dS O O) ?_);(refine kpf O O<|kmv O<|aN O O (dS O O) ?_;refine aO O O O (dS O O) ?_;refine bK O O (cO (by omega)) (dS O O) ?_;refine kpf O O<|kmv O<|aN O O (dS O O) ?_;refine aO O O O (dS O O) ?_;refine aS O O (cO (by omega)) (dS O O) ?_;refine kpf O O<|kmv O<|aN O O (dS O O) ?_;refine aO O O O (dS O O) ?_;refine bK O O (cO (by omega)) (dS O O) ?_;refine kpf O O<|kmv O<|aN O O (dS O O) ?_;refine aO O O O (dS O O) ?_;refine aS O O (cO (by omega)) (dS O O) ?_);(refine kpf O O<|kmv O<|gmv O O O<|aN O O (dS O O) ?_;refine aO O O O (dS O O) ?_;refine gca O O (hT) O O<|bK O O (cO (by omega)) (dS O O) ?_;refine kpf O O<|aB<|aF O ?_;refine aH ?_;refine aA<|rgN<|kmv O<|kfa O O ?_;refine kl1 O O O<|kca O O (hT)<|bA O O hsub dR<|kad O O hadd<|kas O<|aB<|aA<|rgN<|kmv O<|aS O O (cO (by omega)) dR<|aB<|aF O ?_;refine aH ?_;refine rgN<|kmv O<|kad O O hadi<|kas O<|aB ?_))
    exact ⟨_,⟨[(0,Lx (some ⟨blk,off,none⟩) l.length cap),(3,Ln .i64 (n-takes x.op+1:Nat)),(4,Ln .i64 (i+1:Nat))],[],X⟩,by omega,Le.of (by exact ⟨O,O,O,trivial⟩) (by exact trivial) (by exact O) (by exact O) (by exact O),i+1,_,by omega,O,hnext,O⟩
  have e:i=l.length:=by omega
  subst e
  rw [dF] at hd
  by_cases h1:n=1
  · have e:chkX l=0:=by unfold chkX;rw [if_neg hlong,if_pos (by rw [hd,h1])]
    rw [e]
    (refine aA<|aA<|rgN<|kmv O<|kmv O<|aQ O cC O dR ?_;refine klt O O (cO (by omega))<|aB<|aF O ?_;refine aJ<|aA<|aA<|rgN<|kmv O<|kne O O (cS (by omega))<|aB<|aF O ?_;refine aH ?_;refine aA<|rgN<|kas O<|aB<|aI ?_)
    exact ⟨[_],⟨O,trivial⟩,O⟩
  · have e:chkX l=4:=by unfold chkX;rw [if_neg hlong,if_neg (by rw [hd];exact fun h=>h1 (by simpa using h))]
    rw [e]
    (refine aA<|aA<|rgN<|kmv O<|kmv O<|aQ O cC O dR ?_;refine klt O O (cO (by omega))<|aB<|aF O ?_;refine aJ<|aA<|aA<|rgN<|kmv O<|kne O O (cT (by omega))<|aB<|aE O ?_;refine aA<|rgN<|kas O<|aB<|aI ?_)
    exact ⟨[_],⟨O,trivial⟩,O⟩
end Go.Proofs.YtamplgnbbanamaaGreatDoor
end
section
namespace Go.Lg.Sg
open Go Go.Lg
def nuV (l:List Int):List Value:=l.map (Value.int .i64 ·)
def NuIn (X:Nat→Option Obj) (ad:Option Addr) (l:List Int):Prop:=RowsIn X ad 1 (l.map fun n=>[.int .i64 n])
theorem nu_at {l:List Int} {i:Nat} {x:Int} (h:l[i]? = some x):((nuV l).map CV.val)[i*1]? = some (.val (.int .i64 x)):=by
  unfold nuV
  rw [Nat.mul_one,List.getElem?_map,List.getElem?_map,h]
  rfl
abbrev nuB (k:Nat) (l:List Int):Nat×Option Box:=(k,some ⟨3,(nuV l).map .val,true⟩)
abbrev nuB' (k:Nat) (l:List Int) (r:Bool):Nat×Option Box:=(k,some ⟨3,(nuV l).map .val,r⟩)
end Go.Lg.Sg
end
section
namespace Go.Lg.Fml
theorem takes_sum_le:∀ (l:List Ins),-(l.length:Int)≤surplus l∧surplus l≤2*(l.length:Int)
  | []=>by simp [surplus]
  | x::l=>by
    have:=takes_le x.op
    have:=takes_sum_le l
    simp only [surplus,dI]
    omega
theorem flat_len (t:Tr):1≤t.flat.length:=List.length_pos_iff.2 (flat_pos t)
theorem endsL_at:∀ {us:List Tr} {p i:Nat} {a:Tr},us[i]? = some a→(endsL p us)[i]? = some (p+(flatL (us.take (i+1))).length-1)
  | [],_,_,_,h=>by simp at h
  | b::us,p,0,a,h=>by simp [endsL,flatL]
  | b::us,p,i+1,a,h=>by
    rw [List.getElem?_cons_succ] at h
    rw [endsL,List.getElem?_cons_succ,endsL_at h,List.take_succ_cons,flatL,cV,Nat.add_assoc]
end Go.Lg.Fml
namespace Go.Proofs.YtamplgnbbanamaaGreatDoor
open Go Go.Lg Go.Lg.Fml Go.Lg.Fld Go.Lg.Sg
set_option maxRecDepth 100000
variable (X:Nat→Option Obj)
set_option maxHeartbeats 3200000 in
theorem rStart_spec (l:List Ins) (ad:Option Addr) (cap:Nat) (hin:InsIn X ad l) (hbig:l.length<1152921504606846976) {p:Nat} {t:Tr} (hA:At l p t) (ht:t.ok) (e:Int) (he:e=((p+t.flat.length:Nat):Int)-1):
    PSpec Tryz.prog X 102 [Lx ad l.length cap,Ln .i64 e] (Ln .i64 (p:Nat)):=by
  refine cF Tryz.func102 rfl (by kernel_rfl) rfl rfl ?_
  intro C
  have hlen:=hA.len
  have h1:=flat_len t
  have hs0:1+surplus (t.flat.drop t.flat.length)=1:=by rw [List.drop_length];rfl
  (refine aA<|rgN<|kas O<|aB<|aA<|rgN<|kas O<|aB<|aA<|aA<|rgN<|kmv O<|kas O<|aB ?_;refine aG ?_)
  refine cL (fun m σ=>∃ k:Nat,1≤k∧k≤t.flat.length∧m=k∧σ=⟨[(0,Lx ad l.length cap),(5,Ln .i64 (1+surplus (t.flat.drop k))),(6,Ln .i64 (((p+k:Nat):Int)-1))],[],X⟩) t.flat.length
    ⟨⟨[(0,Lx ad l.length cap),(5,Ln .i64 1),(6,Ln .i64 e)],[],X⟩,Le.of (by exact ⟨rfl,rfl,rfl,trivial⟩) (by exact trivial) (by exact rfl) (by exact rfl) (by exact rfl),t.flat.length,h1,dN _,rfl,by rw [hs0,he]⟩ ?_
  rintro m σ ⟨k',hk1,hk,rfl,rfl⟩
  obtain ⟨k,rfl⟩:∃ k,m=k+1:=⟨m-1,by omega⟩
  obtain ⟨x,hx⟩:∃ x,t.flat[k]? = some x:=⟨_,cX (by omega)⟩
  obtain ⟨b1,b2,b3⟩:=back_step ht hx
  have hxl:l[p+k]? = some x:=(hA.get (by omega)).trans hx
  obtain ⟨blk,off,arr,el,fr,rfl,hX,hsz,hcs,hop⟩:=hin.at hxl
  have hT:=rTakes_spec X x.op
  have htk:=takes_le x.op
  have hs1:=takes_sum_le (t.flat.drop (k+1))
  rw [dA] at hs1
  have hio:off+Int.toNat (((p+(k+1):Nat):Int)-1)*6=off+(p+k)*6:=by
    have:Int.toNat (((p+(k+1):Nat):Int)-1)=p+k:=by omega
    rw [this]
  have hin0:0≤((p+(k+1):Nat):Int)-1∧((p+(k+1):Nat):Int)-1<(l.length:Nat):=by omega
  have hsub:IntKind.i64.wrap (1+surplus (t.flat.drop (k+1))-1)=surplus (t.flat.drop (k+1)):=by rw [cH (by omega)];omega
  have hadd:IntKind.i64.wrap (surplus (t.flat.drop (k+1))+(takes x.op:Nat))=1+surplus (t.flat.drop k):=by rw [cH (by omega)];omega
  by_cases h0:k=0
  · subst h0
    have b2:=b2 rfl
    rw [b2] at hadd
    have e2:(((p+(0+1):Nat):Int)-1)=(p:Nat):=by omega
    rw [e2] at hio hin0 ⊢
    (refine aA<|aA<|rgN<|kmv O<|bD O O (cP (by omega)) dR<|aB<|aE O ?_;refine aH ?_;refine aA<|aG<|aA<|rgN<|kmv O<|bA O O hsub dR<|kmv O<|kmv O<|aR O O cC hin0 hio dR<|bH O O dR ?_;refine aW O hX O hop dR<|kca O O (hT)<|kad O O hadd<|kas O<|aB<|aA<|rgN<|kmv O<|keq O O (r:=true) O<|aB<|aE O ?_;refine aA<|rgN<|kmv O<|kas O<|aB<|aI ?_)
    exact ⟨[_],⟨O,trivial⟩,O⟩
  have b3:=b3 h0
  have hdec:IntKind.i64.wrap ((((p+(k+1):Nat):Int)-1)-1)=((p+k:Nat):Int)-1:=by rw [cH (by omega)];omega
  (refine aA<|aA<|rgN<|kmv O<|bD O O (cP (by omega)) dR<|aB<|aE O ?_;refine aH ?_;refine aA<|aG<|aA<|rgN<|kmv O<|bA O O hsub dR<|kmv O<|kmv O<|aR O O cC hin0 hio dR<|bH O O dR ?_;refine aW O hX O hop dR<|kca O O (hT)<|kad O O hadd<|kas O<|aB<|aA<|rgN<|kmv O<|keq O O (r:=false) (cR (by omega))<|aB<|aF O ?_;refine aH ?_;refine rgN<|kmv O<|bA O O hdec dR<|kas O<|aB ?_)
  exact ⟨_,⟨[(0,Lx (some ⟨blk,off,none⟩) l.length cap),(5,Ln .i64 (1+surplus (t.flat.drop k))),(6,Ln .i64 (((p+k:Nat):Int)-1))],[],X⟩,by omega,Le.of (by exact ⟨O,O,O,trivial⟩) (by exact trivial) (by exact O) (by exact O) (by exact O),k,by omega,by omega,O,O⟩
def endsI (p:Nat) (us:List Tr):List Int:=(endsL p us).map fun n=>((n:Nat):Int)
theorem endsI_len (p:Nat) (us:List Tr):(endsI p us).length=us.length:=by unfold endsI;rw [cW,endsL_len]
theorem endsI_step {p:Nat} {us:List Tr} {j:Nat} {a:Tr} (h:us[j]? = some a):(endsI p us).drop j=((p+(flatL (us.take (j+1))).length-1:Nat):Int)::(endsI p us).drop (j+1):=by
  have h1:(endsI p us)[j]? = some ((p+(flatL (us.take (j+1))).length-1:Nat):Int):=by unfold endsI;rw [dL,endsL_at h];rfl
  obtain ⟨hj,e⟩:=List.getElem?_eq_some_iff.1 h1
  rw [List.drop_eq_getElem_cons hj,e]
set_option maxHeartbeats 6400000 in
theorem rBranches_spec (l:List Ins) (ad:Option Addr) (cap:Nat) (hin:InsIn X ad l) (hbig:l.length<1152921504606846976) {p:Nat} {t:Tr} (hA:At l p t) (ht:t.ok) (hpos:0<t.args.length) (e:Int) (he:e=((p+t.flat.length:Nat):Int)-1):
    MSpec Tryz.prog X 90 [Lx ad l.length cap,Ln .i64 e] [] (.sv (.one (.slc 1000001 0 (endsI p t.args).length))) [nuB 1000001 (endsI p t.args)]:=by
  refine cG Tryz.func90 rfl (by kernel_rfl) rfl rfl (by exact (by repeat' (first|refine bT ?_ ?_|rfl|exact bV|exact bU|exact bW rfl))) rfl rfl ?_
  intro C
  have hrl:∀ l:List Int,((nuV l).map CV.val).length=l.length*1:=fun l=>by unfold nuV;rw [cW,cW,Nat.mul_one]
  have hlen:=hA.len
  have h1:=flat_len t
  have hfa:=flat_args t
  have hfl:t.flat.length=(flatL t.args).length+1:=by rw [hfa];simp
  have hal:=args_le t
  obtain ⟨htop,hoks⟩:=ok_args ht
  obtain ⟨blk,off,arr,el,fr,rfl,hX,hsz,hcs,hop⟩:=hin.at hA.top
  have hT:=rTakes_spec X t.top.op
  rw [htop] at hT
  have hio:off+Int.toNat e*6=off+(p+t.flat.length-1)*6:=by
    have:Int.toNat e=p+t.flat.length-1:=by omega
    rw [this]
  have hin0:0≤e∧e<(l.length:Nat):=by omega
  have hdrop0:(endsI p t.args).drop t.args.length=[]:=List.drop_eq_nil_of_le (by rw [endsI_len];exact dN _)
  have he1:IntKind.i64.wrap (e-1)=((p+(flatL (t.args.take (t.args.length-0))).length:Nat):Int)-1:=by
    rw [Nat.sub_zero,dF,cH (by omega)];omega
  refine LWP.ends ?_
  (refine aA<|rgN<|kas O<|aB<|aA<|rgN<|aZ (zs:=[]) (sz:=1) (e:=3) (by kernel_rfl) O O O O O O dR<|kas O<|aB<|aA<|rgN<|kmv O<|bA O O he1 dR<|kas O ?_;refine aB<|aA<|aA<|rgN<|kas O<|aB<|aG ?_)
  refine cL (fun m σ=>∃ (i:Nat) (r:Bool),i≤t.args.length∧(0<i→r=true)∧m=t.args.length-i∧σ=⟨[(0,Lx (some ⟨blk,off,none⟩) l.length cap),(1,Ln .i64 e),(5,.sv (.one (.slc 500 0 ((endsI p t.args).drop (t.args.length-i)).length))),(6,Ln .i64 (((p+(flatL (t.args.take (t.args.length-i))).length:Nat):Int)-1)),(7,Ln .i64 (i:Nat))],[nuB' 500 ((endsI p t.args).drop (t.args.length-i)) r],X⟩) t.args.length
    ⟨⟨[(0,Lx (some ⟨blk,off,none⟩) l.length cap),(1,Ln .i64 e),(5,.sv (.one (.slc 500 0 ([]:List Int).length))),(6,Ln .i64 (((p+(flatL (t.args.take (t.args.length-0))).length:Nat):Int)-1)),(7,Ln .i64 (0:Nat))],[nuB' 500 [] false],X⟩,Le.ofR [(500,8)] (by exact ⟨rfl,rfl,rfl,rfl,rfl,trivial⟩) (by repeat' (first|exact trivial|refine cQ ⟨_,rfl,?_⟩ ?_|refine cQ ⟨_,rfl⟩ ?_|rfl|exact bX _ _ _ _|exact bY _ _ _ _|exact bZ rfl)) (by exact rfl) (by exact rfl) (by repeat' (first|refine bT ?_ ?_|rfl|exact bV|exact bU|exact bW rfl)) (by exact rfl) (by exact rfl),0,false,by omega,(fun h=>absurd h (by decide)),rfl,by rw [Nat.sub_zero,hdrop0]⟩ ?_
  rintro m σ ⟨i,r,hi,hr,rfl,rfl⟩
  by_cases hlt:i<t.args.length
  · obtain ⟨j,hj⟩:∃ j,t.args.length-i=j+1:=⟨t.args.length-i-1,by omega⟩
    have hj2:t.args.length-(i+1)=j:=by omega
    rw [hj]
    obtain ⟨a,ha⟩:∃ a,t.args[j]? = some a:=⟨_,cX (by omega)⟩
    obtain ⟨hAa,_⟩:=hA.arg ha
    have hstep:=endsI_step (p:=p) ha
    have htk:t.args.take (j+1)=t.args.take j++[a]:=take_snoc ha
    have hft:(flatL (t.args.take (j+1))).length=(flatL (t.args.take j)).length+a.flat.length:=by rw [htk,flatL_app,cV];simp [flatL]
    have ha1:=flat_len a
    have hal2:=hAa.len
    have hS:=rStart_spec X l (some ⟨blk,off,none⟩) cap hin hbig hAa (hoks a (dD ha)) (((p+(flatL (t.args.take (j+1))).length:Nat):Int)-1) (by omega)
    have hcell:(((p+(flatL (t.args.take (j+1))).length:Nat):Int)-1)=((p+(flatL (t.args.take (j+1))).length-1:Nat):Int):=by omega
    have hsub:IntKind.i64.wrap (((p+(flatL (t.args.take j)).length:Nat):Int)-1)=((p+(flatL (t.args.take j)).length:Nat):Int)-1:=by rw [cH (by omega)]
    have hadd:IntKind.i64.wrap ((i:Int)+1)=((i+1:Nat):Int):=by rw [cH (by omega)];omega
    rw [← hcell] at hstep
    have hElen:((endsI p t.args).drop (j+1)).length≤3:=by rw [dA,endsI_len];omega
    generalize ((p+(flatL (t.args.take (j+1))).length:Nat):Int)-1=v at *
    generalize hE:(endsI p t.args).drop (j+1)=E at *
    have hnc:[CV.val (.int .i64 v)]++(nuV E).map CV.val=(nuV (v::E)).map CV.val:=rfl
    have hnl:1+E.length=(v::E).length:=by rw [dI,Nat.add_comm]
    have htake:((nuV E).map CV.val).take (E.length*1)=(nuV E).map CV.val:=List.take_of_length_le (by rw [hrl];exact dN _)
    have hsol:((nuV E).map CV.val).all CV.solid=true:=vals_solid (by unfold nuV;rw [List.all_map];exact List.all_eq_true.2 fun _ _=>rfl)
    (refine aA<|aA<|rgN<|kmv O<|kmv O<|kmv O<|aR O O cC hin0 hio dR<|bH O O dR ?_;refine aW O hX O hop dR<|kca O O (hT)<|klt O O (cP (by omega))<|aB<|aE O ?_;refine aH ?_;refine aA<|aG<|aA<|rgN<|kmv O<|aZ (zs:=[.int .i64 0]) (sz:=1) (e:=3) (cs':=[.val (.int .i64 v)]) (by kernel_rfl) O O O O O O dR<|kmv O<|bQ (by_:=8) (e2:=3) (l2:=(nuV E).map .val) (nl:=(v::E).length) (nc:=(nuV (v::E)).map .val) O O O O O (by rw [hrl];exact dN _) htake hsol (by kernel_rfl) (by kernel_rfl) (by omega) (by omega) O hnl hnc dR<|kas O<|aB<|rgN<|kmv O<|kmv O<|kca O O (hS) ?_;refine bA O O hsub dR<|kas O<|aB<|rgN<|kmv O<|kad O O hadd<|kas O<|aB ?_)
    exact ⟨_,⟨[(0,Lx (some ⟨blk,off,none⟩) l.length cap),(1,Ln .i64 e),(5,.sv (.one (.slc 500 0 (v::E).length))),(6,Ln .i64 (((p+(flatL (t.args.take j)).length:Nat):Int)-1)),(7,Ln .i64 (i+1:Nat))],[nuB' 500 (v::E) true],X⟩,by omega,Le.ofR [(500,24)] (by exact ⟨rfl,rfl,rfl,rfl,rfl,trivial⟩) (by repeat' (first|exact trivial|refine cQ ⟨_,rfl,?_⟩ ?_|refine cQ ⟨_,rfl⟩ ?_|rfl|exact bX _ _ _ _|exact bY _ _ _ _|exact bZ rfl)) (by exact rfl) (by exact rfl) (by repeat' (first|refine bT ?_ ?_|rfl|exact bV|exact bU|exact bW rfl)) (by exact rfl) (by exact rfl),i+1,true,by omega,(fun _=>rfl),rfl,by rw [hj2,hstep]⟩
  · have e2:i=t.args.length:=by omega
    obtain rfl:r=true:=hr (by omega)
    subst e2
    rw [Nat.sub_self,List.drop_zero]
    (refine aA<|aA<|rgN<|kmv O<|kmv O<|kmv O<|aR O O cC hin0 hio dR<|bH O O dR ?_;refine aW O hX O hop dR<|kca O O (hT)<|klt O O (cO (by omega))<|aB<|aF O ?_;refine aJ<|aA<|rgN<|kmv O<|kas O<|aB<|aI ?_)
    refine cE (σ':=⟨[(4,.sv (.one (.slc 500 0 (endsI p t.args).length)))],[nuB 500 (endsI p t.args)],X⟩) (Le.ofR [(500,500)] (by exact ⟨rfl,trivial⟩) (by repeat' (first|exact trivial|refine cQ ⟨_,rfl,?_⟩ ?_|refine cQ ⟨_,rfl⟩ ?_|rfl|exact bX _ _ _ _|exact bY _ _ _ _|exact bZ rfl)) (by exact rfl) (by exact rfl) (by repeat' (first|refine bT ?_ ?_|rfl|exact bV|exact bU|exact bW rfl)) (by exact rfl) (by exact rfl)) ?_
    refine cE Le.loose (cD ?_)
    exact ⟨[(1000001,500)],⟨[_],⟨rfl,trivial⟩,rfl⟩,(by repeat' (first|exact trivial|refine cQ ⟨_,rfl,?_⟩ ?_|refine cQ ⟨_,rfl⟩ ?_|rfl|exact bX _ _ _ _|exact bY _ _ _ _|exact bZ rfl)),rfl,rfl⟩
end Go.Proofs.YtamplgnbbanamaaGreatDoor
end
