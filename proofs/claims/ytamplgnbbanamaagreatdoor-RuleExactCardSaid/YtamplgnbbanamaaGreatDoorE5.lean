/- A piece of a proof over this program: contracts of its functions, and a logic to prove them by. -/
import Derived.Test.YtamplgnbbanamaaGreatDoorE2
import Derived.Test.YtamplgnbbanamaaGreatDoorE3
import Derived.Test.YtamplgnbbanamaaGreatDoorE4
import Derived.Lib.Walk
import Derived.Lib.ItoaMem
import Derived.Lib.AppendIntMem
import Derived.WalkKit
import Derived.BigCall
import Derived.BigGuard
import Derived.ChangeKeysEq
section
namespace Go.Proofs.YtamplgnbbanamaaGreatDoor
open Go Go.Lg Go.Lg.Arith
variable (X:Nat→Option Obj)
theorem two_word {T d Y:Int} (hY:0<Y) (hd:0≤d∧d<18446744073709551616) (hT:0≤T):
    (T*18446744073709551616+d)/Y=T/Y*18446744073709551616+(T%Y*18446744073709551616+d)/Y∧(T*18446744073709551616+d)%Y=(T%Y*18446744073709551616+d)%Y ∧
    0≤(T%Y*18446744073709551616+d)/Y∧(T%Y*18446744073709551616+d)/Y<18446744073709551616∧0≤T%Y∧T%Y<Y∧0≤T/Y:=by
  have h:=Int.emod_add_mul_ediv T Y
  have h0:=Int.emod_nonneg T (show Y≠0 by omega)
  have h1:=Int.emod_lt_of_pos T hY
  have e:T*18446744073709551616+d=(T%Y*18446744073709551616+d)+Y*(T/Y*18446744073709551616):=by
    rw [← Int.mul_assoc]
    generalize Y*(T/Y)=a at *
    omega
  have hq0:0≤(T%Y*18446744073709551616+d)/Y:=Int.ediv_nonneg (by omega) (by omega)
  have hq1:(T%Y*18446744073709551616+d)/Y<18446744073709551616:=by rw [Int.ediv_lt_iff_lt_mul hY];omega
  refine ⟨?_,?_,hq0,hq1,h0,h1,Int.ediv_nonneg hT (by omega)⟩
  · rw [e,Int.add_mul_ediv_left _ _ (by omega)];omega
  · rw [e,Int.add_mul_emod_self_left]
theorem divide_spec (M N:Int) (hM:Lim M) (hN:0<N∧N<170141183460469231731687303715884105728):
    PSpec Tryz.prog X 143 [LZ M,LZ N] (.tup [SZ (M/N),SZ (M%N)]):=by
  obtain ⟨hM0,hM1⟩:=hM
  refine cF Tryz.func143 rfl (by kernel_rfl) rfl rfl ?_
  intro C
  by_cases hl:18446744073709551616≤N
  · (refine aA<|rgN<|aL O O O dR<|aL O O O dR<|aP O dR ?_;refine aP O dR ?_;refine aB<|aA<|aA<|rgN<|kfa O O ?_;refine kl1 O O O<|kne O O (cT (by omega))<|aB<|aE O ?_;refine aA<|rgN<|aK O O O dR ?_;refine aK O O O dR ?_;refine kca O O (divideLong_spec _ _ _ ⟨hM0,hM1⟩ ⟨hl,hN.2⟩)<|kex O O<|kex O O<|aM O O O O O O dR ?_;refine aM O O O O O O dR ?_;refine aB<|aI ?_)
    exact ⟨[_,_],⟨⟨_,_,O,O,O,.inl ⟨AggT.h,O⟩⟩,⟨_,_,O,O,O,.inl ⟨AggT.h,O⟩⟩,trivial⟩,O⟩
  · obtain ⟨t1,t2,t3,t4,t5,t6,t7⟩:=two_word (T:=M/18446744073709551616) (d:=M%18446744073709551616) (Y:=N) hN.1 (by omega) (by omega)
    rw [show M/18446744073709551616*18446744073709551616+M%18446744073709551616=M by omega] at t1 t2
    have eN:N%18446744073709551616=N:=by omega
    have hd:=Div64_spec X (M/18446744073709551616%N) (M%18446744073709551616) N ⟨t5,t6⟩ (by omega) (by omega)
    have hr0:=Int.emod_nonneg M (show N≠0 by omega)
    have hr1:=Int.emod_lt_of_pos M hN.1
    rw [← t2] at hd
    rw [← eN] at hd
    rw [LZ_word (g:=N) (by omega)]
    rw [eN] at hd
    have hq:M/18446744073709551616/N<18446744073709551616:=by
      have:=Int.ediv_le_self N (show 0≤M/18446744073709551616 by omega);omega
    (refine aA<|rgN<|aL O O O dR<|aL O O O dR<|aP O dR ?_;refine aP O dR ?_;refine aB<|aA<|aA<|rgN<|kfa O O ?_;refine kl1 O O O<|kne O O ((cS (by omega)))<|aB<|aF O ?_;refine aH ?_;refine aA<|rgD mixed<|kfa O O ?_;refine kl1 O O O<|kfa O O ?_;refine kl1 O O O<|K.quo O O (by omega) (quo_u64 (by omega) (by omega)) dR<|kfa O O ?_;refine kl1 O O O<|kfa O O ?_;refine kl1 O O O<|K.rem O O (by omega) (rem_pos (by omega)) dR<|kas O<|kas O<|aB<|rgA ?_;refine aA<|rgN<|kmv O<|kfa O O ?_;refine kl1 O O O<|kfa O O ?_;refine kl1 O O O<|kca O O (hd)<|kmv O<|kex O O<|kex O O<|kas O<|kas O<|aB<|aA<|rgN<|kmv O<|kmv O<|aT O O (by exact O) (by exact nl2 O O O) dR ?_;refine kmv O<|aT O O (by exact O) (by exact nl2 O O O) dR ?_;refine aM O O O O O O dR ?_;refine aM O O O O O O dR ?_;refine aB<|aI ?_)
    rw [show SZ (M/N) = .agg [.val (.int .u64 (M/18446744073709551616/N)),.val (.int .u64 ((M/18446744073709551616%N*18446744073709551616+M%18446744073709551616)/N))] by
        unfold SZ;rw [show M/N/18446744073709551616=M/18446744073709551616/N by omega,show M/N%18446744073709551616=(M/18446744073709551616%N*18446744073709551616+M%18446744073709551616)/N by omega],
      show SZ (M%N) = .agg [.val (.int .u64 0),.val (.int .u64 (M%N))] by unfold SZ;rw [show M%N/18446744073709551616=0 by omega,show M%N%18446744073709551616=M%N by omega]]
    exact ⟨[_,_],⟨⟨_,_,O,O,O,.inl ⟨AggT.h,O⟩⟩,⟨_,_,O,O,O,.inl ⟨AggT.h,O⟩⟩,trivial⟩,O⟩
theorem divisible_spec (b c:Bool) (M N:Int) (hM:In2 M) (hN:In2 N) (r:Bool) (hr:((formB b M&&formB c N) && !(N==0))=r):PSpec Tryz.prog X 142 [LI b M,LI c N] (Lb r):=by
  subst hr
  refine cF Tryz.func142 rfl (by kernel_rfl) rfl rfl ?_
  intro C
  cases hf:(formB b M&&formB c N)
  · (refine aA<|rgN<|aL O O O dR<|aL O O O dR<|kas O<|aB<|aA<|rgN<|aK O O O dR ?_;refine aK O O O dR ?_;refine kca O O (bothForm_spec _ _ _ _ _ hM hN _ hf)<|kmv O<|aC O O O<|aC O O O<|aC O O O<|aC O O O<|kpf O O<|kas O<|aB<|aI ?_)
    exact ⟨[_],⟨rfl,trivial⟩,by simp [resOf]⟩
  · (refine aA<|rgN<|aL O O O dR<|aL O O O dR<|kas O<|aB<|aA<|rgN<|aK O O O dR ?_;refine aK O O O dR ?_;refine kca O O (bothForm_spec _ _ _ _ _ hM hN _ hf)<|kmv O<|aK O O O (dS O O) ?_;refine gca O O (sizeOf_spec _ _ _ _) O O<|gca O O (zero_spec _ _ hN _ O) O O<|aV O O (dS O O) ?_;refine kpt O O<|kas O<|aB<|aI ?_)
    exact ⟨[_],⟨rfl,trivial⟩,by simp [resOf]⟩
theorem Quo_arg (b c:Bool) (M N:Int) (hM:In2 M) (hN:In2 N) (hf:((formB b M&&formB c N) && !(N==0))=false):PSpec Tryz.prog X 111 [LI b M,LI c N] (.tup [S0,Sn .i64 1]):=by
  refine cF Tryz.func111 rfl (by kernel_rfl) rfl rfl ?_
  intro C
  (refine aA<|rgN<|aL O O O dR<|aL O O O dR<|aP O dR ?_;refine kas O<|aB<|aA<|aA<|rgN<|aK O O O dR ?_;refine aK O O O dR ?_;refine kca O O (divisible_spec _ _ _ _ _ hM hN _ hf)<|aV O O dR<|aB<|aE O ?_;refine aA<|rgN<|aT O O (by exact O) (by exact nl3 O O O O) dR ?_;refine aM O O O O O O dR ?_;refine kas O<|aB<|aI ?_)
  exact ⟨[_,_],⟨⟨_,_,O,O,O,.inl ⟨AggT.h,O⟩⟩,O,trivial⟩,O⟩
theorem Rem_arg (b c:Bool) (M N:Int) (hM:In2 M) (hN:In2 N) (hf:((formB b M&&formB c N) && !(N==0))=false):PSpec Tryz.prog X 112 [LI b M,LI c N] (.tup [S0,Sn .i64 1]):=by
  refine cF Tryz.func112 rfl (by kernel_rfl) rfl rfl ?_
  intro C
  (refine aA<|rgN<|aL O O O dR<|aL O O O dR<|aP O dR ?_;refine kas O<|aB<|aA<|aA<|rgN<|aK O O O dR ?_;refine aK O O O dR ?_;refine kca O O (divisible_spec _ _ _ _ _ hM hN _ hf)<|aV O O dR<|aB<|aE O ?_;refine aA<|rgN<|aT O O (by exact O) (by exact nl3 O O O O) dR ?_;refine aM O O O O O O dR ?_;refine kas O<|aB<|aI ?_)
  exact ⟨[_,_],⟨⟨_,_,O,O,O,.inl ⟨AggT.h,O⟩⟩,O,trivial⟩,O⟩
theorem mg_zero {y:Int} (hy:y≠0):0<mg y:=by unfold mg;split<;>omega
theorem zv_quo (x y:Int) (hy:y≠0):zv (decide (x<0) != decide (y<0)) (mg x/mg y)=x.tdiv y∧zv (decide (x<0)) (mg x%mg y)=x.tmod y:=by
  unfold zv mg
  by_cases cx:x<0<;>by_cases cy:y<0
  all_goals simp only [cx,cy,decide_true,decide_false,if_true,if_false,bne_self_eq_false,Bool.false_eq_true,Bool.true_bne,Bool.false_bne,Bool.not_false]
  · obtain ⟨a,rfl⟩:∃ a,x = -a:=⟨-x,by omega⟩
    obtain ⟨b,rfl⟩:∃ b,y = -b:=⟨-y,by omega⟩
    simp only [Int.neg_neg,Int.neg_tdiv,Int.tdiv_neg,Int.neg_tmod,Int.tmod_neg]
    rw [Int.tdiv_eq_ediv_of_nonneg (by omega),Int.tmod_eq_emod_of_nonneg (by omega)]
    exact ⟨O,O⟩
  · obtain ⟨a,rfl⟩:∃ a,x = -a:=⟨-x,by omega⟩
    simp only [Int.neg_neg,Int.neg_tdiv,Int.neg_tmod]
    rw [Int.tdiv_eq_ediv_of_nonneg (by omega),Int.tmod_eq_emod_of_nonneg (by omega)]
    exact ⟨O,O⟩
  · obtain ⟨b,rfl⟩:∃ b,y = -b:=⟨-y,by omega⟩
    simp only [Int.neg_neg,Int.tdiv_neg,Int.tmod_neg]
    rw [Int.tdiv_eq_ediv_of_nonneg (by omega),Int.tmod_eq_emod_of_nonneg (by omega)]
    exact ⟨O,O⟩
  · rw [Int.tdiv_eq_ediv_of_nonneg (by omega),Int.tmod_eq_emod_of_nonneg (by omega)]
    exact ⟨O,O⟩
theorem mg_zero' {y:Int} (hy:y≠0):(mg y==0)=false:=by
  have:=mg_zero hy
  exact cR (by omega)
theorem Quo_q (x y:Int) (hx:R127 x) (hy:R127 y) (h0:y≠0):PSpec Tryz.prog X 111 [LQ x,LQ y] (.tup [SQ (x.tdiv y),Sn .i64 0]):=by
  have hB:=divisible_spec X _ _ _ _ (mg_in2 hx) (mg_in2 hy) true (by rw [both_q hx hy,mg_zero' h0];rfl)
  have hd:=divide_spec X (mg x) (mg y) ⟨mg_nonneg x,mg_lim hx⟩ ⟨mg_zero h0,mg_lim hy⟩
  have hq0:0≤mg x/mg y:=Int.ediv_nonneg (mg_nonneg x) (mg_nonneg y)
  have hq1:=Int.ediv_le_self (mg y) (mg_nonneg x)
  have hl:=mg_lim hx
  have hn:=number_spec X (decide (x<0) != decide (y<0)) (mg x/mg y) ⟨hq0,by omega⟩ _ rfl
  rw [← tup_q hq0 (zv_quo x y h0).1]
  refine cF Tryz.func111 rfl (by kernel_rfl) rfl rfl ?_
  intro C
  (refine aA<|rgN<|aL O O O dR<|aL O O O dR<|aP O dR ?_;refine kas O<|aB<|aA<|aA<|rgN<|aK O O O dR ?_;refine aK O O O dR ?_;refine kca O O (hB)<|aV O O dR<|aB<|aF O ?_;refine aH ?_;refine aA<|rgD mixed<|aK O O O dR ?_;refine kca O O (sizeOf_spec _ _ _ _)<|aK O O O dR ?_;refine kca O O (sizeOf_spec _ _ _ _)<|kca O O (hd)<|kmv O<|kex O O<|kex O O<|aP O dR ?_;refine aP O dR ?_;refine aM O O O O O O dR ?_;refine aM O O O O O O dR ?_;refine aB<|rgA ?_;refine aA<|rgN<|kfa O O ?_;refine kl1 O O O<|kfa O O ?_;refine kl1 O O O<|K.neqB O O O dR<|aK O O O dR ?_;refine kca O O (hn)<|aM O O O O O O dR ?_;refine kas O<|aB<|aI ?_)
  exact ⟨[_,_],⟨⟨_,_,O,O,O,.inl ⟨AggT.h,O⟩⟩,O,trivial⟩,O⟩
theorem Rem_q (x y:Int) (hx:R127 x) (hy:R127 y) (h0:y≠0):PSpec Tryz.prog X 112 [LQ x,LQ y] (.tup [SQ (x.tmod y),Sn .i64 0]):=by
  have hB:=divisible_spec X _ _ _ _ (mg_in2 hx) (mg_in2 hy) true (by rw [both_q hx hy,mg_zero' h0];rfl)
  have hd:=divide_spec X (mg x) (mg y) ⟨mg_nonneg x,mg_lim hx⟩ ⟨mg_zero h0,mg_lim hy⟩
  have hq0:0≤mg x%mg y:=Int.emod_nonneg _ (by have:=mg_zero h0;omega)
  have hq1:=Int.emod_lt_of_pos (mg x) (mg_zero h0)
  have hl:=mg_lim hy
  have hn:=number_spec X (decide (x<0)) (mg x%mg y) ⟨hq0,by omega⟩ _ rfl
  rw [← tup_q hq0 (zv_quo x y h0).2]
  refine cF Tryz.func112 rfl (by kernel_rfl) rfl rfl ?_
  intro C
  (refine aA<|rgN<|aL O O O dR<|aL O O O dR<|aP O dR ?_;refine kas O<|aB<|aA<|aA<|rgN<|aK O O O dR ?_;refine aK O O O dR ?_;refine kca O O (hB)<|aV O O dR<|aB<|aF O ?_;refine aH ?_;refine aA<|rgD mixed<|aK O O O dR ?_;refine kca O O (sizeOf_spec _ _ _ _)<|aK O O O dR ?_;refine kca O O (sizeOf_spec _ _ _ _)<|kca O O (hd)<|kmv O<|kex O O<|kex O O<|aP O dR ?_;refine aP O dR ?_;refine aM O O O O O O dR ?_;refine aM O O O O O O dR ?_;refine aB<|rgA ?_;refine aA<|rgN<|kfa O O ?_;refine kl1 O O O<|aK O O O dR ?_;refine kca O O (hn)<|aM O O O O O O dR ?_;refine kas O<|aB<|aI ?_)
  exact ⟨[_,_],⟨⟨_,_,O,O,O,.inl ⟨AggT.h,O⟩⟩,O,trivial⟩,O⟩
end Go.Proofs.YtamplgnbbanamaaGreatDoor
end
section
namespace Go.Proofs.YtamplgnbbanamaaGreatDoor
open Go Go.Proofs Go.Shelf Go.RowKit Go.Sort Go.Lib
set_option maxHeartbeats 6400000 in
set_option maxRecDepth 100000 in
theorem inner_format (u : Nat) (hu64 : u < 18446744073709551616) (w : World) (htab : Lib.TabIs Tryz.prog w "internal/strconv.uint64pow10" .u64 Lib.pow10Tab) :
    Calls Tryz.prog 170 #[.int .u64 u,.int .i64 10] w fun e w'=>e = .returned (.string ⟨(Lib.decDigits u).toArray⟩)∧Below w.heap.size w w':=by
  have mixed:=Tryz.lays99.mixed
  have e74:∀ args w,(callFunc 124 args).run Tryz.prog w = .ok (.enter 124 args) w:=enters_of Tryz.func124 (by kernel_rfl) rfl
  have e75:∀ args w,(callFunc 125 args).run Tryz.prog w = .ok (.enter 125 args) w:=enters_of Tryz.func125 (by kernel_rfl) rfl
  have e76:∀ args w,(callFunc 126 args).run Tryz.prog w = .ok (.enter 126 args) w:=enters_of Tryz.func126 (by kernel_rfl) rfl
  by_cases hs:u<100
  · go_enter Tryz.func170,Tryz.ntmps170
    go_wp2_with (go_at_fn 124;refine (Tryz.internal_strconv_small u hs _).mono ?_;rintro e w' ⟨rfl,rfl⟩)
    go_ret
    exact ⟨rfl,Below.refl _ _⟩
  · have hu1:1≤u:=by omega
    have hnd20:Lib.nDigits u≤20:=by have:=Lib.numDigits_eq u hu1 hu64;split at this<;>omega
    have hal:Tryz.prog.arrayLen 177=24:=by kernel_rfl
    have hsl1:∀ W,(Instr.sliceAt 177 (.pointer (some ⟨w.heap.size,0,none⟩)) none (some (.int .i64 (Lib.nDigits u:Int))) none).run Tryz.prog W = .ok (.slice (some ⟨w.heap.size,0,none⟩) (Lib.nDigits u) 24) W:=fun W=>by
      rw [run_sliceAt_array_h W 177 ⟨w.heap.size,0,none⟩ (by kernel_rfl) .i64 (Lib.nDigits u:Int) (by omega) (by rw [hal];omega)]
      go_simp
    have hH0:Holds (fun (b:UInt8)=>Value.int .u8 (b.toNat:Int)) (w.alloc (.cells Lib.zeros24 177)) w.heap.size 0 (Array.replicate (Lib.nDigits u) (0:UInt8)):=fun j hj=>by
      have hj':j<Lib.nDigits u:=by simpa using hj
      refine ⟨?_,World.frozen?_alloc_new _ _ _ _⟩
      rw [World.cell?_alloc_new,zeros24_at _ (by omega),getElem!_pos _ j hj]
      simp
    have hfmt:=Tryz.internal_strconv_formatBase10 w.heap.size 0 24 u (Array.replicate (Lib.nDigits u) 0) (w.alloc (.cells Lib.zeros24 177)) hH0 (by rw [Array.size_replicate];exact Lib.lt_pow_nDigits u) hu64 (by rw [Array.size_replicate];omega)
    rw [Array.size_replicate] at hfmt
    have HH0:=Lib.hid hH0
    clear hH0 hal
    go_enter Tryz.func170,Tryz.ntmps170
    go_wp2_with (first
      | (go_at_fn 125;refine (Tryz.internal_strconv_numDigits u hu1 hu64 _ (Lib.tabIs_alloc htab _)).mono ?_;rintro e w' ⟨rfl,rfl⟩))
    go_at_fn 126
    refine hfmt.mono ?_
    rintro e w' ⟨rfl,k,v',dk,rfl,hF⟩
    have hcv:(convert 59 9 (.slice (some ⟨w.heap.size,0,none⟩) (Lib.nDigits u) 24)).run Tryz.prog ((putRow (fun (b:UInt8)=>Value.int .u8 (b.toNat:Int)) (w.alloc (.cells Lib.zeros24 177)) w.heap.size 0 dk).drewN k) = .ok (.string ⟨(Lib.decDigits u).toArray⟩) ((putRow (fun (b:UInt8)=>Value.int .u8 (b.toNat:Int)) (w.alloc (.cells Lib.zeros24 177)) w.heap.size 0 dk).drewN k):=by
      have h:=run_convert_bytes_back (P:=Tryz.prog) ((putRow (fun (b:UInt8)=>Value.int .u8 (b.toNat:Int)) (w.alloc (.cells Lib.zeros24 177)) w.heap.size 0 dk).drewN k) 59 9 5 ⟨w.heap.size,0,none⟩ 24 (Lib.decDigits u) Tryz.underlying59 Tryz.underlying5 Tryz.underlying9 (fun j hj=>by
        rw [Lib.row_is_numeral hF j hj,Lib.add_plain,World.cell?_drewN]
        exact cell?_putRow (fun (b:UInt8)=>Value.int .u8 (b.toNat:Int)) _ w.heap.size 0 _ dk HH0.out (by rw [hF.size,Array.size_replicate]) j (by rw [hF.size];rw [Lib.decDigits_length] at hj;exact hj))
      rw [Lib.decDigits_length] at h
      exact h
    go_wp2
    go_ret
    refine ⟨rfl,?_⟩
    have e:∃ os,(putRow (fun (b:UInt8)=>Value.int .u8 (b.toNat:Int)) (w.alloc (.cells Lib.zeros24 177)) w.heap.size 0 dk).drewN k=grow (w.drewN k) os:=by
      rw [alloc_eq_grow]
      obtain ⟨os',_,e⟩:=putRow_grow_new (fun (b:UInt8)=>Value.int .u8 (b.toNat:Int)) w #[.cells Lib.zeros24 177] w.heap.size 0 dk (Nat.le_refl _)
      exact ⟨os',by rw [e];rfl⟩
    obtain ⟨os,e⟩:=e
    rw [e]
    exact below_grow _ _ (Nat.le_refl _) k os
end Go.Proofs.YtamplgnbbanamaaGreatDoor
end
section
namespace Go.Lg.Dec
open Go Go.Lib
def pad:Nat→Nat→List UInt8
  | 0,_=>[]
  | k+1,u=>pad k (u/10)++[UInt8.ofNat (48+u%10)]
theorem dec_pad:∀ (k U L:Nat),0<U→L<10^k→decDigits (U*10^k+L)=decDigits U++pad k L
  | 0,U,L,_,hL=>by
    have:L=0:=by simpa using hL
    subst this
    simp [pad]
  | k+1,U,L,hU,hL=>by
    have hp:0<10^k:=Nat.pow_pos (by decide)
    have h1:U*10^(k+1)+L=(U*10^k+L/10)*10+L%10:=by rw [Nat.pow_succ,← Nat.mul_assoc,Nat.add_mul];omega
    have hb:¬ U*10^(k+1)+L<10:=by
      have:1*10^k≤U*10^k:=Nat.mul_le_mul_right _ hU
      omega
    rw [decDigits,dif_neg hb,h1,show ((U*10^k+L/10)*10+L%10)/10=U*10^k+L/10 by omega,show ((U*10^k+L/10)*10+L%10)%10=L%10 by omega,
      dec_pad k U (L/10) hU (by rw [Nat.pow_succ] at hL;omega),dM]
    rfl
theorem rep_snoc (k:Nat):repeatL [48] k++[48]=repeatL [48] (k+1):=by rw [repeatL_add,repeatL_one]
theorem pad_rep:∀ (k L:Nat),L<10^(k+1)→pad (k+1) L=repeatL [48] (k+1-nDigits L)++decDigits L
  | 0,L,hL=>by
    have h:L<10:=by simpa using hL
    rw [nDigits_small h,decDigits_one h]
    simp [pad,repeatL,Nat.mod_eq_of_lt h]
  | k+1,L,hL=>by
    have hL':L/10<10^(k+1):=by rw [Nat.pow_succ] at hL;omega
    have ih:=pad_rep k (L/10) hL'
    show pad (k+1) (L/10)++[UInt8.ofNat (48+L%10)]=_
    rw [ih]
    by_cases h:L<10
    · rw [nDigits_small h,show L/10=0 by omega,nDigits_small (show 0<10 by decide),decDigits_one (show 0<10 by decide),decDigits_one h,Nat.mod_eq_of_lt h]
      show repeatL [48] (k+1-1)++[48]++_=_
      rw [rep_snoc]
      rfl
    · rw [nDigits_big h,show k+1+1-(nDigits (L/10)+1)=k+1-nDigits (L/10) by omega,dM]
      congr 1
      conv=>rhs;rw [decDigits,dif_neg h]
theorem nDigits_le:∀ (k u:Nat),u<10^(k+1)→nDigits u≤k+1
  | 0,u,h=>by rw [nDigits_small (by simpa using h)];omega
  | k+1,u,h=>by
    by_cases c:u<10
    · rw [nDigits_small c];omega
    · rw [nDigits_big c]
      have:=nDigits_le k (u/10) (by rw [Nat.pow_succ] at h;omega)
      omega
end Go.Lg.Dec
namespace Go.Proofs.YtamplgnbbanamaaGreatDoor
open Go Go.Lg Go.Lg.Arith Go.Lg.Dec Go.RowKit
variable (X:Nat→Option Obj)
def XTab : Prop := ∀ w : World, (∀ b o, X b = some o → w.heap[b]? = some o) → Lib.TabIs Tryz.prog w "internal/strconv.uint64pow10" .u64 Lib.pow10Tab
theorem format_inner (hT:XTab X) (u:Nat) (hu:u<18446744073709551616):PSpec Tryz.prog X 170 [Ln .u64 (u:Nat),Ln .i64 10] (Ls (Lib.decDigits u)):=
  PSpec.ofBelow (vals:=[.int .u64 (u:Nat),.int .i64 10]) (v:=.string ⟨(Lib.decDigits u).toArray⟩) (by kernel_rfl) rfl rfl (fun w hX=>inner_format u hu w (hT w hX))
theorem format_spec (hT:XTab X) (u:Nat) (hu:u<18446744073709551616):PSpec Tryz.prog X 160 [Ln .u64 (u:Nat),Ln .i64 10] (Ls (Lib.decDigits u)):=by
  refine cF Tryz.func160 rfl (by kernel_rfl) rfl rfl ?_
  intro C
  (refine aA<|rgN<|kas O<|aB<|aA<|rgN<|kmv O<|kmv O<|kca O O (format_inner _ hT u hu)<|kas O<|aB<|aI ?_)
  exact ⟨[_],⟨O,trivial⟩,O⟩
theorem repeat_spec (c:Nat) (hc:c≤1000):PSpec Tryz.prog X 161 [Ls [48],Ln .i64 (c:Nat)] (Ls (Lib.repeatL [48] c)):=
  PSpec.ofBelow (vals:=[.string ⟨[48].toArray⟩,.int .i64 (c:Nat)]) (v:=.string ⟨(Lib.repeatL [48] c).toArray⟩) (by kernel_rfl) rfl rfl (fun w _=>Tryz.strings_Repeat ⟨[48].toArray⟩ c w (by omega) (by show 1*c≤_;omega))
theorem digits_spec (hT:XTab X) (M:Nat) (hM:M<170141183460469231731687303715884105728):PSpec Tryz.prog X 128 [LZ (M:Nat)] (Ls (Lib.decDigits M)):=by
  have hdv:=Div64_spec X ((M:Int)/18446744073709551616) ((M:Int)%18446744073709551616) 10000000000000000000 (by omega) (by omega) (by omega)
  rw [show (M:Int)/18446744073709551616*18446744073709551616+(M:Int)%18446744073709551616=(M:Int) by omega] at hdv
  rw [show (M:Int)/10000000000000000000=((M/10000000000000000000:Nat):Int) by omega,show (M:Int)%10000000000000000000=((M%10000000000000000000:Nat):Int) by omega] at hdv
  have hL:M%10000000000000000000<10000000000000000000:=Nat.mod_lt _ (by decide)
  have hU:M/10000000000000000000<18446744073709551616:=by omega
  have hsum:M=M/10000000000000000000*10^19+M%10000000000000000000:=by omega
  generalize M/10000000000000000000=U at *
  generalize M%10000000000000000000=L at *
  have hf1:=format_spec X hT L (by omega)
  have hf2:=format_spec X hT U hU
  have hn:=nDigits_le 18 L hL
  have hp:=Lib.nDigits_pos L
  have hu:=nDigits_le 19 U (by omega)
  have hs1:(⟨(Lib.decDigits L).toArray⟩:ByteArray).size=Lib.nDigits L:=Lib.decDigits_length L
  have hs2:(⟨(Lib.decDigits U).toArray⟩:ByteArray).size=Lib.nDigits U:=Lib.decDigits_length U
  have hs3:(⟨(Lib.repeatL [48] (19-Lib.nDigits L)).toArray⟩:ByteArray).size=(19-Lib.nDigits L)*1:=Lib.repeatL_length _ _
  have hs4:(⟨(Lib.decDigits U++Lib.repeatL [48] (19-Lib.nDigits L)).toArray⟩:ByteArray).size=Lib.nDigits U+(19-Lib.nDigits L)*1:=by
    show (Lib.decDigits U++Lib.repeatL [48] (19-Lib.nDigits L)).length=_
    rw [cV,Lib.decDigits_length,Lib.repeatL_length]
    rfl
  have hsub:IntKind.i64.wrap (19-((⟨(Lib.decDigits L).toArray⟩:ByteArray).size:Nat))=((19-Lib.nDigits L:Nat):Int):=by
    rw [hs1,cH (by omega)];omega
  refine cF Tryz.func128 rfl (by kernel_rfl) rfl rfl ?_
  intro C
  by_cases h0:U=0
  · subst h0
    rw [Nat.zero_mul,Nat.zero_add] at hsum
    subst hsum
    (refine aA<|rgN<|aL O O O dR<|kas O<|aB<|aA<|rgN<|kfa O O ?_;refine kl1 O O O<|kfa O O ?_;refine kl1 O O O<|kca O O (hdv)<|kmv O<|kex O O<|kex O O<|kas O<|kas O<|aB<|aA<|rgN<|kmv O<|kca O O (hf1)<|kas O<|aB ?_;refine aA<|aA<|rgN<|kmv O<|keq O O (cU (by omega))<|aB<|aE O ?_;refine aA<|rgN<|kmv O<|kas O<|aB<|aI ?_)
    exact ⟨[_],⟨O,trivial⟩,O⟩
  · have e:Lib.decDigits M=Lib.decDigits U++Lib.repeatL [48] (19-Lib.nDigits L)++Lib.decDigits L:=by
      rw [hsum,dec_pad 19 U L (by omega) hL,pad_rep 18 L hL,dM]
    rw [e]
    (refine aA<|rgN<|aL O O O dR<|kas O<|aB<|aA<|rgN<|kfa O O ?_;refine kl1 O O O<|kfa O O ?_;refine kl1 O O O<|kca O O (hdv)<|kmv O<|kex O O<|kex O O<|kas O<|kas O<|aB<|aA<|rgN<|kmv O<|kca O O (hf1)<|kas O<|aB ?_;refine aA<|aA<|rgN<|kmv O<|keq O O (cR (by omega))<|aB<|aF O ?_;refine aH ?_;refine aA<|rgN<|kmv O<|kln O<|bA O O hsub dR<|kca O O (repeat_spec _ (19-Lib.nDigits L) (by omega))<|kas O<|aB<|aA<|rgN<|kmv O<|kca O O (hf2)<|kmv O<|bM O O (by omega) (str_add _ _) dR ?_;refine kmv O<|bM O O (by omega) (str_add _ _) dR<|kas O<|aB<|aI ?_)
    exact ⟨[_],⟨O,trivial⟩,O⟩
theorem Text_spec (hT:XTab X) (x:Int) (hx:R127 x):PSpec Tryz.prog X 98 [LQ x] (Ls (textQ x)):=by
  have hF:=Form_spec X _ _ (mg_in2 hx) true (formB_q hx)
  have hm:=mg_nonneg x
  have hl:=mg_lim hx
  have hd:=digits_spec X hT (mg x).toNat (by omega)
  rw [show (((mg x).toNat:Nat):Int)=mg x by omega] at hd
  have hlen:(⟨(Lib.decDigits (mg x).toNat).toArray⟩:ByteArray).size≤39:=by
    show (Lib.decDigits (mg x).toNat).length≤39
    rw [Lib.decDigits_length]
    exact nDigits_le 38 _ (by omega)
  refine cF Tryz.func98 rfl (by kernel_rfl) rfl rfl ?_
  intro C
  by_cases c:x<0
  · have e:textQ x=[45]++Lib.decDigits (mg x).toNat:=if_pos c
    rw [e]
    unfold LQ at hF ⊢
    simp only [c,decide_true] at hF ⊢
    (refine aA<|rgN<|aL O O O dR<|kas O<|aB<|aA<|aA<|rgN<|aK O O O dR ?_;refine kca O O (hF)<|aV O O dR<|aB<|aF O ?_;refine aH ?_;refine aA<|rgN<|aK O O O dR ?_;refine kca O O (sizeOf_spec _ _ _ _)<|kca O O (hd)<|kas O<|aB<|aA<|aA<|rgN<|kfa O O ?_;refine kl1 O O O<|aB<|aE O ?_;refine aA<|rgN<|kmv O<|bM O O (Nat.le_trans (Nat.add_le_add_left hlen _) (by decide)) (str_add [45] _) dR<|kas O<|aB<|aI ?_)
    exact ⟨[_],⟨O,trivial⟩,O⟩
  · have e:textQ x=Lib.decDigits (mg x).toNat:=if_neg c
    rw [e]
    unfold LQ at hF ⊢
    simp only [c,decide_false] at hF ⊢
    (refine aA<|rgN<|aL O O O dR<|kas O<|aB<|aA<|aA<|rgN<|aK O O O dR ?_;refine kca O O (hF)<|aV O O dR<|aB<|aF O ?_;refine aH ?_;refine aA<|rgN<|aK O O O dR ?_;refine kca O O (sizeOf_spec _ _ _ _)<|kca O O (hd)<|kas O<|aB<|aA<|aA<|rgN<|kfa O O ?_;refine kl1 O O O<|aB<|aF O ?_;refine aH ?_;refine aA<|rgN<|kmv O<|kas O<|aB<|aI ?_)
    exact ⟨[_],⟨O,trivial⟩,O⟩
end Go.Proofs.YtamplgnbbanamaaGreatDoor
end
section
namespace Go.Proofs.YtamplgnbbanamaaGreatDoor
open Go Go.Lg Go.Lg.Arith Go.Lg.Dec Go.Lg.Dig Go.RowKit
variable (X:Nat→Option Obj)
def part (M N i j:Nat):Nat:=M%256^i*N+dg M i*(N%256^j)*256^i
end Go.Proofs.YtamplgnbbanamaaGreatDoor
end
section
namespace Go.Lg
open Go Go.RowKit Go.Lg.Dig
end Go.Lg
namespace Go.Proofs.YtamplgnbbanamaaGreatDoor
open Go Go.Lg Go.Lg.Arith Go.Lg.Dec Go.Lg.Dig Go.RowKit
variable (X:Nat→Option Obj)
instance:ArrB Tryz.prog 159 (List.replicate 40 (.int .i64 0)) 1:=⟨by kernel_rfl⟩
end Go.Proofs.YtamplgnbbanamaaGreatDoor
end
section
namespace Go.Proofs.YtamplgnbbanamaaGreatDoor
open Go Go.Lg Go.Lg.Arith Go.Lg.Dec Go.Lg.Dig Go.RowKit
variable (X:Nat→Option Obj)
structure Half (M n:Nat) (s:List UInt8):Prop where
  more:s=[]∨n≠0→Lib.decDigits M=Lib.decDigits n++s
  done:s≠[]→n=0→Lib.decDigits M=s
end Go.Proofs.YtamplgnbbanamaaGreatDoor
end
section
namespace Go.Lg.Fml
end Go.Lg.Fml
namespace Go.Proofs.YtamplgnbbanamaaGreatDoor
open Go Go.Lg Go.Lg.Fml Go.Lg.Fld Go.Lg.Arith Go.Lg.Sg
set_option maxRecDepth 100000
variable (X:Nat→Option Obj)
instance:ArrB Tryz.prog 148 (List.replicate 18 (.string ⟨#[]⟩)) 1:=⟨by kernel_rfl⟩
theorem word_len (op:Int):(wordX op).length≤5:=by
  have key:∀ (c:Prop) [Decidable c] (a b:List UInt8),a.length≤5→b.length≤5→(if c then a else b).length≤5:=fun c _ a b h1 h2=>by
    by_cases h:c
    · rw [if_pos h];exact h1
    · rw [if_neg h];exact h2
  unfold wordX
  repeat (refine key _ _ _ (by decide) ?_)
  decide
theorem evL_txt:∀ us:List Tr,evL oneS us = .ok (us.map Tr.txt)
  | []=>rfl
  | a::us=>by simp only [evL,ev_txt a,evL_txt us,List.map_cons]
theorem txt_top (t:Tr):Tr.txt t=if takes t.top.op=0 then leafS t.top else ((wordX t.top.op++[40])++joinS (t.args.map Tr.txt))++[41]:=by
  have h:=ev_txt t
  rw [ev_args,evL_txt] at h
  simp only [oneS,Except.ok.injEq] at h
  exact h.symm
theorem joinS_len:∀ {l:List (List UInt8)} {n:Nat},l.length≤3→(l.map List.length).sum≤n→(joinS l).length≤n+2
  | [],n,_,h=>by simp [joinS]
  | [a],n,_,h=>by simp [joinS] at h ⊢;omega
  | [a,b],n,_,h=>by simp [joinS] at h ⊢;omega
  | [a,b,c],n,_,h=>by simp [joinS] at h ⊢;omega
  | _::_::_::_::_,n,hl,h=>by simp at hl
theorem textQ_len {z:Int} (h:R127 z):(textQ z).length≤40:=by
  have h1:(Lib.decDigits (mg z).toNat).length≤39:=by
    rw [Lib.decDigits_length]
    have:=mg_lim h
    exact Dec.nDigits_le 38 _ (by omega)
  unfold textQ
  split
  · rw [dI];omega
  · omega
theorem leafS_len {x:Ins} (hx:okI x=true) (h2:In2 x.k.2):(leafS x).length≤50:=by
  obtain ⟨_,hg,ha,hb⟩:=okI_facts hx
  unfold leafS dg1
  have la:=Lib.itoa_length_le x.a (by omega) (by omega)
  have lb:=Lib.itoa_length_le x.b (by omega) (by omega)
  have hq:=textQ_len (zv_in h2 hg).1
  split
  · exact Nat.le_trans hq (by decide)
  · split
    · simp only [cV,cY];omega
    · split
      · simp only [cV,cY];omega
      · simp
theorem txt_len:∀ {t:Tr},t.ok→(∀ x∈t.flat,okI x=true∧In2 x.k.2)→(Tr.txt t).length≤50*t.flat.length
  | .n0 x,ht,h=>by
    rw [txt_top,if_pos (show takes (Tr.n0 x).top.op=0 from ht)]
    have:=h x (by simp [Tr.flat])
    have:=leafS_len this.1 this.2
    simp only [Tr.top,Tr.flat,cY];omega
  | .n1 x a,ht,h=>by
    have h1:=txt_len ht.2 (fun y hy=>h y (by simp [Tr.flat,hy]))
    have hw:=word_len x.op
    have hj:=joinS_len (l:=[Tr.txt a]) (n:=(Tr.txt a).length) (by simp) (by simp)
    rw [txt_top,if_neg (show ¬ takes (Tr.n1 x a).top.op=0 by show ¬ takes x.op=0;rw [ht.1];decide)]
    simp only [Tr.args,Tr.top,List.map_cons,List.map_nil,cV,cY,Tr.flat] at hj ⊢
    omega
  | .n2 x a b,ht,h=>by
    have h1:=txt_len ht.2.1 (fun y hy=>h y (by simp [Tr.flat,hy]))
    have h2:=txt_len ht.2.2 (fun y hy=>h y (by simp [Tr.flat,hy]))
    have hw:=word_len x.op
    have hj:=joinS_len (l:=[Tr.txt a,Tr.txt b]) (n:=(Tr.txt a).length+(Tr.txt b).length) (by simp) (by simp)
    rw [txt_top,if_neg (show ¬ takes (Tr.n2 x a b).top.op=0 by show ¬ takes x.op=0;rw [ht.1];decide)]
    simp only [Tr.args,Tr.top,List.map_cons,List.map_nil,cV,cY,Tr.flat] at hj ⊢
    omega
  | .n3 x a b c,ht,h=>by
    have h1:=txt_len ht.2.1 (fun y hy=>h y (by simp [Tr.flat,hy]))
    have h2:=txt_len ht.2.2.1 (fun y hy=>h y (by simp [Tr.flat,hy]))
    have h3:=txt_len ht.2.2.2 (fun y hy=>h y (by simp [Tr.flat,hy]))
    have hw:=word_len x.op
    have hj:=joinS_len (l:=[Tr.txt a,Tr.txt b,Tr.txt c]) (n:=(Tr.txt a).length+((Tr.txt b).length+(Tr.txt c).length)) (by simp) (by simp)
    rw [txt_top,if_neg (show ¬ takes (Tr.n3 x a b c).top.op=0 by show ¬ takes x.op=0;rw [ht.1];decide)]
    simp only [Tr.args,Tr.top,List.map_cons,List.map_nil,cV,cY,Tr.flat] at hj ⊢
    omega
end Go.Proofs.YtamplgnbbanamaaGreatDoor
end
section
namespace Go.Proofs.YtamplgnbbanamaaGreatDoor
open Go Go.Lg Go.Lg.Fml Go.Lg.Fld
def findP (l:List Rl) (id:Int):Option Rl:=l.find? fun r=>r.nw==id
def fromP (l:List Rl) (old:Int):List Int:=if old=0 then [] else (l.filter fun r=>r.old==old).map Rl.nw
def tailL:List (List Ins)→List UInt8
  | []=>[]
  | c::t=>(32::showX c)++tailL t
def lineR (r:Rl):List UInt8:=if r.old=0 then [102,114,101,115,104,32]++dg1 r.nw else ((dg1 r.nw++[32,102,114,111,109,32])++dg1 r.old)++tailL r.ex
theorem showX_len (c:List Ins) (hi:∀ x∈c,In2 x.k.2):(showX c).length≤3200:=by
  by_cases h:chkX c=0
  · obtain ⟨t,ht,hl⟩:=parse (chkX_zero h).2
    rw [showX_tree h ht hl]
    have h1:=txt_len ht (fun x hx=>⟨chkX_ok h x (by rw [← hl];exact hx),hi x (by rw [← hl];exact hx)⟩)
    have:=(chkX_zero h).1
    rw [hl] at h1
    omega
  · unfold showX;rw [if_neg h];simp
theorem tailL_len:∀ (l:List (List Ins)),(∀ c∈l,∀ x∈c,In2 x.k.2)→(tailL l).length≤3201*l.length
  | [],_=>by simp [tailL]
  | c::t,h=>by
    have h1:=showX_len c (h c (by simp))
    have h2:=tailL_len t (fun d hd=>h d (by simp [hd]))
    simp only [tailL,cV,dI]
    omega
structure CodesIn (X:Nat→Option Obj) (ad:Option Addr) (cs:List (List Ins)):Prop where
  at_:∀ (i:Nat) (c:List Ins),cs[i]? = some c→∃ (blk off:Nat) (arr:Array Value) (el:TypeId) (fr:Nat×Nat) (vad:Option Addr) (vcap:Nat),ad=some ⟨blk,off,none⟩∧X blk=some (.cells arr el fr)∧off+i*1+1≤arr.size∧arr[off+i]? = some (.slice vad c.length vcap)∧InsIn X vad c
theorem CodesIn.mono {X Y:Nat→Option Obj} (hXY:∀ b o,X b=some o→Y b=some o) {ad:Option Addr} {cs:List (List Ins)} (h:CodesIn X ad cs):CodesIn Y ad cs:=⟨fun i c hc=>by
  obtain ⟨blk,off,arr,el,fr,vad,vcap,h1,h2,h3,h4,h5⟩:=h.at_ i c hc
  exact ⟨blk,off,arr,el,fr,vad,vcap,h1,hXY _ _ h2,h3,h4,h5.mono hXY⟩⟩
theorem CodesIn.nil {X:Nat→Option Obj} {ad:Option Addr}:CodesIn X ad []:=⟨fun i c h=>by simp at h⟩
theorem CodesIn.in2 {X:Nat→Option Obj} {ad:Option Addr} {cs:List (List Ins)} (h:CodesIn X ad cs):∀ c∈cs,∀ x∈c,In2 x.k.2:=fun c hc x hx=>by
  obtain ⟨i,hi,e⟩:=List.getElem_of_mem hc
  obtain ⟨_,_,_,_,_,_,_,_,_,_,_,h5⟩:=h.at_ i c (by rw [cX hi,e])
  exact (h5.small x hx).2.2.2
def smallR (r:Rl):Prop:=(-9223372036854775808≤r.nw∧r.nw<9223372036854775808)∧(-9223372036854775808≤r.old∧r.old<9223372036854775808)
structure RulesIn (X:Nat→Option Obj) (ad:Option Addr) (rs:List Rl):Prop where
  at_:∀ (i:Nat) (r:Rl),rs[i]? = some r→∃ (blk off:Nat) (arr:Array Value) (el:TypeId) (fr:Nat×Nat) (ead:Option Addr) (ecap:Nat),ad=some ⟨blk,off,none⟩∧X blk=some (.cells arr el fr)∧off+i*3+3≤arr.size∧(arr.toList.drop (off+i*3)).take 3=[.int .i64 r.nw,.int .i64 r.old,.slice ead r.ex.length ecap]∧CodesIn X ead r.ex
  small:∀ r∈rs,smallR r
theorem RulesIn.mono {X Y:Nat→Option Obj} (hXY:∀ b o,X b=some o→Y b=some o) {ad:Option Addr} {rs:List Rl} (h:RulesIn X ad rs):RulesIn Y ad rs:=⟨fun i c hc=>by
  obtain ⟨blk,off,arr,el,fr,vad,vcap,h1,h2,h3,h4,h5⟩:=h.at_ i c hc
  exact ⟨blk,off,arr,el,fr,vad,vcap,h1,hXY _ _ h2,h3,h4,h5.mono hXY⟩,h.small⟩
theorem RulesIn.nil {X:Nat→Option Obj} {ad:Option Addr}:RulesIn X ad []:=⟨fun i c h=>by simp at h,fun r hr=>by cases hr⟩
theorem RulesIn.in2 {X:Nat→Option Obj} {ad:Option Addr} {rs:List Rl} (h:RulesIn X ad rs):∀ r∈rs,∀ c∈r.ex,∀ x∈c,In2 x.k.2:=fun r hr=>by
  obtain ⟨i,hi,e⟩:=List.getElem_of_mem hr
  obtain ⟨_,_,_,_,_,_,_,_,_,_,_,h5⟩:=h.at_ i r (by rw [cX hi,e])
  exact h5.in2
theorem RulesIn.get {X:Nat→Option Obj} {ad:Option Addr} {rs:List Rl} (h:RulesIn X ad rs) {i:Nat} {r:Rl} (hr:rs[i]? = some r):∃ (blk off:Nat) (arr:Array Value) (el:TypeId) (fr:Nat×Nat) (ead:Option Addr) (ecap:Nat),ad=some ⟨blk,off,none⟩∧X blk=some (.cells arr el fr)∧off+i*3+3≤arr.size ∧
    ((arr.toList.drop (off+i*3)).take 3).map CV.val=[.val (.int .i64 r.nw),.val (.int .i64 r.old),.val (.slice ead r.ex.length ecap)]∧arr[off+i*3]? = some (.int .i64 r.nw)∧arr[off+i*3+1]? = some (.int .i64 r.old)∧arr[off+i*3+2]? = some (.slice ead r.ex.length ecap)∧CodesIn X ead r.ex:=by
  obtain ⟨blk,off,arr,el,fr,ead,ecap,h1,h2,h3,h4,h5⟩:=h.at_ i r hr
  have key:∀ j,j<3→arr[off+i*3+j]? = ([.int .i64 r.nw,.int .i64 r.old,.slice ead r.ex.length ecap]:List Value)[j]? := fun j hj=>by
    rw [← h4,List.getElem?_take,if_pos hj,List.getElem?_drop,Array.getElem?_toList]
  exact ⟨blk,off,arr,el,fr,ead,ecap,h1,h2,h3,by rw [h4];rfl,key 0 (by omega),key 1 (by omega),key 2 (by omega),h5⟩
def sizeR (rs:List Rl):Prop := ∀ r∈rs,r.ex.length<1152921504606846976∧∀ c∈r.ex,c.length<1152921504606846976
end Go.Proofs.YtamplgnbbanamaaGreatDoor
end
section
namespace Go.Proofs.YtamplgnbbanamaaGreatDoor
open Go Go.Lg Go.Lg.Fml Go.Lg.Fld Go.Lg.Arith
set_option maxRecDepth 100000
variable (X:Nat→Option Obj)
theorem wrap_o8 (n:Int):IntKind.u8.wrap n=((o8 n).toNat:Nat):=by
  unfold o8
  rw [UInt8.toNat_ofNat',IntKind.wrap_u8]
  omega
set_option maxHeartbeats 1600000 in
theorem rWord_spec (n:Nat) (hn:n<18446744073709551616):PSpec Tryz.prog X 50 [Ln .u64 (n:Nat)] (Ls (leB 8 n)):=by
  refine cF Tryz.func50 rfl (by kernel_rfl) rfl rfl ?_
  intro C
  (refine aA<|rgN<|kas O<|aB<|aA<|rgN<|aZ (zs:=[]) (sz:=1) (e:=5) (by kernel_rfl) O O O O O O dR<|kas O<|aB<|aA<|aA<|rgN<|kas O<|aB ?_;refine aG ?_)
  refine cL (fun m σ=>∃ (i:Nat) (row:Bool),i≤8∧m=8-i∧σ=⟨[(0,Ln .u64 (n/256^i:Nat)),(3,.sv (.one (.slc 500 0 i))),(4,Ln .i64 (i:Nat))],[(500,some ⟨5,((leB 8 n).take i).map bc,row⟩)],X⟩) 8
    ⟨_,Le.ofR [(500,5)] (by exact ⟨by rw [Nat.pow_zero,Nat.div_one];rfl,rfl,rfl,trivial⟩) (by repeat' (first|exact trivial|refine cQ ⟨_,rfl,?_⟩ ?_|refine cQ ⟨_,rfl⟩ ?_|rfl|exact bX _ _ _ _|exact bY _ _ _ _|exact bZ rfl)) (by exact rfl) (by exact rfl) (by repeat' (first|refine bT ?_ ?_|rfl|exact bV|exact bU|exact bW rfl)) (by exact rfl) (by exact rfl),0,false,Nat.zero_le _,rfl,rfl⟩ ?_
  rintro m σ ⟨i,row,hi,rfl,rfl⟩
  by_cases hlt:i<8
  · have hle:n/256^i≤n:=Nat.div_le_self _ _
    have hd:n/256^i/256=n/256^(i+1):=by rw [Nat.pow_succ,Nat.div_div_eq_div_mul]
    have hnc:=take_next (n:=n) hlt
    have hcl:(((leB 8 n).take i).map bc).length=i*1:=by rw [cW,cZ,leB_length];omega
    have hv:IntKind.u8.wrap (((n/256^i:Nat):Int)%256)=((UInt8.ofNat (n/256^i%256)).toNat:Nat):=by
      rw [UInt8.toNat_ofNat',Nat.mod_eq_of_lt (Nat.mod_lt _ (by decide)),IntKind.wrap_u8]
      omega
    have hq:IntKind.u64.wrap (((n/256^i:Nat):Int).tdiv 256)=((n/256^(i+1):Nat):Int):=by
      rw [← hd]
      clear hv hnc hd
      generalize n/256^i=q at *
      rw [quo_u64 (by omega) (by omega)];omega
    have hadd:IntKind.i64.wrap ((i:Int)+1)=((i+1:Nat):Int):=by rw [cH (by omega)];omega
    (refine aA<|aA<|rgN<|kmv O<|klt O O (cP (by omega))<|aB<|aE O ?_;refine aH ?_;refine aA<|aG<|aA<|rgN<|kmv O<|kmv O<|K.rem O O (by omega) O dR<|kcv O hv ?_;refine aZ (zs:=[.int .u8 0]) (sz:=1) (e:=5) (by kernel_rfl) O O O O O O dR<|bQ (by_:=1) (e2:=5) (l2:=[bc (UInt8.ofNat (n/256^i%256))]) O O hcl O O (dN _) O O (by kernel_rfl) (by kernel_rfl) (by omega) (by omega) O O hnc dR<|kas O<|aB<|rgN<|kmv O<|K.quo O O (by omega) hq dR<|kas O<|aB<|rgN<|kmv O<|kad O O hadd<|kas O<|aB ?_)
    exact ⟨_,⟨[(0,Ln .u64 (n/256^(i+1):Nat)),(3,.sv (.one (.slc 500 0 (i+1)))),(4,Ln .i64 (i+1:Nat))],[(500,some ⟨5,((leB 8 n).take (i+1)).map bc,true⟩)],X⟩,by omega,Le.ofR [(500,15)] (by exact ⟨rfl,rfl,rfl,trivial⟩) (by repeat' (first|exact trivial|refine cQ ⟨_,rfl,?_⟩ ?_|refine cQ ⟨_,rfl⟩ ?_|rfl|exact bX _ _ _ _|exact bY _ _ _ _|exact bZ rfl)) (by exact rfl) (by exact rfl) (by repeat' (first|refine bT ?_ ?_|rfl|exact bV|exact bU|exact bW rfl)) (by exact rfl) (by exact rfl),i+1,true,by omega,rfl,rfl⟩
  · have e:i=8:=by omega
    subst e
    have hta:(leB 8 n).take 8=leB 8 n:=List.take_of_length_le (by rw [leB_length];exact dN _)
    rw [hta]
    have hlen:0+8≤((leB 8 n).map bc).length:=by rw [cW,leB_length];omega
    have hend:(((leB 8 n).map bc).drop 0).take 8=(leB 8 n).map bc:=by rw [List.drop_zero,List.take_of_length_le (by rw [cW,leB_length];exact dN _)]
    generalize leB 8 n=s at *
    (refine aA<|aA<|rgN<|kmv O<|klt O O (r:=false) O<|aB<|aF O ?_;refine aJ<|aA<|rgN<|kmv O<|bS O O (by kernel_rfl) StrT.u hlen hend dR<|kas O<|aB<|aI ?_)
    exact ⟨[_],⟨O,trivial⟩,O⟩
theorem le_drop {s:List UInt8} {k:Nat} {c:UInt8} (h:s[k]? = some c):le (s.drop k)=c.toNat+256*le (s.drop (k+1)):=by
  obtain ⟨hk,e⟩:=List.getElem?_eq_some_iff.1 h
  rw [List.drop_eq_getElem_cons hk,e]
  rfl
set_option maxHeartbeats 1600000 in
theorem rNumber_spec (s:List UInt8) (hs:s.length=8):PSpec Tryz.prog X 63 [Ls s] (Ln .u64 (le s:Nat)):=by
  refine cF Tryz.func63 rfl (by kernel_rfl) rfl rfl ?_
  intro C
  have h0:le (s.drop 8)=0:=by rw [← hs,List.drop_length];rfl
  (refine aA<|rgN<|kas O<|aB<|aA<|rgN<|kas O<|aB<|aA<|aA<|rgN<|kas O<|aB<|aG ?_)
  refine cL (fun m σ=>∃ k:Nat,k≤8∧m=k∧σ=⟨[(0,Ls s),(3,Ln .u64 (le (s.drop k):Nat)),(4,Ln .i64 ((k:Int)-1))],[],X⟩) 8
    ⟨⟨[(0,Ls s),(3,Ln .u64 (0:Nat)),(4,Ln .i64 7)],[],X⟩,Le.of (by exact ⟨rfl,rfl,rfl,trivial⟩) (by exact trivial) (by exact rfl) (by exact rfl) (by exact rfl),8,dN _,rfl,by rw [h0];rfl⟩ ?_
  rintro m σ ⟨k,hk,rfl,rfl⟩
  by_cases hk0:m=0
  · subst hk0
    (refine aA<|aA<|rgN<|kmv O<|bD O O (r:=false) O dR<|aB<|aF O ?_;refine aJ<|aA<|rgN<|kmv O<|kas O<|aB<|aI ?_)
    exact ⟨[_],⟨O,trivial⟩,O⟩
  · obtain ⟨k,rfl⟩:∃ k,m=k+1:=⟨m-1,by omega⟩
    obtain ⟨c,hc⟩:∃ c,s[k]? = some c:=⟨_,cX (by omega)⟩
    have hstep:=le_drop hc
    have hb:=le_lt (s.drop (k+1))
    rw [dA,hs] at hb
    have hb2:le (s.drop (k+1))<256^7:=Nat.lt_of_lt_of_le hb (Nat.pow_le_pow_right (by decide) (by omega))
    rw [show (256:Nat)^7=72057594037927936 by decide] at hb2
    have hcl:=c.toNat_lt
    have hci:(⟨s.toArray⟩:ByteArray)[Int.toNat (((k+1:Nat):Int)-1)]? = some c:=by
      rw [show Int.toNat (((k+1:Nat):Int)-1)=k by omega]
      exact str_at hc
    have hmul:IntKind.u64.wrap ((le (s.drop (k+1)):Nat)*256)=((256*le (s.drop (k+1)):Nat):Int):=by rw [IntKind.wrap_u64];omega
    have hcv:IntKind.u64.wrap ((c.toNat:Nat):Int)=((c.toNat:Nat):Int):=by rw [IntKind.wrap_u64];omega
    have hadd:IntKind.u64.wrap (((256*le (s.drop (k+1)):Nat):Int)+(c.toNat:Nat))=((le (s.drop k):Nat):Int):=by rw [IntKind.wrap_u64,hstep];omega
    have hsub:IntKind.i64.wrap ((((k+1:Nat):Int)-1)-1)=(k:Int)-1:=by rw [cH (by omega)];omega
    (refine aA<|aA<|rgN<|kmv O<|bD O O (cP (by omega)) dR<|aB<|aE O ?_;refine aH ?_;refine aA<|aG<|rgN<|kmv O<|bL O O hmul dR<|kmv O<|kmv O<|bB O O (by omega) hci dR<|kcv O hcv ?_;refine kad O O hadd<|kas O<|aB<|rgN<|kmv O<|bA O O hsub dR<|kas O<|aB ?_)
    exact ⟨_,⟨[(0,Ls s),(3,Ln .u64 (le (s.drop k):Nat)),(4,Ln .i64 ((k:Int)-1))],[],X⟩,by omega,Le.of (by exact ⟨O,O,O,trivial⟩) (by exact trivial) (by exact O) (by exact O) (by exact O),k,by omega,O,O⟩
end Go.Proofs.YtamplgnbbanamaaGreatDoor
end
section
namespace Go.Proofs.YtamplgnbbanamaaGreatDoor
open Go Go.Lg Go.Lg.Arith Go.Lg.Dec Go.RowKit
theorem parts_facts {x y:Int} (hx:R127 x) (hy:R127 y) (h0:y≠0):
    R127 (x.tdiv y)∧R127 (x.tmod y)∧R127 (x.tdiv y*y)∧x.tdiv y*y+x.tmod y=x∧mg (x.tmod y)<mg y∧(x.tmod y<0→x<0)∧(0<x.tmod y→0<x):=by
  obtain ⟨h1,h2⟩:=zv_quo x y h0
  have hB:=mg_zero h0
  have hA0:=mg_nonneg x
  have hR0:=Int.emod_nonneg (mg x) (show mg y≠0 by omega)
  have hR1:=Int.emod_lt_of_pos (mg x) hB
  have hQ0:=Int.ediv_nonneg hA0 (Int.le_of_lt hB)
  have hQ1:=Int.ediv_le_self (mg y) hA0
  have hE:=Int.emod_add_mul_ediv (mg x) (mg y)
  have hT0:=Int.mul_nonneg hQ0 (Int.le_of_lt hB)
  rw [Int.mul_comm (mg y) (mg x/mg y)] at hE
  rw [← h1,← h2]
  have key:zv (decide (x<0) != decide (y<0)) (mg x/mg y)*y=zv (decide (x<0)) (mg x/mg y*mg y):=by
    by_cases cy:y<0
    · have hy':mg y = -y:=mg_neg cy
      generalize mg x/mg y=Q
      by_cases cx:x<0<;>simp only [cx,cy,decide_true,decide_false,zv,bne_self_eq_false,Bool.false_bne,if_true,if_false,Bool.false_eq_true]
      · rw [hy',Int.mul_neg,Int.neg_neg]
      · rw [hy',Int.mul_neg,Int.neg_mul]
    · have hy':mg y=y:=mg_pos (by omega)
      generalize mg x/mg y=Q
      by_cases cx:x<0<;>simp only [cx,cy,decide_true,decide_false,zv,bne_self_eq_false,Bool.true_bne,Bool.not_false,if_true,if_false,Bool.false_eq_true]
      · rw [hy',Int.neg_mul]
      · rw [hy']
  have zR:∀ (b:Bool) (n:Int),0≤n→n<170141183460469231731687303715884105728→R127 (zv b n):=by
    intro b n h1 h2
    unfold R127 zv
    cases b<;>simp only [if_true,if_false,Bool.false_eq_true]<;>omega
  have hlx:=mg_lim hx
  have hly:=mg_lim hy
  rw [key]
  generalize mg x/mg y*mg y=T at *
  generalize mg x/mg y=Q at *
  generalize mg x%mg y=R at *
  refine ⟨zR _ _ hQ0 (by omega),zR _ _ hR0 (by omega),zR _ _ hT0 (by omega),?_,?_,?_,?_⟩
  · by_cases cx:x<0
    · rw [cP cx]
      have:=mg_neg cx
      show -T + -R=x
      omega
    · rw [cO cx]
      have:=mg_pos (Int.not_lt.1 cx)
      show T+R=x
      omega
  · by_cases cx:x<0
    · rw [cP cx]
      show mg (-R)<mg y
      by_cases c:R=0
      · subst c;exact hB
      · rw [mg_neg (z := -R) (by omega)];omega
    · rw [cO cx]
      show mg R<mg y
      rw [mg_pos hR0];exact hR1
  · intro h
    by_cases cx:x<0
    · exact cx
    · rw [cO cx] at h
      have h:R<0:=h
      omega
  · intro h
    by_cases cx:x<0
    · rw [cP cx] at h
      have h:0 < -R:=h
      omega
    · rw [cO cx] at h
      have h:0<R:=h
      have:=mg_pos (Int.not_lt.1 cx)
      omega
end Go.Proofs.YtamplgnbbanamaaGreatDoor
end
section
namespace Go.Proofs.YtamplgnbbanamaaGreatDoor
open Go Go.Lg Go.Lg.Fml Go.Lg.Fld Go.Lg.Arith
set_option maxRecDepth 100000
variable (X:Nat→Option Obj)
def exR:Except Int Nm→LV
  | .ok v=>.tup [SI v.1 v.2,Sn .i64 0]
  | .error e=>.tup [S0,Sn .i64 e]
theorem NumsIn.all {X:Nat→Option Obj} {ad:Option Addr} {ns:List Nm} (h:NumsIn X ad ns) (hpos:0<ns.length):
    ∃ (blk off:Nat) (arr:Array Value) (el:TypeId) (fr:Nat×Nat),ad=some ⟨blk,off,none⟩∧X blk=some (.cells arr el fr)∧∀ i b N,ns[i]? = some (b,N)→In2 N∧off+i*3+3≤arr.size∧((arr.toList.drop (off+i*3)).take 3).map CV.val=cI b N:=by
  obtain ⟨_,blk,off,arr,el,fr,rfl,hX,_,_⟩:=h.at (i:=0) (b:=(ns[0]'hpos).1) (N:=(ns[0]'hpos).2) (cX hpos)
  refine ⟨blk,off,arr,el,fr,O,hX,fun i b N hi => ?_⟩
  obtain ⟨h1,blk',off',arr',el',fr',h2,h3,h4,h5⟩:=h.at hi
  simp only [Option.some.injEq,Addr.mk.injEq] at h2
  obtain ⟨rfl,rfl,_⟩:=h2
  rw [hX] at h3
  simp only [Option.some.injEq,Obj.cells.injEq] at h3
  obtain ⟨rfl,_,_⟩:=h3
  exact ⟨h1,h4,h5⟩
theorem gd_q {u:Nm} (h:gd u=true) (hu:In2 u.2):LI u.1 u.2=LQ (zz u)∧R127 (zz u):=⟨LI_q hu h,(zv_in hu h).1⟩
end Go.Proofs.YtamplgnbbanamaaGreatDoor
end
section
namespace Go.Proofs.YtamplgnbbanamaaGreatDoor
open Go Go.Lg Go.Lg.Fml Go.Lg.Fld Go.Lg.Arith
set_option maxRecDepth 100000
variable (X:Nat→Option Obj)
theorem eqN {b b':Bool} {M N:Int} (hM:In2 M) (hN:In2 N):(b==b'&&(M/18446744073709551616==N/18446744073709551616&&M%18446744073709551616==N%18446744073709551616))=decide (((b,M):Nm)=(b',N)):=by
  by_cases h:b=b'∧M=N
  · obtain ⟨rfl,rfl⟩:=h
    simp
  · rw [cO (fun e=>h (by simpa using e))]
    cases hc:(b==b'&&(M/18446744073709551616==N/18446744073709551616&&M%18446744073709551616==N%18446744073709551616)) with
    | false=>rfl
    | true =>
      simp only [Bool.and_eq_true,beq_iff_eq] at hc
      exact absurd ⟨hc.1,by omega⟩ h
theorem eqZ {b:Bool} {M:Int} (hM:In2 M):(b==false&&(M/18446744073709551616==0&&M%18446744073709551616==0))=decide (((b,M):Nm)=(false,0)):=by
  have:=eqN (b:=b) (b':=false) hM (N:=0) (by show 0≤(0:Int)∧(0:Int)<_;omega)
  exact this
theorem cmp_lz {u v:Nm}:decide (cmpI (zz u) (zz v)<0)=decide (zz u<zz v)∧decide (0<cmpI (zz u) (zz v))=decide (zz v<zz u):=by
  unfold cmpI
  by_cases h:zz u<zz v
  · rw [if_pos h,cP h,cO (show ¬ zz v<zz u by omega)]
    exact ⟨O,O⟩
  · rw [if_neg h,cO h]
    by_cases h2:zz v<zz u
    · rw [if_pos h2,cP h2];exact ⟨rfl,rfl⟩
    · rw [if_neg h2,cO h2];exact ⟨rfl,rfl⟩
end Go.Proofs.YtamplgnbbanamaaGreatDoor
end
section
namespace Go.Proofs.YtamplgnbbanamaaGreatDoor
open Go Go.Lg Go.Lg.Fml Go.Lg.Fld Go.Lg.Arith
set_option maxRecDepth 100000
variable (X:Nat→Option Obj)
theorem szle (a b:List UInt8) (h:a.length+b.length≤9223372036854775807):(⟨a.toArray⟩:ByteArray).size+(⟨b.toArray⟩:ByteArray).size≤9223372036854775807:=h
theorem encErr_chk {l:List Ins} (h:chkX l≠0):encErr l=chkX l∧encTX l=[]:=by
  have e:encErr l=chkX l:=if_neg h
  exact ⟨e,by unfold encTX;rw [e,if_neg h]⟩
theorem encErr_bad {l:List Ins} {x:Ins} (hz:chkX l=0) (hx:x∈l) (hp:plainI x=false):encErr l=1∧encTX l=[]:=by
  have e:encErr l=1:=by
    unfold encErr
    rw [if_pos hz,if_neg]
    intro h
    rw [List.all_eq_true.1 h x hx] at hp
    cases hp
  exact ⟨e,by unfold encTX;rw [e];rfl⟩
theorem encErr_ok {l:List Ins} (hz:chkX l=0) (hp:l.all plainI=true):encErr l=0∧encTX l=encX l:=by
  have e:encErr l=0:=by
    unfold encErr
    rw [if_pos hz,if_pos hp]
  exact ⟨e,by unfold encTX;rw [if_pos e]⟩
theorem encIs_snoc {l:List Ins} {i:Nat} {x:Ins} (h:l[i]? = some x):encIs (l.take (i+1))=encIs (l.take i)++encI x:=by
  rw [take_snoc h,encIs_app]
  simp [encIs]
set_option maxHeartbeats 12800000 in
theorem rEncode11 (l:List Ins) (ad:Option Addr) (cap:Nat) (hin:InsIn X ad l) (hbig:l.length<1152921504606846976):PSpec Tryz.prog X 24 [Lx ad l.length cap] (.tup [Ss (encTX l),Sn .i64 (encErr l)]):=by
  have hC:=rCheck11 X l ad cap hin (by omega)
  by_cases hz:chkX l=0
  case neg =>
    obtain ⟨e1,e2⟩:=encErr_chk hz
    rw [e1,e2]
    refine cF Tryz.func24 rfl (by kernel_rfl) rfl rfl ?_
    intro C
    (refine aA<|rgN<|kas O<|kas O<|aB<|aA<|aA<|rgN<|kmv O<|kca O O (hC)<|kas O<|aB<|aA<|rgN ?_;refine kmv O<|kne O O (cT hz)<|aB<|aE O ?_;refine aA<|rgN<|kmv O<|kas O<|kas O<|aB<|aI ?_)
    exact ⟨[_,_],⟨O,O,trivial⟩,O⟩
  rw [hz] at hC
  have h64:=(chkX_zero hz).1
  have wl:=wrap_o8 (l.length:Nat)
  refine cF Tryz.func24 rfl (by kernel_rfl) rfl rfl ?_
  intro C
  (refine aA<|rgN<|kas O<|kas O<|aB<|aA<|aA<|rgN<|kmv O<|kca O O (hC)<|kas O<|aB<|aA<|rgN ?_;refine kmv O<|kne O O (r:=false) O<|aB<|aF O ?_;refine aH ?_;refine aA<|rgN<|kmv O<|aQ O cC O dR ?_;refine kcv O wl ?_;refine aZ (zs:=[.int .u8 0]) (sz:=1) (e:=5) (cs':=[o8 (l.length:Nat)].map bc) (by kernel_rfl) O O O O O O dR<|bS (l:=[o8 (l.length:Nat)]) O O (by kernel_rfl) StrT.u (dN _) O dR<|kas O<|aB<|aA<|aA<|rgN<|kas O<|aB<|aG ?_)
  refine cL (fun m σ=>∃ i:Nat,i≤l.length∧m=l.length-i∧(l.take i).all plainI=true∧σ=⟨[(0,Lx ad l.length cap),(5,Ls (o8 (l.length:Nat)::encIs (l.take i))),(6,Ln .i64 (i:Nat))],[],X⟩) l.length
    ⟨⟨[(0,Lx ad l.length cap),(5,Ls (o8 (l.length:Nat)::encIs (l.take 0))),(6,Ln .i64 (0:Nat))],[],X⟩,Le.of (by exact ⟨rfl,rfl,rfl,trivial⟩) (by exact trivial) (by exact rfl) (by exact rfl) (by exact rfl),0,by omega,rfl,rfl,rfl⟩ ?_
  rintro m σ ⟨i,hi,rfl,hpl,rfl⟩
  have hSl:(o8 (l.length:Nat)::encIs (l.take i)).length≤1153:=by
    have:=encIs_len (l.take i)
    rw [cZ] at this
    rw [dI];omega
  by_cases hlt:i<l.length
  case neg =>
    have e:i=l.length:=by omega
    subst e
    rw [dF] at hpl hSl ⊢
    obtain ⟨e1,e2⟩:=encErr_ok hz hpl
    rw [e1,e2]
    unfold encX
    (refine aA<|aA<|rgN<|kmv O<|kmv O<|aQ O cC O dR ?_;refine klt O O (cO (by omega))<|aB<|aF O ?_;refine aJ<|aA<|rgN<|kmv O<|kas O<|kas O<|aB<|aI ?_)
    exact ⟨[_,_],⟨O,O,trivial⟩,O⟩
  obtain ⟨x,hx⟩:∃ x,l[i]? = some x:=⟨_,cX hlt⟩
  have hmem:=dD hx
  obtain ⟨blk,off,arr,el,fr,rfl,hX,hsz,hcs,_⟩:=hin.at hx
  have hio:off+Int.toNat (i:Int)*6=off+i*6:=by simp
  obtain ⟨_,_,_,hk2⟩:=hin.small x hmem
  obtain ⟨h17,hgk,ha7,hb7⟩:=okI_facts (chkX_ok hz x hmem)
  have hbad:=fun h=>encErr_bad (x:=x) hz hmem h
  have hgood:=fun h:plainI x=true=>show (l.take (i+1)).all plainI=true by rw [take_snoc hx,List.all_append,hpl];simp [h]
  have hnext:o8 (l.length:Nat)::encIs (l.take (i+1))=(o8 (l.length:Nat)::encIs (l.take i))++encI x:=by rw [encIs_snoc hx];rfl
  obtain ⟨op,a,b,kb,kN⟩:=x
  simp only at h17 hgk ha7 hb7 hk2
  have q:=eqI (b:=kb) (b':=false) (h:=kN/18446744073709551616) (h':=0) (l:=kN%18446744073709551616) (l':=0) _ (eqZ hk2)
  have hW1:=rWord_spec X (loW kN) (by unfold loW;omega)
  have hW2:=rWord_spec X (hiW kN) (by unfold hiW In2 at *;omega)
  rw [show ((loW kN:Nat):Int)=kN%18446744073709551616 by unfold loW;omega] at hW1
  rw [show ((hiW kN:Nat):Int)=kN/18446744073709551616 by unfold hiW In2 at *;omega] at hW2
  have l8:=leB_length 8 (loW kN)
  have w0:=wrap_o8 op
  have wa:=wrap_o8 a
  have wb:=wrap_o8 b
  have hadd:IntKind.i64.wrap ((i:Int)+1)=((i+1:Nat):Int):=by rw [cH (by omega)];omega
  generalize hS:o8 (l.length:Nat)::encIs (l.take i)=S at *
  generalize hS':o8 (l.length:Nat)::encIs (l.take (i+1))=S' at *
  by_cases hc:op=1
  case pos =>
    have heo1:op=1:=hc
    have hno2:op≠2:=by omega
    have hno3:op≠3:=by omega
    by_cases cB:b=0
    case neg =>
      have hp:plainI ⟨op,a,b,(kb,kN)⟩=false:=by
        unfold plainI
        simp only
        rw [cO (show ¬ op=2 by omega),cO cB];simp
      obtain ⟨e1,e2⟩:=hbad hp
      rw [e1,e2]
      (refine aA<|aA<|rgN<|kmv O<|kmv O<|aQ O cC O dR ?_;refine klt O O (cP (by omega))<|aB<|aE O ?_;refine aH ?_;refine aA<|aG<|aA<|rgN<|kmv O<|kmv O<|aR O O cC (by omega) hio dR<|aY O hX (by kernel_rfl) hsz hcs dR<|aP O dR ?_;refine aM O O O O O O dR ?_;refine aB<|aA<|aA<|rgN<|kfa O O ?_;refine kl1 O O O<|kne O O (cS heo1)<|kmv O<|aC O O O<|aC O O O<|aC O O O<|aC O O O<|kpf O O<|kmv O<|aN O O (dS O O) ?_;refine aO O O O (dS O O) ?_;refine aX O O (cT hno2) (dS O O) ?_;refine gmv O O O<|aN O O (dS O O) ?_;refine aO O O O (dS O O) ?_;refine aX O O (cT cB) (dS O O) ?_;refine bF O O (dS O O) ?_;refine kpf O O<|kmv O<|aC O O O<|aC O O O<|aC O O O<|aC O O O<|aD O O<|aD O O<|aD O O<|aC O O O<|aC O O O<|aD O O<|aD O O<|aD O O ?_;refine aC O O O<|kpt O O<|aB<|aE O ?_;refine aA<|rgN<|kas O<|kas O<|aB<|aI ?_)
      exact ⟨[_,_],⟨O,O,trivial⟩,O⟩
    by_cases cA:a=0
    case neg =>
      have hp:plainI ⟨op,a,b,(kb,kN)⟩=false:=by
        unfold plainI
        simp only
        rw [cO (show ¬ op=2 by omega),cO (show ¬ op=3 by omega),cO cA];simp
      obtain ⟨e1,e2⟩:=hbad hp
      rw [e1,e2]
      ((refine aA<|aA<|rgN<|kmv O<|kmv O<|aQ O cC O dR ?_;refine klt O O (cP (by omega))<|aB<|aE O ?_;refine aH ?_;refine aA<|aG<|aA<|rgN<|kmv O<|kmv O<|aR O O cC (by omega) hio dR<|aY O hX (by kernel_rfl) hsz hcs dR<|aP O dR ?_;refine aM O O O O O O dR ?_;refine aB<|aA<|aA<|rgN<|kfa O O ?_;refine kl1 O O O<|kne O O (cS heo1)<|kmv O<|aC O O O<|aC O O O<|aC O O O<|aC O O O<|kpf O O<|kmv O<|aN O O (dS O O) ?_;refine aO O O O (dS O O) ?_;refine aX O O (cT hno2) (dS O O) ?_;refine gmv O O O<|aN O O (dS O O) ?_;refine aO O O O (dS O O) ?_;refine aX O O (cS cB) (dS O O) ?_);(refine bF O O (dS O O) ?_;refine kpf O O<|kmv O<|aN O O (dS O O) ?_;refine aO O O O (dS O O) ?_;refine aX O O (cT hno2) (dS O O) ?_;refine gmv O O O<|aN O O (dS O O) ?_;refine aO O O O (dS O O) ?_;refine aX O O (cT hno3) (dS O O) ?_;refine bF O O (dS O O) ?_;refine gmv O O O<|aN O O (dS O O) ?_;refine aO O O O (dS O O) ?_;refine aX O O (cT cA) (dS O O) ?_;refine bF O O (dS O O) ?_);(refine kpf O O<|aB<|aE O ?_;refine aA<|rgN<|kas O<|kas O<|aB<|aI ?_))
      exact ⟨[_,_],⟨O,O,trivial⟩,O⟩
    have hpn:=hgood (by
      unfold plainI
      simp only
      rw [Bool.and_eq_true,Bool.and_eq_true,Bool.or_eq_true,Bool.or_eq_true,Bool.or_eq_true,Bool.or_eq_true]
      simp only [decide_eq_true_eq]
      exact ⟨.inl hc,.inr cB,.inr (.inr cA)⟩)
    have he:encI ⟨op,a,b,(kb,kN)⟩=o8 op::(sgB kb::(leB 8 (loW kN)++leB 8 (hiW kN))):=by unfold encI;simp only;rw [if_pos hc]
    rw [he] at hnext
    generalize leB 8 (loW kN)=B1 at *
    have l82:=leB_length 8 (hiW kN)
    generalize leB 8 (hiW kN)=B2 at *
    cases kb with
    | false =>
      have hcat:(⟨((((S++[o8 op])++[sgB false])++B1)).toArray⟩:ByteArray)++⟨B2.toArray⟩=⟨S'.toArray⟩:=by rw [str_add,hnext];simp only [dM,List.cons_append,List.nil_append]
      ((refine aA<|aA<|rgN<|kmv O<|kmv O<|aQ O cC O dR ?_;refine klt O O (cP (by omega))<|aB<|aE O ?_;refine aH ?_;refine aA<|aG<|aA<|rgN<|kmv O<|kmv O<|aR O O cC (by omega) hio dR<|aY O hX (by kernel_rfl) hsz hcs dR<|aP O dR ?_;refine aM O O O O O O dR ?_;refine aB<|aA<|aA<|rgN<|kfa O O ?_;refine kl1 O O O<|kne O O (cS heo1)<|kmv O<|aC O O O<|aC O O O<|aC O O O<|aC O O O<|kpf O O<|kmv O<|aN O O (dS O O) ?_;refine aO O O O (dS O O) ?_;refine aX O O (cT hno2) (dS O O) ?_;refine gmv O O O<|aN O O (dS O O) ?_;refine aO O O O (dS O O) ?_;refine aX O O (cS cB) (dS O O) ?_);(refine bF O O (dS O O) ?_;refine kpf O O<|kmv O<|aN O O (dS O O) ?_;refine aO O O O (dS O O) ?_;refine aX O O (cT hno2) (dS O O) ?_;refine gmv O O O<|aN O O (dS O O) ?_;refine aO O O O (dS O O) ?_;refine aX O O (cT hno3) (dS O O) ?_;refine bF O O (dS O O) ?_;refine gmv O O O<|aN O O (dS O O) ?_;refine aO O O O (dS O O) ?_;refine aX O O (cS cA) (dS O O) ?_;refine bF O O (dS O O) ?_);(refine kpf O O<|aB<|aF O ?_;refine aH ?_;refine aA<|rgN<|kmv O<|kfa O O ?_;refine kl1 O O O<|kcv O w0 ?_;refine aZ (zs:=[.int .u8 0]) (sz:=1) (e:=5) (cs':=[o8 op].map bc) (by kernel_rfl) O O O O O O dR<|bS (l:=[o8 op]) O O (by kernel_rfl) StrT.u (dN _) O dR<|bM O O (szle S [o8 op] (by simp only [cY];omega)) (str_add S [o8 op]) dR<|kas O<|aB<|aA<|rgN<|kfa O O ?_;refine kl1 O O O<|aB<|aG<|aA<|rgN<|keq O O (r:=true) (cU hc)<|kas O<|aB<|aE O ?_;refine aA<|rgN<|kas O<|aB<|aA<|aA<|rgN<|kfa O O ?_;refine kfa O O ?_;refine kl1 O O O<|aB<|aF O ?_;refine aH ?_;refine rgD mixed<|kmv O<|kmv O<|aZ (zs:=[.int .u8 0]) (sz:=1) (e:=5) (cs':=[sgB false].map bc) (by kernel_rfl) O O O O O O dR<|bS (l:=[sgB false]) O O (by kernel_rfl) StrT.u (dN _) O dR<|bM O O (szle (S++[o8 op]) [sgB false] (by simp only [cV,cY];omega)) (str_add (S++[o8 op]) [sgB false]) dR<|kfa O O ?_;refine kfa O O ?_);(refine kl1 O O O<|kca O O hW1<|bM O O (szle ((S++[o8 op])++[sgB false]) B1 (by simp only [cV,cY];omega)) (str_add ((S++[o8 op])++[sgB false]) B1) dR<|kfa O O ?_;refine kfa O O ?_;refine kl1 O O O<|kca O O hW2<|bM O O (szle (((S++[o8 op])++[sgB false])++B1) B2 (by simp only [cV,cY];omega)) hcat dR<|kas O<|aB<|rgA ?_;refine rgN<|kmv O<|kad O O hadd<|kas O<|aB ?_))
      exact ⟨_,⟨[(0,Lx (some ⟨blk,off,none⟩) l.length cap),(5,Ls S'),(6,Ln .i64 (i+1:Nat))],[],X⟩,by omega,Le.of (by exact ⟨rfl,rfl,rfl,trivial⟩) (by exact trivial) (by exact rfl) (by exact rfl) (by exact rfl),i+1,by omega,rfl,hpn,by rw [hS']⟩
    | true =>
      have hcat:(⟨((((S++[o8 op])++[sgB true])++B1)).toArray⟩:ByteArray)++⟨B2.toArray⟩=⟨S'.toArray⟩:=by rw [str_add,hnext];simp only [dM,List.cons_append,List.nil_append]
      ((refine aA<|aA<|rgN<|kmv O<|kmv O<|aQ O cC O dR ?_;refine klt O O (cP (by omega))<|aB<|aE O ?_;refine aH ?_;refine aA<|aG<|aA<|rgN<|kmv O<|kmv O<|aR O O cC (by omega) hio dR<|aY O hX (by kernel_rfl) hsz hcs dR<|aP O dR ?_;refine aM O O O O O O dR ?_;refine aB<|aA<|aA<|rgN<|kfa O O ?_;refine kl1 O O O<|kne O O (cS heo1)<|kmv O<|aC O O O<|aC O O O<|aC O O O<|aC O O O<|kpf O O<|kmv O<|aN O O (dS O O) ?_;refine aO O O O (dS O O) ?_;refine aX O O (cT hno2) (dS O O) ?_;refine gmv O O O<|aN O O (dS O O) ?_;refine aO O O O (dS O O) ?_;refine aX O O (cS cB) (dS O O) ?_);(refine bF O O (dS O O) ?_;refine kpf O O<|kmv O<|aN O O (dS O O) ?_;refine aO O O O (dS O O) ?_;refine aX O O (cT hno2) (dS O O) ?_;refine gmv O O O<|aN O O (dS O O) ?_;refine aO O O O (dS O O) ?_;refine aX O O (cT hno3) (dS O O) ?_;refine bF O O (dS O O) ?_;refine gmv O O O<|aN O O (dS O O) ?_;refine aO O O O (dS O O) ?_;refine aX O O (cS cA) (dS O O) ?_;refine bF O O (dS O O) ?_);(refine kpf O O<|aB<|aF O ?_;refine aH ?_;refine aA<|rgN<|kmv O<|kfa O O ?_;refine kl1 O O O<|kcv O w0 ?_;refine aZ (zs:=[.int .u8 0]) (sz:=1) (e:=5) (cs':=[o8 op].map bc) (by kernel_rfl) O O O O O O dR<|bS (l:=[o8 op]) O O (by kernel_rfl) StrT.u (dN _) O dR<|bM O O (szle S [o8 op] (by simp only [cY];omega)) (str_add S [o8 op]) dR<|kas O<|aB<|aA<|rgN<|kfa O O ?_;refine kl1 O O O<|aB<|aG<|aA<|rgN<|keq O O (r:=true) (cU hc)<|kas O<|aB<|aE O ?_;refine aA<|rgN<|kas O<|aB<|aA<|aA<|rgN<|kfa O O ?_;refine kfa O O ?_;refine kl1 O O O<|aB<|aE O ?_;refine rgN<|kas O<|aB<|rgD mixed<|kmv O<|kmv O<|aZ (zs:=[.int .u8 0]) (sz:=1) (e:=5) (cs':=[sgB true].map bc) (by kernel_rfl) O O O O O O dR<|bS (l:=[sgB true]) O O (by kernel_rfl) StrT.u (dN _) O dR<|bM O O (szle (S++[o8 op]) [sgB true] (by simp only [cV,cY];omega)) (str_add (S++[o8 op]) [sgB true]) dR<|kfa O O ?_;refine kfa O O ?_;refine kl1 O O O<|kca O O hW1<|bM O O (szle ((S++[o8 op])++[sgB true]) B1 (by simp only [cV,cY];omega)) (str_add ((S++[o8 op])++[sgB true]) B1) dR<|kfa O O ?_);(refine kfa O O ?_;refine kl1 O O O<|kca O O hW2<|bM O O (szle (((S++[o8 op])++[sgB true])++B1) B2 (by simp only [cV,cY];omega)) hcat dR<|kas O<|aB<|rgA ?_;refine rgN<|kmv O<|kad O O hadd<|kas O<|aB ?_))
      exact ⟨_,⟨[(0,Lx (some ⟨blk,off,none⟩) l.length cap),(5,Ls S'),(6,Ln .i64 (i+1:Nat))],[],X⟩,by omega,Le.of (by exact ⟨rfl,rfl,rfl,trivial⟩) (by exact trivial) (by exact rfl) (by exact rfl) (by exact rfl),i+1,by omega,rfl,hpn,by rw [hS']⟩
  by_cases hc2:op=2
  case pos =>
    have hc:=hc2
    have hno1:op≠1:=by omega
    have heo2:op=2:=hc
    have hno3:op≠3:=by omega
    by_cases cK:((kb,kN):Nm)=(false,0)
    case neg =>
      have hp:plainI ⟨op,a,b,(kb,kN)⟩=false:=by
        unfold plainI
        simp only
        rw [cO (show ¬ op=1 by omega),cO cK];rfl
      obtain ⟨e1,e2⟩:=hbad hp
      rw [e1,e2]
      rw [cO cK] at q
      (refine aA<|aA<|rgN<|kmv O<|kmv O<|aQ O cC O dR ?_;refine klt O O (cP (by omega))<|aB<|aE O ?_;refine aH ?_;refine aA<|aG<|aA<|rgN<|kmv O<|kmv O<|aR O O cC (by omega) hio dR<|aY O hX (by kernel_rfl) hsz hcs dR<|aP O dR ?_;refine aM O O O O O O dR ?_;refine aB<|aA<|aA<|rgN<|kfa O O ?_;refine kl1 O O O<|kne O O (cT hno1)<|kmv O<|aN O O (dS O O) ?_;refine bJ O O O (by exact nl3 O O O O) (dS O O) ?_;refine aT O O (by exact O) (by exact nl3 O O O O) (dS O O) ?_;refine bR (c:=true) O O O O (by kernel_rfl) q (.inr ⟨O,O⟩) (dS O O) ?_;refine kpt O O<|kmv O<|aC O O O<|aC O O O<|aC O O O<|aC O O O<|aD O O<|aD O O<|aD O O<|aC O O O<|kpt O O<|kmv O<|aC O O O<|aC O O O ?_;refine aC O O O<|aC O O O<|aD O O<|aD O O<|aD O O<|aC O O O<|aC O O O<|aD O O<|aD O O<|aD O O<|aC O O O<|kpt O O<|aB<|aE O ?_;refine aA<|rgN<|kas O<|kas O<|aB<|aI ?_)
      exact ⟨[_,_],⟨O,O,trivial⟩,O⟩
    rw [cP cK] at q
    have hpn:=hgood (by
      unfold plainI
      simp only
      rw [Bool.and_eq_true,Bool.and_eq_true,Bool.or_eq_true,Bool.or_eq_true,Bool.or_eq_true,Bool.or_eq_true]
      simp only [decide_eq_true_eq]
      exact ⟨.inr cK,.inl hc,.inl hc⟩)
    have he:encI ⟨op,a,b,(kb,kN)⟩=o8 op::[o8 a,o8 b]:=by unfold encI;simp only;rw [if_neg (show ¬ op=1 by omega),if_pos hc]
    rw [he] at hnext
    have hcat:(⟨(S++[o8 op]).toArray⟩:ByteArray)++⟨([o8 a,o8 b]:List UInt8).toArray⟩=⟨S'.toArray⟩:=by rw [str_add,hnext];simp only [dM,List.cons_append,List.nil_append]
    ((refine aA<|aA<|rgN<|kmv O<|kmv O<|aQ O cC O dR ?_;refine klt O O (cP (by omega))<|aB<|aE O ?_;refine aH ?_;refine aA<|aG<|aA<|rgN<|kmv O<|kmv O<|aR O O cC (by omega) hio dR<|aY O hX (by kernel_rfl) hsz hcs dR<|aP O dR ?_;refine aM O O O O O O dR ?_;refine aB<|aA<|aA<|rgN<|kfa O O ?_;refine kl1 O O O<|kne O O (cT hno1)<|kmv O<|aN O O (dS O O) ?_;refine bJ O O O (by exact nl3 O O O O) (dS O O) ?_;refine aT O O (by exact O) (by exact nl3 O O O O) (dS O O) ?_;refine bR (c:=false) O O O O (by kernel_rfl) q (.inr ⟨O,O⟩) (dS O O) ?_;refine kpt O O<|kmv O<|aN O O (dS O O) ?_;refine aO O O O (dS O O) ?_);(refine aX O O (cS heo2) (dS O O) ?_;refine gmv O O O<|aC O O O<|aC O O O<|aC O O O<|bP O O (dS O O) ?_;refine kpf O O<|kmv O<|aN O O (dS O O) ?_;refine aO O O O (dS O O) ?_;refine aX O O (cS heo2) (dS O O) ?_;refine gmv O O O<|aC O O O<|aC O O O<|aC O O O<|bP O O (dS O O) ?_;refine gmv O O O<|aC O O O<|aC O O O<|aC O O O<|bP O O (dS O O) ?_;refine kpf O O<|aB<|aF O ?_;refine aH ?_;refine aA<|rgN<|kmv O<|kfa O O ?_;refine kl1 O O O<|kcv O w0 ?_;refine aZ (zs:=[.int .u8 0]) (sz:=1) (e:=5) (cs':=[o8 op].map bc) (by kernel_rfl) O O O O O O dR<|bS (l:=[o8 op]) O O (by kernel_rfl) StrT.u (dN _) O dR<|bM O O (szle S [o8 op] (by simp only [cY];omega)) (str_add S [o8 op]) dR<|kas O<|aB<|aA<|rgN<|kfa O O ?_);(refine kl1 O O O<|aB<|aG<|aA<|rgN<|keq O O (r:=false) (cR (by omega))<|kas O<|aB<|aF O ?_;refine aA<|rgN<|keq O O (r:=true) (cU hc)<|kas O<|aB<|aE O ?_;refine rgN<|kmv O<|kfa O O ?_;refine kl1 O O O<|kcv O wa ?_;refine kfa O O ?_;refine kl1 O O O<|kcv O wb ?_;refine aZ (zs:=[.int .u8 0,.int .u8 0]) (sz:=1) (e:=5) (cs':=[o8 a,o8 b].map bc) (by kernel_rfl) O O O O O O dR<|bS (l:=[o8 a,o8 b]) O O (by kernel_rfl) StrT.u (dN _) O dR<|bM O O (szle (S++[o8 op]) [o8 a,o8 b] (by simp only [cV,cY,dI,dO];omega)) hcat dR<|kas O<|aB<|rgN<|kmv O<|kad O O hadd<|kas O<|aB ?_))
    exact ⟨_,⟨[(0,Lx (some ⟨blk,off,none⟩) l.length cap),(5,Ls S'),(6,Ln .i64 (i+1:Nat))],[],X⟩,by omega,Le.of (by exact ⟨rfl,rfl,rfl,trivial⟩) (by exact trivial) (by exact rfl) (by exact rfl) (by exact rfl),i+1,by omega,rfl,hpn,by rw [hS']⟩
  by_cases hc3:op=3
  case pos =>
    have hc:=hc3
    have hno1:op≠1:=by omega
    have hno2:op≠2:=by omega
    have heo3:op=3:=hc
    by_cases cK:((kb,kN):Nm)=(false,0)
    case neg =>
      have hp:plainI ⟨op,a,b,(kb,kN)⟩=false:=by
        unfold plainI
        simp only
        rw [cO (show ¬ op=1 by omega),cO cK];rfl
      obtain ⟨e1,e2⟩:=hbad hp
      rw [e1,e2]
      rw [cO cK] at q
      (refine aA<|aA<|rgN<|kmv O<|kmv O<|aQ O cC O dR ?_;refine klt O O (cP (by omega))<|aB<|aE O ?_;refine aH ?_;refine aA<|aG<|aA<|rgN<|kmv O<|kmv O<|aR O O cC (by omega) hio dR<|aY O hX (by kernel_rfl) hsz hcs dR<|aP O dR ?_;refine aM O O O O O O dR ?_;refine aB<|aA<|aA<|rgN<|kfa O O ?_;refine kl1 O O O<|kne O O (cT hno1)<|kmv O<|aN O O (dS O O) ?_;refine bJ O O O (by exact nl3 O O O O) (dS O O) ?_;refine aT O O (by exact O) (by exact nl3 O O O O) (dS O O) ?_;refine bR (c:=true) O O O O (by kernel_rfl) q (.inr ⟨O,O⟩) (dS O O) ?_;refine kpt O O<|kmv O<|aC O O O<|aC O O O<|aC O O O<|aC O O O<|aD O O<|aD O O<|aD O O<|aC O O O<|kpt O O<|kmv O<|aC O O O<|aC O O O ?_;refine aC O O O<|aC O O O<|aD O O<|aD O O<|aD O O<|aC O O O<|aC O O O<|aD O O<|aD O O<|aD O O<|aC O O O<|kpt O O<|aB<|aE O ?_;refine aA<|rgN<|kas O<|kas O<|aB<|aI ?_)
      exact ⟨[_,_],⟨O,O,trivial⟩,O⟩
    rw [cP cK] at q
    by_cases cB:b=0
    case neg =>
      have hp:plainI ⟨op,a,b,(kb,kN)⟩=false:=by
        unfold plainI
        simp only
        rw [cO (show ¬ op=2 by omega),cO cB];simp
      obtain ⟨e1,e2⟩:=hbad hp
      rw [e1,e2]
      (refine aA<|aA<|rgN<|kmv O<|kmv O<|aQ O cC O dR ?_;refine klt O O (cP (by omega))<|aB<|aE O ?_;refine aH ?_;refine aA<|aG<|aA<|rgN<|kmv O<|kmv O<|aR O O cC (by omega) hio dR<|aY O hX (by kernel_rfl) hsz hcs dR<|aP O dR ?_;refine aM O O O O O O dR ?_;refine aB<|aA<|aA<|rgN<|kfa O O ?_;refine kl1 O O O<|kne O O (cT hno1)<|kmv O<|aN O O (dS O O) ?_;refine bJ O O O (by exact nl3 O O O O) (dS O O) ?_;refine aT O O (by exact O) (by exact nl3 O O O O) (dS O O) ?_;refine bR (c:=false) O O O O (by kernel_rfl) q (.inr ⟨O,O⟩) (dS O O) ?_;refine kpt O O<|kmv O<|aN O O (dS O O) ?_;refine aO O O O (dS O O) ?_;refine aX O O (cT hno2) (dS O O) ?_;refine gmv O O O<|aN O O (dS O O) ?_;refine aO O O O (dS O O) ?_;refine aX O O (cT cB) (dS O O) ?_;refine bF O O (dS O O) ?_;refine kpf O O<|kmv O<|aC O O O<|aC O O O<|aC O O O<|aC O O O<|aD O O<|aD O O<|aD O O<|aC O O O<|aC O O O<|aD O O<|aD O O<|aD O O ?_;refine aC O O O<|kpt O O<|aB<|aE O ?_;refine aA<|rgN<|kas O<|kas O<|aB<|aI ?_)
      exact ⟨[_,_],⟨O,O,trivial⟩,O⟩
    have hpn:=hgood (by
      unfold plainI
      simp only
      rw [Bool.and_eq_true,Bool.and_eq_true,Bool.or_eq_true,Bool.or_eq_true,Bool.or_eq_true,Bool.or_eq_true]
      simp only [decide_eq_true_eq]
      exact ⟨.inr cK,.inr cB,.inr (.inl hc)⟩)
    have he:encI ⟨op,a,b,(kb,kN)⟩=o8 op::[o8 a]:=by unfold encI;simp only;rw [if_neg (show ¬ op=1 by omega),if_neg (show ¬ op=2 by omega),if_pos hc]
    rw [he] at hnext
    have hcat:(⟨(S++[o8 op]).toArray⟩:ByteArray)++⟨([o8 a]:List UInt8).toArray⟩=⟨S'.toArray⟩:=by rw [str_add,hnext];simp only [dM,List.cons_append,List.nil_append]
    ((refine aA<|aA<|rgN<|kmv O<|kmv O<|aQ O cC O dR ?_;refine klt O O (cP (by omega))<|aB<|aE O ?_;refine aH ?_;refine aA<|aG<|aA<|rgN<|kmv O<|kmv O<|aR O O cC (by omega) hio dR<|aY O hX (by kernel_rfl) hsz hcs dR<|aP O dR ?_;refine aM O O O O O O dR ?_;refine aB<|aA<|aA<|rgN<|kfa O O ?_;refine kl1 O O O<|kne O O (cT hno1)<|kmv O<|aN O O (dS O O) ?_;refine bJ O O O (by exact nl3 O O O O) (dS O O) ?_;refine aT O O (by exact O) (by exact nl3 O O O O) (dS O O) ?_;refine bR (c:=false) O O O O (by kernel_rfl) q (.inr ⟨O,O⟩) (dS O O) ?_;refine kpt O O<|kmv O<|aN O O (dS O O) ?_;refine aO O O O (dS O O) ?_);(refine aX O O (cT hno2) (dS O O) ?_;refine gmv O O O<|aN O O (dS O O) ?_;refine aO O O O (dS O O) ?_;refine aX O O (cS cB) (dS O O) ?_;refine bF O O (dS O O) ?_;refine kpf O O<|kmv O<|aN O O (dS O O) ?_;refine aO O O O (dS O O) ?_;refine aX O O (cT hno2) (dS O O) ?_;refine gmv O O O<|aN O O (dS O O) ?_;refine aO O O O (dS O O) ?_;refine aX O O (cS heo3) (dS O O) ?_;refine bF O O (dS O O) ?_);(refine gmv O O O<|aC O O O<|aC O O O<|aC O O O<|bP O O (dS O O) ?_;refine kpf O O<|aB<|aF O ?_;refine aH ?_;refine aA<|rgN<|kmv O<|kfa O O ?_;refine kl1 O O O<|kcv O w0 ?_;refine aZ (zs:=[.int .u8 0]) (sz:=1) (e:=5) (cs':=[o8 op].map bc) (by kernel_rfl) O O O O O O dR<|bS (l:=[o8 op]) O O (by kernel_rfl) StrT.u (dN _) O dR<|bM O O (szle S [o8 op] (by simp only [cY];omega)) (str_add S [o8 op]) dR<|kas O<|aB<|aA<|rgN<|kfa O O ?_;refine kl1 O O O<|aB<|aG<|aA<|rgN<|keq O O (r:=false) (cR (by omega))<|kas O<|aB<|aF O ?_;refine aA<|rgN<|keq O O (r:=false) (cR (by omega))<|kas O<|aB<|aF O ?_;refine aA<|rgN<|keq O O (r:=true) (cU hc)<|kas O<|aB<|aE O ?_;refine rgN<|kmv O<|kfa O O ?_;refine kl1 O O O<|kcv O wa ?_;refine aZ (zs:=[.int .u8 0]) (sz:=1) (e:=5) (cs':=[o8 a].map bc) (by kernel_rfl) O O O O O O dR<|bS (l:=[o8 a]) O O (by kernel_rfl) StrT.u (dN _) O dR<|bM O O (szle (S++[o8 op]) [o8 a] (by simp only [cV,cY,dI,dO];omega)) hcat dR<|kas O<|aB<|rgN<|kmv O<|kad O O hadd<|kas O<|aB ?_))
    exact ⟨_,⟨[(0,Lx (some ⟨blk,off,none⟩) l.length cap),(5,Ls S'),(6,Ln .i64 (i+1:Nat))],[],X⟩,by omega,Le.of (by exact ⟨rfl,rfl,rfl,trivial⟩) (by exact trivial) (by exact rfl) (by exact rfl) (by exact rfl),i+1,by omega,rfl,hpn,by rw [hS']⟩
  have hno1:op≠1:=by omega
  have hno2:op≠2:=by omega
  have hno3:op≠3:=by omega
  by_cases cK:((kb,kN):Nm)=(false,0)
  case neg =>
    have hp:plainI ⟨op,a,b,(kb,kN)⟩=false:=by
      unfold plainI
      simp only
      rw [cO (show ¬ op=1 by omega),cO cK];rfl
    obtain ⟨e1,e2⟩:=hbad hp
    rw [e1,e2]
    rw [cO cK] at q
    (refine aA<|aA<|rgN<|kmv O<|kmv O<|aQ O cC O dR ?_;refine klt O O (cP (by omega))<|aB<|aE O ?_;refine aH ?_;refine aA<|aG<|aA<|rgN<|kmv O<|kmv O<|aR O O cC (by omega) hio dR<|aY O hX (by kernel_rfl) hsz hcs dR<|aP O dR ?_;refine aM O O O O O O dR ?_;refine aB<|aA<|aA<|rgN<|kfa O O ?_;refine kl1 O O O<|kne O O (cT hno1)<|kmv O<|aN O O (dS O O) ?_;refine bJ O O O (by exact nl3 O O O O) (dS O O) ?_;refine aT O O (by exact O) (by exact nl3 O O O O) (dS O O) ?_;refine bR (c:=true) O O O O (by kernel_rfl) q (.inr ⟨O,O⟩) (dS O O) ?_;refine kpt O O<|kmv O<|aC O O O<|aC O O O<|aC O O O<|aC O O O<|aD O O<|aD O O<|aD O O<|aC O O O<|kpt O O<|kmv O<|aC O O O<|aC O O O ?_;refine aC O O O<|aC O O O<|aD O O<|aD O O<|aD O O<|aC O O O<|aC O O O<|aD O O<|aD O O<|aD O O<|aC O O O<|kpt O O<|aB<|aE O ?_;refine aA<|rgN<|kas O<|kas O<|aB<|aI ?_)
    exact ⟨[_,_],⟨O,O,trivial⟩,O⟩
  rw [cP cK] at q
  by_cases cB:b=0
  case neg =>
    have hp:plainI ⟨op,a,b,(kb,kN)⟩=false:=by
      unfold plainI
      simp only
      rw [cO (show ¬ op=2 by omega),cO cB];simp
    obtain ⟨e1,e2⟩:=hbad hp
    rw [e1,e2]
    (refine aA<|aA<|rgN<|kmv O<|kmv O<|aQ O cC O dR ?_;refine klt O O (cP (by omega))<|aB<|aE O ?_;refine aH ?_;refine aA<|aG<|aA<|rgN<|kmv O<|kmv O<|aR O O cC (by omega) hio dR<|aY O hX (by kernel_rfl) hsz hcs dR<|aP O dR ?_;refine aM O O O O O O dR ?_;refine aB<|aA<|aA<|rgN<|kfa O O ?_;refine kl1 O O O<|kne O O (cT hno1)<|kmv O<|aN O O (dS O O) ?_;refine bJ O O O (by exact nl3 O O O O) (dS O O) ?_;refine aT O O (by exact O) (by exact nl3 O O O O) (dS O O) ?_;refine bR (c:=false) O O O O (by kernel_rfl) q (.inr ⟨O,O⟩) (dS O O) ?_;refine kpt O O<|kmv O<|aN O O (dS O O) ?_;refine aO O O O (dS O O) ?_;refine aX O O (cT hno2) (dS O O) ?_;refine gmv O O O<|aN O O (dS O O) ?_;refine aO O O O (dS O O) ?_;refine aX O O (cT cB) (dS O O) ?_;refine bF O O (dS O O) ?_;refine kpf O O<|kmv O<|aC O O O<|aC O O O<|aC O O O<|aC O O O<|aD O O<|aD O O<|aD O O<|aC O O O<|aC O O O<|aD O O<|aD O O<|aD O O ?_;refine aC O O O<|kpt O O<|aB<|aE O ?_;refine aA<|rgN<|kas O<|kas O<|aB<|aI ?_)
    exact ⟨[_,_],⟨O,O,trivial⟩,O⟩
  by_cases cA:a=0
  case neg =>
    have hp:plainI ⟨op,a,b,(kb,kN)⟩=false:=by
      unfold plainI
      simp only
      rw [cO (show ¬ op=2 by omega),cO (show ¬ op=3 by omega),cO cA];simp
    obtain ⟨e1,e2⟩:=hbad hp
    rw [e1,e2]
    ((refine aA<|aA<|rgN<|kmv O<|kmv O<|aQ O cC O dR ?_;refine klt O O (cP (by omega))<|aB<|aE O ?_;refine aH ?_;refine aA<|aG<|aA<|rgN<|kmv O<|kmv O<|aR O O cC (by omega) hio dR<|aY O hX (by kernel_rfl) hsz hcs dR<|aP O dR ?_;refine aM O O O O O O dR ?_;refine aB<|aA<|aA<|rgN<|kfa O O ?_;refine kl1 O O O<|kne O O (cT hno1)<|kmv O<|aN O O (dS O O) ?_;refine bJ O O O (by exact nl3 O O O O) (dS O O) ?_;refine aT O O (by exact O) (by exact nl3 O O O O) (dS O O) ?_;refine bR (c:=false) O O O O (by kernel_rfl) q (.inr ⟨O,O⟩) (dS O O) ?_;refine kpt O O<|kmv O<|aN O O (dS O O) ?_;refine aO O O O (dS O O) ?_);(refine aX O O (cT hno2) (dS O O) ?_;refine gmv O O O<|aN O O (dS O O) ?_;refine aO O O O (dS O O) ?_;refine aX O O (cS cB) (dS O O) ?_;refine bF O O (dS O O) ?_;refine kpf O O<|kmv O<|aN O O (dS O O) ?_;refine aO O O O (dS O O) ?_;refine aX O O (cT hno2) (dS O O) ?_;refine gmv O O O<|aN O O (dS O O) ?_;refine aO O O O (dS O O) ?_;refine aX O O (cT hno3) (dS O O) ?_;refine bF O O (dS O O) ?_);(refine gmv O O O<|aN O O (dS O O) ?_;refine aO O O O (dS O O) ?_;refine aX O O (cT cA) (dS O O) ?_;refine bF O O (dS O O) ?_;refine kpf O O<|aB<|aE O ?_;refine aA<|rgN<|kas O<|kas O<|aB<|aI ?_))
    exact ⟨[_,_],⟨O,O,trivial⟩,O⟩
  have hpn:=hgood (by
    unfold plainI
    simp only
    rw [Bool.and_eq_true,Bool.and_eq_true,Bool.or_eq_true,Bool.or_eq_true,Bool.or_eq_true,Bool.or_eq_true]
    simp only [decide_eq_true_eq]
    exact ⟨.inr cK,.inr cB,.inr (.inr cA)⟩)
  have he:encI ⟨op,a,b,(kb,kN)⟩=o8 op::[]:=by unfold encI;simp only;rw [if_neg (show ¬ op=1 by omega),if_neg (show ¬ op=2 by omega),if_neg (show ¬ op=3 by omega)]
  rw [he] at hnext
  ((refine aA<|aA<|rgN<|kmv O<|kmv O<|aQ O cC O dR ?_;refine klt O O (cP (by omega))<|aB<|aE O ?_;refine aH ?_;refine aA<|aG<|aA<|rgN<|kmv O<|kmv O<|aR O O cC (by omega) hio dR<|aY O hX (by kernel_rfl) hsz hcs dR<|aP O dR ?_;refine aM O O O O O O dR ?_;refine aB<|aA<|aA<|rgN<|kfa O O ?_;refine kl1 O O O<|kne O O (cT hno1)<|kmv O<|aN O O (dS O O) ?_;refine bJ O O O (by exact nl3 O O O O) (dS O O) ?_;refine aT O O (by exact O) (by exact nl3 O O O O) (dS O O) ?_;refine bR (c:=false) O O O O (by kernel_rfl) q (.inr ⟨O,O⟩) (dS O O) ?_;refine kpt O O<|kmv O<|aN O O (dS O O) ?_;refine aO O O O (dS O O) ?_);(refine aX O O (cT hno2) (dS O O) ?_;refine gmv O O O<|aN O O (dS O O) ?_;refine aO O O O (dS O O) ?_;refine aX O O (cS cB) (dS O O) ?_;refine bF O O (dS O O) ?_;refine kpf O O<|kmv O<|aN O O (dS O O) ?_;refine aO O O O (dS O O) ?_;refine aX O O (cT hno2) (dS O O) ?_;refine gmv O O O<|aN O O (dS O O) ?_;refine aO O O O (dS O O) ?_;refine aX O O (cT hno3) (dS O O) ?_;refine bF O O (dS O O) ?_);(refine gmv O O O<|aN O O (dS O O) ?_;refine aO O O O (dS O O) ?_;refine aX O O (cS cA) (dS O O) ?_;refine bF O O (dS O O) ?_;refine kpf O O<|aB<|aF O ?_;refine aH ?_;refine aA<|rgN<|kmv O<|kfa O O ?_;refine kl1 O O O<|kcv O w0 ?_;refine aZ (zs:=[.int .u8 0]) (sz:=1) (e:=5) (cs':=[o8 op].map bc) (by kernel_rfl) O O O O O O dR<|bS (l:=[o8 op]) O O (by kernel_rfl) StrT.u (dN _) O dR<|bM O O (szle S [o8 op] (by simp only [cY];omega)) (str_add S [o8 op]) dR<|kas O<|aB<|aA<|rgN<|kfa O O ?_;refine kl1 O O O<|aB<|aG<|aA<|rgN<|keq O O (r:=false) (cR (by omega))<|kas O<|aB<|aF O ?_;refine aA<|rgN<|keq O O (r:=false) (cR (by omega))<|kas O<|aB<|aF O ?_;refine aA<|rgN<|keq O O (r:=false) (cR (by omega))<|kas O<|aB<|aF O ?_);(refine aH ?_;refine rgN<|kmv O<|kad O O hadd<|kas O<|aB ?_))
  exact ⟨_,⟨[(0,Lx (some ⟨blk,off,none⟩) l.length cap),(5,Ls (S++[o8 op])),(6,Ln .i64 (i+1:Nat))],[],X⟩,by omega,Le.of (by exact ⟨rfl,rfl,rfl,trivial⟩) (by exact trivial) (by exact rfl) (by exact rfl) (by exact rfl),i+1,by omega,rfl,hpn,by rw [hS',hnext]⟩
end Go.Proofs.YtamplgnbbanamaaGreatDoor
end
section
namespace Go.Proofs.YtamplgnbbanamaaGreatDoor
open Go Go.Lg Go.Lg.Fml Go.Lg.Fld Go.Lg.Arith
set_option maxRecDepth 100000
variable (X:Nat→Option Obj)
theorem getIs_snoc:∀ {i:Nat} {b r:List UInt8} {l:List Ins},getIs i b=some (l,r)→getIs (i+1) b=match getI r with|some (x,r')=>some (l++[x],r')|none=>none
  | 0,b,r,l,h=>by
    simp only [getIs,Option.some.injEq,Prod.mk.injEq] at h
    obtain ⟨rfl,rfl⟩:=h
    simp only [getIs]
    cases getI b with
    | none=>rfl
    | some p=>rfl
  | i+1,b,r,l,h=>by
    rw [getIs] at h ⊢
    cases hg:getI b with
    | none=>rw [hg] at h;cases h
    | some p =>
      rw [hg] at h
      simp only at h ⊢
      cases hs:getIs i p.2 with
      | none=>rw [hs] at h;cases h
      | some q =>
        rw [hs] at h
        simp only [Option.some.injEq,Prod.mk.injEq] at h
        obtain ⟨rfl,rfl⟩:=h
        rw [getIs_snoc hs]
        cases getI q.2 with
        | none=>rfl
        | some u=>rfl
theorem getIs_none:∀ {i k:Nat} {b:List UInt8},getIs i b=none→getIs (i+k) b=none
  | 0,k,b,h=>by cases h
  | i+1,k,b,h=>by
    rw [Nat.add_right_comm,getIs] at *
    cases hg:getI b with
    | none=>rfl
    | some p =>
      rw [hg] at h
      simp only at h ⊢
      cases hs:getIs i p.2 with
      | none=>rw [getIs_none (k:=k) hs]
      | some q=>rw [hs] at h;cases h
theorem dec_fail {n:UInt8} {s r:List UInt8} {l:List Ins} {i:Nat} (h:getIs i s=some (l,r)) (hi:i<n.toNat) (hf:getI r=none):decX (n::s)=none:=by
  have h1:=getIs_snoc h
  rw [hf] at h1
  have h2:=getIs_none (k:=n.toNat-(i+1)) h1
  rw [show i+1+(n.toNat-(i+1))=n.toNat by omega] at h2
  simp only [decX,h2]
theorem dec_end {n:UInt8} {s r:List UInt8} {l:List Ins} (h:getIs n.toNat s=some (l,r)):decX (n::s)=if r=[]∧chkX l=0 then some l else none:=by
  simp only [decX,h]
  cases r with
  | nil=>simp
  | cons c r=>simp
def decR (s:List UInt8):LV:=match decX s with|some l=>.tup [.one (.slc 1000001 0 l.length 6),Sb true]|none=>.tup [Vnil,Sb false]
def inssV (l:List Ins):List Value:=(l.map insV).flatten
def decBx (s:List UInt8):List (Nat×Option Box):=match decX s with|some l=>[(1000001,some ⟨70,(inssV l).map .val,true⟩)]|none=>[]
theorem decR_none {s:List UInt8} (h:decX s=none):decR s = .tup [Vnil,Sb false]∧decBx s=[]:=by unfold decR decBx;rw [h];exact ⟨rfl,rfl⟩
theorem decR_some {s:List UInt8} {l:List Ins} (h:decX s=some l):decR s = .tup [.one (.slc 1000001 0 l.length 6),Sb true]∧decBx s=[(1000001,some ⟨70,(inssV l).map .val,true⟩)]:=by unfold decR decBx;rw [h];exact ⟨rfl,rfl⟩
theorem vals_use {bx:List (Nat×Option Box)}:∀ {l:List Value},(l.map CV.val).all (CV.inUse bx)=true
  | []=>rfl
  | v::l=>by rw [List.map_cons,List.all_cons,vals_use (l:=l)];rfl
theorem decBx_use (s:List UInt8):((decBx s).all fun p=>match p.2 with|some b=>b.cells.all (CV.inUse (decBx s))|none=>true)=true:=by
  cases h:decX s with
  | none=>rw [(decR_none h).2];rfl
  | some l=>rw [(decR_some h).2];simp only [List.all_cons,List.all_nil,vals_use,Bool.and_true]
theorem decR_use (s:List UInt8):LV.inUse (decBx s) (decR s)=true:=by
  cases h:decX s with
  | none=>rw [(decR_none h).1,(decR_none h).2];rfl
  | some l=>rw [(decR_some h).1,(decR_some h).2];rfl
theorem inssV_len (l:List Ins):((inssV l).map CV.val).length=l.length*6:=by
  unfold inssV
  rw [cW]
  induction l with
  | nil=>rfl
  | cons x t ih=>simp only [List.map_cons,List.flatten_cons,cV,dI,ih,insV,dO];omega
theorem inssV_snoc (l:List Ins) (x:Ins) {cs:List CV} (h:cs=(insV x).map CV.val):(inssV l).map CV.val++cs=(inssV (l++[x])).map CV.val:=by
  unfold inssV
  rw [h,dH,List.flatten_append,dH]
  simp
theorem ins_in {Y:Nat→Option Obj} {blk:Nat} {arr:Array Value} {el:TypeId} {fr:Nat×Nat} {l:List Ins} (hY:Y blk=some (.cells arr el fr)) (hi:∀ x∈l,smallI x) (hsp:∃ sp,arr.toList=inssV l++sp):InsIn Y (some ⟨blk,0,none⟩) l:=
  ⟨rows_in hY (fun r hr=>by obtain ⟨x,_,rfl⟩:=List.mem_map.1 hr;rfl) hsp,hi⟩
theorem rcheck_lent {S:Nat→Option (Option Box)} {k:Nat} {l:List Ins} {el:TypeId} {row:Bool} (hl:l.length<4611686018427387904) (hi:∀ x∈l,smallI x) (hk:S k=some (some ⟨el,(inssV l).map .val,row⟩)):
    ∀ (Y:Nat→Option Obj) (us:List Value),(∀ b o,X b=some o→Y b=some o)→Lent S Y [.sv (.one (.slc k 0 l.length 6))] us→PSpec Tryz.prog Y 49 (us.map toLV) (Ln .i64 (chkX l)):=by
  intro Y us hY hL
  obtain ⟨u2,us2,rfl,h2,rfl⟩:=hL
  obtain ⟨el',cells,row',hk',blk,cap2,arr,fr,us',sp,rfl,hYb,hc,hfit,harr,hv⟩:=h2
  rw [hk] at hk'
  simp only [Option.some.injEq,Box.mk.injEq] at hk'
  obtain ⟨rfl,rfl,rfl⟩:=hk'
  have:=hv (inssV l) rfl
  subst this
  exact rCheck11 Y l (some ⟨blk,0,none⟩) cap2 (ins_in hYb hi ⟨sp,harr⟩) hl
theorem small_got {i:Nat} {b r:List UInt8} {l:List Ins} (h:getIs i b=some (l,r)):∀ x∈l,smallI x:=fun x hx=>by
  obtain ⟨_,_,h3⟩:=getIs_back h
  obtain ⟨h4,h5,h6,h7,_⟩:=h3 x hx
  exact ⟨by omega,by omega,by omega,h7⟩
abbrev dcSt (s:List UInt8) (at_ i n:Nat) (bx:List (Nat×Option Box)):St:=⟨[(0,Ls s),(4,.sv (.one (.slc 500 0 n 6))),(5,Ln .i64 (at_:Nat)),(6,Ln .i64 (i:Nat))],bx,X⟩
theorem cells_long {l:List UInt8} {k:Nat} (h:k<l.length):∃ c t,l.drop k=c::t∧l[k]? = some c∧t=l.drop (k+1):=⟨l[k]'h,l.drop (k+1),by rw [List.drop_eq_getElem_cons h],cX h,rfl⟩
set_option maxHeartbeats 12800000 in
theorem rDecode11 (s:List UInt8) (hb:s.length≤65536):MSpec Tryz.prog X 38 [Ls s] [] (decR s) (decBx s):=by
  refine cG Tryz.func38 rfl (by kernel_rfl) rfl (decR_use s) (decBx_use s) rfl rfl ?_
  intro C
  refine LWP.ends ?_
  have hlen:(⟨s.toArray⟩:ByteArray).size=s.length:=rfl
  cases hl:s with
  | nil =>
    obtain ⟨q1,q2⟩:=decR_none (show decX []=none from rfl)
    rw [q1,q2]
    (refine aA<|rgN<|kas O<|kas O<|aB<|aA<|aA<|rgN<|kmv O<|kln O<|keq O O (r:=true) O<|aB<|aE O ?_;refine aA<|rgN<|kas O<|kas O<|aB<|aI ?_)
    exact cD ⟨[],⟨[_,_],⟨rfl,rfl,trivial⟩,rfl⟩,(by repeat' (first|exact trivial|refine cQ ⟨_,rfl,?_⟩ ?_|refine cQ ⟨_,rfl⟩ ?_|rfl|exact bX _ _ _ _|exact bY _ _ _ _|exact bZ rfl)),rfl,rfl⟩
  | cons nb s1 =>
  rw [← hl]
  have hne0:(((⟨s.toArray⟩:ByteArray).size:Int)==0)=false:=by rw [hlen,hl,beq_eq_false_iff_ne];simp;omega
  have hg0:(⟨s.toArray⟩:ByteArray)[(0:Int).toNat]? = some nb:=str_at (by rw [hl];rfl)
  have hd1:s.drop 1=s1:=by rw [hl];rfl
  have hnb:=nb.toNat_lt
  have wn:IntKind.i64.wrap ((nb.toNat:Nat):Int)=((nb.toNat:Nat):Int):=cH (by omega)
  have hll:1≤s.length:=by rw [hl,dI];omega
  (refine aA<|rgN<|kas O<|kas O<|aB<|aA<|aA<|rgN<|kmv O<|kln O<|keq O O hne0<|aB<|aF O ?_;refine aH ?_;refine aA<|rgN<|aZ (zs:=[]) (sz:=6) (e:=70) (by kernel_rfl) O O O O O O dR<|kas O<|aB<|aA<|rgN<|kas O<|aB<|aA<|aA<|rgN<|kas O<|aB ?_;refine aG ?_)
  refine cM (fun m σ=>∃ (i at_:Nat) (ls:List Ins) (rw_:Bool),i≤nb.toNat∧m=nb.toNat-i∧1≤at_∧at_≤s.length∧(ls≠[]→rw_=true)∧getIs i s1=some (ls,s.drop at_)∧σ=dcSt X s at_ i ls.length [(500,some ⟨70,(inssV ls).map .val,rw_⟩)]) nb.toNat
    (cE (σ':=dcSt X s 1 0 0 [(500,some ⟨70,([]:List Value).map .val,false⟩)]) (Le.ofR [(500,12)] (by exact ⟨rfl,rfl,rfl,rfl,trivial⟩) (by repeat' (first|exact trivial|refine cQ ⟨_,rfl,?_⟩ ?_|refine cQ ⟨_,rfl⟩ ?_|rfl|exact bX _ _ _ _|exact bY _ _ _ _|exact bZ rfl)) (by exact rfl) (by exact rfl) (by repeat' (first|refine bT ?_ ?_|rfl|exact bV|exact bU|exact bW rfl)) (by exact rfl) (by exact rfl)) (cD ⟨0,1,[],false,Nat.zero_le _,rfl,dN _,hll,fun h=>absurd rfl h,by rw [hd1];rfl,rfl⟩)) ?_
  rintro m σ ⟨i,at_,ls,rw_,hi,rfl,h1,hat,hrw,hgot,rfl⟩
  obtain ⟨hbk,hlsl,hok⟩:=getIs_back hgot
  have hsm:=small_got hgot
  by_cases hlt:i<nb.toNat
  case neg =>
    have e:i=nb.toNat:=by omega
    subst e
    have hend:=dec_end hgot
    rw [← hl] at hend
    by_cases hat2:at_=s.length
    case neg =>
      obtain ⟨q1,q2⟩:=decR_none (hend.trans (if_neg (fun h=>by have:=congrArg List.length h.1;rw [dA,dO] at this;omega)))
      rw [q1,q2]
      (refine aA<|aA<|rgN<|kmv O<|kmv O<|bB O O (by decide) hg0 dR<|kcv O wn ?_;refine klt O O (cO (by omega))<|aB<|aF O ?_;refine aJ<|aA<|aA<|rgN<|kmv O<|kmv O<|kln O<|kne O O (cT (by rw [hlen];omega))<|kmv O<|aC O O O<|aC O O O<|aC O O O<|kpt O O<|aB ?_;refine aE O ?_;refine aA<|rgN<|kas O<|kas O<|aB<|aI ?_)
      exact cE (σ':=⟨[(2,.sv Vnil),(3,Lb false)],[],X⟩) (Le.of (by exact ⟨rfl,rfl,trivial⟩) (by exact trivial) (by exact rfl) (by exact rfl) (by repeat' (first|refine bT ?_ ?_|rfl|exact bV|exact bU|exact bW rfl))) (cD ⟨[],⟨[_,_],⟨rfl,rfl,trivial⟩,rfl⟩,(by repeat' (first|exact trivial|refine cQ ⟨_,rfl,?_⟩ ?_|refine cQ ⟨_,rfl⟩ ?_|rfl|exact bX _ _ _ _|exact bY _ _ _ _|exact bZ rfl)),rfl,rfl⟩)
    have hC:=fun S el row hk=>rcheck_lent X (S:=S) (k:=500) (l:=ls) (el:=el) (row:=row) (by omega) hsm hk
    by_cases hz:chkX ls=0
    case neg =>
      obtain ⟨q1,q2⟩:=decR_none (hend.trans (if_neg (fun h=>hz h.2)))
      rw [q1,q2]
      (refine aA<|aA<|rgN<|kmv O<|kmv O<|bB O O (by decide) hg0 dR<|kcv O wn ?_;refine klt O O (cO (by omega))<|aB<|aF O ?_;refine aJ<|aA<|aA<|rgN<|kmv O<|kmv O<|kln O<|kne O O (cS (by rw [hlen];omega))<|kmv O<|gmv O O O<|K.callX [500] O O O (hC _ _ _ O) (dS O O) ?_;refine aX O O (cT hz) (dS O O) ?_;refine kpf O O<|aB<|aE O ?_;refine aA<|rgN<|kas O<|kas O<|aB<|aI ?_)
      exact cE (σ':=⟨[(2,.sv Vnil),(3,Lb false)],[],X⟩) (Le.of (by exact ⟨rfl,rfl,trivial⟩) (by exact trivial) (by exact rfl) (by exact rfl) (by repeat' (first|refine bT ?_ ?_|rfl|exact bV|exact bU|exact bW rfl))) (cD ⟨[],⟨[_,_],⟨rfl,rfl,trivial⟩,rfl⟩,(by repeat' (first|exact trivial|refine cQ ⟨_,rfl,?_⟩ ?_|refine cQ ⟨_,rfl⟩ ?_|rfl|exact bX _ _ _ _|exact bY _ _ _ _|exact bZ rfl)),rfl,rfl⟩)
    have hne:=chkX_ne hz
    obtain rfl:rw_=true:=hrw hne
    obtain ⟨q1,q2⟩:=decR_some (hend.trans (if_pos ⟨by rw [hat2,List.drop_length],hz⟩))
    rw [q1,q2]
    rw [hz] at hC
    (refine aA<|aA<|rgN<|kmv O<|kmv O<|bB O O (by decide) hg0 dR<|kcv O wn ?_;refine klt O O (cO (by omega))<|aB<|aF O ?_;refine aJ<|aA<|aA<|rgN<|kmv O<|kmv O<|kln O<|kne O O (cS (by rw [hlen];omega))<|kmv O<|gmv O O O<|K.callX [500] O O O (hC _ _ _ O) (dS O O) ?_;refine aX O O (r:=false) O (dS O O) ?_;refine kpf O O<|aB<|aF O ?_;refine aH ?_;refine aA<|rgN<|kmv O<|kas O<|kas O<|aB<|aI ?_)
    refine cE (σ':=⟨[(2,.sv (.one (.slc 500 0 ls.length 6))),(3,Lb true)],[(500,some ⟨70,(inssV ls).map .val,true⟩)],X⟩) (Le.ofR [(500,500)] (by exact ⟨rfl,rfl,trivial⟩) (by repeat' (first|exact trivial|refine cQ ⟨_,rfl,?_⟩ ?_|refine cQ ⟨_,rfl⟩ ?_|rfl|exact bX _ _ _ _|exact bY _ _ _ _|exact bZ rfl)) (by exact rfl) (by exact rfl) (by repeat' (first|refine bT ?_ ?_|rfl|exact bV|exact bU|exact bW rfl)) (by exact rfl) (by exact rfl)) ?_
    refine cE Le.loose (cD ?_)
    exact ⟨[(1000001,500)],⟨[_,_],⟨rfl,rfl,trivial⟩,rfl⟩,(by repeat' (first|exact trivial|refine cQ ⟨_,rfl,?_⟩ ?_|refine cQ ⟨_,rfl⟩ ?_|rfl|exact bX _ _ _ _|exact bY _ _ _ _|exact bZ rfl)),rfl,rfl⟩
  have hfail:=fun h=>decR_none (s:=s) (by rw [hl];exact dec_fail hgot hlt h)
  by_cases ha:s.length≤at_
  case pos =>
    obtain ⟨q1,q2⟩:=hfail (by rw [List.drop_eq_nil_of_le ha];rfl)
    rw [q1,q2]
    (refine aA<|aA<|rgN<|kmv O<|kmv O<|bB O O (by decide) hg0 dR<|kcv O wn ?_;refine klt O O (cP (by omega))<|aB<|aE O ?_;refine aH ?_;refine aA<|aG<|aA<|aA<|rgN<|kmv O<|kmv O<|kln O<|bD O O (cP (by rw [hlen];omega)) dR<|aB<|aE O ?_;refine aA<|rgN<|kas O<|kas O<|aB<|aI ?_)
    exact cE (σ':=⟨[(2,.sv Vnil),(3,Lb false)],[],X⟩) (Le.of (by exact ⟨rfl,rfl,trivial⟩) (by exact trivial) (by exact rfl) (by exact rfl) (by repeat' (first|refine bT ?_ ?_|rfl|exact bV|exact bU|exact bW rfl))) (cD ⟨[],⟨[_,_],⟨rfl,rfl,trivial⟩,rfl⟩,(by repeat' (first|exact trivial|refine cQ ⟨_,rfl,?_⟩ ?_|refine cQ ⟨_,rfl⟩ ?_|rfl|exact bX _ _ _ _|exact bY _ _ _ _|exact bZ rfl)),rfl,rfl⟩)
  obtain ⟨o,t1,hd,ho,ht1⟩:=cells_long (l:=s) (k:=at_) (by omega)
  have hob:=o.toNat_lt
  have hgo:(⟨s.toArray⟩:ByteArray)[Int.toNat (at_:Nat)]? = some o:=str_at (by rw [dG];exact ho)
  have wo:IntKind.i64.wrap ((o.toNat:Nat):Int)=((o.toNat:Nat):Int):=cH (by omega)
  have hadi:IntKind.i64.wrap ((i:Int)+1)=((i+1:Nat):Int):=by rw [cH (by omega)];omega
  have p1:IntKind.i64.wrap ((at_:Int)+1)=((at_+1:Nat):Int):=by rw [cH (by omega)];omega
  have p2:IntKind.i64.wrap ((at_:Int)+2)=((at_+2:Nat):Int):=by rw [cH (by omega)];omega
  have p3:IntKind.i64.wrap ((at_:Int)+3)=((at_+3:Nat):Int):=by rw [cH (by omega)];omega
  have p10:IntKind.i64.wrap ((at_:Int)+10)=((at_+10:Nat):Int):=by rw [cH (by omega)];omega
  have p18:IntKind.i64.wrap ((at_:Int)+18)=((at_+18:Nat):Int):=by rw [cH (by omega)];omega
  have hl3:=inssV_len ls
  have hls8:ls.length≤255:=by omega
  have hgI:getI (s.drop at_)=getI (o::t1):=by rw [hd]
  have hsn:=getIs_snoc hgot
  rw [hgI] at hfail hsn
  by_cases hk1:o.toNat=1
  case pos =>
    have hgi:=hgI
    have heo:((o.toNat:Nat):Int)=1:=by omega
    have hno2:((o.toNat:Nat):Int)≠2:=by omega
    have hno3:((o.toNat:Nat):Int)≠3:=by omega
    by_cases hs:s.length<at_+18
    case pos =>
      obtain ⟨q1,q2⟩:=hfail (by
        unfold getI
        simp only
        rw [if_pos (by omega)]
        cases t1 with
        | nil=>rfl
        | cons c t2 =>
          simp only
          rw [if_neg]
          intro h
          have:=congrArg List.length ht1
          rw [dI,dA] at this
          omega)
      rw [q1,q2]
      (refine aA<|aA<|rgN<|kmv O<|kmv O<|bB O O (by decide) hg0 dR<|kcv O wn ?_;refine klt O O (cP (by omega))<|aB<|aE O ?_;refine aH ?_;refine aA<|aG<|aA<|aA<|rgN<|kmv O<|kmv O<|kln O<|bD O O (cO (by rw [hlen];omega)) dR<|aB<|aF O ?_;refine aH ?_;refine aA<|rgN<|kmv O<|kmv O<|bB O O (by omega) hgo dR<|kcv O wo ?_;refine aT O O (by exact O) (by exact nl6 O O O O O O O) dR ?_;refine aP O dR ?_;refine aM O O O O O O dR ?_;refine aB<|aA<|rgN<|kas O<|aB<|aA<|aA<|rgN<|kfa O O ?_;refine kl1 O O O<|aB<|aG<|aA<|rgN<|keq O O (r:=true) (cU heo)<|kas O<|aB<|aE O ?_;refine rgN<|kas O<|aB<|aA<|aA<|rgN<|kmv O<|kmv O<|kad O O p18<|kmv O<|kln O<|aS O O (cP (by rw [hlen];omega)) dR<|aB<|aE O ?_;refine aA<|rgN<|kas O<|kas O<|aB<|aI ?_)
      exact cE (σ':=⟨[(2,.sv Vnil),(3,Lb false)],[],X⟩) (Le.of (by exact ⟨rfl,rfl,trivial⟩) (by exact trivial) (by exact rfl) (by exact rfl) (by repeat' (first|refine bT ?_ ?_|rfl|exact bV|exact bU|exact bW rfl))) (cD ⟨[],⟨[_,_],⟨rfl,rfl,trivial⟩,rfl⟩,(by repeat' (first|exact trivial|refine cQ ⟨_,rfl,?_⟩ ?_|refine cQ ⟨_,rfl⟩ ?_|rfl|exact bX _ _ _ _|exact bY _ _ _ _|exact bZ rfl)),rfl,rfl⟩)
    obtain ⟨a1,t2,hd2,ha1,ht2⟩:=cells_long (l:=s) (k:=at_+1) (by omega)
    rw [← ht1] at hd2
    have hg1:(⟨s.toArray⟩:ByteArray)[Int.toNat ((at_+1:Nat):Int)]? = some a1:=str_at (by rw [dG];exact ha1)
    have ha1b:=a1.toNat_lt
    have wa1:IntKind.i64.wrap ((a1.toNat:Nat):Int)=((a1.toNat:Nat):Int):=cH (by omega)
    obtain ⟨a2,t3,hd3,ha2,ht3⟩:=cells_long (l:=s) (k:=at_+1+1) (by omega)
    by_cases hsg:1<a1.toNat
    case pos =>
      obtain ⟨q1,q2⟩:=hfail (by unfold getI;simp only;rw [if_pos (by omega),hd2];simp only;rw [if_neg (by omega)])
      rw [q1,q2]
      (refine aA<|aA<|rgN<|kmv O<|kmv O<|bB O O (by decide) hg0 dR<|kcv O wn ?_;refine klt O O (cP (by omega))<|aB<|aE O ?_;refine aH ?_;refine aA<|aG<|aA<|aA<|rgN<|kmv O<|kmv O<|kln O<|bD O O (cO (by rw [hlen];omega)) dR<|aB<|aF O ?_;refine aH ?_;refine aA<|rgN<|kmv O<|kmv O<|bB O O (by omega) hgo dR<|kcv O wo ?_;refine aT O O (by exact O) (by exact nl6 O O O O O O O) dR ?_;refine aP O dR ?_;refine aM O O O O O O dR ?_;refine aB<|aA<|rgN<|kas O<|aB<|aA<|aA<|rgN<|kfa O O ?_;refine kl1 O O O<|aB<|aG<|aA<|rgN<|keq O O (r:=true) (cU heo)<|kas O<|aB<|aE O ?_;refine rgN<|kas O<|aB<|aA<|aA<|rgN<|kmv O<|kmv O<|kad O O p18<|kmv O<|kln O<|aS O O (cO (by rw [hlen];omega)) dR<|aB<|aF O ?_;refine aH ?_;refine aA<|aA<|rgN<|kfa O O ?_;refine kl1 O O O<|aB<|aG<|aA<|rgN<|keq O O (r:=true) (cU heo)<|kas O<|aB<|aE O ?_;refine aA<|aA<|rgN<|kmv O<|kmv O<|kad O O p1<|bB O O (by omega) hg1 dR<|aS O O (cP (by omega)) dR<|aB<|aE O ?_;refine aA<|rgN<|kas O<|kas O<|aB<|aI ?_)
      exact cE (σ':=⟨[(2,.sv Vnil),(3,Lb false)],[],X⟩) (Le.of (by exact ⟨rfl,rfl,trivial⟩) (by exact trivial) (by exact rfl) (by exact rfl) (by repeat' (first|refine bT ?_ ?_|rfl|exact bV|exact bU|exact bW rfl))) (cD ⟨[],⟨[_,_],⟨rfl,rfl,trivial⟩,rfl⟩,(by repeat' (first|exact trivial|refine cQ ⟨_,rfl,?_⟩ ?_|refine cQ ⟨_,rfl⟩ ?_|rfl|exact bX _ _ _ _|exact bY _ _ _ _|exact bZ rfl)),rfl,rfl⟩)
    have hA8:((s.drop (at_+2)).take 8).length=8:=by rw [cZ,dA];omega
    have hB8:((s.drop (at_+10)).take 8).length=8:=by rw [cZ,dA];omega
    have hN1:=rNumber_spec X _ hA8
    have hN2:=rNumber_spec X _ hB8
    have h10:at_+10≤(⟨s.toArray⟩:ByteArray).size:=by rw [hlen];omega
    have h18:at_+18≤(⟨s.toArray⟩:ByteArray).size:=by rw [hlen];omega
    have hc1:(⟨s.toArray⟩:ByteArray).extract (at_+2) (at_+10)=⟨((s.drop (at_+2)).take 8).toArray⟩:=by rw [str_cut,show at_+10-(at_+2)=8 by omega]
    have hc2:(⟨s.toArray⟩:ByteArray).extract (at_+10) (at_+18)=⟨((s.drop (at_+10)).take 8).toArray⟩:=by rw [str_cut,show at_+18-(at_+10)=8 by omega]
    have hgot1:getI (o::t1)=some (Ins.mk 1 0 0 (decide (a1.toNat=1),((le ((s.drop (at_+2)).take 8)+18446744073709551616*le ((s.drop (at_+10)).take 8):Nat):Int)),s.drop (at_+18)):=by
      unfold getI
      simp only
      rw [if_pos (by omega),hd2]
      simp only
      rw [if_pos ⟨by omega,by rw [ht2,dA];omega⟩,ht2,List.drop_drop,List.drop_drop,show at_+1+1=at_+2 by omega,show at_+2+8=at_+10 by omega,show at_+2+16=at_+18 by omega]
    rw [hgot1] at hsn
    simp only at hsn
    have b1:=le_lt ((s.drop (at_+2)).take 8)
    have b2:=le_lt ((s.drop (at_+10)).take 8)
    rw [hA8,show (256:Nat)^8=18446744073709551616 by decide] at b1
    rw [hB8,show (256:Nat)^8=18446744073709551616 by decide] at b2
    generalize (s.drop (at_+2)).take 8=A at *
    generalize (s.drop (at_+10)).take 8=B at *
    generalize le A=n1 at *
    generalize le B=n2 at *
    have hbe:(((a1.toNat:Nat):Int)==1)=decide (a1.toNat=1):=by
      by_cases h:a1.toNat=1
      · rw [cP h,h];rfl
      · rw [cO h];exact cR (by omega)
    have hnc:=inssV_snoc ls (Ins.mk 1 0 0 (decide (a1.toNat=1),((n1+18446744073709551616*n2:Nat):Int))) (cs:=[.val (.int .i64 ((o.toNat:Nat):Int)),.val (.int .i64 0),.val (.int .i64 0),.val (.bool (decide (a1.toNat=1))),.val (.int .u64 (n2:Nat)),.val (.int .u64 (n1:Nat))]) (by
      unfold insV
      simp only [List.map_cons,List.map_nil]
      rw [heo,show ((n1+18446744073709551616*n2:Nat):Int)/18446744073709551616=(n2:Nat) by omega,show ((n1+18446744073709551616*n2:Nat):Int)%18446744073709551616=(n1:Nat) by omega])
    have hnl:ls.length+1=(ls++[Ins.mk 1 0 0 (decide (a1.toNat=1),((n1+18446744073709551616*n2:Nat):Int))]).length:=by rw [cV];rfl
    generalize decide (a1.toNat=1)=sb at *
    ((refine aA<|aA<|rgN<|kmv O<|kmv O<|bB O O (by decide) hg0 dR<|kcv O wn ?_;refine klt O O (cP (by omega))<|aB<|aE O ?_;refine aH ?_;refine aA<|aG<|aA<|aA<|rgN<|kmv O<|kmv O<|kln O<|bD O O (cO (by rw [hlen];omega)) dR<|aB<|aF O ?_;refine aH ?_;refine aA<|rgN<|kmv O<|kmv O<|bB O O (by omega) hgo dR<|kcv O wo ?_;refine aT O O (by exact O) (by exact nl6 O O O O O O O) dR ?_;refine aP O dR ?_;refine aM O O O O O O dR ?_;refine aB<|aA<|rgN<|kas O<|aB<|aA<|aA<|rgN<|kfa O O ?_;refine kl1 O O O<|aB<|aG<|aA<|rgN<|keq O O (r:=true) (cU heo)<|kas O<|aB<|aE O ?_;refine rgN<|kas O<|aB<|aA<|aA<|rgN<|kmv O<|kmv O<|kad O O p18<|kmv O<|kln O<|aS O O (cO (by rw [hlen];omega)) dR<|aB<|aF O ?_);(refine aH ?_;refine aA<|aA<|rgN<|kfa O O ?_;refine kl1 O O O<|aB<|aG<|aA<|rgN<|keq O O (r:=true) (cU heo)<|kas O<|aB<|aE O ?_;refine aA<|aA<|rgN<|kmv O<|kmv O<|kad O O p1<|bB O O (by omega) hg1 dR<|aS O O (cO (by omega)) dR<|aB<|aF O ?_;refine aH ?_;refine rgD mixed<|kmv O<|kmv O<|kad O O p1<|bB O O (by omega) hg1 dR<|keq O O hbe<|kmv O<|kmv O<|kad O O p2<|kmv O<|kad O O p10<|bN (l:=at_+2) (h:=at_+10) (kl:=.i64) (kh:=.i64) O StrT.u O O ⟨(by omega),h10⟩ hc1 dR<|kca O O hN1<|kmv O ?_;refine kmv O<|kad O O p10<|kmv O<|kad O O p18<|bN (l:=at_+10) (h:=at_+18) (kl:=.i64) (kh:=.i64) O StrT.u O O ⟨(by omega),h18⟩ hc2 dR<|kca O O hN2<|aT O O (by exact O) (by exact nl3 O O O O) dR ?_;refine kfa O O ?_;refine K.store O O O O (by kernel_rfl) (dN _) O dR<|aB<|rgA ?_;refine aA<|rgN<|kmv O<|aK O O O dR ?_;refine aZ (zs:=[.int .i64 0,.int .i64 0,.int .i64 0,.bool false,.int .u64 0,.int .u64 0]) (sz:=6) (e:=70) (cs':=[.val (.int .i64 ((o.toNat:Nat):Int)),.val (.int .i64 0),.val (.int .i64 0),.val (.bool (sb)),.val (.int .u64 (n2:Nat)),.val (.int .u64 (n1:Nat))]) (by kernel_rfl) O O O O O O dR<|bQ (by_:=48) (e2:=70) (l2:=[.val (.int .i64 ((o.toNat:Nat):Int)),.val (.int .i64 0),.val (.int .i64 0),.val (.bool (sb)),.val (.int .u64 (n2:Nat)),.val (.int .u64 (n1:Nat))]) (nl:=(ls++[Ins.mk 1 0 0 (sb,((n1+18446744073709551616*n2:Nat):Int))]).length) (nc:=(inssV (ls++[Ins.mk 1 0 0 (sb,((n1+18446744073709551616*n2:Nat):Int))])).map .val) O O hl3 O O (dN _) O O (by kernel_rfl) (by kernel_rfl) (by omega) (by omega) O hnl hnc dR<|kas O<|aB<|rgN<|kmv O<|kmv O<|kad O O p18<|kas O<|aB<|rgN<|kmv O<|kad O O hadi<|kas O ?_;refine aB ?_))
    exact cE (σ':=dcSt X s (at_+18) (i+1) (ls++[Ins.mk 1 0 0 (sb,((n1+18446744073709551616*n2:Nat):Int))]).length [(500,some ⟨70,(inssV (ls++[Ins.mk 1 0 0 (sb,((n1+18446744073709551616*n2:Nat):Int))])).map .val,true⟩)]) (Le.ofR [(500,98)] (by exact ⟨rfl,rfl,rfl,rfl,trivial⟩) (by repeat' (first|exact trivial|refine cQ ⟨_,rfl,?_⟩ ?_|refine cQ ⟨_,rfl⟩ ?_|rfl|exact bX _ _ _ _|exact bY _ _ _ _|exact bZ rfl)) (by exact rfl) (by exact rfl) (by repeat' (first|refine bT ?_ ?_|rfl|exact bV|exact bU|exact bW rfl)) (by exact rfl) (by exact rfl)) (cD ⟨nb.toNat-(i+1),by omega,i+1,at_+18,ls++[Ins.mk 1 0 0 (sb,((n1+18446744073709551616*n2:Nat):Int))],true,by omega,rfl,by omega,by omega,fun _=>rfl,hsn,rfl⟩)
  by_cases hk2:o.toNat=2
  case pos =>
    have hgi:=hgI
    have hno1:((o.toNat:Nat):Int)≠1:=by omega
    have heo:((o.toNat:Nat):Int)=2:=by omega
    have hno3:((o.toNat:Nat):Int)≠3:=by omega
    by_cases hs:s.length<at_+3
    case pos =>
      obtain ⟨q1,q2⟩:=hfail (by
        unfold getI
        simp only
        rw [if_neg (by omega),if_pos (by omega)]
        match t1,ht1 with
        | [],_=>rfl
        | [_],_=>rfl
        | _::_::_,ht1 =>
          have:=congrArg List.length ht1
          simp only [dI,dA] at this
          omega)
      rw [q1,q2]
      (refine aA<|aA<|rgN<|kmv O<|kmv O<|bB O O (by decide) hg0 dR<|kcv O wn ?_;refine klt O O (cP (by omega))<|aB<|aE O ?_;refine aH ?_;refine aA<|aG<|aA<|aA<|rgN<|kmv O<|kmv O<|kln O<|bD O O (cO (by rw [hlen];omega)) dR<|aB<|aF O ?_;refine aH ?_;refine aA<|rgN<|kmv O<|kmv O<|bB O O (by omega) hgo dR<|kcv O wo ?_;refine aT O O (by exact O) (by exact nl6 O O O O O O O) dR ?_;refine aP O dR ?_;refine aM O O O O O O dR ?_;refine aB<|aA<|rgN<|kas O<|aB<|aA<|aA<|rgN<|kfa O O ?_;refine kl1 O O O<|aB<|aG<|aA<|rgN<|keq O O (r:=false) (cR hno1)<|kas O<|aB<|aF O ?_;refine aA<|rgN<|keq O O (r:=true) (cU heo)<|kas O<|aB<|aE O ?_;refine rgN<|kas O<|aB<|aA<|aA<|rgN<|kmv O<|kmv O<|kad O O p3<|kmv O<|kln O<|aS O O (cP (by rw [hlen];omega)) dR<|aB<|aE O ?_;refine aA<|rgN<|kas O<|kas O<|aB<|aI ?_)
      exact cE (σ':=⟨[(2,.sv Vnil),(3,Lb false)],[],X⟩) (Le.of (by exact ⟨rfl,rfl,trivial⟩) (by exact trivial) (by exact rfl) (by exact rfl) (by repeat' (first|refine bT ?_ ?_|rfl|exact bV|exact bU|exact bW rfl))) (cD ⟨[],⟨[_,_],⟨rfl,rfl,trivial⟩,rfl⟩,(by repeat' (first|exact trivial|refine cQ ⟨_,rfl,?_⟩ ?_|refine cQ ⟨_,rfl⟩ ?_|rfl|exact bX _ _ _ _|exact bY _ _ _ _|exact bZ rfl)),rfl,rfl⟩)
    obtain ⟨a1,t2,hd2,ha1,ht2⟩:=cells_long (l:=s) (k:=at_+1) (by omega)
    rw [← ht1] at hd2
    have hg1:(⟨s.toArray⟩:ByteArray)[Int.toNat ((at_+1:Nat):Int)]? = some a1:=str_at (by rw [dG];exact ha1)
    have ha1b:=a1.toNat_lt
    have wa1:IntKind.i64.wrap ((a1.toNat:Nat):Int)=((a1.toNat:Nat):Int):=cH (by omega)
    obtain ⟨a2,t3,hd3,ha2,ht3⟩:=cells_long (l:=s) (k:=at_+1+1) (by omega)
    rw [← ht2] at hd3
    have hg2:(⟨s.toArray⟩:ByteArray)[Int.toNat ((at_+2:Nat):Int)]? = some a2:=str_at (by rw [dG];exact ha2)
    have ha2b:=a2.toNat_lt
    have wa2:IntKind.i64.wrap ((a2.toNat:Nat):Int)=((a2.toNat:Nat):Int):=cH (by omega)
    rw [show getI (o::t1)=some (Ins.mk 2 ((a1.toNat:Nat):Int) ((a2.toNat:Nat):Int) (false,0),t3) by unfold getI;simp only;rw [if_neg (by omega),if_pos (by omega),hd2,hd3],ht3] at hsn
    simp only at hsn
    have hnc:=inssV_snoc ls (Ins.mk 2 ((a1.toNat:Nat):Int) ((a2.toNat:Nat):Int) (false,0)) (cs:=[.val (.int .i64 ((o.toNat:Nat):Int)),.val (.int .i64 ((a1.toNat:Nat):Int)),.val (.int .i64 ((a2.toNat:Nat):Int)),.val (.bool false),.val (.int .u64 0),.val (.int .u64 0)]) (by simp [insV];omega)
    have hnl:ls.length+1=(ls++[Ins.mk 2 ((a1.toNat:Nat):Int) ((a2.toNat:Nat):Int) (false,0)]).length:=by rw [cV];rfl
    ((refine aA<|aA<|rgN<|kmv O<|kmv O<|bB O O (by decide) hg0 dR<|kcv O wn ?_;refine klt O O (cP (by omega))<|aB<|aE O ?_;refine aH ?_;refine aA<|aG<|aA<|aA<|rgN<|kmv O<|kmv O<|kln O<|bD O O (cO (by rw [hlen];omega)) dR<|aB<|aF O ?_;refine aH ?_;refine aA<|rgN<|kmv O<|kmv O<|bB O O (by omega) hgo dR<|kcv O wo ?_;refine aT O O (by exact O) (by exact nl6 O O O O O O O) dR ?_;refine aP O dR ?_;refine aM O O O O O O dR ?_;refine aB<|aA<|rgN<|kas O<|aB<|aA<|aA<|rgN<|kfa O O ?_;refine kl1 O O O<|aB<|aG<|aA<|rgN<|keq O O (r:=false) (cR hno1)<|kas O<|aB<|aF O ?_;refine aA<|rgN<|keq O O (r:=true) (cU heo)<|kas O<|aB<|aE O ?_);(refine rgN<|kas O<|aB<|aA<|aA<|rgN<|kmv O<|kmv O<|kad O O p3<|kmv O<|kln O<|aS O O (cO (by rw [hlen];omega)) dR<|aB<|aF O ?_;refine aH ?_;refine aA<|aA<|rgN<|kfa O O ?_;refine kl1 O O O<|aB<|aG<|aA<|rgN<|keq O O (r:=false) (cR hno1)<|kas O<|aB<|aF O ?_;refine aA<|rgN<|keq O O (r:=true) (cU heo)<|kas O<|aB<|aE O ?_;refine aA<|rgN<|kmv O<|kmv O<|kad O O p1<|bB O O (by omega) hg1 dR<|kcv O wa1 ?_;refine kfa O O ?_;refine bG O O O O O (nl6 O O O O O O O) dR<|aB<|rgN<|kmv O<|kmv O<|kad O O p2<|bB O O (by omega) hg2 dR<|kcv O wa2 ?_;refine kfa O O ?_;refine bG O O O O O (nl6 O O O O O O O) dR<|aB<|aA<|rgN<|kmv O<|aK O O O dR ?_;refine aZ (zs:=[.int .i64 0,.int .i64 0,.int .i64 0,.bool false,.int .u64 0,.int .u64 0]) (sz:=6) (e:=70) (cs':=[.val (.int .i64 ((o.toNat:Nat):Int)),.val (.int .i64 ((a1.toNat:Nat):Int)),.val (.int .i64 ((a2.toNat:Nat):Int)),.val (.bool false),.val (.int .u64 0),.val (.int .u64 0)]) (by kernel_rfl) O O O O O O dR<|bQ (by_:=48) (e2:=70) (l2:=[.val (.int .i64 ((o.toNat:Nat):Int)),.val (.int .i64 ((a1.toNat:Nat):Int)),.val (.int .i64 ((a2.toNat:Nat):Int)),.val (.bool false),.val (.int .u64 0),.val (.int .u64 0)]) (nl:=(ls++[Ins.mk 2 ((a1.toNat:Nat):Int) ((a2.toNat:Nat):Int) (false,0)]).length) (nc:=(inssV (ls++[Ins.mk 2 ((a1.toNat:Nat):Int) ((a2.toNat:Nat):Int) (false,0)])).map .val) O O hl3 O O (dN _) O O (by kernel_rfl) (by kernel_rfl) (by omega) (by omega) O hnl hnc dR<|kas O<|aB<|rgN<|kmv O<|kmv O<|kad O O p3<|kas O<|aB<|rgN<|kmv O<|kad O O hadi<|kas O ?_;refine aB ?_))
    exact cE (σ':=dcSt X s (at_+3) (i+1) (ls++[Ins.mk 2 ((a1.toNat:Nat):Int) ((a2.toNat:Nat):Int) (false,0)]).length [(500,some ⟨70,(inssV (ls++[Ins.mk 2 ((a1.toNat:Nat):Int) ((a2.toNat:Nat):Int) (false,0)])).map .val,true⟩)]) (Le.ofR [(500,98)] (by exact ⟨rfl,rfl,rfl,rfl,trivial⟩) (by repeat' (first|exact trivial|refine cQ ⟨_,rfl,?_⟩ ?_|refine cQ ⟨_,rfl⟩ ?_|rfl|exact bX _ _ _ _|exact bY _ _ _ _|exact bZ rfl)) (by exact rfl) (by exact rfl) (by repeat' (first|refine bT ?_ ?_|rfl|exact bV|exact bU|exact bW rfl)) (by exact rfl) (by exact rfl)) (cD ⟨nb.toNat-(i+1),by omega,i+1,at_+3,ls++[Ins.mk 2 ((a1.toNat:Nat):Int) ((a2.toNat:Nat):Int) (false,0)],true,by omega,rfl,by omega,by omega,fun _=>rfl,hsn,rfl⟩)
  by_cases hk3:o.toNat=3
  case pos =>
    have hgi:=hgI
    have hno1:((o.toNat:Nat):Int)≠1:=by omega
    have hno2:((o.toNat:Nat):Int)≠2:=by omega
    have heo:((o.toNat:Nat):Int)=3:=by omega
    by_cases hs:s.length<at_+2
    case pos =>
      obtain ⟨q1,q2⟩:=hfail (by
        unfold getI
        simp only
        rw [if_neg (by omega),if_neg (by omega),if_pos (by omega)]
        match t1,ht1 with
        | [],_=>rfl
        | _::_,ht1 =>
          have:=congrArg List.length ht1
          simp only [dI,dA] at this
          omega)
      rw [q1,q2]
      (refine aA<|aA<|rgN<|kmv O<|kmv O<|bB O O (by decide) hg0 dR<|kcv O wn ?_;refine klt O O (cP (by omega))<|aB<|aE O ?_;refine aH ?_;refine aA<|aG<|aA<|aA<|rgN<|kmv O<|kmv O<|kln O<|bD O O (cO (by rw [hlen];omega)) dR<|aB<|aF O ?_;refine aH ?_;refine aA<|rgN<|kmv O<|kmv O<|bB O O (by omega) hgo dR<|kcv O wo ?_;refine aT O O (by exact O) (by exact nl6 O O O O O O O) dR ?_;refine aP O dR ?_;refine aM O O O O O O dR ?_;refine aB<|aA<|rgN<|kas O<|aB<|aA<|aA<|rgN<|kfa O O ?_;refine kl1 O O O<|aB<|aG<|aA<|rgN<|keq O O (r:=false) (cR hno1)<|kas O<|aB<|aF O ?_;refine aA<|rgN<|keq O O (r:=false) (cR hno2)<|kas O<|aB<|aF O ?_;refine aA<|rgN<|keq O O (r:=true) (cU heo)<|kas O<|aB<|aE O ?_;refine rgN<|kas O<|aB<|aA<|aA<|rgN<|kmv O<|kmv O<|kad O O p2<|kmv O<|kln O<|aS O O (cP (by rw [hlen];omega)) dR<|aB<|aE O ?_;refine aA<|rgN<|kas O<|kas O<|aB<|aI ?_)
      exact cE (σ':=⟨[(2,.sv Vnil),(3,Lb false)],[],X⟩) (Le.of (by exact ⟨rfl,rfl,trivial⟩) (by exact trivial) (by exact rfl) (by exact rfl) (by repeat' (first|refine bT ?_ ?_|rfl|exact bV|exact bU|exact bW rfl))) (cD ⟨[],⟨[_,_],⟨rfl,rfl,trivial⟩,rfl⟩,(by repeat' (first|exact trivial|refine cQ ⟨_,rfl,?_⟩ ?_|refine cQ ⟨_,rfl⟩ ?_|rfl|exact bX _ _ _ _|exact bY _ _ _ _|exact bZ rfl)),rfl,rfl⟩)
    obtain ⟨a1,t2,hd2,ha1,ht2⟩:=cells_long (l:=s) (k:=at_+1) (by omega)
    rw [← ht1] at hd2
    have hg1:(⟨s.toArray⟩:ByteArray)[Int.toNat ((at_+1:Nat):Int)]? = some a1:=str_at (by rw [dG];exact ha1)
    have ha1b:=a1.toNat_lt
    have wa1:IntKind.i64.wrap ((a1.toNat:Nat):Int)=((a1.toNat:Nat):Int):=cH (by omega)
    rw [show getI (o::t1)=some (Ins.mk 3 ((a1.toNat:Nat):Int) 0 (false,0),t2) by unfold getI;simp only;rw [if_neg (by omega),if_neg (by omega),if_pos (by omega),hd2],ht2] at hsn
    simp only at hsn
    have hnc:=inssV_snoc ls (Ins.mk 3 ((a1.toNat:Nat):Int) 0 (false,0)) (cs:=[.val (.int .i64 ((o.toNat:Nat):Int)),.val (.int .i64 ((a1.toNat:Nat):Int)),.val (.int .i64 0),.val (.bool false),.val (.int .u64 0),.val (.int .u64 0)]) (by simp [insV];omega)
    have hnl:ls.length+1=(ls++[Ins.mk 3 ((a1.toNat:Nat):Int) 0 (false,0)]).length:=by rw [cV];rfl
    ((refine aA<|aA<|rgN<|kmv O<|kmv O<|bB O O (by decide) hg0 dR<|kcv O wn ?_;refine klt O O (cP (by omega))<|aB<|aE O ?_;refine aH ?_;refine aA<|aG<|aA<|aA<|rgN<|kmv O<|kmv O<|kln O<|bD O O (cO (by rw [hlen];omega)) dR<|aB<|aF O ?_;refine aH ?_;refine aA<|rgN<|kmv O<|kmv O<|bB O O (by omega) hgo dR<|kcv O wo ?_;refine aT O O (by exact O) (by exact nl6 O O O O O O O) dR ?_;refine aP O dR ?_;refine aM O O O O O O dR ?_;refine aB<|aA<|rgN<|kas O<|aB<|aA<|aA<|rgN<|kfa O O ?_;refine kl1 O O O<|aB<|aG<|aA<|rgN<|keq O O (r:=false) (cR hno1)<|kas O<|aB<|aF O ?_;refine aA<|rgN<|keq O O (r:=false) (cR hno2)<|kas O<|aB<|aF O ?_);(refine aA<|rgN<|keq O O (r:=true) (cU heo)<|kas O<|aB<|aE O ?_;refine rgN<|kas O<|aB<|aA<|aA<|rgN<|kmv O<|kmv O<|kad O O p2<|kmv O<|kln O<|aS O O (cO (by rw [hlen];omega)) dR<|aB<|aF O ?_;refine aH ?_;refine aA<|aA<|rgN<|kfa O O ?_;refine kl1 O O O<|aB<|aG<|aA<|rgN<|keq O O (r:=false) (cR hno1)<|kas O<|aB<|aF O ?_;refine aA<|rgN<|keq O O (r:=false) (cR hno2)<|kas O<|aB<|aF O ?_;refine aA<|rgN<|keq O O (r:=true) (cU heo)<|kas O<|aB<|aE O ?_;refine rgN<|kmv O<|kmv O<|kad O O p1<|bB O O (by omega) hg1 dR<|kcv O wa1 ?_;refine kfa O O ?_;refine bG O O O O O (nl6 O O O O O O O) dR<|aB<|aA<|rgN<|kmv O<|aK O O O dR ?_;refine aZ (zs:=[.int .i64 0,.int .i64 0,.int .i64 0,.bool false,.int .u64 0,.int .u64 0]) (sz:=6) (e:=70) (cs':=[.val (.int .i64 ((o.toNat:Nat):Int)),.val (.int .i64 ((a1.toNat:Nat):Int)),.val (.int .i64 0),.val (.bool false),.val (.int .u64 0),.val (.int .u64 0)]) (by kernel_rfl) O O O O O O dR<|bQ (by_:=48) (e2:=70) (l2:=[.val (.int .i64 ((o.toNat:Nat):Int)),.val (.int .i64 ((a1.toNat:Nat):Int)),.val (.int .i64 0),.val (.bool false),.val (.int .u64 0),.val (.int .u64 0)]) (nl:=(ls++[Ins.mk 3 ((a1.toNat:Nat):Int) 0 (false,0)]).length) (nc:=(inssV (ls++[Ins.mk 3 ((a1.toNat:Nat):Int) 0 (false,0)])).map .val) O O hl3 O O (dN _) O O (by kernel_rfl) (by kernel_rfl) (by omega) (by omega) O hnl hnc dR<|kas O<|aB<|rgN<|kmv O<|kmv O<|kad O O p2<|kas O<|aB<|rgN<|kmv O<|kad O O hadi<|kas O ?_;refine aB ?_))
    exact cE (σ':=dcSt X s (at_+2) (i+1) (ls++[Ins.mk 3 ((a1.toNat:Nat):Int) 0 (false,0)]).length [(500,some ⟨70,(inssV (ls++[Ins.mk 3 ((a1.toNat:Nat):Int) 0 (false,0)])).map .val,true⟩)]) (Le.ofR [(500,98)] (by exact ⟨rfl,rfl,rfl,rfl,trivial⟩) (by repeat' (first|exact trivial|refine cQ ⟨_,rfl,?_⟩ ?_|refine cQ ⟨_,rfl⟩ ?_|rfl|exact bX _ _ _ _|exact bY _ _ _ _|exact bZ rfl)) (by exact rfl) (by exact rfl) (by repeat' (first|refine bT ?_ ?_|rfl|exact bV|exact bU|exact bW rfl)) (by exact rfl) (by exact rfl)) (cD ⟨nb.toNat-(i+1),by omega,i+1,at_+2,ls++[Ins.mk 3 ((a1.toNat:Nat):Int) 0 (false,0)],true,by omega,rfl,by omega,by omega,fun _=>rfl,hsn,rfl⟩)
  have hgi:=hgI
  have hno1:((o.toNat:Nat):Int)≠1:=by omega
  have hno2:((o.toNat:Nat):Int)≠2:=by omega
  have hno3:((o.toNat:Nat):Int)≠3:=by omega
  by_cases hs:s.length<at_+1
  case pos =>
    omega
  rw [show getI (o::t1)=some (Ins.mk ((o.toNat:Nat):Int) 0 0 (false,0),t1) by unfold getI;simp only;rw [if_neg (by omega),if_neg (by omega),if_neg (by omega)],ht1] at hsn
  simp only at hsn
  have hnc:=inssV_snoc ls (Ins.mk ((o.toNat:Nat):Int) 0 0 (false,0)) (cs:=[.val (.int .i64 ((o.toNat:Nat):Int)),.val (.int .i64 0),.val (.int .i64 0),.val (.bool false),.val (.int .u64 0),.val (.int .u64 0)]) (by simp [insV])
  have hnl:ls.length+1=(ls++[Ins.mk ((o.toNat:Nat):Int) 0 0 (false,0)]).length:=by rw [cV];rfl
  ((refine aA<|aA<|rgN<|kmv O<|kmv O<|bB O O (by decide) hg0 dR<|kcv O wn ?_;refine klt O O (cP (by omega))<|aB<|aE O ?_;refine aH ?_;refine aA<|aG<|aA<|aA<|rgN<|kmv O<|kmv O<|kln O<|bD O O (cO (by rw [hlen];omega)) dR<|aB<|aF O ?_;refine aH ?_;refine aA<|rgN<|kmv O<|kmv O<|bB O O (by omega) hgo dR<|kcv O wo ?_;refine aT O O (by exact O) (by exact nl6 O O O O O O O) dR ?_;refine aP O dR ?_;refine aM O O O O O O dR ?_;refine aB<|aA<|rgN<|kas O<|aB<|aA<|aA<|rgN<|kfa O O ?_;refine kl1 O O O<|aB<|aG<|aA<|rgN<|keq O O (r:=false) (cR hno1)<|kas O<|aB<|aF O ?_;refine aA<|rgN<|keq O O (r:=false) (cR hno2)<|kas O<|aB<|aF O ?_);(refine aA<|rgN<|keq O O (r:=false) (cR hno3)<|kas O<|aB<|aF O ?_;refine aH ?_;refine aA<|aA<|rgN<|kmv O<|kmv O<|kad O O p1<|kmv O<|kln O<|aS O O (cO (by rw [hlen];omega)) dR<|aB<|aF O ?_;refine aH ?_;refine aA<|aA<|rgN<|kfa O O ?_;refine kl1 O O O<|aB<|aG<|aA<|rgN<|keq O O (r:=false) (cR hno1)<|kas O<|aB<|aF O ?_;refine aA<|rgN<|keq O O (r:=false) (cR hno2)<|kas O<|aB<|aF O ?_;refine aA<|rgN<|keq O O (r:=false) (cR hno3)<|kas O<|aB<|aF O ?_;refine aH ?_;refine aA<|rgN<|kmv O<|aK O O O dR ?_;refine aZ (zs:=[.int .i64 0,.int .i64 0,.int .i64 0,.bool false,.int .u64 0,.int .u64 0]) (sz:=6) (e:=70) (cs':=[.val (.int .i64 ((o.toNat:Nat):Int)),.val (.int .i64 0),.val (.int .i64 0),.val (.bool false),.val (.int .u64 0),.val (.int .u64 0)]) (by kernel_rfl) O O O O O O dR<|bQ (by_:=48) (e2:=70) (l2:=[.val (.int .i64 ((o.toNat:Nat):Int)),.val (.int .i64 0),.val (.int .i64 0),.val (.bool false),.val (.int .u64 0),.val (.int .u64 0)]) (nl:=(ls++[Ins.mk ((o.toNat:Nat):Int) 0 0 (false,0)]).length) (nc:=(inssV (ls++[Ins.mk ((o.toNat:Nat):Int) 0 0 (false,0)])).map .val) O O hl3 O O (dN _) O O (by kernel_rfl) (by kernel_rfl) (by omega) (by omega) O hnl hnc dR<|kas O<|aB<|rgN<|kmv O<|kmv O<|kad O O p1<|kas O<|aB<|rgN<|kmv O<|kad O O hadi<|kas O ?_;refine aB ?_))
  exact cE (σ':=dcSt X s (at_+1) (i+1) (ls++[Ins.mk ((o.toNat:Nat):Int) 0 0 (false,0)]).length [(500,some ⟨70,(inssV (ls++[Ins.mk ((o.toNat:Nat):Int) 0 0 (false,0)])).map .val,true⟩)]) (Le.ofR [(500,98)] (by exact ⟨rfl,rfl,rfl,rfl,trivial⟩) (by repeat' (first|exact trivial|refine cQ ⟨_,rfl,?_⟩ ?_|refine cQ ⟨_,rfl⟩ ?_|rfl|exact bX _ _ _ _|exact bY _ _ _ _|exact bZ rfl)) (by exact rfl) (by exact rfl) (by repeat' (first|refine bT ?_ ?_|rfl|exact bV|exact bU|exact bW rfl)) (by exact rfl) (by exact rfl)) (cD ⟨nb.toNat-(i+1),by omega,i+1,at_+1,ls++[Ins.mk ((o.toNat:Nat):Int) 0 0 (false,0)],true,by omega,rfl,by omega,by omega,fun _=>rfl,hsn,rfl⟩)
end Go.Proofs.YtamplgnbbanamaaGreatDoor
end
section
namespace Go.Proofs.YtamplgnbbanamaaGreatDoor
open Go Go.Lg Go.Lg.Fml Go.Lg.Fld Go.Lg.Arith
set_option maxRecDepth 100000
variable (X:Nat→Option Obj)
abbrev LPg (va vb:Int) (ad:Option Addr) (n cap:Nat):LV:=.sv (.agg [.val (.int .i64 va),.val (.int .i64 vb),.val (.slice ad n cap)])
abbrev v3B (t:TypeId) (k:Nat) (a b:Int) (ad:Option Addr) (n cap:Nat):Nat×Option Box:=(k,some ⟨t,[.val (.int .i64 a),.val (.int .i64 b),.val (.slice ad n cap)],false⟩)
theorem leB4n (n:Nat):leB 4 n=[o8 (n:Nat),o8 ((n/256:Nat):Int),o8 ((n/65536:Nat):Int),o8 ((n/16777216:Nat):Int)]:=by
  have g:∀ q:Nat,UInt8.ofNat (q%256)=o8 (q:Int):=fun q=>by
    apply UInt8.toNat_inj.1
    unfold o8
    rw [UInt8.toNat_ofNat',UInt8.toNat_ofNat']
    omega
  simp only [leB,Nat.div_div_eq_div_mul,g]
theorem quad_eqs {n:Nat} (h:n<4294967296):IntKind.u8.wrap ((n:Int).tmod 256)=((o8 (n:Int)).toNat:Nat)∧IntKind.i64.wrap ((n:Int).tdiv 256)=((n/256:Nat):Int)∧IntKind.u8.wrap (((n/256:Nat):Int).tmod 256)=((o8 ((n/256:Nat):Int)).toNat:Nat) ∧
    IntKind.i64.wrap ((n:Int).tdiv 65536)=((n/65536:Nat):Int)∧IntKind.u8.wrap (((n/65536:Nat):Int).tmod 256)=((o8 ((n/65536:Nat):Int)).toNat:Nat)∧IntKind.i64.wrap ((n:Int).tdiv 16777216)=((n/16777216:Nat):Int)∧IntKind.u8.wrap ((n/16777216:Nat):Int)=((o8 ((n/16777216:Nat):Int)).toNat:Nat):=by
  have hm:∀ x:Int,0≤x→IntKind.u8.wrap (x.tmod 256)=((o8 x).toNat:Nat):=fun x hx=>by
    rw [Int.tmod_eq_emod_of_nonneg hx,wrap_o8]
    congr 2
    apply UInt8.toNat_inj.1
    unfold o8
    rw [UInt8.toNat_ofNat',UInt8.toNat_ofNat']
    omega
  have hq:∀ d:Nat,0<d→IntKind.i64.wrap ((n:Int).tdiv d)=((n/d:Nat):Int):=fun d hd=>by
    rw [Int.tdiv_eq_ediv_of_nonneg (by omega),← Int.natCast_ediv]
    have:n/d≤n:=Nat.div_le_self _ _
    generalize n/d=q at *
    exact cH (by omega)
  exact ⟨hm _ (by omega),hq 256 (by decide),hm _ (by omega),hq 65536 (by decide),hm _ (by omega),hq 16777216 (by decide),wrap_o8 _⟩
set_option maxHeartbeats 1600000 in
theorem rQuad_spec (n:Nat) (hn:n<4294967296):PSpec Tryz.prog X 31 [Ln .i64 (n:Nat)] (Ls (leB 4 n)):=by
  obtain ⟨e1,e2,e3,e4,e5,e6,e7⟩:=quad_eqs hn
  rw [leB4n]
  refine cF Tryz.func31 rfl (by kernel_rfl) rfl rfl ?_
  intro C
  (refine aA<|rgN<|kas O<|aB<|aA<|rgN<|kmv O<|K.rem O O (by decide) O dR<|kcv O e1 ?_;refine kmv O<|K.quo O O (by decide) e2 dR<|K.rem O O (by decide) O dR<|kcv O e3 ?_;refine kmv O<|K.quo O O (by decide) e4 dR<|K.rem O O (by decide) O dR<|kcv O e5 ?_;refine kmv O<|K.quo O O (by decide) e6 dR<|kcv O e7 ?_;refine aZ (zs:=List.replicate 4 (.int .u8 0)) (sz:=1) (e:=5) (cs':=[o8 (n:Nat),o8 ((n/256:Nat):Int),o8 ((n/65536:Nat):Int),o8 ((n/16777216:Nat):Int)].map bc) (by kernel_rfl) O O O O O O dR<|bS (l:=[o8 (n:Nat),o8 ((n/256:Nat):Int),o8 ((n/65536:Nat):Int),o8 ((n/16777216:Nat):Int)]) O O (by kernel_rfl) StrT.u (dN _) O dR<|kas O<|aB<|aI ?_)
  exact ⟨[_],⟨O,trivial⟩,O⟩
set_option maxHeartbeats 1600000 in
theorem rNumber12 (s:List UInt8) (hs:s.length=4):PSpec Tryz.prog X 37 [Ls s] (Ln .i64 (le s:Nat)):=by
  match s,hs with
  | [a,b,c,d],_ =>
  have ha:=a.toNat_lt
  have hb:=b.toNat_lt
  have hc:=c.toNat_lt
  have hd:=d.toNat_lt
  have wd:∀ x:Int,-9223372036854775808≤x∧x<9223372036854775808→IntKind.i64.wrap x=x:=fun x h=>cH h
  have e:((le [a,b,c,d]:Nat):Int)=(((a.toNat:Nat):Int)+(b.toNat:Nat)*256+(c.toNat:Nat)*65536)+(d.toNat:Nat)*16777216:=by
    simp only [le];omega
  rw [e]
  have q0:(⟨[a,b,c,d].toArray⟩:ByteArray)[(0:Int).toNat]? = some a:=str_at rfl
  have q1:(⟨[a,b,c,d].toArray⟩:ByteArray)[(1:Int).toNat]? = some b:=str_at rfl
  have q2:(⟨[a,b,c,d].toArray⟩:ByteArray)[(2:Int).toNat]? = some c:=str_at rfl
  have q3:(⟨[a,b,c,d].toArray⟩:ByteArray)[(3:Int).toNat]? = some d:=str_at rfl
  have wa:=wd (a.toNat:Nat) (by omega)
  have wb:=wd (b.toNat:Nat) (by omega)
  have wc:=wd (c.toNat:Nat) (by omega)
  have wdd:=wd (d.toNat:Nat) (by omega)
  have m1:=wd ((b.toNat:Nat)*256) (by omega)
  have m2:=wd ((c.toNat:Nat)*65536) (by omega)
  have m3:=wd ((d.toNat:Nat)*16777216) (by omega)
  have s1:=wd (((a.toNat:Nat):Int)+(b.toNat:Nat)*256) (by omega)
  have s2:=wd (((a.toNat:Nat):Int)+(b.toNat:Nat)*256+(c.toNat:Nat)*65536) (by omega)
  have s3:=wd ((((a.toNat:Nat):Int)+(b.toNat:Nat)*256+(c.toNat:Nat)*65536)+(d.toNat:Nat)*16777216) (by omega)
  generalize [a,b,c,d]=s at *
  refine cF Tryz.func37 rfl (by kernel_rfl) rfl rfl ?_
  intro C
  (refine aA<|rgN<|kas O<|aB<|aA<|rgD mixed<|kmv O<|bB O O (by decide) q0 dR<|kcv O wa ?_;refine kmv O<|bB O O (by decide) q1 dR<|kcv O wb ?_;refine bL O O m1 dR<|kad O O s1<|kmv O<|bB O O (by decide) q2 dR<|kcv O wc ?_;refine bL O O m2 dR<|kad O O s2<|kmv O<|bB O O (by decide) q3 dR<|kcv O wdd ?_;refine bL O O m3 dR<|kad O O s3<|kas O<|aB<|rgA ?_;refine aI ?_)
  exact ⟨[_],⟨O,trivial⟩,O⟩
def lastR (rs:List Rl):Nat→Int
  | 0=>0
  | j+1=>match rs[j]? with
    | some r=>r.nw
    | none=>0
theorem lastR_at {rs:List Rl} {j:Nat} {r:Rl} (h:rs[j]? = some r):lastR rs (j+1)=r.nw:=by simp only [lastR,h]
theorem chkRs_cons {r:Rl} {last:Int} {t:List Rl}:chkRs last (r::t)=if chkR r last=0 then chkRs r.nw t else chkR r last:=rfl
theorem firstX_cons {c:List Ins} {t:List (List Ins)}:firstX (c::t)=if encErr c=0 then firstX t else encErr c:=rfl
theorem drop_at {α:Type} {l:List α} {i:Nat} {x:α} (h:l[i]? = some x):l.drop i=x::l.drop (i+1):=by
  obtain ⟨hi,e⟩:=List.getElem?_eq_some_iff.1 h
  rw [List.drop_eq_getElem_cons hi,e]
theorem chkP_bad {p:Pg} (h:¬(verOk p.va&&verOk p.vb)=true):chkP p=1:=if_neg h
theorem chkP_good {p:Pg} (h:(verOk p.va&&verOk p.vb)=true):chkP p=chkRs 0 p.rs:=if_pos h
theorem CodesIn.get {X:Nat→Option Obj} {ad:Option Addr} {cs:List (List Ins)} (h:CodesIn X ad cs) {i:Nat} {c:List Ins} (hc:cs[i]? = some c):∃ (blk off:Nat) (arr:Array Value) (el:TypeId) (fr:Nat×Nat) (vad:Option Addr) (vcap:Nat),ad=some ⟨blk,off,none⟩∧X blk=some (.cells arr el fr)∧arr[off+i*1]? = some (.slice vad c.length vcap)∧InsIn X vad c:=by
  obtain ⟨blk,off,arr,el,fr,vad,vcap,h1,h2,h3,h4,h5⟩:=h.at_ i c hc
  exact ⟨blk,off,arr,el,fr,vad,vcap,h1,h2,by rw [Nat.mul_one];exact h4,h5⟩
set_option maxHeartbeats 12800000 in
theorem rCheck12 (p:Pg) (ad:Option Addr) (cap:Nat) (hin:RulesIn X ad p.rs) (hbig:p.rs.length<4611686018427387904) (hsz:sizeR p.rs):PSpec Tryz.prog X 10 [LPg p.va p.vb ad p.rs.length cap] (Ln .i64 (chkP p)):=by
  obtain ⟨va,vb,rs⟩:=p
  simp only at hin hbig hsz ⊢
  refine cF Tryz.func10 rfl (by kernel_rfl) rfl rfl ?_
  intro C
  by_cases hv1:va<1
  · rw [chkP_bad (by unfold verOk;simp;omega)]
    (refine aA<|rgN<|aL O O O dR<|kas O<|aB<|aA<|aA<|rgN<|kfa O O ?_;refine kl1 O O O<|klt O O (cP (by omega))<|kmv O<|aC O O O<|aC O O O<|aC O O O<|kpt O O<|kmv O<|aC O O O<|aC O O O<|aC O O O<|kpt O O<|kmv O<|aC O O O ?_;refine aC O O O<|aC O O O<|kpt O O<|aB<|aE O ?_;refine aA<|rgN<|kas O<|aB<|aI ?_)
    exact ⟨[_],⟨O,trivial⟩,O⟩
  by_cases hv2:1073741824<va
  · rw [chkP_bad (by unfold verOk;simp;omega)]
    (refine aA<|rgN<|aL O O O dR<|kas O<|aB<|aA<|aA<|rgN<|kfa O O ?_;refine kl1 O O O<|klt O O (cO (by omega))<|kmv O<|aN O O (dS O O) ?_;refine aO O O O (dS O O) ?_;refine aS O O (cP (by omega)) (dS O O) ?_;refine kpf O O<|kmv O<|aC O O O<|aC O O O<|aC O O O<|kpt O O<|kmv O<|aC O O O<|aC O O O<|aC O O O<|kpt O O<|aB<|aE O ?_;refine aA<|rgN<|kas O<|aB<|aI ?_)
    exact ⟨[_],⟨O,trivial⟩,O⟩
  by_cases hv3:vb<1
  · rw [chkP_bad (by unfold verOk;simp;omega)]
    (refine aA<|rgN<|aL O O O dR<|kas O<|aB<|aA<|aA<|rgN<|kfa O O ?_;refine kl1 O O O<|klt O O (cO (by omega))<|kmv O<|aN O O (dS O O) ?_;refine aO O O O (dS O O) ?_;refine aS O O (cO (by omega)) (dS O O) ?_;refine kpf O O<|kmv O<|aN O O (dS O O) ?_;refine aO O O O (dS O O) ?_;refine bK O O (cP (by omega)) (dS O O) ?_;refine kpf O O<|kmv O<|aC O O O<|aC O O O<|aC O O O<|kpt O O<|aB<|aE O ?_;refine aA<|rgN<|kas O<|aB<|aI ?_)
    exact ⟨[_],⟨O,trivial⟩,O⟩
  by_cases hv4:1073741824<vb
  · rw [chkP_bad (by unfold verOk;simp;omega)]
    (refine aA<|rgN<|aL O O O dR<|kas O<|aB<|aA<|aA<|rgN<|kfa O O ?_;refine kl1 O O O<|klt O O (cO (by omega))<|kmv O<|aN O O (dS O O) ?_;refine aO O O O (dS O O) ?_;refine aS O O (cO (by omega)) (dS O O) ?_;refine kpf O O<|kmv O<|aN O O (dS O O) ?_;refine aO O O O (dS O O) ?_;refine bK O O (cO (by omega)) (dS O O) ?_;refine kpf O O<|kmv O<|aN O O (dS O O) ?_;refine aO O O O (dS O O) ?_;refine aS O O (cP (by omega)) (dS O O) ?_;refine kpf O O<|aB<|aE O ?_;refine aA<|rgN<|kas O<|aB<|aI ?_)
    exact ⟨[_],⟨O,trivial⟩,O⟩
  rw [chkP_good (show (verOk va&&verOk vb)=true by unfold verOk;simp;omega)]
  (refine aA<|rgN<|aL O O O dR<|kas O<|aB<|aA<|aA<|rgN<|kfa O O ?_;refine kl1 O O O<|klt O O (cO (by omega))<|kmv O<|aN O O (dS O O) ?_;refine aO O O O (dS O O) ?_;refine aS O O (cO (by omega)) (dS O O) ?_;refine kpf O O<|kmv O<|aN O O (dS O O) ?_;refine aO O O O (dS O O) ?_;refine bK O O (cO (by omega)) (dS O O) ?_;refine kpf O O<|kmv O<|aN O O (dS O O) ?_;refine aO O O O (dS O O) ?_;refine aS O O (cO (by omega)) (dS O O) ?_;refine kpf O O<|aB<|aF O ?_;refine aH ?_;refine aA<|aA<|rgN<|kas O<|aB<|aG ?_)
  refine cL (fun m σ=>∃ i:Nat,i≤rs.length∧m=rs.length-i∧chkRs 0 rs=chkRs (lastR rs i) (rs.drop i)∧σ=⟨[(1,Lp 1),(3,Ln .i64 (i:Nat))],[v3B 29 1 va vb ad rs.length cap],X⟩) rs.length
    ⟨_,Le.of (by exact ⟨rfl,rfl,trivial⟩) (by exact ⟨rfl,trivial⟩) (by exact rfl) (by exact rfl) (by repeat' (first|refine bT ?_ ?_|rfl|exact bV|exact bU|exact bW rfl)),0,by omega,by omega,rfl,rfl⟩ ?_
  rintro m σ ⟨i,hi,rfl,hpre,rfl⟩
  by_cases hlt:i<rs.length
  case neg =>
    rw [hpre,List.drop_eq_nil_of_le (by omega)]
    (refine aA<|aA<|rgN<|kmv O<|kfa O O ?_;refine kl1 O O O<|aQ O cC O dR ?_;refine klt O O (cO (by omega))<|aB<|aF O ?_;refine aJ<|aA<|rgN<|kas O<|aB<|aI ?_)
    exact ⟨[_],⟨O,trivial⟩,O⟩
  obtain ⟨r,hr⟩:∃ r,rs[i]? = some r:=⟨_,cX hlt⟩
  obtain ⟨blk,off,arr,el,fr,ead,ecap,rfl,hX,hsiz,hcs,g1,g2,g3,hE⟩:=hin.get hr
  have hio:off+Int.toNat (i:Int)*3=off+i*3:=by simp
  obtain ⟨hel,hcl⟩:=hsz r (dD hr)
  rw [drop_at hr,chkRs_cons] at hpre
  have fin:∀ e,chkR r (lastR rs i)=e→e≠0→chkRs 0 rs=e:=fun e he h0=>by rw [hpre,he,if_neg h0]
  (refine aA<|aA<|rgN<|kmv O<|kfa O O ?_;refine kl1 O O O<|aQ O cC O dR ?_;refine klt O O (cP (by omega))<|aB<|aE O ?_;refine aH ?_;refine aA<|aG<|aA<|rgN<|kfa O O ?_;refine kl1 O O O<|kmv O<|aR O O cC (by omega) hio dR<|aY O hX (by kernel_rfl) hsiz hcs dR<|aP O dR ?_;refine aM O O O O O O dR ?_;refine aB<|aA<|aA ?_)
  refine LWP.le (σ':=⟨[(1,Lp 1),(3,Ln .i64 (i:Nat)),(4,Lp 4)],[v3B 51 4 r.nw r.old ead r.ex.length ecap,v3B 29 1 va vb (some ⟨blk,off,none⟩) rs.length cap],X⟩) (Le.of (by exact ⟨O,O,O,trivial⟩) (by exact ⟨O,O,trivial⟩) (by exact O) (by exact O) (by repeat' (first|refine bT ?_ ?_|rfl|exact bV|exact bU|exact bW O))) ?_
  by_cases c1:r.nw<1
  · rw [fin 1 (if_pos (by omega)) (by decide)]
    (refine rgD mixed<|kfa O O ?_;refine kl1 O O O<|klt O O (cP (by omega))<|kmv O<|aC O O O<|aC O O O<|aC O O O<|kpt O O<|kmv O<|aC O O O<|aC O O O<|aC O O O<|kpt O O<|kmv O<|aC O O O ?_;refine aC O O O<|aC O O O<|kpt O O<|kmv O<|aC O O O<|aC O O O<|aC O O O<|aD O O<|aD O O<|aD O O<|aD O O<|aD O O<|aD O O<|aD O O ?_;refine aD O O<|aD O O<|aD O O<|aC O O O<|kpt O O<|aB<|rgA ?_;refine aE O ?_;refine aA<|rgN<|kas O<|aB<|aI ?_)
    exact ⟨[_],⟨O,trivial⟩,O⟩
  by_cases c2:24<r.nw
  · rw [fin 1 (if_pos (by omega)) (by decide)]
    (refine rgD mixed<|kfa O O ?_;refine kl1 O O O<|klt O O (cO (by omega))<|kmv O<|aN O O (dS O O) ?_;refine aO O O O (dS O O) ?_;refine aS O O (cP (by omega)) (dS O O) ?_;refine kpf O O<|kmv O<|aC O O O<|aC O O O<|aC O O O<|kpt O O<|kmv O<|aC O O O<|aC O O O<|aC O O O<|kpt O O<|kmv O<|aC O O O<|aC O O O ?_;refine aC O O O<|aD O O<|aD O O<|aD O O<|aD O O<|aD O O<|aD O O<|aD O O<|aD O O<|aD O O<|aD O O<|aC O O O<|kpt O O<|aB ?_;refine rgA ?_;refine aE O ?_;refine aA<|rgN<|kas O<|aB<|aI ?_)
    exact ⟨[_],⟨O,trivial⟩,O⟩
  by_cases c3:r.old<0
  · rw [fin 1 (if_pos (by omega)) (by decide)]
    (refine rgD mixed<|kfa O O ?_;refine kl1 O O O<|klt O O (cO (by omega))<|kmv O<|aN O O (dS O O) ?_;refine aO O O O (dS O O) ?_;refine aS O O (cO (by omega)) (dS O O) ?_;refine kpf O O<|kmv O<|aN O O (dS O O) ?_;refine aO O O O (dS O O) ?_;refine bK O O (cP (by omega)) (dS O O) ?_;refine kpf O O<|kmv O<|aC O O O<|aC O O O<|aC O O O<|kpt O O<|kmv O<|aC O O O<|aC O O O<|aC O O O<|aD O O<|aD O O<|aD O O<|aD O O ?_;refine aD O O<|aD O O<|aD O O<|aD O O<|aD O O<|aD O O<|aC O O O<|kpt O O<|aB<|rgA ?_;refine aE O ?_;refine aA<|rgN<|kas O<|aB<|aI ?_)
    exact ⟨[_],⟨O,trivial⟩,O⟩
  by_cases c4:24<r.old
  · rw [fin 1 (if_pos (by omega)) (by decide)]
    (refine rgD mixed<|kfa O O ?_;refine kl1 O O O<|klt O O (cO (by omega))<|kmv O<|aN O O (dS O O) ?_;refine aO O O O (dS O O) ?_;refine aS O O (cO (by omega)) (dS O O) ?_;refine kpf O O<|kmv O<|aN O O (dS O O) ?_;refine aO O O O (dS O O) ?_;refine bK O O (cO (by omega)) (dS O O) ?_;refine kpf O O<|kmv O<|aN O O (dS O O) ?_;refine aO O O O (dS O O) ?_;refine aS O O (cP (by omega)) (dS O O) ?_;refine kpf O O<|kmv O<|aC O O O<|aC O O O<|aC O O O<|aD O O<|aD O O<|aD O O<|aD O O<|aD O O<|aD O O<|aD O O<|aD O O<|aD O O ?_;refine aD O O<|aC O O O<|kpt O O<|aB<|rgA ?_;refine aE O ?_;refine aA<|rgN<|kas O<|aB<|aI ?_)
    exact ⟨[_],⟨O,trivial⟩,O⟩
  by_cases c5:0<i∧r.nw≤lastR rs i
  · rw [fin 1 (if_pos (by omega)) (by decide)]
    obtain ⟨q,hq⟩:∃ q,rs[i-1]? = some q:=⟨_,cX (by omega)⟩
    have hla:=lastR_at hq
    rw [show i-1+1=i by omega] at hla
    obtain ⟨blk',off',arr',el',fr',_,_,e1,hX',_,_,g1',_,_,_⟩:=hin.get hq
    simp only [Option.some.injEq,Addr.mk.injEq] at e1
    obtain ⟨rfl,rfl,_⟩:=e1
    rw [hX] at hX'
    simp only [Option.some.injEq,Obj.cells.injEq] at hX'
    obtain ⟨rfl,rfl,rfl⟩:=hX'
    have hsub:IntKind.i64.wrap (((i:Nat):Int)-1)=((i-1:Nat):Int):=by rw [cH (by omega)];omega
    have hio2:off+Int.toNat ((i-1:Nat):Int)*3=off+(i-1)*3:=by rw [dG]
    ((refine rgD mixed<|kfa O O ?_;refine kl1 O O O<|klt O O (cO (by omega))<|kmv O<|aN O O (dS O O) ?_;refine aO O O O (dS O O) ?_;refine aS O O (cO (by omega)) (dS O O) ?_;refine kpf O O<|kmv O<|aN O O (dS O O) ?_;refine aO O O O (dS O O) ?_;refine bK O O (cO (by omega)) (dS O O) ?_;refine kpf O O<|kmv O<|aN O O (dS O O) ?_;refine aO O O O (dS O O) ?_;refine aS O O (cO (by omega)) (dS O O) ?_;refine kpf O O<|kmv O<|gmv O O O<|aS O O (cP (by omega)) (dS O O) ?_;refine gmv O O O<|aN O O (dS O O) ?_);(refine aO O O O (dS O O) ?_;refine gmv O O O<|bA O O hsub (dS O O) ?_;refine aR O O cC (by omega) hio2 (dS O O) ?_;refine bH O O (dS O O) ?_;refine aW O hX O g1' (dS O O) ?_;refine aN O O (dS O O) ?_;refine aO O O O (dS O O) ?_;refine bD O O (cP (by omega)) (dS O O) ?_;refine bF O O (dS O O) ?_;refine kpf O O<|aB<|rgA ?_;refine aE O ?_;refine aA<|rgN<|kas O<|aB<|aI ?_))
    exact ⟨[_],⟨O,trivial⟩,O⟩
  have hlow:¬(r.nw<1∨24<r.nw∨r.old<0∨24<r.old∨r.nw≤lastR rs i):=by
    by_cases h0:i=0
    · subst h0
      have hz:lastR rs 0=0:=rfl
      omega
    · omega
  refine LWP.meet0 (fun σ=>σ=⟨[(1,Lp 1),(3,Ln .i64 (i:Nat)),(4,Lp 4),(71,Lb false)],[v3B 51 4 r.nw r.old ead r.ex.length ecap,v3B 29 1 va vb (some ⟨blk,off,none⟩) rs.length cap],X⟩) ?_ ?_
  · by_cases hi0:i=0
    · subst hi0
      (refine rgD mixed<|kfa O O ?_;refine kl1 O O O<|klt O O (cO (by omega))<|kmv O<|aN O O (dS O O) ?_;refine aO O O O (dS O O) ?_;refine aS O O (cO (by omega)) (dS O O) ?_;refine kpf O O<|kmv O<|aN O O (dS O O) ?_;refine aO O O O (dS O O) ?_;refine bK O O (cO (by omega)) (dS O O) ?_;refine kpf O O<|kmv O<|aN O O (dS O O) ?_;refine aO O O O (dS O O) ?_;refine aS O O (cO (by omega)) (dS O O) ?_;refine kpf O O<|kmv O<|gmv O O O<|aS O O (cO (by omega)) (dS O O) ?_;refine gmv O O O<|aC O O O<|aC O O O<|aC O O O<|aC O O O<|aC O O O<|aC O O O<|aC O O O<|aC O O O<|aC O O O<|aC O O O<|bP O O (dS O O) ?_;refine kpf O O<|aB<|rgA ?_)
      exact ⟨_,Le.of (by exact ⟨O,O,O,O,trivial⟩) (by exact ⟨O,O,trivial⟩) (by exact O) (by exact O) (by repeat' (first|refine bT ?_ ?_|rfl|exact bV|exact bU|exact bW O)),O⟩
    · 
      obtain ⟨q,hq⟩:∃ q,rs[i-1]? = some q:=⟨_,cX (by omega)⟩
      have hla:=lastR_at hq
      rw [show i-1+1=i by omega] at hla
      obtain ⟨blk',off',arr',el',fr',_,_,e1,hX',_,_,g1',_,_,_⟩:=hin.get hq
      simp only [Option.some.injEq,Addr.mk.injEq] at e1
      obtain ⟨rfl,rfl,_⟩:=e1
      rw [hX] at hX'
      simp only [Option.some.injEq,Obj.cells.injEq] at hX'
      obtain ⟨rfl,rfl,rfl⟩:=hX'
      have hsub:IntKind.i64.wrap (((i:Nat):Int)-1)=((i-1:Nat):Int):=by rw [cH (by omega)];omega
      have hio2:off+Int.toNat ((i-1:Nat):Int)*3=off+(i-1)*3:=by rw [dG]
      ((refine rgD mixed<|kfa O O ?_;refine kl1 O O O<|klt O O (cO (by omega))<|kmv O<|aN O O (dS O O) ?_;refine aO O O O (dS O O) ?_;refine aS O O (cO (by omega)) (dS O O) ?_;refine kpf O O<|kmv O<|aN O O (dS O O) ?_;refine aO O O O (dS O O) ?_;refine bK O O (cO (by omega)) (dS O O) ?_;refine kpf O O<|kmv O<|aN O O (dS O O) ?_;refine aO O O O (dS O O) ?_;refine aS O O (cO (by omega)) (dS O O) ?_;refine kpf O O<|kmv O<|gmv O O O<|aS O O (cP (by omega)) (dS O O) ?_;refine gmv O O O<|aN O O (dS O O) ?_);(refine aO O O O (dS O O) ?_;refine gmv O O O<|bA O O hsub (dS O O) ?_;refine aR O O cC (by omega) hio2 (dS O O) ?_;refine bH O O (dS O O) ?_;refine aW O hX O g1' (dS O O) ?_;refine aN O O (dS O O) ?_;refine aO O O O (dS O O) ?_;refine bD O O (cO (by omega)) (dS O O) ?_;refine bF O O (dS O O) ?_;refine kpf O O<|aB<|rgA ?_))
      exact ⟨_,Le.of (by exact ⟨O,O,O,O,trivial⟩) (by exact ⟨O,O,trivial⟩) (by exact O) (by exact O) (by repeat' (first|refine bT ?_ ?_|rfl|exact bV|exact bU|exact bW O)),O⟩
  rintro σ rfl
  by_cases c6:r.old=0∧0<r.ex.length
  · rw [fin 4 (by unfold chkR;rw [if_neg hlow,if_pos ⟨c6.1,fun e=>by rw [e] at c6;exact absurd c6.2 (by decide)⟩]) (by decide)]
    (refine aF O ?_;refine aH ?_;refine aA<|aA<|rgN<|kfa O O ?_;refine kl1 O O O<|keq O O (cU c6.1)<|kmv O<|aN O O (dS O O) ?_;refine aO O O O (dS O O) ?_;refine aQ O cC O (dS O O) ?_;refine aS O O (cP (by omega)) (dS O O) ?_;refine kpt O O<|aB<|aE O ?_;refine aA<|rgN<|kas O<|aB<|aI ?_)
    exact ⟨[_],⟨O,trivial⟩,O⟩
  repeat (first|refine aA ?_|refine aH ?_|refine aG ?_|refine aF O ?_)
  refine LWP.meet0 (fun σ=>σ=⟨[(1,Lp 1),(3,Ln .i64 (i:Nat)),(4,Lp 4),(80,Lb false)],[v3B 51 4 r.nw r.old ead r.ex.length ecap,v3B 29 1 va vb (some ⟨blk,off,none⟩) rs.length cap],X⟩) ?_ ?_
  · by_cases ho:r.old=0
    · (refine rgN<|kfa O O ?_;refine kl1 O O O<|keq O O (cU ho)<|kmv O<|aN O O (dS O O) ?_;refine aO O O O (dS O O) ?_;refine aQ O cC O (dS O O) ?_;refine aS O O (cO (by omega)) (dS O O) ?_;refine kpt O O<|aB ?_)
      exact ⟨_,Le.of (by exact ⟨O,O,O,O,trivial⟩) (by exact ⟨O,O,trivial⟩) (by exact O) (by exact O) (by repeat' (first|refine bT ?_ ?_|rfl|exact bV|exact bU|exact bW O)),O⟩
    · (refine rgN<|kfa O O ?_;refine kl1 O O O<|keq O O (cR ho)<|kmv O<|aC O O O<|aC O O O<|aC O O O<|aC O O O<|kpf O O<|aB ?_)
      exact ⟨_,Le.of (by exact ⟨O,O,O,O,trivial⟩) (by exact ⟨O,O,trivial⟩) (by exact O) (by exact O) (by repeat' (first|refine bT ?_ ?_|rfl|exact bV|exact bU|exact bW O)),O⟩
  rintro σ rfl
  have h6:¬(r.old=0∧r.ex≠[]):=fun h=>c6 ⟨h.1,List.length_pos_iff.2 h.2⟩
  by_cases c7:8<r.ex.length
  · rw [fin 5 (by unfold chkR;rw [if_neg hlow,if_neg h6,if_pos c7]) (by decide)]
    (refine aF O ?_;refine aH ?_;refine aA<|aA<|rgN<|kfa O O ?_;refine kl1 O O O<|aQ O cC O dR ?_;refine aS O O (cP (by omega)) dR<|aB<|aE O ?_;refine aA<|rgN<|kas O<|aB<|aI ?_)
    exact ⟨[_],⟨O,trivial⟩,O⟩
  have hfx:chkR r (lastR rs i)=firstX r.ex:=by unfold chkR;rw [if_neg hlow,if_neg h6,if_neg c7]
  (refine aF O ?_;refine aH ?_;refine aA<|aA<|rgN<|kfa O O ?_;refine kl1 O O O<|aQ O cC O dR ?_;refine aS O O (cO (by omega)) dR<|aB<|aF O ?_;refine aH ?_;refine aA<|rgN<|kas O<|aB<|aG ?_)
  refine cL (fun m σ=>∃ k:Nat,k≤r.ex.length∧m=r.ex.length-k∧firstX r.ex=firstX (r.ex.drop k)∧σ=⟨[(1,Lp 1),(3,Ln .i64 (i:Nat)),(4,Lp 4),(5,Ln .i64 (k:Nat))],[v3B 51 4 r.nw r.old ead r.ex.length ecap,v3B 29 1 va vb (some ⟨blk,off,none⟩) rs.length cap],X⟩) r.ex.length
    ⟨_,Le.of (by exact ⟨rfl,rfl,rfl,rfl,trivial⟩) (by exact ⟨rfl,rfl,trivial⟩) (by exact rfl) (by exact rfl) (by repeat' (first|refine bT ?_ ?_|rfl|exact bV|exact bU|exact bW rfl)),0,by omega,by omega,rfl,rfl⟩ ?_
  rintro m σ ⟨k,hk,rfl,hpx,rfl⟩
  by_cases hkl:k<r.ex.length
  case neg =>
    rw [List.drop_eq_nil_of_le (by omega)] at hpx
    rw [hfx,hpx,if_pos (show firstX []=0 from rfl)] at hpre
    have hadd:IntKind.i64.wrap ((i:Int)+1)=((i+1:Nat):Int):=by rw [cH (by omega)];omega
    (refine aA<|aA<|rgN<|kmv O<|kfa O O ?_;refine kl1 O O O<|aQ O cC O dR ?_;refine klt O O (cO (by omega))<|aB<|aF O ?_;refine aJ<|rgN<|kmv O<|kad O O hadd<|kas O<|aB ?_)
    exact ⟨_,⟨[(1,Lp 1),(3,Ln .i64 (i+1:Nat))],[v3B 29 1 va vb (some ⟨blk,off,none⟩) rs.length cap],X⟩,by omega,Le.of (by exact ⟨rfl,rfl,trivial⟩) (by exact ⟨rfl,trivial⟩) (by exact rfl) (by exact rfl) (by repeat' (first|refine bT ?_ ?_|rfl|exact bV|exact bU|exact bW rfl)),i+1,by omega,rfl,by rw [lastR_at hr];exact hpre,rfl⟩
  obtain ⟨c,hc⟩:∃ c,r.ex[k]? = some c:=⟨_,cX hkl⟩
  obtain ⟨eb,eo,earr,eel,efr,vad,vcap,rfl,hEX,hec,hI⟩:=hE.get hc
  have hio3:eo+Int.toNat (k:Int)*1=eo+k*1:=by simp
  have hEn:=rEncode11 X c vad vcap hI (hcl c (dD hc))
  rw [drop_at hc,firstX_cons] at hpx
  by_cases he:encErr c=0
  · rw [if_pos he] at hpx
    rw [he] at hEn
    have hadd:IntKind.i64.wrap ((k:Int)+1)=((k+1:Nat):Int):=by rw [cH (by omega)];omega
    (refine aA<|aA<|rgN<|kmv O<|kfa O O ?_;refine kl1 O O O<|aQ O cC O dR ?_;refine klt O O (cP (by omega))<|aB<|aE O ?_;refine aH ?_;refine aA<|aG<|aA<|rgN<|kfa O O ?_;refine kl1 O O O<|kmv O<|aR O O cC (by omega) hio3 dR<|aW O hEX O hec dR<|kca O O (hEn)<|kmv O<|kex O O<|kex O O<|kas O<|kas O<|aB<|aA<|rgN<|kmv O ?_;refine kne O O (r:=false) O<|aB<|aF O ?_;refine aH ?_;refine rgN<|kmv O<|kad O O hadd<|kas O<|aB ?_)
    exact ⟨_,⟨[(1,Lp 1),(3,Ln .i64 (i:Nat)),(4,Lp 4),(5,Ln .i64 (k+1:Nat))],[v3B 51 4 r.nw r.old (some ⟨eb,eo,none⟩) r.ex.length ecap,v3B 29 1 va vb (some ⟨blk,off,none⟩) rs.length cap],X⟩,by omega,Le.of (by exact ⟨O,O,O,O,trivial⟩) (by exact ⟨O,O,trivial⟩) (by exact O) (by exact O) (by repeat' (first|refine bT ?_ ?_|rfl|exact bV|exact bU|exact bW O)),k+1,by omega,O,hpx,O⟩
  · rw [if_neg he] at hpx
    rw [fin (encErr c) (by rw [hfx,hpx]) he]
    (refine aA<|aA<|rgN<|kmv O<|kfa O O ?_;refine kl1 O O O<|aQ O cC O dR ?_;refine klt O O (cP (by omega))<|aB<|aE O ?_;refine aH ?_;refine aA<|aG<|aA<|rgN<|kfa O O ?_;refine kl1 O O O<|kmv O<|aR O O cC (by omega) hio3 dR<|aW O hEX O hec dR<|kca O O (hEn)<|kmv O<|kex O O<|kex O O<|kas O<|kas O<|aB<|aA<|rgN<|kmv O ?_;refine kne O O (cT he)<|aB<|aE O ?_;refine aA<|rgN<|kmv O<|kas O<|aB<|aI ?_)
    exact ⟨[_],⟨O,trivial⟩,O⟩
end Go.Proofs.YtamplgnbbanamaaGreatDoor
end
section
namespace Go.Proofs.YtamplgnbbanamaaGreatDoor
open Go Go.Lg Go.Lg.Fml Go.Lg.Fld Go.Lg.Arith Go.Lg.Sg
set_option maxRecDepth 100000
variable (X:Nat→Option Obj)
theorem truth_in2 (b:Bool):In2 (truth b).2:=by
  unfold truth In2
  cases b<;>decide
end Go.Proofs.YtamplgnbbanamaaGreatDoor
end
section
namespace Go.Proofs.YtamplgnbbanamaaGreatDoor
open Go Go.Lg Go.Lg.Fml Go.Lg.Fld Go.Lg.Arith
set_option maxRecDepth 100000
def exV:Except Int Nm→Nm
  | .ok v=>v
  | .error _=>(false,0)
def exE:Except Int Nm→Int
  | .ok _=>0
  | .error e=>e
theorem exR_eq (r:Except Int Nm):exR r = .tup [SI (exV r).1 (exV r).2,Sn .i64 (exE r)]:=by cases r<;>rfl
variable (X:Nat→Option Obj)
theorem addR_ex (z:Int):addR z=exR (if R127 z then Except.ok (qn z) else Except.error 3:Except Int Nm):=by
  by_cases h:R127 z
  · rw [addR_in h,if_pos h];rfl
  · rw [addR_out h,if_neg h];rfl
theorem wAdd_do (u v:Nm) (hu:In2 u.2) (hv:In2 v.2):PSpec Tryz.prog X 108 [LI u.1 u.2,LI v.1 v.2] (exR (doX 5 u v)):=by
  cases hg:(gd u&&gd v) with
  | false =>
    rw [doX_bad hg]
    exact Add_arg X u.1 v.1 u.2 v.2 hu hv hg
  | true =>
    obtain ⟨gu,gv⟩:=Bool.and_eq_true_iff.1 hg
    obtain ⟨e1,r1⟩:=gd_q gu hu
    obtain ⟨e2,r2⟩:=gd_q gv hv
    rw [e1,e2]
    unfold doX
    rw [hg,if_neg (by decide),if_neg (by omega),show arith 5 (zz u) (zz v)=zz u+zz v from rfl,← addR_ex]
    exact Add_q X (zz u) (zz v) r1 r2
theorem wSub_do (u v:Nm) (hu:In2 u.2) (hv:In2 v.2):PSpec Tryz.prog X 109 [LI u.1 u.2,LI v.1 v.2] (exR (doX 6 u v)):=by
  cases hg:(gd u&&gd v) with
  | false =>
    rw [doX_bad hg]
    exact Sub_arg X u.1 v.1 u.2 v.2 hu hv hg
  | true =>
    obtain ⟨gu,gv⟩:=Bool.and_eq_true_iff.1 hg
    obtain ⟨e1,r1⟩:=gd_q gu hu
    obtain ⟨e2,r2⟩:=gd_q gv hv
    rw [e1,e2]
    unfold doX
    rw [hg,if_neg (by decide),if_neg (by omega),show arith 6 (zz u) (zz v)=zz u-zz v from rfl,← addR_ex]
    exact Sub_q X (zz u) (zz v) r1 r2
theorem wMul_do (u v:Nm) (hu:In2 u.2) (hv:In2 v.2):PSpec Tryz.prog X 110 [LI u.1 u.2,LI v.1 v.2] (exR (doX 7 u v)):=by
  cases hg:(gd u&&gd v) with
  | false =>
    rw [doX_bad hg]
    exact Mul_arg X u.1 v.1 u.2 v.2 hu hv hg
  | true =>
    obtain ⟨gu,gv⟩:=Bool.and_eq_true_iff.1 hg
    obtain ⟨e1,r1⟩:=gd_q gu hu
    obtain ⟨e2,r2⟩:=gd_q gv hv
    rw [e1,e2]
    unfold doX
    rw [hg,if_neg (by decide),if_neg (by omega),show arith 7 (zz u) (zz v)=zz u*zz v from rfl,← addR_ex]
    exact Mul_q X (zz u) (zz v) r1 r2
theorem wQuo_do (u v:Nm) (hu:In2 u.2) (hv:In2 v.2):PSpec Tryz.prog X 111 [LI u.1 u.2,LI v.1 v.2] (exR (doX 8 u v)):=by
  cases hg:(gd u&&gd v) with
  | false =>
    rw [doX_bad hg]
    exact Quo_arg X u.1 v.1 u.2 v.2 hu hv (by rw [show (formB u.1 u.2&&formB v.1 v.2)=false from hg];rfl)
  | true =>
    obtain ⟨gu,gv⟩:=Bool.and_eq_true_iff.1 hg
    obtain ⟨e1,r1⟩:=gd_q gu hu
    obtain ⟨e2,r2⟩:=gd_q gv hv
    by_cases h0:zz v=0
    · have hv0:v.2=0:=by
        have h1:zv v.1 v.2=0:=h0
        have h2:=hv
        unfold zv at h1
        unfold In2 at h2
        split at h1<;>omega
      rw [show doX 8 u v = .error 1 by unfold doX;rw [hg,if_neg (by decide),if_pos ⟨by decide,h0⟩]]
      exact Quo_arg X u.1 v.1 u.2 v.2 hu hv (by rw [hv0];simp)
    · have hq:=(parts_facts r1 r2 h0).1
      rw [e1,e2]
      unfold doX
      rw [hg,if_neg (by decide),if_neg (fun h=>h0 h.2),show arith 8 (zz u) (zz v)=(zz u).tdiv (zz v) from rfl,if_pos hq]
      exact Quo_q X (zz u) (zz v) r1 r2 h0
theorem wRem_do (u v:Nm) (hu:In2 u.2) (hv:In2 v.2):PSpec Tryz.prog X 112 [LI u.1 u.2,LI v.1 v.2] (exR (doX 9 u v)):=by
  cases hg:(gd u&&gd v) with
  | false =>
    rw [doX_bad hg]
    exact Rem_arg X u.1 v.1 u.2 v.2 hu hv (by rw [show (formB u.1 u.2&&formB v.1 v.2)=false from hg];rfl)
  | true =>
    obtain ⟨gu,gv⟩:=Bool.and_eq_true_iff.1 hg
    obtain ⟨e1,r1⟩:=gd_q gu hu
    obtain ⟨e2,r2⟩:=gd_q gv hv
    by_cases h0:zz v=0
    · have hv0:v.2=0:=by
        have h1:zv v.1 v.2=0:=h0
        have h2:=hv
        unfold zv at h1
        unfold In2 at h2
        split at h1<;>omega
      rw [show doX 9 u v = .error 1 by unfold doX;rw [hg,if_neg (by decide),if_pos ⟨by decide,h0⟩]]
      exact Rem_arg X u.1 v.1 u.2 v.2 hu hv (by rw [hv0];simp)
    · have hq:=(parts_facts r1 r2 h0).2.1
      rw [e1,e2]
      unfold doX
      rw [hg,if_neg (by decide),if_neg (fun h=>h0 h.2),show arith 9 (zz u) (zz v)=(zz u).tmod (zz v) from rfl,if_pos hq]
      exact Rem_q X (zz u) (zz v) r1 r2 h0
def truX (x y:Nm) (b:Bool):Except Int Nm:=if (gd x&&gd y)=false then .error 1 else .ok (truth b)
def sameX (x y:Nm):Except Int Nm:=truX x y (decide (x=y))
def lessX (x y:Nm):Except Int Nm:=truX x y (decide (zz x<zz y))
def pickX (x y z:Nm):Except Int Nm:=if gd x=false then .error 1 else .ok (if x=(false,0) then z else y)
def needX (x y:Nm):Except Int Nm:=if gd y=false then .error 1 else if y=(false,0) then .error 9 else .ok x
theorem tForm (x:Nm) (hx:In2 x.2) (r:Bool) (h:gd x=r):PSpec Tryz.prog X 123 [LI x.1 x.2] (Lb r):=Form_spec X _ _ hx r h
theorem tTruth (x y:Nm) (hx:In2 x.2) (hy:In2 y.2) (b:Bool):PSpec Tryz.prog X 147 [LI x.1 x.2,LI y.1 y.2,Lb b] (exR (truX x y b)):=by
  cases h1:gd x with
  | false =>
    have f1:=tForm X x hx false h1
    rw [show truX x y b = .error 1 by unfold truX;rw [h1];rfl]
    refine cF Tryz.func147 rfl (by kernel_rfl) rfl rfl ?_
    intro C
    (refine aA<|rgN<|aL O O O dR<|aL O O O dR<|aP O dR ?_;refine kas O<|aB<|aA<|aG<|aA<|rgN<|aK O O O dR ?_;refine kca O O f1<|aV O O dR<|kmv O<|aC O O O<|aC O O O<|aC O O O<|kpt O O<|kas O<|aB<|aE O ?_;refine aA<|rgN<|aT O O (by exact O) (by exact nl3 O O O O) dR ?_;refine aM O O O O O O dR ?_;refine kas O<|aB<|aI ?_)
    exact ⟨[_,_],⟨⟨_,_,O,O,O,.inl ⟨AggT.h,O⟩⟩,O,trivial⟩,O⟩
  | true =>
  have f1:=tForm X x hx true h1
  cases h2:gd y with
  | false =>
    have f2:=tForm X y hy false h2
    rw [show truX x y b = .error 1 by unfold truX;rw [h1,h2];rfl]
    refine cF Tryz.func147 rfl (by kernel_rfl) rfl rfl ?_
    intro C
    (refine aA<|rgN<|aL O O O dR<|aL O O O dR<|aP O dR ?_;refine kas O<|aB<|aA<|aG<|aA<|rgN<|aK O O O dR ?_;refine kca O O f1<|aV O O dR<|kmv O<|aK O O O (dS O O) ?_;refine gca O O f2 O O<|aV O O (dS O O) ?_;refine kpf O O<|kas O<|aB<|aE O ?_;refine aA<|rgN<|aT O O (by exact O) (by exact nl3 O O O O) dR ?_;refine aM O O O O O O dR ?_;refine kas O<|aB<|aI ?_)
    exact ⟨[_,_],⟨⟨_,_,O,O,O,.inl ⟨AggT.h,O⟩⟩,O,trivial⟩,O⟩
  | true =>
  have f2:=tForm X y hy true h2
  rw [show truX x y b = .ok (truth b) by unfold truX;rw [h1,h2];rfl]
  cases b with
  | true =>
    have hO:=Of_spec X 1 (by omega)
    refine cF Tryz.func147 rfl (by kernel_rfl) rfl rfl ?_
    intro C
    (refine aA<|rgN<|aL O O O dR<|aL O O O dR<|aP O dR ?_;refine kas O<|aB<|aA<|aG<|aA<|rgN<|aK O O O dR ?_;refine kca O O f1<|aV O O dR<|kmv O<|aK O O O (dS O O) ?_;refine gca O O f2 O O<|aV O O (dS O O) ?_;refine kpf O O<|kas O<|aB<|aF O ?_;refine aA<|rgN<|kmv O<|kas O<|aB<|aE O ?_;refine aA<|rgN<|kca O O (hO)<|aM O O O O O O dR ?_;refine kas O<|aB<|aI ?_)
    exact ⟨[_,_],⟨⟨_,_,O,O,O,.inl ⟨AggT.h,O⟩⟩,O,trivial⟩,O⟩
  | false =>
    have hO:=Of_spec X 0 (by omega)
    refine cF Tryz.func147 rfl (by kernel_rfl) rfl rfl ?_
    intro C
    (refine aA<|rgN<|aL O O O dR<|aL O O O dR<|aP O dR ?_;refine kas O<|aB<|aA<|aG<|aA<|rgN<|aK O O O dR ?_;refine kca O O f1<|aV O O dR<|kmv O<|aK O O O (dS O O) ?_;refine gca O O f2 O O<|aV O O (dS O O) ?_;refine kpf O O<|kas O<|aB<|aF O ?_;refine aA<|rgN<|kmv O<|kas O<|aB<|aF O ?_;refine aH ?_;refine aA<|rgN<|kca O O (hO)<|aM O O O O O O dR ?_;refine kas O<|aB<|aI ?_)
    exact ⟨[_,_],⟨⟨_,_,O,O,O,.inl ⟨AggT.h,O⟩⟩,O,trivial⟩,O⟩
theorem tSame (x y:Nm) (hx:In2 x.2) (hy:In2 y.2):PSpec Tryz.prog X 118 [LI x.1 x.2,LI y.1 y.2] (exR (sameX x y)):=by
  have q:=eqI (b:=x.1) (b':=y.1) (h:=x.2/18446744073709551616) (h':=y.2/18446744073709551616) (l:=x.2%18446744073709551616) (l':=y.2%18446744073709551616) _ (eqN hx hy)
  unfold sameX
  have hT:=tTruth X x y hx hy (decide (x=y))
  rw [show decide (((x.1,x.2):Nm)=(y.1,y.2))=decide (x=y) from rfl] at q
  generalize decide (x=y)=z at *
  rw [exR_eq] at hT ⊢
  generalize exE (truX x y z)=e at *
  generalize exV (truX x y z)=v at *
  obtain ⟨vb,vN⟩:=v
  refine cF Tryz.func118 rfl (by kernel_rfl) rfl rfl ?_
  intro C
  (refine aA<|rgN<|aL O O O dR<|aL O O O dR<|aP O dR ?_;refine kas O<|aB<|aA<|rgD mixed<|aK O O O dR ?_;refine aK O O O dR ?_;refine aK O O O dR ?_;refine aK O O O dR ?_;refine bR O O O O (by kernel_rfl) q (.inl ⟨O,O⟩) dR<|kca O O (hT)<|kex O O<|kex O O<|aM O O O O O O dR ?_;refine kas O<|aB<|rgA ?_;refine aI ?_)
  exact ⟨[_,_],⟨⟨_,_,O,O,O,.inl ⟨AggT.h,O⟩⟩,O,trivial⟩,O⟩
theorem tCmp (x y:Nm) (hx:In2 x.2) (hy:In2 y.2):∃ r:Int,PSpec Tryz.prog X 148 [LI x.1 x.2,LI y.1 y.2] (Ln .i64 r)∧((gd x&&gd y)=true→decide (r<0)=decide (zz x<zz y)):=by
  cases h:(gd x&&gd y) with
  | false=>exact ⟨0,Cmp_bad X _ _ _ _ hx hy h,fun h'=>by cases h'⟩
  | true =>
    obtain ⟨gx,gy⟩:=Bool.and_eq_true_iff.1 h
    obtain ⟨e1,r1⟩:=gd_q gx hx
    obtain ⟨e2,r2⟩:=gd_q gy hy
    refine ⟨cmpI (zz x) (zz y),?_,fun _=>(cmp_lz (u:=x) (v:=y)).1⟩
    rw [e1,e2]
    exact Cmp_q X _ _ r1 r2 _ O
theorem tLess (x y:Nm) (hx:In2 x.2) (hy:In2 y.2):PSpec Tryz.prog X 116 [LI x.1 x.2,LI y.1 y.2] (exR (lessX x y)):=by
  obtain ⟨r,hC,hr⟩:=tCmp X x y hx hy
  have hT:=tTruth X x y hx hy (decide (r<0))
  have e:truX x y (decide (r<0))=lessX x y:=by
    unfold lessX
    cases h:(gd x&&gd y) with
    | false=>unfold truX;rw [h];rfl
    | true=>rw [hr h]
  rw [e] at hT
  rw [exR_eq] at hT ⊢
  generalize exE (lessX x y)=e at *
  generalize exV (lessX x y)=v at *
  obtain ⟨vb,vN⟩:=v
  refine cF Tryz.func116 rfl (by kernel_rfl) rfl rfl ?_
  intro C
  (refine aA<|rgN<|aL O O O dR<|aL O O O dR<|aP O dR ?_;refine kas O<|aB<|aA<|rgD mixed<|aK O O O dR ?_;refine aK O O O dR ?_;refine aK O O O dR ?_;refine aK O O O dR ?_;refine kca O O (hC)<|klt O O O<|kca O O (hT)<|kex O O<|kex O O<|aM O O O O O O dR ?_;refine kas O<|aB<|rgA ?_;refine aI ?_)
  exact ⟨[_,_],⟨⟨_,_,O,O,O,.inl ⟨AggT.h,O⟩⟩,O,trivial⟩,O⟩
theorem sgn_qn {x:Nm} (hx:In2 x.2) (g:gd x=true):sgnI (zz x)=0↔x=(false,0):=by
  obtain ⟨e1,r1⟩:=gd_q g hx
  have h:=eqZ (b:=x.1) hx
  obtain ⟨b,N⟩:=x
  unfold In2 at hx
  unfold gd formB at g
  unfold sgnI zz zv at *
  simp only at *
  constructor
  · intro h0
    have hN:N=0:=by
      cases b<;>simp only [Bool.false_eq_true,if_false,if_true] at h0<;>(repeat' split at h0)<;>omega
    subst hN
    cases b with
    | false=>rfl
    | true=>simp at g
  · intro e
    cases e
    rfl
theorem tSign (x:Nm) (hx:In2 x.2) (g:gd x=true):∃ s:Int,PSpec Tryz.prog X 151 [LI x.1 x.2] (Ln .i64 s)∧(s=0↔x=(false,0)):=by
  obtain ⟨e1,r1⟩:=gd_q g hx
  exact ⟨sgnI (zz x),by rw [e1];exact Sign_q X _ r1 _ rfl,sgn_qn hx g⟩
theorem tPick (x y z:Nm) (hx:In2 x.2):PSpec Tryz.prog X 120 [LI x.1 x.2,LI y.1 y.2,LI z.1 z.2] (exR (pickX x y z)):=by
  cases h1:gd x with
  | false =>
    have f1:=tForm X x hx false h1
    rw [show pickX x y z = .error 1 by unfold pickX;rw [h1];rfl]
    refine cF Tryz.func120 rfl (by kernel_rfl) rfl rfl ?_
    intro C
    (refine aA<|rgN<|aL O O O dR<|aL O O O dR<|aL O O O dR<|aP O dR ?_;refine kas O<|aB<|aA<|aG<|aA<|rgN<|aK O O O dR ?_;refine kca O O (f1)<|aV O O dR<|kas O<|aB<|aE O ?_;refine aA<|rgN<|aT O O (by exact O) (by exact nl3 O O O O) dR ?_;refine aM O O O O O O dR ?_;refine kas O<|aB<|aI ?_)
    exact ⟨[_,_],⟨⟨_,_,O,O,O,.inl ⟨AggT.h,O⟩⟩,O,trivial⟩,O⟩
  | true =>
  have f1:=tForm X x hx true h1
  obtain ⟨s,hS,hs⟩:=tSign X x hx h1
  by_cases c:x=(false,0)
  · rw [show pickX x y z = .ok z by unfold pickX;rw [h1,if_neg (by decide),if_pos c]]
    have c:=hs.2 c
    subst c
    refine cF Tryz.func120 rfl (by kernel_rfl) rfl rfl ?_
    intro C
    (refine aA<|rgN<|aL O O O dR<|aL O O O dR<|aL O O O dR<|aP O dR ?_;refine kas O<|aB<|aA<|aG<|aA<|rgN<|aK O O O dR ?_;refine kca O O (f1)<|aV O O dR<|kas O<|aB<|aF O ?_;refine aA<|rgN<|aK O O O dR ?_;refine kca O O (hS)<|kne O O (r:=false) O<|kas O<|aB<|aF O ?_;refine aH ?_;refine aA<|rgN<|aK O O O dR ?_;refine aM O O O O O O dR ?_;refine kas O<|aB<|aI ?_)
    exact ⟨[_,_],⟨⟨_,_,O,O,O,.inl ⟨AggT.h,O⟩⟩,O,trivial⟩,O⟩
  · rw [show pickX x y z = .ok y by unfold pickX;rw [h1,if_neg (by decide),if_neg c]]
    have c:s≠0:=fun h=>c (hs.1 h)
    refine cF Tryz.func120 rfl (by kernel_rfl) rfl rfl ?_
    intro C
    (refine aA<|rgN<|aL O O O dR<|aL O O O dR<|aL O O O dR<|aP O dR ?_;refine kas O<|aB<|aA<|aG<|aA<|rgN<|aK O O O dR ?_;refine kca O O (f1)<|aV O O dR<|kas O<|aB<|aF O ?_;refine aA<|rgN<|aK O O O dR ?_;refine kca O O (hS)<|kne O O (r:=true) (cT c)<|kas O<|aB<|aE O ?_;refine aA<|rgN<|aK O O O dR ?_;refine aM O O O O O O dR ?_;refine kas O<|aB<|aI ?_)
    exact ⟨[_,_],⟨⟨_,_,O,O,O,.inl ⟨AggT.h,O⟩⟩,O,trivial⟩,O⟩
theorem tNeed (x y:Nm) (hy:In2 y.2):PSpec Tryz.prog X 121 [LI x.1 x.2,LI y.1 y.2] (exR (needX x y)):=by
  cases h1:gd y with
  | false =>
    have f1:=tForm X y hy false h1
    rw [show needX x y = .error 1 by unfold needX;rw [h1];rfl]
    refine cF Tryz.func121 rfl (by kernel_rfl) rfl rfl ?_
    intro C
    (refine aA<|rgN<|aL O O O dR<|aL O O O dR<|aP O dR ?_;refine kas O<|aB<|aA<|aG<|aA<|rgN<|aK O O O dR ?_;refine kca O O (f1)<|aV O O dR<|kas O<|aB<|aE O ?_;refine aA<|rgN<|aT O O (by exact O) (by exact nl3 O O O O) dR ?_;refine aM O O O O O O dR ?_;refine kas O<|aB<|aI ?_)
    exact ⟨[_,_],⟨⟨_,_,O,O,O,.inl ⟨AggT.h,O⟩⟩,O,trivial⟩,O⟩
  | true =>
  have f1:=tForm X y hy true h1
  obtain ⟨s,hS,hs⟩:=tSign X y hy h1
  by_cases c:y=(false,0)
  · rw [show needX x y = .error 9 by unfold needX;rw [h1,if_neg (by decide),if_pos c]]
    have c:=hs.2 c
    subst c
    refine cF Tryz.func121 rfl (by kernel_rfl) rfl rfl ?_
    intro C
    (refine aA<|rgN<|aL O O O dR<|aL O O O dR<|aP O dR ?_;refine kas O<|aB<|aA<|aG<|aA<|rgN<|aK O O O dR ?_;refine kca O O (f1)<|aV O O dR<|kas O<|aB<|aF O ?_;refine aA<|rgN<|aK O O O dR ?_;refine kca O O (hS)<|keq O O (r:=true) O<|kas O<|aB<|aE O ?_;refine aA<|rgN<|aT O O (by exact O) (by exact nl3 O O O O) dR ?_;refine aM O O O O O O dR ?_;refine kas O<|aB<|aI ?_)
    exact ⟨[_,_],⟨⟨_,_,O,O,O,.inl ⟨AggT.h,O⟩⟩,O,trivial⟩,O⟩
  · rw [show needX x y = .ok x by unfold needX;rw [h1,if_neg (by decide),if_neg c]]
    have c:s≠0:=fun h=>c (hs.1 h)
    refine cF Tryz.func121 rfl (by kernel_rfl) rfl rfl ?_
    intro C
    (refine aA<|rgN<|aL O O O dR<|aL O O O dR<|aP O dR ?_;refine kas O<|aB<|aA<|aG<|aA<|rgN<|aK O O O dR ?_;refine kca O O (f1)<|aV O O dR<|kas O<|aB<|aF O ?_;refine aA<|rgN<|aK O O O dR ?_;refine kca O O (hS)<|keq O O (r:=false) (cR c)<|kas O<|aB<|aF O ?_;refine aH ?_;refine aA<|rgN<|aK O O O dR ?_;refine aM O O O O O O dR ?_;refine kas O<|aB<|aI ?_)
    exact ⟨[_,_],⟨⟨_,_,O,O,O,.inl ⟨AggT.h,O⟩⟩,O,trivial⟩,O⟩
end Go.Proofs.YtamplgnbbanamaaGreatDoor
end
section
namespace Go.Proofs.YtamplgnbbanamaaGreatDoor
open Go Go.Lg Go.Lg.Fml Go.Lg.Fld Go.Lg.Arith
set_option maxRecDepth 100000
def MoreM (X Y:Nat→Option Obj):Prop := ∀ b o,X b=some o→Y b=some o
theorem MoreM.refl (X:Nat→Option Obj):MoreM X X:=fun _ _ h=>h
theorem MoreM.trans {X Y Z:Nat→Option Obj} (h:MoreM X Y) (h':MoreM Y Z):MoreM X Z:=fun b o hb=>h' b o (h b o hb)
abbrev capL (caps:List Value):List LV:=caps.map fun v=>.sv (.one (.val v))
def OneV (Y:Nat→Option Obj) (v:Value) (F:Nm→Except Int Nm):Prop := ∃ (f:FuncId) (caps:List Value),v = .func (.func f) #[] caps.toArray∧∀ Z,MoreM Y Z→∀ x:Nm,In2 x.2→PSpec Tryz.prog Z f ([LI x.1 x.2]++capL caps) (exR (F x))
def TwoV (Y:Nat→Option Obj) (v:Value) (F:Nm→Nm→Except Int Nm):Prop := ∃ (f:FuncId) (caps:List Value),v = .func (.func f) #[] caps.toArray∧∀ Z,MoreM Y Z→∀ x y:Nm,In2 x.2→In2 y.2→PSpec Tryz.prog Z f ([LI x.1 x.2,LI y.1 y.2]++capL caps) (exR (F x y))
def ThreeV (Y:Nat→Option Obj) (v:Value) (F:Nm→Nm→Nm→Except Int Nm):Prop := ∃ (f:FuncId) (caps:List Value),v = .func (.func f) #[] caps.toArray∧∀ Z,MoreM Y Z→∀ x y z:Nm,In2 x.2→In2 y.2→In2 z.2→PSpec Tryz.prog Z f ([LI x.1 x.2,LI y.1 y.2,LI z.1 z.2]++capL caps) (exR (F x y z))
structure EnvIn (Z:Nat→Option Obj) (fad:Option Addr) (fs:List (List Nm)) (at_:Int):Prop where
  fss:FssIn Z fad fs
  len:fs.length<4611686018427387904
  rows:∀ r∈fs,r.length<4611686018427387904
  place : -9223372036854775808≤at_∧at_<9223372036854775808
def DeedV (Y:Nat→Option Obj) (v:Value) (op:Int):Prop := ∃ (f:FuncId) (caps:List Value),v = .func (.func f) #[] caps.toArray∧∀ Z,MoreM Y Z→∀ x:Ins,x.op=op→smallI x→∀ (fad:Option Addr) (fcap:Nat) (fs:List (List Nm)) (at_:Int),EnvIn Z fad fs at_ →
  ∀ (tad:Option Addr) (tcap:Nat) (ts:List Nm),NumsIn Z tad ts→ts.length=takes op→PSpec Tryz.prog Z f ([LIn x,LEnv fad fs.length fcap at_,Lx tad ts.length tcap]++capL caps) (exR (oneX fs at_ x ts))
theorem DeedV.mono {Y Z:Nat→Option Obj} (h:MoreM Y Z) {v:Value} {op:Int} (hv:DeedV Y v op):DeedV Z v op:=by
  obtain ⟨f,caps,e,hp⟩:=hv
  exact ⟨f,caps,e,fun W hW=>hp W (h.trans hW)⟩
theorem two_fn (Y:Nat→Option Obj) {f:FuncId} {F:Nm→Nm→Except Int Nm} (h:∀ (Z:Nat→Option Obj) (x y:Nm),In2 x.2→In2 y.2→PSpec Tryz.prog Z f [LI x.1 x.2,LI y.1 y.2] (exR (F x y))):TwoV Y (.func (.func f) #[] #[]) F:=⟨f,[],rfl,fun Z _ x y hx hy=>h Z x y hx hy⟩
theorem three_fn (Y:Nat→Option Obj) {f:FuncId} {F:Nm→Nm→Nm→Except Int Nm} (h:∀ (Z:Nat→Option Obj) (x y z:Nm),In2 x.2→In2 y.2→In2 z.2→PSpec Tryz.prog Z f [LI x.1 x.2,LI y.1 y.2,LI z.1 z.2] (exR (F x y z))):ThreeV Y (.func (.func f) #[] #[]) F:=⟨f,[],rfl,fun Z _ x y z hx hy hz=>h Z x y z hx hy hz⟩
abbrev pv (blk:Nat):Value:=.pointer (some ⟨blk,0,none⟩)
section
variable {Y:Nat→Option Obj} {blk:Nat} {arr:Array Value} {el:TypeId} {fr:Nat×Nat} {v:Value}
theorem two_swapped {F:Nm→Nm→Except Int Nm} (hY:Y blk=some (.cells arr el fr)) (hv:arr[0]? = some v) (hF:TwoV Y v F):TwoV Y (.func (.func 149) #[] #[pv blk]) (fun x y=>F y x):=by
  obtain ⟨f,caps,rfl,hF⟩:=hF
  refine ⟨149,[pv blk],O,fun Z hZ x y hx hy => ?_⟩
  have hP:=hF Z hZ y x hy hx
  have hX:=hZ _ _ hY
  show PSpec _ Z _ [LI x.1 x.2,LI y.1 y.2,.sv (.one (.val (pv blk)))] (exR (F y x))
  rw [exR_eq] at hP ⊢
  generalize exE (F y x)=e at *
  generalize exV (F y x)=v at *
  obtain ⟨vb,vN⟩:=v
  refine cF Tryz.func149 rfl (by kernel_rfl) rfl rfl ?_
  intro C
  (refine aA<|rgN<|aL O O O dR<|aL O O O dR<|aP O dR ?_;refine kas O<|aB<|aA<|rgN<|aW O hX O hv dR<|aK O O O dR ?_;refine aK O O O dR ?_;refine K.callF O O O hP dR ?_;refine kex O O<|kex O O<|aM O O O O O O dR ?_;refine kas O<|aB<|aI ?_)
  exact ⟨[_,_],⟨⟨_,_,O,O,O,.inl ⟨AggT.h,O⟩⟩,O,trivial⟩,O⟩
def choX (G:Nm→Nm→Except Int Nm) (x y:Nm):Except Int Nm:=match G x y with | .error e=>.error e | .ok a=>pickX a x y
theorem two_chosen {F:Nm→Nm→Except Int Nm} (hY:Y blk=some (.cells arr el fr)) (hv:arr[0]? = some v) (hF:TwoV Y v F) (h2:∀ x y a,F x y = .ok a→In2 a.2) (hz:∀ x y e,F x y = .error e→e≠0):TwoV Y (.func (.func 146) #[] #[pv blk]) (choX F):=by
  obtain ⟨f,caps,rfl,hF⟩:=hF
  refine ⟨146,[pv blk],O,fun Z hZ x y hx hy => ?_⟩
  have hP:=hF Z hZ x y hx hy
  have hX:=hZ _ _ hY
  show PSpec _ Z _ [LI x.1 x.2,LI y.1 y.2,.sv (.one (.val (pv blk)))] (exR (choX F x y))
  unfold choX
  cases hf:F x y with
  | error e =>
    have he:=hz x y e hf
    rw [hf] at hP
    show PSpec _ Z _ _ (.tup [S0,Sn .i64 e])
    have hP:PSpec Tryz.prog Z f ([LI x.1 x.2,LI y.1 y.2]++capL caps) (.tup [S0,Sn .i64 e]):=hP
    refine cF Tryz.func146 rfl (by kernel_rfl) rfl rfl ?_
    intro C
    (refine aA<|rgN<|aL O O O dR<|aL O O O dR<|aP O dR ?_;refine kas O<|aB<|aA<|rgN<|aW O hX O hv dR<|aK O O O dR ?_;refine aK O O O dR ?_;refine K.callF O O O hP dR ?_;refine kmv O<|kex O O<|kex O O<|aP O dR ?_;refine aM O O O O O O dR ?_;refine kas O<|aB<|aA<|aA<|rgN<|kmv O<|kne O O (r:=true) (cT he)<|aB<|aE O ?_;refine aA<|rgN<|aT O O (by exact O) (by exact nl3 O O O O) dR ?_;refine kmv O<|aM O O O O O O dR ?_;refine kas O<|aB<|aI ?_)
    exact ⟨[_,_],⟨⟨_,_,O,O,O,.inl ⟨AggT.h,O⟩⟩,O,trivial⟩,O⟩
  | ok a =>
    have ha:=h2 x y a hf
    rw [hf] at hP
    have hP:PSpec Tryz.prog Z f ([LI x.1 x.2,LI y.1 y.2]++capL caps) (.tup [SI a.1 a.2,Sn .i64 0]):=hP
    have hK:=tPick Z a x y ha
    show PSpec _ Z _ _ (exR (pickX a x y))
    rw [exR_eq] at hK ⊢
    generalize exE (pickX a x y)=e at *
    generalize exV (pickX a x y)=v at *
    obtain ⟨vb,vN⟩:=v
    refine cF Tryz.func146 rfl (by kernel_rfl) rfl rfl ?_
    intro C
    (refine aA<|rgN<|aL O O O dR<|aL O O O dR<|aP O dR ?_;refine kas O<|aB<|aA<|rgN<|aW O hX O hv dR<|aK O O O dR ?_;refine aK O O O dR ?_;refine K.callF O O O hP dR ?_;refine kmv O<|kex O O<|kex O O<|aP O dR ?_;refine aM O O O O O O dR ?_;refine kas O<|aB<|aA<|aA<|rgN<|kmv O<|kne O O (r:=false) O<|aB<|aF O ?_;refine aH ?_;refine aA<|rgN<|aK O O O dR ?_;refine aK O O O dR ?_;refine aK O O O dR ?_;refine kca O O (hK)<|kex O O<|kex O O<|aM O O O O O O dR ?_;refine kas O<|aB<|aI ?_)
    exact ⟨[_,_],⟨⟨_,_,O,O,O,.inl ⟨AggT.h,O⟩⟩,O,trivial⟩,O⟩
theorem one_zero {F:Nm→Nm→Except Int Nm} (hY:Y blk=some (.cells arr el fr)) (hv:arr[0]? = some v) (hF:TwoV Y v F):OneV Y (.func (.func 145) #[] #[pv blk]) (fun x=>F (false,0) x):=by
  obtain ⟨f,caps,rfl,hF⟩:=hF
  refine ⟨145,[pv blk],O,fun Z hZ x hx => ?_⟩
  have hP:PSpec Tryz.prog Z f ([.sv S0,LI x.1 x.2]++capL caps) (exR (F (false,0) x)):=hF Z hZ (false,0) x ⟨by decide,by decide⟩ hx
  have hX:=hZ _ _ hY
  show PSpec _ Z _ [LI x.1 x.2,.sv (.one (.val (pv blk)))] (exR (F (false,0) x))
  rw [exR_eq] at hP ⊢
  generalize exE (F (false,0) x)=e at *
  generalize exV (F (false,0) x)=v at *
  obtain ⟨vb,vN⟩:=v
  refine cF Tryz.func145 rfl (by kernel_rfl) rfl rfl ?_
  intro C
  (refine aA<|rgN<|aL O O O dR<|aP O dR ?_;refine kas O<|aB<|aA<|rgN<|aW O hX O hv dR<|aT O O (by exact O) (by exact nl3 O O O O) dR ?_;refine aK O O O dR ?_;refine K.callF O O O hP dR ?_;refine kex O O<|kex O O<|aM O O O O O O dR ?_;refine kas O<|aB<|aI ?_)
  exact ⟨[_,_],⟨⟨_,_,O,O,O,.inl ⟨AggT.h,O⟩⟩,O,trivial⟩,O⟩
theorem deed_one {op:Int} {F:Nm→Except Int Nm} (ht:takes op=1) (hY:Y blk=some (.cells arr el fr)) (hv:arr[0]? = some v) (hF:OneV Y v F) (hop:∀ u,In2 u.2→nodeX op [u]=F u):DeedV Y (.func (.func 144) #[] #[pv blk]) op:=by
  obtain ⟨f,caps,rfl,hF⟩:=hF
  refine ⟨144,[pv blk],O,fun Z hZ x hxo hx fad fcap fs at_ hE tad tcap ts hts hlen => ?_⟩
  rw [ht] at hlen
  match ts,hlen,hts with
  | [u],_,hts =>
  have e1:oneX fs at_ x [u]=F u:=by unfold oneX;rw [hxo,if_neg (by rw [ht];decide),hop u (hts.in2 _ (by simp))]
  rw [e1]
  obtain ⟨tb,tof,ta,te,tf,rfl,hT,hall⟩:=hts.all (by show 0<1;omega)
  obtain ⟨i0,s0,c0⟩:=hall 0 _ _ rfl
  have h0:tof+Int.toNat 0*3=tof+0*3:=rfl
  have hb0:0≤(0:Int)∧(0:Int)<(1:Nat):=by omega
  have hP:=hF Z hZ u i0
  have hX:=hZ _ _ hY
  show PSpec _ Z _ [LIn x,LEnv fad fs.length fcap at_,Lx (some ⟨tb,tof,none⟩) 1 tcap,.sv (.one (.val (pv blk)))] (exR (F u))
  rw [exR_eq] at hP ⊢
  generalize exE (F u)=e at *
  generalize exV (F u)=v at *
  obtain ⟨vb,vN⟩:=v
  refine cF Tryz.func144 rfl (by kernel_rfl) rfl rfl ?_
  intro C
  (refine aA<|rgN<|aL O O O dR<|aL O O O dR<|aP O dR ?_;refine kas O<|aB<|aA<|rgD mixed<|aW O hX O hv dR<|kmv O<|aR O O cC hb0 h0 dR<|aY O hT (by kernel_rfl) s0 c0 dR<|K.callF O O O hP dR ?_;refine kex O O<|kex O O<|aM O O O O O O dR ?_;refine kas O<|aB<|rgA ?_;refine aI ?_)
  exact ⟨[_,_],⟨⟨_,_,O,O,O,.inl ⟨AggT.h,O⟩⟩,O,trivial⟩,O⟩
theorem deed_two {op:Int} {F:Nm→Nm→Except Int Nm} (ht:takes op=2) (hY:Y blk=some (.cells arr el fr)) (hv:arr[0]? = some v) (hF:TwoV Y v F) (hop:∀ u w,In2 u.2→In2 w.2→nodeX op [u,w]=F u w):DeedV Y (.func (.func 133) #[] #[pv blk]) op:=by
  obtain ⟨f,caps,rfl,hF⟩:=hF
  refine ⟨133,[pv blk],O,fun Z hZ x hxo hx fad fcap fs at_ hE tad tcap ts hts hlen => ?_⟩
  rw [ht] at hlen
  match ts,hlen,hts with
  | [u,z],_,hts =>
  have e1:oneX fs at_ x [u,z]=F u z:=by unfold oneX;rw [hxo,if_neg (by rw [ht];decide),hop u z (hts.in2 _ (by simp)) (hts.in2 _ (by simp))]
  rw [e1]
  obtain ⟨tb,tof,ta,te,tf,rfl,hT,hall⟩:=hts.all (by show 0<2;omega)
  obtain ⟨i0,s0,c0⟩:=hall 0 _ _ rfl
  have h0:tof+Int.toNat 0*3=tof+0*3:=rfl
  have hb0:0≤(0:Int)∧(0:Int)<(2:Nat):=by omega
  obtain ⟨i1,s1,c1⟩:=hall 1 _ _ rfl
  have h1:tof+Int.toNat 1*3=tof+1*3:=rfl
  have hb1:0≤(1:Int)∧(1:Int)<(2:Nat):=by omega
  have hP:=hF Z hZ u z i0 i1
  have hX:=hZ _ _ hY
  show PSpec _ Z _ [LIn x,LEnv fad fs.length fcap at_,Lx (some ⟨tb,tof,none⟩) 2 tcap,.sv (.one (.val (pv blk)))] (exR (F u z))
  rw [exR_eq] at hP ⊢
  generalize exE (F u z)=e at *
  generalize exV (F u z)=v at *
  obtain ⟨vb,vN⟩:=v
  refine cF Tryz.func133 rfl (by kernel_rfl) rfl rfl ?_
  intro C
  (refine aA<|rgN<|aL O O O dR<|aL O O O dR<|aP O dR ?_;refine kas O<|aB<|aA<|rgD mixed<|aW O hX O hv dR<|kmv O<|aR O O cC hb0 h0 dR<|aY O hT (by kernel_rfl) s0 c0 dR<|kmv O<|aR O O cC hb1 h1 dR<|aY O hT (by kernel_rfl) s1 c1 dR<|K.callF O O O hP dR ?_;refine kex O O<|kex O O<|aM O O O O O O dR ?_;refine kas O<|aB<|rgA ?_;refine aI ?_)
  exact ⟨[_,_],⟨⟨_,_,O,O,O,.inl ⟨AggT.h,O⟩⟩,O,trivial⟩,O⟩
theorem deed_three {op:Int} {F:Nm→Nm→Nm→Except Int Nm} (ht:takes op=3) (hY:Y blk=some (.cells arr el fr)) (hv:arr[0]? = some v) (hF:ThreeV Y v F) (hop:∀ u w z,In2 u.2→In2 w.2→In2 z.2→nodeX op [u,w,z]=F u w z):DeedV Y (.func (.func 150) #[] #[pv blk]) op:=by
  obtain ⟨f,caps,rfl,hF⟩:=hF
  refine ⟨150,[pv blk],O,fun Z hZ x hxo hx fad fcap fs at_ hE tad tcap ts hts hlen => ?_⟩
  rw [ht] at hlen
  match ts,hlen,hts with
  | [u,z,q],_,hts =>
  have e1:oneX fs at_ x [u,z,q]=F u z q:=by unfold oneX;rw [hxo,if_neg (by rw [ht];decide),hop u z q (hts.in2 _ (by simp)) (hts.in2 _ (by simp)) (hts.in2 _ (by simp))]
  rw [e1]
  obtain ⟨tb,tof,ta,te,tf,rfl,hT,hall⟩:=hts.all (by show 0<3;omega)
  obtain ⟨i0,s0,c0⟩:=hall 0 _ _ rfl
  have h0:tof+Int.toNat 0*3=tof+0*3:=rfl
  have hb0:0≤(0:Int)∧(0:Int)<(3:Nat):=by omega
  obtain ⟨i1,s1,c1⟩:=hall 1 _ _ rfl
  have h1:tof+Int.toNat 1*3=tof+1*3:=rfl
  have hb1:0≤(1:Int)∧(1:Int)<(3:Nat):=by omega
  obtain ⟨i2,s2,c2⟩:=hall 2 _ _ rfl
  have h2:tof+Int.toNat 2*3=tof+2*3:=rfl
  have hb2:0≤(2:Int)∧(2:Int)<(3:Nat):=by omega
  have hP:=hF Z hZ u z q i0 i1 i2
  have hX:=hZ _ _ hY
  show PSpec _ Z _ [LIn x,LEnv fad fs.length fcap at_,Lx (some ⟨tb,tof,none⟩) 3 tcap,.sv (.one (.val (pv blk)))] (exR (F u z q))
  rw [exR_eq] at hP ⊢
  generalize exE (F u z q)=e at *
  generalize exV (F u z q)=v at *
  obtain ⟨vb,vN⟩:=v
  refine cF Tryz.func150 rfl (by kernel_rfl) rfl rfl ?_
  intro C
  (refine aA<|rgN<|aL O O O dR<|aL O O O dR<|aP O dR ?_;refine kas O<|aB<|aA<|rgD mixed<|aW O hX O hv dR<|kmv O<|aR O O cC hb0 h0 dR<|aY O hT (by kernel_rfl) s0 c0 dR<|kmv O<|aR O O cC hb1 h1 dR<|aY O hT (by kernel_rfl) s1 c1 dR<|kmv O<|aR O O cC hb2 h2 dR<|aY O hT (by kernel_rfl) s2 c2 dR ?_;refine K.callF O O O hP dR ?_;refine kex O O<|kex O O<|aM O O O O O O dR ?_;refine kas O<|aB<|rgA ?_;refine aI ?_)
  exact ⟨[_,_],⟨⟨_,_,O,O,O,.inl ⟨AggT.h,O⟩⟩,O,trivial⟩,O⟩
end
variable (X:Nat→Option Obj)
theorem tFind (fad:Option Addr) (fcap:Nat) (fs:List (List Nm)) (at_:Int) (hE:EnvIn X fad fs at_) (a b:Int) (ha : -9223372036854775808≤a∧a<9223372036854775808) (hb : -9223372036854775808≤b∧b<9223372036854775808):
    PSpec Tryz.prog X 132 [LEnv fad fs.length fcap at_,Ln .i64 a,Ln .i64 b] (exR (elemX fs a b)):=by
  have hfl:=hE.len
  by_cases c1:a<0
  · rw [show elemX fs a b = .error 3 by unfold elemX;rw [if_pos (.inl c1)]]
    refine cF Tryz.func132 rfl (by kernel_rfl) rfl rfl ?_
    intro C
    (refine aA<|rgN<|aL O O O dR<|aP O dR ?_;refine kas O<|aB<|aA<|aA<|rgN<|kmv O<|klt O O (r:=true) (cP c1)<|kmv O<|aC O O O<|aC O O O<|aC O O O<|aC O O O<|aC O O O<|kpt O O ?_;refine aB<|aE O ?_;refine aA<|rgN<|aT O O (by exact O) (by exact nl3 O O O O) dR ?_;refine aM O O O O O O dR ?_;refine kas O<|aB<|aI ?_)
    exact ⟨[_,_],⟨⟨_,_,O,O,O,.inl ⟨AggT.h,O⟩⟩,O,trivial⟩,O⟩
  by_cases c2:(fs.length:Int)≤a
  · rw [show elemX fs a b = .error 3 by unfold elemX;split<;>first|rfl|(rw [List.getElem?_eq_none (by omega)])]
    refine cF Tryz.func132 rfl (by kernel_rfl) rfl rfl ?_
    intro C
    (refine aA<|rgN<|aL O O O dR<|aP O dR ?_;refine kas O<|aB<|aA<|aA<|rgN<|kmv O<|klt O O (r:=false) (cO c1)<|kmv O<|gmv O O O<|aN O O (dS O O) ?_;refine aO O O O (dS O O) ?_;refine aQ O cC O (dS O O) ?_;refine bD O O (r:=true) (cP c2) (dS O O) ?_;refine kpf O O<|aB<|aE O ?_;refine aA<|rgN<|aT O O (by exact O) (by exact nl3 O O O O) dR ?_;refine aM O O O O O O dR ?_;refine kas O<|aB<|aI ?_)
    exact ⟨[_,_],⟨⟨_,_,O,O,O,.inl ⟨AggT.h,O⟩⟩,O,trivial⟩,O⟩
  obtain ⟨r,hr⟩:∃ r,fs[a.toNat]? = some r:=⟨_,cX (by omega)⟩
  obtain ⟨blk,off,arr,el,fr,vad,vcap,rfl,hX,hsz,hcell,hN⟩:=hE.fss.at_ _ _ hr
  have hrl:=hE.rows r (dD hr)
  have hio:off+Int.toNat a*1=off+a.toNat:=by omega
  by_cases c3:b<0
  · rw [show elemX fs a b = .error 3 by unfold elemX;rw [if_pos (.inr c3)]]
    refine cF Tryz.func132 rfl (by kernel_rfl) rfl rfl ?_
    intro C
    (refine aA<|rgN<|aL O O O dR<|aP O dR ?_;refine kas O<|aB<|aA<|aA<|rgN<|kmv O<|klt O O (r:=false) (cO c1)<|kmv O<|gmv O O O<|aN O O (dS O O) ?_;refine aO O O O (dS O O) ?_;refine aQ O cC O (dS O O) ?_;refine bD O O (r:=false) (cO c2) (dS O O) ?_;refine kpf O O<|aB<|aF O ?_;refine aH ?_;refine aA<|rgN<|kfa O O ?_;refine kl1 O O O<|kmv O<|aR O O cC (by omega) hio dR<|aW O hX O hcell dR<|kas O<|aB<|aA<|aA<|rgN<|kmv O<|klt O O (r:=true) (cP c3)<|kmv O<|aC O O O<|aC O O O ?_;refine aC O O O<|aC O O O<|kpt O O<|aB<|aE O ?_;refine aA<|rgN<|aT O O (by exact O) (by exact nl3 O O O O) dR ?_;refine aM O O O O O O dR ?_;refine kas O<|aB<|aI ?_)
    exact ⟨[_,_],⟨⟨_,_,O,O,O,.inl ⟨AggT.h,O⟩⟩,O,trivial⟩,O⟩
  by_cases c4:(r.length:Int)≤b
  · rw [show elemX fs a b = .error 3 by unfold elemX;rw [if_neg (by omega),hr];simp only;rw [List.getElem?_eq_none (by omega)]]
    refine cF Tryz.func132 rfl (by kernel_rfl) rfl rfl ?_
    intro C
    (refine aA<|rgN<|aL O O O dR<|aP O dR ?_;refine kas O<|aB<|aA<|aA<|rgN<|kmv O<|klt O O (r:=false) (cO c1)<|kmv O<|gmv O O O<|aN O O (dS O O) ?_;refine aO O O O (dS O O) ?_;refine aQ O cC O (dS O O) ?_;refine bD O O (r:=false) (cO c2) (dS O O) ?_;refine kpf O O<|aB<|aF O ?_;refine aH ?_;refine aA<|rgN<|kfa O O ?_;refine kl1 O O O<|kmv O<|aR O O cC (by omega) hio dR<|aW O hX O hcell dR<|kas O<|aB<|aA<|aA<|rgN<|kmv O<|klt O O (r:=false) (cO c3)<|kmv O<|gmv O O O<|gmv O O O ?_;refine aQ O cC O (dS O O) ?_;refine bD O O (r:=true) (cP c4) (dS O O) ?_;refine kpf O O<|aB<|aE O ?_;refine aA<|rgN<|aT O O (by exact O) (by exact nl3 O O O O) dR ?_;refine aM O O O O O O dR ?_;refine kas O<|aB<|aI ?_)
    exact ⟨[_,_],⟨⟨_,_,O,O,O,.inl ⟨AggT.h,O⟩⟩,O,trivial⟩,O⟩
  obtain ⟨⟨vb,vN⟩,hv⟩:∃ v,r[b.toNat]? = some v:=⟨_,cX (by omega)⟩
  obtain ⟨_,blk2,off2,arr2,el2,fr2,rfl,hX2,hsz2,hcs2⟩:=hN.at hv
  have hio2:off2+Int.toNat b*3=off2+b.toNat*3:=rfl
  rw [show elemX fs a b = .ok (vb,vN) by unfold elemX;rw [if_neg (by omega),hr];simp only;rw [hv]]
  refine cF Tryz.func132 rfl (by kernel_rfl) rfl rfl ?_
  intro C
  (refine aA<|rgN<|aL O O O dR<|aP O dR ?_;refine kas O<|aB<|aA<|aA<|rgN<|kmv O<|klt O O (r:=false) (cO c1)<|kmv O<|gmv O O O<|aN O O (dS O O) ?_;refine aO O O O (dS O O) ?_;refine aQ O cC O (dS O O) ?_;refine bD O O (r:=false) (cO c2) (dS O O) ?_;refine kpf O O<|aB<|aF O ?_;refine aH ?_;refine aA<|rgN<|kfa O O ?_;refine kl1 O O O<|kmv O<|aR O O cC (by omega) hio dR<|aW O hX O hcell dR<|kas O<|aB<|aA<|aA<|rgN<|kmv O<|klt O O (r:=false) (cO c3)<|kmv O<|gmv O O O<|gmv O O O ?_;refine aQ O cC O (dS O O) ?_;refine bD O O (r:=false) (cO c4) (dS O O) ?_;refine kpf O O<|aB<|aF O ?_;refine aH ?_;refine aA<|rgN<|kmv O<|kmv O<|aR O O cC (by omega) hio2 dR<|aY O hX2 (by kernel_rfl) hsz2 hcs2 dR<|aM O O O O O O dR ?_;refine kas O<|aB<|aI ?_)
  exact ⟨[_,_],⟨⟨_,_,O,O,O,.inl ⟨AggT.h,O⟩⟩,O,trivial⟩,O⟩
theorem deed_num:DeedV X (.func (.func 103) #[] #[]) 1:=by
  refine ⟨103,[],O,fun Z hZ x hxo hx fad fcap fs at_ hE tad tcap ts hts hlen => ?_⟩
  rw [show oneX fs at_ x ts = .ok x.k by unfold oneX leafX;rw [hxo];rfl]
  show PSpec _ Z _ [LIn x,LEnv fad fs.length fcap at_,Lx tad ts.length tcap] (.tup [SI x.k.1 x.k.2,Sn .i64 0])
  refine cF Tryz.func103 rfl (by kernel_rfl) rfl rfl ?_
  intro C
  (refine aA<|rgN<|aL O O O dR<|aL O O O dR<|aP O dR ?_;refine kas O<|aB<|aA<|rgN<|kfa O O ?_;refine bJ O O O (by exact nl3 O O O O) dR ?_;refine aM O O O O O O dR ?_;refine kas O<|aB<|aI ?_)
  exact ⟨[_,_],⟨⟨_,_,O,O,O,.inl ⟨AggT.h,O⟩⟩,O,trivial⟩,O⟩
theorem deed_elem:DeedV X (.func (.func 104) #[] #[]) 2:=by
  refine ⟨104,[],O,fun Z hZ x hxo hx fad fcap fs at_ hE tad tcap ts hts hlen => ?_⟩
  rw [show oneX fs at_ x ts=elemX fs x.a x.b by unfold oneX leafX;rw [hxo];rfl]
  have hP:=tFind Z fad fcap fs at_ hE x.a x.b hx.2.1 hx.2.2.1
  show PSpec _ Z _ [LIn x,LEnv fad fs.length fcap at_,Lx tad ts.length tcap] (exR (elemX fs x.a x.b))
  rw [exR_eq] at hP ⊢
  generalize exE (elemX fs x.a x.b)=e at *
  generalize exV (elemX fs x.a x.b)=v at *
  obtain ⟨vb,vN⟩:=v
  refine cF Tryz.func104 rfl (by kernel_rfl) rfl rfl ?_
  intro C
  (refine aA<|rgN<|aL O O O dR<|aL O O O dR<|aP O dR ?_;refine kas O<|aB<|aA<|rgN<|aK O O O dR ?_;refine kfa O O ?_;refine kl1 O O O<|kfa O O ?_;refine kl1 O O O<|kca O O (hP)<|kex O O<|kex O O<|aM O O O O O O dR ?_;refine kas O<|aB<|aI ?_)
  exact ⟨[_,_],⟨⟨_,_,O,O,O,.inl ⟨AggT.h,O⟩⟩,O,trivial⟩,O⟩
theorem deed_here:DeedV X (.func (.func 105) #[] #[]) 3:=by
  refine ⟨105,[],O,fun Z hZ x hxo hx fad fcap fs at_ hE tad tcap ts hts hlen => ?_⟩
  rw [show oneX fs at_ x ts=elemX fs x.a at_ by unfold oneX leafX;rw [hxo];rfl]
  have hP:=tFind Z fad fcap fs at_ hE x.a at_ hx.2.1 hE.place
  show PSpec _ Z _ [LIn x,LEnv fad fs.length fcap at_,Lx tad ts.length tcap] (exR (elemX fs x.a at_))
  rw [exR_eq] at hP ⊢
  generalize exE (elemX fs x.a at_)=e at *
  generalize exV (elemX fs x.a at_)=v at *
  obtain ⟨vb,vN⟩:=v
  refine cF Tryz.func105 rfl (by kernel_rfl) rfl rfl ?_
  intro C
  (refine aA<|rgN<|aL O O O dR<|aL O O O dR<|aP O dR ?_;refine kas O<|aB<|aA<|rgN<|aK O O O dR ?_;refine kfa O O ?_;refine kl1 O O O<|kfa O O ?_;refine kl1 O O O<|kca O O (hP)<|kex O O<|kex O O<|aM O O O O O O dR ?_;refine kas O<|aB<|aI ?_)
  exact ⟨[_,_],⟨⟨_,_,O,O,O,.inl ⟨AggT.h,O⟩⟩,O,trivial⟩,O⟩
theorem deed_place:DeedV X (.func (.func 106) #[] #[]) 4:=by
  refine ⟨106,[],O,fun Z hZ x hxo hx fad fcap fs at_ hE tad tcap ts hts hlen => ?_⟩
  have hpl:=hE.place
  rw [show oneX fs at_ x ts=(if at_<0 then .error 3 else .ok (false,at_)) by unfold oneX leafX;rw [hxo];rfl]
  show PSpec _ Z _ [LIn x,LEnv fad fs.length fcap at_,Lx tad ts.length tcap] _
  by_cases c:at_<0
  · rw [if_pos c]
    refine cF Tryz.func106 rfl (by kernel_rfl) rfl rfl ?_
    intro C
    (refine aA<|rgN<|aL O O O dR<|aL O O O dR<|aP O dR ?_;refine kas O<|aB<|aA<|aA<|rgN<|kfa O O ?_;refine kl1 O O O<|klt O O (r:=true) (cP c)<|aB<|aE O ?_;refine aA<|rgN<|aT O O (by exact O) (by exact nl3 O O O O) dR ?_;refine aM O O O O O O dR ?_;refine kas O<|aB<|aI ?_)
    exact ⟨[_,_],⟨⟨_,_,O,O,O,.inl ⟨AggT.h,O⟩⟩,O,trivial⟩,O⟩
  · rw [if_neg c]
    have hO:=Of_spec Z at_ hpl
    rw [show LQ at_=LI false at_ by unfold LQ;rw [mg_pos (by omega),cO c]] at hO
    show PSpec _ Z _ _ (.tup [SI false at_,Sn .i64 0])
    refine cF Tryz.func106 rfl (by kernel_rfl) rfl rfl ?_
    intro C
    (refine aA<|rgN<|aL O O O dR<|aL O O O dR<|aP O dR ?_;refine kas O<|aB<|aA<|aA<|rgN<|kfa O O ?_;refine kl1 O O O<|klt O O (r:=false) (cO c)<|aB<|aF O ?_;refine aH ?_;refine aA<|rgN<|kfa O O ?_;refine kl1 O O O<|kca O O (hO)<|aM O O O O O O dR ?_;refine kas O<|aB<|aI ?_)
    exact ⟨[_,_],⟨⟨_,_,O,O,O,.inl ⟨AggT.h,O⟩⟩,O,trivial⟩,O⟩
end Go.Proofs.YtamplgnbbanamaaGreatDoor
end
