/- A piece of a proof over this program: contracts of its functions, and a logic to prove them by. -/
import Derived.Test.YtnfbccfghgmfiaaGreatH2
import Derived.Test.YtnfbccfghgmfiaaGreatH3
import Derived.Test.YtnfbccfghgmfiaaGreatH4
import Derived.Shelf.Small.Bits
import Derived.Shelf.Strconv.Itoa0
import Derived.Shelf.Bits.Mul64
import Derived.Test.YtnfbccfghgmfiaaGreatProg
import Derived.Lib.ItoaNum
import Derived.Lib.Walk
import Derived.Lib.ItoaMem
import Derived.Lib.AppendIntMem
import Derived.WalkKit
import Derived.BigCall
import Derived.BigGuard
import Derived.Lib.Repeat
import Derived.ChangeKeysEq
section
namespace Go.Proofs
open Go.Shelf
def Tryz.lays134_ren : Go.Shelf.Ren := ⟨fun | 134 => 128 | 129 => 132 | n => n, fun | 53 => 62 | 3 => 3 | 4 => 4 | 46 => 188 | 5 => 5 | 9 => 9 | n => n, fun | n => n⟩
theorem Tryz.lays134 : Go.Proofs.Lays.n134 Tryz.prog Tryz.lays134_ren := {
  mixed := by kernel_rfl
  f129 := Tryz.func132.trans (congrArg some (by kernel_rfl))
  f134 := Tryz.func128.trans (congrArg some (by kernel_rfl))
  t3 := Tryz.underlying3
  a3 := Tryz.isAgg3
  z3 := Tryz.sizeOf3
  v3 := Tryz.zeroValue3
  t4 := Tryz.underlying4
  a4 := Tryz.isAgg4
  z4 := Tryz.sizeOf4
  v4 := Tryz.zeroValue4
  t5 := Tryz.underlying5
  a5 := Tryz.isAgg5
  z5 := Tryz.sizeOf5
  v5 := Tryz.zeroValue5
  t9 := Tryz.underlying9
  a9 := Tryz.isAgg9
  z9 := Tryz.sizeOf9
  v9 := Tryz.zeroValue9
  t46 := Tryz.underlying188
  a46 := Tryz.isAgg188
  z46 := Tryz.sizeOf188
  v46 := Tryz.zeroValue188
  t53 := Tryz.underlying62
  a53 := Tryz.isAgg62
  z53 := Tryz.sizeOf62
  v53 := Tryz.zeroValue62 }
theorem Tryz.bits_LeadingZeros64 (x : Int) (w : World) (h0 : 0 ≤ x) (h1 : x ≤ 18446744073709551615) :
    Calls Tryz.prog 128 #[.int .u64 x] w fun e w' => e = .returned (.int .i64 (64 - (Lib.bitLen x.toNat : Int))) ∧ w' = w := Any.bits_LeadingZeros64 Tryz.lays134 x w h0 h1
def Tryz.lays264_ren : Go.Shelf.Ren := ⟨fun | 264 => 122 | n => n, fun | 53 => 62 | 46 => 188 | n => n, fun | n => n⟩
theorem Tryz.lays264 : Go.Proofs.Lays.n264 Tryz.prog Tryz.lays264_ren := {
  mixed := by kernel_rfl
  f264 := Tryz.func122.trans (congrArg some (by kernel_rfl))
  t46 := Tryz.underlying188
  a46 := Tryz.isAgg188
  z46 := Tryz.sizeOf188
  v46 := Tryz.zeroValue188
  t53 := Tryz.underlying62
  a53 := Tryz.isAgg62
  z53 := Tryz.sizeOf62
  v53 := Tryz.zeroValue62 }
open Go.RowKit Go.Lib in
theorem Tryz.bits_Mul64 (x y : Nat) (hx : x < 18446744073709551616) (hy : y < 18446744073709551616) (w : World) :
    Calls Tryz.prog 122 #[.int .u64 x, .int .u64 y] w fun e w' => e = .returned (.tuple #[.int .u64 ((x * y / 18446744073709551616 : Nat) : Int), .int .u64 ((x * y % 18446744073709551616 : Nat) : Int)]) ∧ w' = w := Any.bits_Mul64 Tryz.lays264 x y hx hy w
end Go.Proofs
end
section
namespace Go.Proofs.YtnfbccfghgmfiaaGreat
open Go Go.Lg Go.Lg.Arith
variable (X : Nat → Option Obj)
theorem mul64_spec (x y p : Int) (hx : 0 ≤ x ∧ x < 18446744073709551616) (hy : 0 ≤ y ∧ y < 18446744073709551616) (hp : x * y = p) :
    PSpec Tryz.prog X 122 [Ln .u64 x, Ln .u64 y] (.tup [Sn .u64 (p / 18446744073709551616), Sn .u64 (p % 18446744073709551616)]) := by
  subst hp
  obtain ⟨a, rfl⟩ := Int.eq_ofNat_of_zero_le hx.1
  obtain ⟨b, rfl⟩ := Int.eq_ofNat_of_zero_le hy.1
  refine PSpec.ofCalls (vals := [.int .u64 a, .int .u64 b]) (v := .tuple #[.int .u64 (a * b / 18446744073709551616), .int .u64 (a * b % 18446744073709551616)]) (by kernel_rfl) rfl rfl (fun w _ => ?_)
  have h := Tryz.bits_Mul64 a b (by omega) (by omega) w
  have e1 : ((a * b / 18446744073709551616 : Nat) : Int) = (a : Int) * b / 18446744073709551616 := by rw [Int.natCast_ediv, Int.natCast_mul]; rfl
  have e2 : ((a * b % 18446744073709551616 : Nat) : Int) = (a : Int) * b % 18446744073709551616 := by rw [Int.natCast_emod, Int.natCast_mul]; rfl
  rw [e1, e2] at h
  exact h
theorem times_spec (M N : Int) (hM : In2 M) (hN : In2 N) (hw : M < 18446744073709551616 ∨ N < 18446744073709551616) (r : Bool) (hr : decide (M * N < 340282366920938463463374607431768211456) = r) :
    PSpec Tryz.prog X 102 [LZ M, LZ N] (.tup [SZ (M * N % 340282366920938463463374607431768211456), Sb r]) := by
  have core : ∀ H L m p q P : Int, 0 ≤ H ∧ H < 18446744073709551616 → 0 ≤ L ∧ L < 18446744073709551616 → 0 ≤ m ∧ m < 18446744073709551616 → H * m = p → L * m = q → (H * 18446744073709551616 + L) * m = P →
      0 ≤ p ∧ 0 ≤ q ∧ P = p * 18446744073709551616 + q ∧ q / 18446744073709551616 < 18446744073709551616 ∧ p / 18446744073709551616 < 18446744073709551616 := by
    intro H L m p q P hH hL hm hp hq hP
    have b1 := mul_bound (A := 18446744073709551615) (B := 18446744073709551615) ⟨hH.1, by omega⟩ (show 0 ≤ m ∧ m ≤ 18446744073709551615 by omega)
    have b2 := mul_bound (A := 18446744073709551615) (B := 18446744073709551615) ⟨hL.1, by omega⟩ (show 0 ≤ m ∧ m ≤ 18446744073709551615 by omega)
    have := times_low hp hq hP
    rw [hp] at b1
    rw [hq] at b2
    omega
  unfold In2 at *
  refine PSpec.intro Tryz.func102 rfl (by kernel_rfl) rfl rfl ?_
  intro C
  by_cases h0 : M / 18446744073709551616 = 0
  · obtain ⟨p, hp⟩ : ∃ p, N / 18446744073709551616 * (M % 18446744073709551616) = p := ⟨_, rfl⟩
    obtain ⟨q, hq⟩ : ∃ q, N % 18446744073709551616 * (M % 18446744073709551616) = q := ⟨_, rfl⟩
    obtain ⟨S, hS⟩ : ∃ S, M * N = S := ⟨_, rfl⟩
    obtain ⟨c1, c2, c3, c4, c5⟩ := core _ _ _ p q S (by omega) (by omega) (by omega) hp hq (by
      rw [← hS, show N / 18446744073709551616 * 18446744073709551616 + N % 18446744073709551616 = N by omega, show M % 18446744073709551616 = M by omega]; exact Int.mul_comm _ _)
    rw [hS] at hr ⊢
    by_cases hP : S < 340282366920938463463374607431768211456
    · rw [decide_eq_true hP] at hr
      subst hr
      (refine LWP.seq <| rgN <| K.box rfl rfl rfl .plain <| K.box rfl rfl rfl .plain <| K.alloc rfl .plain ?_; refine kas rfl <| RunK.nil <| LWP.seq <| LWP.seq <| rgN <| kfa rfl rfl ?_; refine kl1 rfl rfl rfl <| keq rfl rfl (beq_iff_eq.2 (by omega)) <| RunK.nil <| LWP.condT rfl ?_; refine rgN <| K.loadAll rfl rfl rfl .plain ?_; refine K.loadAll rfl rfl rfl .plain ?_; refine K.storeAll rfl rfl rfl rfl rfl rfl .plain ?_; refine K.storeAll rfl rfl rfl rfl rfl rfl .plain ?_; refine RunK.nil <| LWP.seq <| LWP.seq <| rgN <| kfa rfl rfl ?_; refine kl1 rfl rfl rfl <| kne rfl rfl ((bne_eq_false_iff_eq.2 (by omega))) <| RunK.nil <| LWP.condF rfl ?_; refine LWP.skip ?_; refine LWP.seq <| rgN <| kfa rfl rfl ?_; refine kl1 rfl rfl rfl <| kfa rfl rfl ?_; refine kl1 rfl rfl rfl <| kca rfl rfl (mul64_spec _ _ _ p (by omega) (by omega) hp) <| kmv rfl <| kex rfl rfl <| kex rfl rfl <| kas rfl <| kas rfl <| RunK.nil <| LWP.seq <| rgN <| kfa rfl rfl ?_; refine kl1 rfl rfl rfl <| kfa rfl rfl ?_; refine kl1 rfl rfl rfl <| kca rfl rfl (mul64_spec _ _ _ q (by omega) (by omega) hq) <| kmv rfl <| kex rfl rfl <| kex rfl rfl <| kas rfl <| kas rfl <| RunK.nil <| LWP.seq <| rgN <| kmv rfl <| kmv rfl <| K.callN rfl rfl (add64 (s := S % 340282366920938463463374607431768211456 / 18446744073709551616) (t := 0) (by omega) (by omega) (by omega)) rfl .plain <| kmv rfl ?_; refine kex rfl rfl <| kex rfl rfl <| kas rfl <| kas rfl <| RunK.nil <| LWP.seq <| rgN <| kmv rfl <| kmv rfl <| K.build rfl rfl (by exact rfl) (by exact nl2 rfl rfl rfl) .plain ?_; refine kmv rfl <| keq rfl rfl (beq_iff_eq.2 (by omega)) <| kmv rfl <| gmv rfl rfl rfl <| K.eql rfl rfl (beq_iff_eq.2 (by omega)) (.taken rfl rfl) ?_; refine kpt rfl rfl <| K.storeAll rfl rfl rfl rfl rfl rfl .plain ?_; refine kas rfl <| RunK.nil <| LWP.ret ?_)
      unfold SZ; rw [show S % 340282366920938463463374607431768211456 % 18446744073709551616 = q % 18446744073709551616 by omega]
      exact ⟨[_, _], ⟨⟨_, _, rfl, rfl, rfl, .inl ⟨AggT.h, rfl⟩⟩, rfl, trivial⟩, rfl⟩
    · rw [decide_eq_false hP] at hr
      subst hr
      by_cases ho : p / 18446744073709551616 = 0
      · (refine LWP.seq <| rgN <| K.box rfl rfl rfl .plain <| K.box rfl rfl rfl .plain <| K.alloc rfl .plain ?_; refine kas rfl <| RunK.nil <| LWP.seq <| LWP.seq <| rgN <| kfa rfl rfl ?_; refine kl1 rfl rfl rfl <| keq rfl rfl (beq_iff_eq.2 (by omega)) <| RunK.nil <| LWP.condT rfl ?_; refine rgN <| K.loadAll rfl rfl rfl .plain ?_; refine K.loadAll rfl rfl rfl .plain ?_; refine K.storeAll rfl rfl rfl rfl rfl rfl .plain ?_; refine K.storeAll rfl rfl rfl rfl rfl rfl .plain ?_; refine RunK.nil <| LWP.seq <| LWP.seq <| rgN <| kfa rfl rfl ?_; refine kl1 rfl rfl rfl <| kne rfl rfl ((bne_eq_false_iff_eq.2 (by omega))) <| RunK.nil <| LWP.condF rfl ?_; refine LWP.skip ?_; refine LWP.seq <| rgN <| kfa rfl rfl ?_; refine kl1 rfl rfl rfl <| kfa rfl rfl ?_; refine kl1 rfl rfl rfl <| kca rfl rfl (mul64_spec _ _ _ p (by omega) (by omega) hp) <| kmv rfl <| kex rfl rfl <| kex rfl rfl <| kas rfl <| kas rfl <| RunK.nil <| LWP.seq <| rgN <| kfa rfl rfl ?_; refine kl1 rfl rfl rfl <| kfa rfl rfl ?_; refine kl1 rfl rfl rfl <| kca rfl rfl (mul64_spec _ _ _ q (by omega) (by omega) hq) <| kmv rfl <| kex rfl rfl <| kex rfl rfl <| kas rfl <| kas rfl <| RunK.nil <| LWP.seq <| rgN <| kmv rfl <| kmv rfl <| K.callN rfl rfl (add64 (s := S % 340282366920938463463374607431768211456 / 18446744073709551616) (t := 1) (by omega) (by omega) (by omega)) rfl .plain <| kmv rfl ?_; refine kex rfl rfl <| kex rfl rfl <| kas rfl <| kas rfl <| RunK.nil <| LWP.seq <| rgN <| kmv rfl <| kmv rfl <| K.build rfl rfl (by exact rfl) (by exact nl2 rfl rfl rfl) .plain ?_; refine kmv rfl <| keq rfl rfl (beq_iff_eq.2 (by omega)) <| kmv rfl <| gmv rfl rfl rfl <| K.eql rfl rfl (beq_eq_false_iff_ne.2 (by omega)) (.taken rfl rfl) ?_; refine kpt rfl rfl <| K.storeAll rfl rfl rfl rfl rfl rfl .plain ?_; refine kas rfl <| RunK.nil <| LWP.ret ?_)
        unfold SZ; rw [show S % 340282366920938463463374607431768211456 % 18446744073709551616 = q % 18446744073709551616 by omega]
        exact ⟨[_, _], ⟨⟨_, _, rfl, rfl, rfl, .inl ⟨AggT.h, rfl⟩⟩, rfl, trivial⟩, rfl⟩
      · (refine LWP.seq <| rgN <| K.box rfl rfl rfl .plain <| K.box rfl rfl rfl .plain <| K.alloc rfl .plain ?_; refine kas rfl <| RunK.nil <| LWP.seq <| LWP.seq <| rgN <| kfa rfl rfl ?_; refine kl1 rfl rfl rfl <| keq rfl rfl (beq_iff_eq.2 (by omega)) <| RunK.nil <| LWP.condT rfl ?_; refine rgN <| K.loadAll rfl rfl rfl .plain ?_; refine K.loadAll rfl rfl rfl .plain ?_; refine K.storeAll rfl rfl rfl rfl rfl rfl .plain ?_; refine K.storeAll rfl rfl rfl rfl rfl rfl .plain ?_; refine RunK.nil <| LWP.seq <| LWP.seq <| rgN <| kfa rfl rfl ?_; refine kl1 rfl rfl rfl <| kne rfl rfl ((bne_eq_false_iff_eq.2 (by omega))) <| RunK.nil <| LWP.condF rfl ?_; refine LWP.skip ?_; refine LWP.seq <| rgN <| kfa rfl rfl ?_; refine kl1 rfl rfl rfl <| kfa rfl rfl ?_; refine kl1 rfl rfl rfl <| kca rfl rfl (mul64_spec _ _ _ p (by omega) (by omega) hp) <| kmv rfl <| kex rfl rfl <| kex rfl rfl <| kas rfl <| kas rfl <| RunK.nil <| LWP.seq <| rgN <| kfa rfl rfl ?_; refine kl1 rfl rfl rfl <| kfa rfl rfl ?_; refine kl1 rfl rfl rfl <| kca rfl rfl (mul64_spec _ _ _ q (by omega) (by omega) hq) <| kmv rfl <| kex rfl rfl <| kex rfl rfl <| kas rfl <| kas rfl <| RunK.nil <| LWP.seq <| rgN <| kmv rfl <| kmv rfl <| K.callN rfl rfl (add64 (s := S % 340282366920938463463374607431768211456 / 18446744073709551616) (t := (q / 18446744073709551616 + p % 18446744073709551616) / 18446744073709551616) (by omega) (by omega) (by omega)) rfl .plain <| kmv rfl ?_; refine kex rfl rfl <| kex rfl rfl <| kas rfl <| kas rfl <| RunK.nil <| LWP.seq <| rgN <| kmv rfl <| kmv rfl <| K.build rfl rfl (by exact rfl) (by exact nl2 rfl rfl rfl) .plain ?_; refine kmv rfl <| keq rfl rfl (beq_eq_false_iff_ne.2 (by omega)) <| kmv rfl <| RunK.passed rfl rfl rfl <| RunK.passed rfl rfl rfl <| kpf rfl rfl <| K.storeAll rfl rfl rfl rfl rfl rfl .plain ?_; refine kas rfl <| RunK.nil <| LWP.ret ?_)
        unfold SZ; rw [show S % 340282366920938463463374607431768211456 % 18446744073709551616 = q % 18446744073709551616 by omega]
        exact ⟨[_, _], ⟨⟨_, _, rfl, rfl, rfl, .inl ⟨AggT.h, rfl⟩⟩, rfl, trivial⟩, rfl⟩
  · have hN0 : N / 18446744073709551616 = 0 := by omega
    obtain ⟨p, hp⟩ : ∃ p, M / 18446744073709551616 * (N % 18446744073709551616) = p := ⟨_, rfl⟩
    obtain ⟨q, hq⟩ : ∃ q, M % 18446744073709551616 * (N % 18446744073709551616) = q := ⟨_, rfl⟩
    obtain ⟨S, hS⟩ : ∃ S, M * N = S := ⟨_, rfl⟩
    obtain ⟨c1, c2, c3, c4, c5⟩ := core _ _ _ p q S (by omega) (by omega) (by omega) hp hq (by
      rw [← hS, show M / 18446744073709551616 * 18446744073709551616 + M % 18446744073709551616 = M by omega, show N % 18446744073709551616 = N by omega])
    rw [hS] at hr ⊢
    by_cases hP : S < 340282366920938463463374607431768211456
    · rw [decide_eq_true hP] at hr
      subst hr
      (refine LWP.seq <| rgN <| K.box rfl rfl rfl .plain <| K.box rfl rfl rfl .plain <| K.alloc rfl .plain ?_; refine kas rfl <| RunK.nil <| LWP.seq <| LWP.seq <| rgN <| kfa rfl rfl ?_; refine kl1 rfl rfl rfl <| keq rfl rfl (beq_eq_false_iff_ne.2 (by omega)) <| RunK.nil <| LWP.condF rfl ?_; refine LWP.skip ?_; refine LWP.seq <| LWP.seq <| rgN <| kfa rfl rfl ?_; refine kl1 rfl rfl rfl <| kne rfl rfl ((bne_eq_false_iff_eq.2 (by omega))) <| RunK.nil <| LWP.condF rfl ?_; refine LWP.skip ?_; refine LWP.seq <| rgN <| kfa rfl rfl ?_; refine kl1 rfl rfl rfl <| kfa rfl rfl ?_; refine kl1 rfl rfl rfl <| kca rfl rfl (mul64_spec _ _ _ p (by omega) (by omega) hp) <| kmv rfl <| kex rfl rfl <| kex rfl rfl <| kas rfl <| kas rfl <| RunK.nil <| LWP.seq <| rgN <| kfa rfl rfl ?_; refine kl1 rfl rfl rfl <| kfa rfl rfl ?_; refine kl1 rfl rfl rfl <| kca rfl rfl (mul64_spec _ _ _ q (by omega) (by omega) hq) <| kmv rfl <| kex rfl rfl <| kex rfl rfl <| kas rfl <| kas rfl <| RunK.nil <| LWP.seq <| rgN <| kmv rfl <| kmv rfl <| K.callN rfl rfl (add64 (s := S % 340282366920938463463374607431768211456 / 18446744073709551616) (t := 0) (by omega) (by omega) (by omega)) rfl .plain <| kmv rfl ?_; refine kex rfl rfl <| kex rfl rfl <| kas rfl <| kas rfl <| RunK.nil <| LWP.seq <| rgN <| kmv rfl <| kmv rfl <| K.build rfl rfl (by exact rfl) (by exact nl2 rfl rfl rfl) .plain ?_; refine kmv rfl <| keq rfl rfl (beq_iff_eq.2 (by omega)) <| kmv rfl <| gmv rfl rfl rfl <| K.eql rfl rfl (beq_iff_eq.2 (by omega)) (.taken rfl rfl) ?_; refine kpt rfl rfl <| K.storeAll rfl rfl rfl rfl rfl rfl .plain ?_; refine kas rfl <| RunK.nil <| LWP.ret ?_)
      unfold SZ; rw [show S % 340282366920938463463374607431768211456 % 18446744073709551616 = q % 18446744073709551616 by omega]
      exact ⟨[_, _], ⟨⟨_, _, rfl, rfl, rfl, .inl ⟨AggT.h, rfl⟩⟩, rfl, trivial⟩, rfl⟩
    · rw [decide_eq_false hP] at hr
      subst hr
      by_cases ho : p / 18446744073709551616 = 0
      · (refine LWP.seq <| rgN <| K.box rfl rfl rfl .plain <| K.box rfl rfl rfl .plain <| K.alloc rfl .plain ?_; refine kas rfl <| RunK.nil <| LWP.seq <| LWP.seq <| rgN <| kfa rfl rfl ?_; refine kl1 rfl rfl rfl <| keq rfl rfl (beq_eq_false_iff_ne.2 (by omega)) <| RunK.nil <| LWP.condF rfl ?_; refine LWP.skip ?_; refine LWP.seq <| LWP.seq <| rgN <| kfa rfl rfl ?_; refine kl1 rfl rfl rfl <| kne rfl rfl ((bne_eq_false_iff_eq.2 (by omega))) <| RunK.nil <| LWP.condF rfl ?_; refine LWP.skip ?_; refine LWP.seq <| rgN <| kfa rfl rfl ?_; refine kl1 rfl rfl rfl <| kfa rfl rfl ?_; refine kl1 rfl rfl rfl <| kca rfl rfl (mul64_spec _ _ _ p (by omega) (by omega) hp) <| kmv rfl <| kex rfl rfl <| kex rfl rfl <| kas rfl <| kas rfl <| RunK.nil <| LWP.seq <| rgN <| kfa rfl rfl ?_; refine kl1 rfl rfl rfl <| kfa rfl rfl ?_; refine kl1 rfl rfl rfl <| kca rfl rfl (mul64_spec _ _ _ q (by omega) (by omega) hq) <| kmv rfl <| kex rfl rfl <| kex rfl rfl <| kas rfl <| kas rfl <| RunK.nil <| LWP.seq <| rgN <| kmv rfl <| kmv rfl <| K.callN rfl rfl (add64 (s := S % 340282366920938463463374607431768211456 / 18446744073709551616) (t := 1) (by omega) (by omega) (by omega)) rfl .plain <| kmv rfl ?_; refine kex rfl rfl <| kex rfl rfl <| kas rfl <| kas rfl <| RunK.nil <| LWP.seq <| rgN <| kmv rfl <| kmv rfl <| K.build rfl rfl (by exact rfl) (by exact nl2 rfl rfl rfl) .plain ?_; refine kmv rfl <| keq rfl rfl (beq_iff_eq.2 (by omega)) <| kmv rfl <| gmv rfl rfl rfl <| K.eql rfl rfl (beq_eq_false_iff_ne.2 (by omega)) (.taken rfl rfl) ?_; refine kpt rfl rfl <| K.storeAll rfl rfl rfl rfl rfl rfl .plain ?_; refine kas rfl <| RunK.nil <| LWP.ret ?_)
        unfold SZ; rw [show S % 340282366920938463463374607431768211456 % 18446744073709551616 = q % 18446744073709551616 by omega]
        exact ⟨[_, _], ⟨⟨_, _, rfl, rfl, rfl, .inl ⟨AggT.h, rfl⟩⟩, rfl, trivial⟩, rfl⟩
      · (refine LWP.seq <| rgN <| K.box rfl rfl rfl .plain <| K.box rfl rfl rfl .plain <| K.alloc rfl .plain ?_; refine kas rfl <| RunK.nil <| LWP.seq <| LWP.seq <| rgN <| kfa rfl rfl ?_; refine kl1 rfl rfl rfl <| keq rfl rfl (beq_eq_false_iff_ne.2 (by omega)) <| RunK.nil <| LWP.condF rfl ?_; refine LWP.skip ?_; refine LWP.seq <| LWP.seq <| rgN <| kfa rfl rfl ?_; refine kl1 rfl rfl rfl <| kne rfl rfl ((bne_eq_false_iff_eq.2 (by omega))) <| RunK.nil <| LWP.condF rfl ?_; refine LWP.skip ?_; refine LWP.seq <| rgN <| kfa rfl rfl ?_; refine kl1 rfl rfl rfl <| kfa rfl rfl ?_; refine kl1 rfl rfl rfl <| kca rfl rfl (mul64_spec _ _ _ p (by omega) (by omega) hp) <| kmv rfl <| kex rfl rfl <| kex rfl rfl <| kas rfl <| kas rfl <| RunK.nil <| LWP.seq <| rgN <| kfa rfl rfl ?_; refine kl1 rfl rfl rfl <| kfa rfl rfl ?_; refine kl1 rfl rfl rfl <| kca rfl rfl (mul64_spec _ _ _ q (by omega) (by omega) hq) <| kmv rfl <| kex rfl rfl <| kex rfl rfl <| kas rfl <| kas rfl <| RunK.nil <| LWP.seq <| rgN <| kmv rfl <| kmv rfl <| K.callN rfl rfl (add64 (s := S % 340282366920938463463374607431768211456 / 18446744073709551616) (t := (q / 18446744073709551616 + p % 18446744073709551616) / 18446744073709551616) (by omega) (by omega) (by omega)) rfl .plain <| kmv rfl ?_; refine kex rfl rfl <| kex rfl rfl <| kas rfl <| kas rfl <| RunK.nil <| LWP.seq <| rgN <| kmv rfl <| kmv rfl <| K.build rfl rfl (by exact rfl) (by exact nl2 rfl rfl rfl) .plain ?_; refine kmv rfl <| keq rfl rfl (beq_eq_false_iff_ne.2 (by omega)) <| kmv rfl <| RunK.passed rfl rfl rfl <| RunK.passed rfl rfl rfl <| kpf rfl rfl <| K.storeAll rfl rfl rfl rfl rfl rfl .plain ?_; refine kas rfl <| RunK.nil <| LWP.ret ?_)
        unfold SZ; rw [show S % 340282366920938463463374607431768211456 % 18446744073709551616 = q % 18446744073709551616 by omega]
        exact ⟨[_, _], ⟨⟨_, _, rfl, rfl, rfl, .inl ⟨AggT.h, rfl⟩⟩, rfl, trivial⟩, rfl⟩
theorem times_far (M N : Int) (hM : In2 M) (hN : In2 N) (h1 : 18446744073709551616 ≤ M) (h2 : 18446744073709551616 ≤ N) :
    PSpec Tryz.prog X 102 [LZ M, LZ N] (.tup [.agg [.val (.int .u64 0), .val (.int .u64 0)], Sb false]) := by
  unfold In2 at *
  refine PSpec.intro Tryz.func102 rfl (by kernel_rfl) rfl rfl ?_
  intro C
  (refine LWP.seq <| rgN <| K.box rfl rfl rfl .plain <| K.box rfl rfl rfl .plain <| K.alloc rfl .plain ?_; refine kas rfl <| RunK.nil <| LWP.seq <| LWP.seq <| rgN <| kfa rfl rfl ?_; refine kl1 rfl rfl rfl <| keq rfl rfl (beq_eq_false_iff_ne.2 (by omega)) <| RunK.nil <| LWP.condF rfl ?_; refine LWP.skip ?_; refine LWP.seq <| LWP.seq <| rgN <| kfa rfl rfl ?_; refine kl1 rfl rfl rfl <| kne rfl rfl (bne_iff_ne.2 (by omega)) <| RunK.nil <| LWP.condT rfl ?_; refine LWP.seq <| rgN <| K.build rfl rfl (by exact rfl) (by exact nl2 rfl rfl rfl) .plain ?_; refine K.storeAll rfl rfl rfl rfl rfl rfl .plain ?_; refine kas rfl <| RunK.nil <| LWP.ret ?_)
  exact ⟨[_, _], ⟨⟨_, _, rfl, rfl, rfl, .inl ⟨AggT.h, rfl⟩⟩, rfl, trivial⟩, rfl⟩
end Go.Proofs.YtnfbccfghgmfiaaGreat
end
section
namespace Go.Proofs.YtnfbccfghgmfiaaGreat
open Go Go.Lg Go.Lg.Arith
variable (X : Nat → Option Obj)
theorem Mul_arg (b c : Bool) (M N : Int) (hM : In2 M) (hN : In2 N) (hf : (formB b M && formB c N) = false) : PSpec Tryz.prog X 72 [LI b M, LI c N] (.tup [S0, Sn .i64 1]) := by
  refine PSpec.intro Tryz.func72 rfl (by kernel_rfl) rfl rfl ?_
  intro C
  (refine LWP.seq <| rgN <| K.box rfl rfl rfl .plain <| K.box rfl rfl rfl .plain <| K.alloc rfl .plain ?_; refine kas rfl <| RunK.nil <| LWP.seq <| LWP.seq <| rgN <| K.loadAll rfl rfl rfl .plain ?_; refine K.loadAll rfl rfl rfl .plain ?_; refine kca rfl rfl (bothForm_spec _ _ _ _ _ hM hN _ hf) <| K.not rfl rfl .plain <| RunK.nil <| LWP.condT rfl ?_; refine LWP.seq <| rgN <| K.build rfl rfl (by exact rfl) (by exact nl3 rfl rfl rfl rfl) .plain ?_; refine K.storeAll rfl rfl rfl rfl rfl rfl .plain ?_; refine kas rfl <| RunK.nil <| LWP.ret ?_)
  exact ⟨[_, _], ⟨⟨_, _, rfl, rfl, rfl, .inl ⟨AggT.h, rfl⟩⟩, rfl, trivial⟩, rfl⟩
theorem zv_mul (x y : Int) : zv (decide (x < 0) != decide (y < 0)) (mg x * mg y) = x * y := by
  unfold zv mg
  by_cases cx : x < 0 <;> by_cases cy : y < 0 <;> simp [cx, cy, Int.neg_mul, Int.mul_neg]
theorem range_zv {b : Bool} {N : Int} (hN : 0 ≤ N) : R127 (zv b N) ↔ N < 170141183460469231731687303715884105728 := by
  unfold R127 zv
  cases b <;> simp <;> omega
theorem Mul_q (x y : Int) (hx : R127 x) (hy : R127 y) : PSpec Tryz.prog X 72 [LQ x, LQ y] (addR (x * y)) := by
  have hf := both_q hx hy
  have hB := bothForm_spec X _ _ _ _ (mg_in2 hx) (mg_in2 hy) true hf
  have hz := zv_mul x y
  have hp0 : 0 ≤ mg x * mg y := Int.mul_nonneg (mg_nonneg x) (mg_nonneg y)
  have hrange := range_zv (b := decide (x < 0) != decide (y < 0)) hp0
  rw [hz] at hrange
  by_cases hfar : 18446744073709551616 ≤ mg x ∧ 18446744073709551616 ≤ mg y
  · have hm := Int.mul_le_mul hfar.1 hfar.2 (by decide) (by omega : (0 : Int) ≤ mg x)
    rw [addR_out (by rw [hrange]; omega)]
    refine PSpec.intro Tryz.func72 rfl (by kernel_rfl) rfl rfl ?_
    intro C
    (refine LWP.seq <| rgN <| K.box rfl rfl rfl .plain <| K.box rfl rfl rfl .plain <| K.alloc rfl .plain ?_; refine kas rfl <| RunK.nil <| LWP.seq <| LWP.seq <| rgN <| K.loadAll rfl rfl rfl .plain ?_; refine K.loadAll rfl rfl rfl .plain ?_; refine kca rfl rfl (hB) <| K.not rfl rfl .plain <| RunK.nil <| LWP.condF rfl ?_; refine LWP.skip ?_; refine LWP.seq <| rgD mixed <| K.loadAll rfl rfl rfl .plain ?_; refine kca rfl rfl (sizeOf_spec _ _ _ _) <| K.loadAll rfl rfl rfl .plain ?_; refine kca rfl rfl (sizeOf_spec _ _ _ _) <| kca rfl rfl (times_far _ _ _ (mg_in2 hx) (mg_in2 hy) hfar.1 hfar.2) <| kmv rfl <| kex rfl rfl <| kex rfl rfl <| K.alloc rfl .plain ?_; refine K.storeAll rfl rfl rfl rfl rfl rfl .plain ?_; refine kas rfl <| RunK.nil <| rgA ?_; refine LWP.seq <| LWP.seq <| rgN <| kmv rfl <| K.not rfl rfl .plain <| RunK.nil <| LWP.condT rfl ?_; refine LWP.seq <| rgN <| K.build rfl rfl (by exact rfl) (by exact nl3 rfl rfl rfl rfl) .plain ?_; refine K.storeAll rfl rfl rfl rfl rfl rfl .plain ?_; refine kas rfl <| RunK.nil <| LWP.ret ?_)
    exact ⟨[_, _], ⟨⟨_, _, rfl, rfl, rfl, .inl ⟨AggT.h, rfl⟩⟩, rfl, trivial⟩, rfl⟩
  · have ht := times_spec X (mg x) (mg y) (mg_in2 hx) (mg_in2 hy) (by omega)
    by_cases hbig : mg x * mg y < 340282366920938463463374607431768211456
    · have ht' := ht true (decide_eq_true hbig)
      have e : mg x * mg y % 340282366920938463463374607431768211456 = mg x * mg y := by omega
      rw [e] at ht'
      by_cases hfit : mg x * mg y < 170141183460469231731687303715884105728
      · rw [addR_in (hrange.2 hfit), ← tup_q hp0 hz]
        have hb := bounded_ok X (decide (x < 0) != decide (y < 0)) (mg x * mg y) ⟨hp0, hfit⟩ _ rfl
        refine PSpec.intro Tryz.func72 rfl (by kernel_rfl) rfl rfl ?_
        intro C
        (refine LWP.seq <| rgN <| K.box rfl rfl rfl .plain <| K.box rfl rfl rfl .plain <| K.alloc rfl .plain ?_; refine kas rfl <| RunK.nil <| LWP.seq <| LWP.seq <| rgN <| K.loadAll rfl rfl rfl .plain ?_; refine K.loadAll rfl rfl rfl .plain ?_; refine kca rfl rfl (hB) <| K.not rfl rfl .plain <| RunK.nil <| LWP.condF rfl ?_; refine LWP.skip ?_; refine LWP.seq <| rgD mixed <| K.loadAll rfl rfl rfl .plain ?_; refine kca rfl rfl (sizeOf_spec _ _ _ _) <| K.loadAll rfl rfl rfl .plain ?_; refine kca rfl rfl (sizeOf_spec _ _ _ _) <| kca rfl rfl (ht') <| kmv rfl <| kex rfl rfl <| kex rfl rfl <| K.alloc rfl .plain ?_; refine K.storeAll rfl rfl rfl rfl rfl rfl .plain ?_; refine kas rfl <| RunK.nil <| rgA ?_; refine LWP.seq <| LWP.seq <| rgN <| kmv rfl <| K.not rfl rfl .plain <| RunK.nil <| LWP.condF rfl ?_; refine LWP.skip ?_; refine LWP.seq <| rgN <| kfa rfl rfl ?_; refine kl1 rfl rfl rfl <| kfa rfl rfl ?_; refine kl1 rfl rfl rfl <| K.neqB rfl rfl rfl .plain <| K.loadAll rfl rfl rfl .plain ?_; refine kca rfl rfl (hb) <| kex rfl rfl <| kex rfl rfl <| K.storeAll rfl rfl rfl rfl rfl rfl .plain ?_; refine kas rfl <| RunK.nil <| LWP.ret ?_)
        exact ⟨[_, _], ⟨⟨_, _, rfl, rfl, rfl, .inl ⟨AggT.h, rfl⟩⟩, rfl, trivial⟩, rfl⟩
      · rw [addR_out (by rw [hrange]; omega)]
        have hb := bounded_no X (decide (x < 0) != decide (y < 0)) (mg x * mg y) (by omega) ⟨hp0, hbig⟩
        refine PSpec.intro Tryz.func72 rfl (by kernel_rfl) rfl rfl ?_
        intro C
        (refine LWP.seq <| rgN <| K.box rfl rfl rfl .plain <| K.box rfl rfl rfl .plain <| K.alloc rfl .plain ?_; refine kas rfl <| RunK.nil <| LWP.seq <| LWP.seq <| rgN <| K.loadAll rfl rfl rfl .plain ?_; refine K.loadAll rfl rfl rfl .plain ?_; refine kca rfl rfl (hB) <| K.not rfl rfl .plain <| RunK.nil <| LWP.condF rfl ?_; refine LWP.skip ?_; refine LWP.seq <| rgD mixed <| K.loadAll rfl rfl rfl .plain ?_; refine kca rfl rfl (sizeOf_spec _ _ _ _) <| K.loadAll rfl rfl rfl .plain ?_; refine kca rfl rfl (sizeOf_spec _ _ _ _) <| kca rfl rfl (ht') <| kmv rfl <| kex rfl rfl <| kex rfl rfl <| K.alloc rfl .plain ?_; refine K.storeAll rfl rfl rfl rfl rfl rfl .plain ?_; refine kas rfl <| RunK.nil <| rgA ?_; refine LWP.seq <| LWP.seq <| rgN <| kmv rfl <| K.not rfl rfl .plain <| RunK.nil <| LWP.condF rfl ?_; refine LWP.skip ?_; refine LWP.seq <| rgN <| kfa rfl rfl ?_; refine kl1 rfl rfl rfl <| kfa rfl rfl ?_; refine kl1 rfl rfl rfl <| K.neqB rfl rfl rfl .plain <| K.loadAll rfl rfl rfl .plain ?_; refine kca rfl rfl (hb) <| kex rfl rfl <| kex rfl rfl <| K.storeAll rfl rfl rfl rfl rfl rfl .plain ?_; refine kas rfl <| RunK.nil <| LWP.ret ?_)
        exact ⟨[_, _], ⟨⟨_, _, rfl, rfl, rfl, .inl ⟨AggT.h, rfl⟩⟩, rfl, trivial⟩, rfl⟩
    · have ht' := ht false (decide_eq_false hbig)
      rw [addR_out (by rw [hrange]; omega)]
      refine PSpec.intro Tryz.func72 rfl (by kernel_rfl) rfl rfl ?_
      intro C
      (refine LWP.seq <| rgN <| K.box rfl rfl rfl .plain <| K.box rfl rfl rfl .plain <| K.alloc rfl .plain ?_; refine kas rfl <| RunK.nil <| LWP.seq <| LWP.seq <| rgN <| K.loadAll rfl rfl rfl .plain ?_; refine K.loadAll rfl rfl rfl .plain ?_; refine kca rfl rfl (hB) <| K.not rfl rfl .plain <| RunK.nil <| LWP.condF rfl ?_; refine LWP.skip ?_; refine LWP.seq <| rgD mixed <| K.loadAll rfl rfl rfl .plain ?_; refine kca rfl rfl (sizeOf_spec _ _ _ _) <| K.loadAll rfl rfl rfl .plain ?_; refine kca rfl rfl (sizeOf_spec _ _ _ _) <| kca rfl rfl (ht') <| kmv rfl <| kex rfl rfl <| kex rfl rfl <| K.alloc rfl .plain ?_; refine K.storeAll rfl rfl rfl rfl rfl rfl .plain ?_; refine kas rfl <| RunK.nil <| rgA ?_; refine LWP.seq <| LWP.seq <| rgN <| kmv rfl <| K.not rfl rfl .plain <| RunK.nil <| LWP.condT rfl ?_; refine LWP.seq <| rgN <| K.build rfl rfl (by exact rfl) (by exact nl3 rfl rfl rfl rfl) .plain ?_; refine K.storeAll rfl rfl rfl rfl rfl rfl .plain ?_; refine kas rfl <| RunK.nil <| LWP.ret ?_)
      exact ⟨[_, _], ⟨⟨_, _, rfl, rfl, rfl, .inl ⟨AggT.h, rfl⟩⟩, rfl, trivial⟩, rfl⟩
end Go.Proofs.YtnfbccfghgmfiaaGreat
end
section
namespace Go.Proofs.YtnfbccfghgmfiaaGreat
open Go Go.Lg Go.Lg.Arith
variable (X : Nat → Option Obj)
def lzOf (y : Int) : Nat := 64 - Lib.bitLen y.toNat
theorem lzOf_spec {y : Int} (hy : 0 < y ∧ y < 18446744073709551616) : lzOf y ≤ 63 ∧ 9223372036854775808 ≤ y * 2 ^ lzOf y ∧ y * 2 ^ lzOf y < 18446744073709551616 := by
  obtain ⟨n, rfl⟩ := Int.eq_ofNat_of_zero_le (Int.le_of_lt hy.1)
  have hb := Lib.bitLenAux_bounds 64 n (by have := hy.2; omega) (by have := hy.1; omega)
  have hle : Lib.bitLen n ≤ 64 := Lib.bitLen_le n 64 (by decide) (by have := hy.2; omega)
  change 1 ≤ Lib.bitLen n ∧ 2 ^ (Lib.bitLen n - 1) ≤ n ∧ n < 2 ^ Lib.bitLen n at hb
  have e : lzOf (n : Int) = 64 - Lib.bitLen n := by simp [lzOf]
  rw [e]
  generalize Lib.bitLen n = k at *
  obtain ⟨h1, h2, h3⟩ := hb
  have m1 := Nat.mul_le_mul_right (2 ^ (64 - k)) h2
  have m2 := Nat.mul_lt_mul_of_pos_right h3 (Nat.two_pow_pos (64 - k))
  rw [← Nat.pow_add, show k - 1 + (64 - k) = 63 by omega] at m1
  rw [← Nat.pow_add, show k + (64 - k) = 64 by omega] at m2
  have ec : ((n : Int) * 2 ^ (64 - k)) = ((n * 2 ^ (64 - k) : Nat) : Int) := by rw [Int.natCast_mul, Int.natCast_pow]; rfl
  rw [ec]
  exact ⟨by omega, by omega, by omega⟩
theorem lz_spec (y : Int) (hy : 0 ≤ y ∧ y < 18446744073709551616) : PSpec Tryz.prog X 128 [Ln .u64 y] (Ln .i64 (lzOf y : Nat)) := by
  refine PSpec.ofCalls (vals := [.int .u64 y]) (v := .int .i64 (lzOf y : Nat)) (by kernel_rfl) rfl rfl (fun w _ => ?_)
  refine (Tryz.bits_LeadingZeros64 y w hy.1 (by omega)).mono ?_
  rintro e w' ⟨rfl, rfl⟩
  refine ⟨?_, rfl⟩
  have hle : Lib.bitLen y.toNat ≤ 64 := Lib.bitLen_le _ 64 (by decide) (by have := hy.2; omega)
  have : ((lzOf y : Nat) : Int) = 64 - (Lib.bitLen y.toNat : Int) := by unfold lzOf; omega
  rw [this]
set_option maxHeartbeats 1000000 in
theorem Div64_spec (hi lo y : Int) (hh : 0 ≤ hi ∧ hi < y) (hl : 0 ≤ lo ∧ lo < 18446744073709551616) (hy : y < 18446744073709551616) :
    PSpec Tryz.prog X 124 [Ln .u64 hi, Ln .u64 lo, Ln .u64 y] (.tup [Sn .u64 ((hi * 18446744073709551616 + lo) / y), Sn .u64 ((hi * 18446744073709551616 + lo) % y)]) := by
  have hlz := lz_spec X y (by omega)
  obtain ⟨hs, hY1, hY2⟩ := lzOf_spec (y := y) (by omega)
  generalize lzOf y = s at hlz hs hY1 hY2
  have hE : (0 : Int) < 2 ^ s := Int.pow_pos (by decide)
  have hF : (0 : Int) < 2 ^ (64 - s) := Int.pow_pos (by decide)
  have hEF := pow_split (s := s) (by omega)
  have hsh := shift2 (hi := hi) (lo := lo) hE hF hEF hl.1
  have hsc := scale (N := hi * 18446744073709551616 + lo) (y := y) hE (by omega)
  have hlo2 : 0 ≤ lo / 2 ^ (64 - s) ∧ lo / 2 ^ (64 - s) < 2 ^ s := by
    refine ⟨Int.ediv_nonneg hl.1 (Int.le_of_lt hF), ?_⟩
    rw [Int.ediv_lt_iff_lt_mul hF, hEF]; exact hl.2
  have hhi2 : 0 ≤ hi ∧ hi * 2 ^ s < 18446744073709551616 := by
    refine ⟨hh.1, ?_⟩
    have := Int.mul_le_mul_of_nonneg_right (Int.le_of_lt hh.2) (Int.le_of_lt hE)
    omega
  have hhi3 : 0 ≤ hi * 2 ^ s := Int.mul_nonneg hh.1 (Int.le_of_lt hE)
  obtain ⟨Y, hY⟩ : ∃ Y, y * 2 ^ s = Y := ⟨_, rfl⟩
  obtain ⟨U, hU⟩ : ∃ U, hi * 2 ^ s + lo / 2 ^ (64 - s) = U := ⟨_, rfl⟩
  obtain ⟨V, hV⟩ : ∃ V, lo * 2 ^ s % 18446744073709551616 = V := ⟨_, rfl⟩
  have hV0 : 0 ≤ V ∧ V < 18446744073709551616 := by omega
  have hUY : U < Y := by
    have h1 : (hi * 18446744073709551616 + lo) * 2 ^ s < (y * 18446744073709551616) * 2 ^ s := Int.mul_lt_mul_of_pos_right (by omega) hE
    rw [Int.mul_right_comm] at h1
    rw [hY] at h1
    rw [hsh, hU, hV] at h1
    omega
  have hU0 : 0 ≤ U := by omega
  rw [hsh, hU, hV, hY] at hsc
  rw [hY] at hY1 hY2
  have ka1 : KArg (Y / 4294967296) (Y % 4294967296) U (V / 4294967296) := ⟨by omega, by omega, by omega, by omega⟩
  have eY : Y / 4294967296 * 4294967296 + Y % 4294967296 = Y := by omega
  have ks1 := k_start ka1
  have kq1 : ∀ q r, KInv (Y / 4294967296) (Y % 4294967296) U (V / 4294967296) q r → q * Y ≤ U * 4294967296 + V / 4294967296 → q = (U * 4294967296 + V / 4294967296) / Y ∧ U * 4294967296 + V / 4294967296 - q * Y = (U * 4294967296 + V / 4294967296) % Y := by
    intro q r k he
    have := k_quo ka1 k (by rw [eY]; exact he)
    rw [eY] at this
    exact this
  refine PSpec.intro Tryz.func124 rfl (by kernel_rfl) rfl rfl ?_
  intro C
  by_cases hz : hi = 0
  · subst hz
    (refine LWP.seq <| rgN <| kas rfl <| kas rfl <| RunK.nil <| LWP.seq <| LWP.seq <| rgN <| kmv rfl <| keq rfl rfl (beq_eq_false_iff_ne.2 (by omega)) <| RunK.nil <| LWP.condF rfl ?_; refine LWP.skip ?_; refine LWP.seq <| LWP.seq <| rgN <| kmv rfl <| kmv rfl <| K.leq rfl rfl (decide_eq_false (by omega)) .plain <| RunK.nil <| LWP.condF rfl ?_; refine LWP.skip ?_; refine LWP.seq <| LWP.seq <| rgN <| kmv rfl <| keq rfl rfl (beq_iff_eq.2 (by omega)) <| RunK.nil <| LWP.condT rfl ?_; refine LWP.seq <| rgD mixed <| kmv rfl <| kmv rfl <| K.quo rfl rfl (by omega) (quo_u64 (by omega) (by omega)) .plain <| kmv rfl <| kmv rfl <| K.rem rfl rfl (by omega) (rem_pos (by omega)) .plain <| kas rfl <| kas rfl <| RunK.nil <| rgA ?_; refine LWP.ret ?_)
    exact ⟨[_, _], ⟨rfl, rfl, trivial⟩, by simp [resOf]⟩
  · have hm1 : 0 ≤ U / (Y / 4294967296) * (Y / 4294967296) ∧ U / (Y / 4294967296) * (Y / 4294967296) ≤ U := by have := ks1.r0; have := ks1.eq; exact ⟨Int.mul_nonneg ks1.q0 (by omega), by omega⟩
    (refine LWP.seq <| rgN <| kas rfl <| kas rfl <| RunK.nil <| LWP.seq <| LWP.seq <| rgN <| kmv rfl <| keq rfl rfl (beq_eq_false_iff_ne.2 (by omega)) <| RunK.nil <| LWP.condF rfl ?_; refine LWP.skip ?_; refine LWP.seq <| LWP.seq <| rgN <| kmv rfl <| kmv rfl <| K.leq rfl rfl (decide_eq_false (by omega)) .plain <| RunK.nil <| LWP.condF rfl ?_; refine LWP.skip ?_; refine LWP.seq <| LWP.seq <| rgN <| kmv rfl <| keq rfl rfl (beq_eq_false_iff_ne.2 (by omega)) <| RunK.nil <| LWP.condF rfl ?_; refine LWP.skip ?_; refine LWP.seq <| rgN <| kmv rfl <| kca rfl rfl (hlz) <| kcv rfl (by exact wrap_u64 (by omega)) ?_; refine kas rfl <| RunK.nil <| LWP.seq <| rgN <| kmv rfl <| kmv rfl <| K.shl rfl rfl (by omega) (shl_s (by omega) hY (by omega)) .plain <| kas rfl <| RunK.nil <| LWP.seq <| rgN <| kmv rfl <| K.shr rfl rfl (by omega) (shr_32 _) .plain <| kas rfl ?_; refine RunK.nil <| LWP.seq <| rgN <| kmv rfl <| K.bitop (by simp) rfl rfl (and_32 (by omega)) .plain <| kas rfl <| RunK.nil <| LWP.seq <| rgN <| kmv rfl <| kmv rfl <| K.shl rfl rfl (by omega) (shl_s (by omega) rfl ⟨hhi3, hhi2.2⟩) .plain <| kmv rfl <| kmv rfl ?_; refine K.sub rfl rfl (wrap_u64 (by omega)) .plain <| K.shr rfl rfl (by omega) (shr_64s (by omega)) .plain <| K.bitop (by simp) rfl rfl (or_apart' (by omega) hhi2 hlo2 hU) .plain <| kas rfl <| RunK.nil <| LWP.seq <| rgN <| kmv rfl <| kmv rfl <| K.shl rfl rfl (by omega) ((shl_mod (by omega)).trans hV) .plain <| kas rfl <| RunK.nil <| LWP.seq <| rgN ?_; refine kmv rfl <| K.shr rfl rfl (by omega) (shr_32 _) .plain <| kas rfl <| RunK.nil <| LWP.seq <| rgN <| kmv rfl <| K.bitop (by simp) rfl rfl (and_32 (by omega)) .plain <| kas rfl <| RunK.nil <| LWP.seq <| rgN <| kmv rfl <| kmv rfl ?_; refine K.quo rfl rfl (by omega) (quo_u64 (by omega) (by omega)) .plain <| kas rfl <| RunK.nil <| LWP.seq <| rgN <| kmv rfl <| kmv rfl <| kmv rfl <| K.mul rfl rfl (wrap_u64 (by omega)) .plain <| K.sub rfl rfl (wrap_u64 (by omega)) .plain <| kas rfl <| RunK.nil <| LWP.seq <| LWP.block ?_)
    have hy1 : U - U / (Y / 4294967296) * (Y / 4294967296) < Y / 4294967296 := by
      have h2 := Int.emod_add_mul_ediv U (Y / 4294967296)
      have h3 := Int.emod_lt_of_pos U (show 0 < Y / 4294967296 by omega)
      rw [Int.mul_comm] at h2
      omega
    refine LWP.meet (fun σ => ∃ q r : Int, q = (U * 4294967296 + V / 4294967296) / Y ∧ σ = ⟨[(2, Ln .u64 Y), (8, Ln .u64 s), (9, Ln .u64 (Y / 4294967296)), (10, Ln .u64 (Y % 4294967296)), (11, Ln .u64 U), (13, Ln .u64 (V / 4294967296)), (14, Ln .u64 (V % 4294967296)), (15, Ln .u64 q), (16, Ln .u64 r)], [], X⟩) ?_ ?_
    · refine LWP.loop (fun m σ => ∃ q r : Int, KInv (Y / 4294967296) (Y % 4294967296) U (V / 4294967296) q r ∧ r < 4294967296 ∧ m = q.toNat ∧ σ = ⟨[(2, Ln .u64 Y), (8, Ln .u64 s), (9, Ln .u64 (Y / 4294967296)), (10, Ln .u64 (Y % 4294967296)), (11, Ln .u64 U), (13, Ln .u64 (V / 4294967296)), (14, Ln .u64 (V % 4294967296)), (15, Ln .u64 q), (16, Ln .u64 r)], [], X⟩) (U / (Y / 4294967296)).toNat
        ⟨_, Le.of (by exact ⟨rfl, rfl, rfl, rfl, rfl, rfl, rfl, rfl, rfl, trivial⟩) (by exact trivial) (by exact rfl) (by exact rfl) (by exact rfl), _, _, ks1, by omega, rfl, rfl⟩ ?_
      rintro m σ ⟨q, r, k, hr, rfl, rfl⟩
      have hq0 := k.q0
      have hr0 := k.r0
      have hqU : q ≤ U := by
        have := k.eq
        have := Int.mul_le_mul_of_nonneg_left (show (1 : Int) ≤ Y / 4294967296 by omega) hq0
        omega
      have next : ∀ q' r', KInv (Y / 4294967296) (Y % 4294967296) U (V / 4294967296) q' r' → 4294967296 ≤ r' → q' = (U * 4294967296 + V / 4294967296) / Y := fun q' r' k' h' => (kq1 q' r' k' (by have := k_break ka1 k' h'; rwa [eY] at this)).1
      by_cases hq : 4294967296 ≤ q
      · have k' := k_big ka1 k hq
        have hrn := next _ _ k'
        by_cases hr2 : 4294967296 ≤ r + Y / 4294967296
        · (refine LWP.seq <| LWP.seq <| rgN <| kmv rfl <| K.geq rfl rfl (decide_eq_true (by omega)) .plain <| kmv rfl <| RunK.passed rfl rfl rfl <| RunK.passed rfl rfl rfl <| RunK.passed rfl rfl rfl <| RunK.passed rfl rfl rfl <| RunK.passed rfl rfl rfl <| RunK.passed rfl rfl rfl <| RunK.passed rfl rfl rfl <| RunK.passed rfl rfl rfl ?_; refine kpt rfl rfl <| RunK.nil <| LWP.condT rfl ?_; refine LWP.skip ?_; refine LWP.block <| LWP.seq <| rgN <| kmv rfl <| K.sub rfl rfl (wrap_u64 (by omega)) .plain <| kas rfl <| RunK.nil <| LWP.seq <| rgN <| kmv rfl <| kmv rfl <| kad rfl rfl (wrap_u64 (by omega)) <| kas rfl <| RunK.nil ?_; refine LWP.seq <| rgN <| kmv rfl <| K.geq rfl rfl (decide_eq_true (by omega)) .plain <| RunK.nil <| LWP.condT rfl ?_; refine LWP.exit ?_)
          exact ⟨_, Le.of (by exact ⟨rfl, rfl, rfl, rfl, rfl, rfl, rfl, rfl, rfl, trivial⟩) (by exact trivial) (by exact rfl) (by exact rfl) (by exact rfl), _, _, hrn hr2, rfl⟩
        · (refine LWP.seq <| LWP.seq <| rgN <| kmv rfl <| K.geq rfl rfl (decide_eq_true (by omega)) .plain <| kmv rfl <| RunK.passed rfl rfl rfl <| RunK.passed rfl rfl rfl <| RunK.passed rfl rfl rfl <| RunK.passed rfl rfl rfl <| RunK.passed rfl rfl rfl <| RunK.passed rfl rfl rfl <| RunK.passed rfl rfl rfl <| RunK.passed rfl rfl rfl ?_; refine kpt rfl rfl <| RunK.nil <| LWP.condT rfl ?_; refine LWP.skip ?_; refine LWP.block <| LWP.seq <| rgN <| kmv rfl <| K.sub rfl rfl (wrap_u64 (by omega)) .plain <| kas rfl <| RunK.nil <| LWP.seq <| rgN <| kmv rfl <| kmv rfl <| kad rfl rfl (wrap_u64 (by omega)) <| kas rfl <| RunK.nil ?_; refine LWP.seq <| rgN <| kmv rfl <| K.geq rfl rfl (decide_eq_false (by omega)) .plain <| RunK.nil <| LWP.condF rfl ?_; refine LWP.skip ?_)
          exact ⟨_, _, by omega, Le.of (by exact ⟨rfl, rfl, rfl, rfl, rfl, rfl, rfl, rfl, rfl, trivial⟩) (by exact trivial) (by exact rfl) (by exact rfl) (by exact rfl), _, _, k', by omega, rfl, rfl⟩
      · have hqy := mul_bound (a := q) (b := Y % 4294967296) (A := 4294967295) (B := 4294967295) ⟨hq0, by omega⟩ ⟨by omega, by omega⟩
        by_cases hb : 4294967296 * r + V / 4294967296 < q * (Y % 4294967296)
        · have k' := k_high ka1 k hb
          have hrn := next _ _ k'
          have hq1 : 1 ≤ q := by have := k'.q0; omega
          by_cases hr2 : 4294967296 ≤ r + Y / 4294967296
          · (refine LWP.seq <| LWP.seq <| rgN <| kmv rfl <| K.geq rfl rfl (decide_eq_false (by omega)) .plain <| kmv rfl <| gmv rfl rfl rfl <| gmv rfl rfl rfl <| K.mul rfl rfl (wrap_u64 (by omega)) (.taken rfl rfl) ?_; refine gmv rfl rfl rfl <| K.mul rfl rfl (wrap_u64 (by omega)) (.taken rfl rfl) ?_; refine gmv rfl rfl rfl <| K.add rfl rfl (wrap_u64 (by omega)) (.taken rfl rfl) ?_; refine K.gtr rfl rfl (decide_eq_true (by omega)) (.taken rfl rfl) ?_; refine kpf rfl rfl <| RunK.nil <| LWP.condT rfl ?_; refine LWP.skip ?_; refine LWP.block <| LWP.seq <| rgN <| kmv rfl <| K.sub rfl rfl (wrap_u64 (by omega)) .plain <| kas rfl <| RunK.nil <| LWP.seq <| rgN <| kmv rfl <| kmv rfl <| kad rfl rfl (wrap_u64 (by omega)) <| kas rfl <| RunK.nil ?_; refine LWP.seq <| rgN <| kmv rfl <| K.geq rfl rfl (decide_eq_true (by omega)) .plain <| RunK.nil <| LWP.condT rfl ?_; refine LWP.exit ?_)
            exact ⟨_, Le.of (by exact ⟨rfl, rfl, rfl, rfl, rfl, rfl, rfl, rfl, rfl, trivial⟩) (by exact trivial) (by exact rfl) (by exact rfl) (by exact rfl), _, _, hrn hr2, rfl⟩
          · (refine LWP.seq <| LWP.seq <| rgN <| kmv rfl <| K.geq rfl rfl (decide_eq_false (by omega)) .plain <| kmv rfl <| gmv rfl rfl rfl <| gmv rfl rfl rfl <| K.mul rfl rfl (wrap_u64 (by omega)) (.taken rfl rfl) ?_; refine gmv rfl rfl rfl <| K.mul rfl rfl (wrap_u64 (by omega)) (.taken rfl rfl) ?_; refine gmv rfl rfl rfl <| K.add rfl rfl (wrap_u64 (by omega)) (.taken rfl rfl) ?_; refine K.gtr rfl rfl (decide_eq_true (by omega)) (.taken rfl rfl) ?_; refine kpf rfl rfl <| RunK.nil <| LWP.condT rfl ?_; refine LWP.skip ?_; refine LWP.block <| LWP.seq <| rgN <| kmv rfl <| K.sub rfl rfl (wrap_u64 (by omega)) .plain <| kas rfl <| RunK.nil <| LWP.seq <| rgN <| kmv rfl <| kmv rfl <| kad rfl rfl (wrap_u64 (by omega)) <| kas rfl <| RunK.nil ?_; refine LWP.seq <| rgN <| kmv rfl <| K.geq rfl rfl (decide_eq_false (by omega)) .plain <| RunK.nil <| LWP.condF rfl ?_; refine LWP.skip ?_)
            exact ⟨_, _, by omega, Le.of (by exact ⟨rfl, rfl, rfl, rfl, rfl, rfl, rfl, rfl, rfl, trivial⟩) (by exact trivial) (by exact rfl) (by exact rfl) (by exact rfl), _, _, k', by omega, rfl, rfl⟩
        · (refine LWP.seq <| LWP.seq <| rgN <| kmv rfl <| K.geq rfl rfl (decide_eq_false (by omega)) .plain <| kmv rfl <| gmv rfl rfl rfl <| gmv rfl rfl rfl <| K.mul rfl rfl (wrap_u64 (by omega)) (.taken rfl rfl) ?_; refine gmv rfl rfl rfl <| K.mul rfl rfl (wrap_u64 (by omega)) (.taken rfl rfl) ?_; refine gmv rfl rfl rfl <| K.add rfl rfl (wrap_u64 (by omega)) (.taken rfl rfl) ?_; refine K.gtr rfl rfl (decide_eq_false (by omega)) (.taken rfl rfl) ?_; refine kpf rfl rfl <| RunK.nil <| LWP.condF rfl ?_; refine LWP.exit ?_)
          exact ⟨_, Le.of (by exact ⟨rfl, rfl, rfl, rfl, rfl, rfl, rfl, rfl, rfl, trivial⟩) (by exact trivial) (by exact rfl) (by exact rfl) (by exact rfl), _, _, (kq1 q r k (by have := k_end k (by omega); rwa [eY] at this)).1, rfl⟩
    · rintro σ ⟨q1, r1, hq1, rfl⟩
      have hYp : 0 < Y := by omega
      have hq1B := digit_lt hYp hUY (show V / 4294967296 < 4294967296 by omega) hq1
      obtain ⟨R, hR⟩ : ∃ R, (U * 4294967296 + V / 4294967296) % Y = R := ⟨_, rfl⟩
      have hR0 := Int.emod_nonneg (U * 4294967296 + V / 4294967296) (show Y ≠ 0 by omega)
      have hR1 := Int.emod_lt_of_pos (U * 4294967296 + V / 4294967296) hYp
      have hRe := Int.emod_add_mul_ediv (U * 4294967296 + V / 4294967296) Y
      rw [← hq1, Int.mul_comm Y q1] at hRe
      rw [hR] at hR0 hR1 hRe
      have hq10 : 0 ≤ q1 := by rw [hq1]; exact Int.ediv_nonneg (by omega) (by omega)
      have hsub1 : IntKind.u64.wrap (IntKind.u64.wrap (IntKind.u64.wrap (U * 4294967296) + V / 4294967296) - IntKind.u64.wrap (q1 * Y)) = R := by rw [wrap3 (by omega)]; omega
      have ka2 : KArg (Y / 4294967296) (Y % 4294967296) R (V % 4294967296) := ⟨by omega, by omega, by omega, by omega⟩
      have ks2 := k_start ka2
      have kq2 : ∀ q r, KInv (Y / 4294967296) (Y % 4294967296) R (V % 4294967296) q r → q * Y ≤ R * 4294967296 + V % 4294967296 → q = (R * 4294967296 + V % 4294967296) / Y ∧ R * 4294967296 + V % 4294967296 - q * Y = (R * 4294967296 + V % 4294967296) % Y := by
        intro q r k he
        have := k_quo ka2 k (by rw [eY]; exact he)
        rw [eY] at this
        exact this
      have hm2 : 0 ≤ R / (Y / 4294967296) * (Y / 4294967296) ∧ R / (Y / 4294967296) * (Y / 4294967296) ≤ R := by have := ks2.r0; have := ks2.eq; exact ⟨Int.mul_nonneg ks2.q0 (by omega), by omega⟩
      have hy2 : R - R / (Y / 4294967296) * (Y / 4294967296) < Y / 4294967296 := by
        have h2 := Int.emod_add_mul_ediv R (Y / 4294967296)
        have h3 := Int.emod_lt_of_pos R (show 0 < Y / 4294967296 by omega)
        rw [Int.mul_comm] at h2
        omega
      (refine LWP.seq <| rgN <| kmv rfl <| K.mul rfl rfl rfl .plain <| kmv rfl <| kad rfl rfl rfl <| kmv rfl <| kmv rfl <| K.mul rfl rfl rfl .plain <| K.sub rfl rfl hsub1 .plain <| kas rfl <| RunK.nil <| LWP.seq <| rgN ?_; refine kmv rfl <| kmv rfl <| K.quo rfl rfl (by omega) (quo_u64 (by omega) (by omega)) .plain <| kas rfl <| RunK.nil <| LWP.seq <| rgN <| kmv rfl <| kmv rfl <| kmv rfl <| K.mul rfl rfl (wrap_u64 (by omega)) .plain <| K.sub rfl rfl (wrap_u64 (by omega)) .plain <| kas rfl <| RunK.nil ?_; refine LWP.seq <| LWP.block ?_)
      refine LWP.meet (fun σ => ∃ q r : Int, q = (R * 4294967296 + V % 4294967296) / Y ∧ σ = ⟨[(2, Ln .u64 Y), (8, Ln .u64 s), (14, Ln .u64 (V % 4294967296)), (15, Ln .u64 q1), (17, Ln .u64 R), (18, Ln .u64 q), (16, Ln .u64 r)], [], X⟩) ?_ ?_
      · refine LWP.loop (fun m σ => ∃ q r : Int, KInv (Y / 4294967296) (Y % 4294967296) R (V % 4294967296) q r ∧ r < 4294967296 ∧ m = q.toNat ∧ σ = ⟨[(2, Ln .u64 Y), (8, Ln .u64 s), (9, Ln .u64 (Y / 4294967296)), (10, Ln .u64 (Y % 4294967296)), (14, Ln .u64 (V % 4294967296)), (15, Ln .u64 q1), (17, Ln .u64 R), (18, Ln .u64 q), (16, Ln .u64 r)], [], X⟩) (R / (Y / 4294967296)).toNat
          ⟨_, Le.of (by exact ⟨rfl, rfl, rfl, rfl, rfl, rfl, rfl, rfl, rfl, trivial⟩) (by exact trivial) (by exact rfl) (by exact rfl) (by exact rfl), _, _, ks2, by omega, rfl, rfl⟩ ?_
        rintro m σ ⟨q, r, k, hr, rfl, rfl⟩
        have hq0 := k.q0
        have hr0 := k.r0
        have hqU : q ≤ R := by
          have := k.eq
          have := Int.mul_le_mul_of_nonneg_left (show (1 : Int) ≤ Y / 4294967296 by omega) hq0
          omega
        have next : ∀ q' r', KInv (Y / 4294967296) (Y % 4294967296) R (V % 4294967296) q' r' → 4294967296 ≤ r' → q' = (R * 4294967296 + V % 4294967296) / Y := fun q' r' k' h' => (kq2 q' r' k' (by have := k_break ka2 k' h'; rwa [eY] at this)).1
        by_cases hq : 4294967296 ≤ q
        · have k' := k_big ka2 k hq
          have hrn := next _ _ k'
          by_cases hr2 : 4294967296 ≤ r + Y / 4294967296
          · (refine LWP.seq <| LWP.seq <| rgN <| kmv rfl <| K.geq rfl rfl (decide_eq_true (by omega)) .plain <| kmv rfl <| RunK.passed rfl rfl rfl <| RunK.passed rfl rfl rfl <| RunK.passed rfl rfl rfl <| RunK.passed rfl rfl rfl <| RunK.passed rfl rfl rfl <| RunK.passed rfl rfl rfl <| RunK.passed rfl rfl rfl <| RunK.passed rfl rfl rfl ?_; refine kpt rfl rfl <| RunK.nil <| LWP.condT rfl ?_; refine LWP.skip ?_; refine LWP.block <| LWP.seq <| rgN <| kmv rfl <| K.sub rfl rfl (wrap_u64 (by omega)) .plain <| kas rfl <| RunK.nil <| LWP.seq <| rgN <| kmv rfl <| kmv rfl <| kad rfl rfl (wrap_u64 (by omega)) <| kas rfl <| RunK.nil ?_; refine LWP.seq <| rgN <| kmv rfl <| K.geq rfl rfl (decide_eq_true (by omega)) .plain <| RunK.nil <| LWP.condT rfl ?_; refine LWP.exit ?_)
            exact ⟨_, Le.of (by exact ⟨rfl, rfl, rfl, rfl, rfl, rfl, rfl, trivial⟩) (by exact trivial) (by exact rfl) (by exact rfl) (by exact rfl), _, _, hrn hr2, rfl⟩
          · (refine LWP.seq <| LWP.seq <| rgN <| kmv rfl <| K.geq rfl rfl (decide_eq_true (by omega)) .plain <| kmv rfl <| RunK.passed rfl rfl rfl <| RunK.passed rfl rfl rfl <| RunK.passed rfl rfl rfl <| RunK.passed rfl rfl rfl <| RunK.passed rfl rfl rfl <| RunK.passed rfl rfl rfl <| RunK.passed rfl rfl rfl <| RunK.passed rfl rfl rfl ?_; refine kpt rfl rfl <| RunK.nil <| LWP.condT rfl ?_; refine LWP.skip ?_; refine LWP.block <| LWP.seq <| rgN <| kmv rfl <| K.sub rfl rfl (wrap_u64 (by omega)) .plain <| kas rfl <| RunK.nil <| LWP.seq <| rgN <| kmv rfl <| kmv rfl <| kad rfl rfl (wrap_u64 (by omega)) <| kas rfl <| RunK.nil ?_; refine LWP.seq <| rgN <| kmv rfl <| K.geq rfl rfl (decide_eq_false (by omega)) .plain <| RunK.nil <| LWP.condF rfl ?_; refine LWP.skip ?_)
            exact ⟨_, _, by omega, Le.of (by exact ⟨rfl, rfl, rfl, rfl, rfl, rfl, rfl, rfl, rfl, trivial⟩) (by exact trivial) (by exact rfl) (by exact rfl) (by exact rfl), _, _, k', by omega, rfl, rfl⟩
        · have hqy := mul_bound (a := q) (b := Y % 4294967296) (A := 4294967295) (B := 4294967295) ⟨hq0, by omega⟩ ⟨by omega, by omega⟩
          by_cases hb : 4294967296 * r + V % 4294967296 < q * (Y % 4294967296)
          · have k' := k_high ka2 k hb
            have hrn := next _ _ k'
            have hq1 : 1 ≤ q := by have := k'.q0; omega
            by_cases hr2 : 4294967296 ≤ r + Y / 4294967296
            · (refine LWP.seq <| LWP.seq <| rgN <| kmv rfl <| K.geq rfl rfl (decide_eq_false (by omega)) .plain <| kmv rfl <| gmv rfl rfl rfl <| gmv rfl rfl rfl <| K.mul rfl rfl (wrap_u64 (by omega)) (.taken rfl rfl) ?_; refine gmv rfl rfl rfl <| K.mul rfl rfl (wrap_u64 (by omega)) (.taken rfl rfl) ?_; refine gmv rfl rfl rfl <| K.add rfl rfl (wrap_u64 (by omega)) (.taken rfl rfl) ?_; refine K.gtr rfl rfl (decide_eq_true (by omega)) (.taken rfl rfl) ?_; refine kpf rfl rfl <| RunK.nil <| LWP.condT rfl ?_; refine LWP.skip ?_; refine LWP.block <| LWP.seq <| rgN <| kmv rfl <| K.sub rfl rfl (wrap_u64 (by omega)) .plain <| kas rfl <| RunK.nil <| LWP.seq <| rgN <| kmv rfl <| kmv rfl <| kad rfl rfl (wrap_u64 (by omega)) <| kas rfl <| RunK.nil ?_; refine LWP.seq <| rgN <| kmv rfl <| K.geq rfl rfl (decide_eq_true (by omega)) .plain <| RunK.nil <| LWP.condT rfl ?_; refine LWP.exit ?_)
              exact ⟨_, Le.of (by exact ⟨rfl, rfl, rfl, rfl, rfl, rfl, rfl, trivial⟩) (by exact trivial) (by exact rfl) (by exact rfl) (by exact rfl), _, _, hrn hr2, rfl⟩
            · (refine LWP.seq <| LWP.seq <| rgN <| kmv rfl <| K.geq rfl rfl (decide_eq_false (by omega)) .plain <| kmv rfl <| gmv rfl rfl rfl <| gmv rfl rfl rfl <| K.mul rfl rfl (wrap_u64 (by omega)) (.taken rfl rfl) ?_; refine gmv rfl rfl rfl <| K.mul rfl rfl (wrap_u64 (by omega)) (.taken rfl rfl) ?_; refine gmv rfl rfl rfl <| K.add rfl rfl (wrap_u64 (by omega)) (.taken rfl rfl) ?_; refine K.gtr rfl rfl (decide_eq_true (by omega)) (.taken rfl rfl) ?_; refine kpf rfl rfl <| RunK.nil <| LWP.condT rfl ?_; refine LWP.skip ?_; refine LWP.block <| LWP.seq <| rgN <| kmv rfl <| K.sub rfl rfl (wrap_u64 (by omega)) .plain <| kas rfl <| RunK.nil <| LWP.seq <| rgN <| kmv rfl <| kmv rfl <| kad rfl rfl (wrap_u64 (by omega)) <| kas rfl <| RunK.nil ?_; refine LWP.seq <| rgN <| kmv rfl <| K.geq rfl rfl (decide_eq_false (by omega)) .plain <| RunK.nil <| LWP.condF rfl ?_; refine LWP.skip ?_)
              exact ⟨_, _, by omega, Le.of (by exact ⟨rfl, rfl, rfl, rfl, rfl, rfl, rfl, rfl, rfl, trivial⟩) (by exact trivial) (by exact rfl) (by exact rfl) (by exact rfl), _, _, k', by omega, rfl, rfl⟩
          · (refine LWP.seq <| LWP.seq <| rgN <| kmv rfl <| K.geq rfl rfl (decide_eq_false (by omega)) .plain <| kmv rfl <| gmv rfl rfl rfl <| gmv rfl rfl rfl <| K.mul rfl rfl (wrap_u64 (by omega)) (.taken rfl rfl) ?_; refine gmv rfl rfl rfl <| K.mul rfl rfl (wrap_u64 (by omega)) (.taken rfl rfl) ?_; refine gmv rfl rfl rfl <| K.add rfl rfl (wrap_u64 (by omega)) (.taken rfl rfl) ?_; refine K.gtr rfl rfl (decide_eq_false (by omega)) (.taken rfl rfl) ?_; refine kpf rfl rfl <| RunK.nil <| LWP.condF rfl ?_; refine LWP.exit ?_)
            exact ⟨_, Le.of (by exact ⟨rfl, rfl, rfl, rfl, rfl, rfl, rfl, trivial⟩) (by exact trivial) (by exact rfl) (by exact rfl) (by exact rfl), _, _, (kq2 q r k (by have := k_end k (by omega); rwa [eY] at this)).1, rfl⟩
      · rintro σ ⟨q2, r2, hq2, rfl⟩
        have hend := quo_end hYp hq1 hR.symm hq2
        have hq2B := digit_lt hYp hR1 (show V % 4294967296 < 4294967296 by omega) hq2
        have hq20 : 0 ≤ q2 := by rw [hq2]; exact Int.ediv_nonneg (by omega) (by omega)
        obtain ⟨T, hT⟩ : ∃ T, (R * 4294967296 + V % 4294967296) % Y = T := ⟨_, rfl⟩
        have hT0 := Int.emod_nonneg (R * 4294967296 + V % 4294967296) (show Y ≠ 0 by omega)
        have hT1 := Int.emod_lt_of_pos (R * 4294967296 + V % 4294967296) hYp
        have hTe := Int.emod_add_mul_ediv (R * 4294967296 + V % 4294967296) Y
        rw [← hq2, Int.mul_comm Y q2] at hTe
        rw [hT] at hT0 hT1 hTe hend
        have hsub2 : IntKind.u64.wrap (IntKind.u64.wrap (IntKind.u64.wrap (R * 4294967296) + V % 4294967296) - IntKind.u64.wrap (q2 * Y)) = T := by rw [wrap3 (by omega)]; omega
        (refine LWP.seq <| rgN <| kmv rfl <| K.mul rfl rfl (wrap_u64 (by omega)) .plain <| kmv rfl <| kad rfl rfl (wrap_u64 (by omega)) <| kmv rfl <| K.mul rfl rfl rfl .plain <| kmv rfl <| kad rfl rfl rfl <| kmv rfl <| kmv rfl <| K.mul rfl rfl rfl .plain <| K.sub rfl rfl hsub2 .plain ?_; refine kmv rfl <| K.shr rfl rfl (by omega) (shr_s (by omega)) .plain <| kas rfl <| kas rfl <| RunK.nil <| LWP.ret ?_)
        rw [← hsc.1, ← hsc.2, ← hend.1, ← hend.2]
        exact ⟨[_, _], ⟨rfl, rfl, trivial⟩, rfl⟩
end Go.Proofs.YtnfbccfghgmfiaaGreat
end
section
namespace Go.Proofs.YtnfbccfghgmfiaaGreat
open Go Go.Lg Go.Lg.Arith
variable (X : Nat → Option Obj)
theorem LZ_word {g : Int} (h : 0 ≤ g ∧ g < 18446744073709551616) : LZ g = Lz 0 g := by
  unfold LZ
  rw [show g / 18446744073709551616 = 0 by omega, show g % 18446744073709551616 = g by omega]
set_option maxHeartbeats 1000000 in
theorem divideLong_spec (M N : Int) (hM : Lim M) (hN : 18446744073709551616 ≤ N ∧ N < 170141183460469231731687303715884105728) :
    PSpec Tryz.prog X 123 [LZ M, LZ N] (.tup [SZ (M / N), SZ (M % N)]) := by
  obtain ⟨hM0, hM1⟩ := hM
  obtain ⟨H, hH⟩ : ∃ H, N / 18446744073709551616 = H := ⟨_, rfl⟩
  obtain ⟨l, hl⟩ : ∃ l, N % 18446744073709551616 = l := ⟨_, rfl⟩
  have hH1 : 0 < H ∧ H < 9223372036854775808 := by omega
  have hl1 : 0 ≤ l ∧ l < 18446744073709551616 := by omega
  have hlz := lz_spec X H (by omega)
  obtain ⟨hs, hY1, hY2⟩ := lzOf_spec (y := H) (by omega)
  generalize lzOf H = s at hlz hs hY1 hY2
  have hs1 : 1 ≤ s := by
    rcases Nat.eq_zero_or_pos s with h | h
    · subst h; simp at hY1; omega
    · exact h
  have hE : (0 : Int) < 2 ^ s := Int.pow_pos (by decide)
  have hF : (0 : Int) < 2 ^ (64 - s) := Int.pow_pos (by decide)
  have hEF := pow_split (s := s) (by omega)
  have hF2 : (2 : Int) ≤ 2 ^ (64 - s) := by
    rw [show 64 - s = (63 - s) + 1 by omega, Int.pow_succ]
    have : (0 : Int) < 2 ^ (63 - s) := Int.pow_pos (by decide)
    omega
  have hlo2 : 0 ≤ l / 2 ^ (64 - s) ∧ l / 2 ^ (64 - s) < 2 ^ s := by
    refine ⟨Int.ediv_nonneg hl1.1 (Int.le_of_lt hF), ?_⟩
    rw [Int.ediv_lt_iff_lt_mul hF, hEF]; exact hl1.2
  have hH2 : 0 ≤ H * 2 ^ s := Int.mul_nonneg (by omega) (Int.le_of_lt hE)
  obtain ⟨L, hL⟩ : ∃ L, H * 2 ^ s + l / 2 ^ (64 - s) = L := ⟨_, rfl⟩
  have hLW : L < 18446744073709551616 := by
    have h1 : H < 2 ^ (64 - s) := by
      rcases Int.lt_or_le H (2 ^ (64 - s)) with h | h
      · exact h
      · have := Int.mul_le_mul_of_nonneg_right h (Int.le_of_lt hE)
        rw [Int.mul_comm ((2 : Int) ^ (64 - s)), hEF] at this
        omega
    have h2 := Int.mul_le_mul_of_nonneg_right (show H ≤ 2 ^ (64 - s) - 1 by omega) (Int.le_of_lt hE)
    rw [Int.sub_mul, Int.one_mul, Int.mul_comm ((2 : Int) ^ (64 - s)), hEF] at h2
    omega
  have hNL : ∃ r0, N = L * 2 ^ (64 - s) + r0 ∧ 0 ≤ r0 ∧ r0 < 2 ^ (64 - s) := by
    have h1 := Int.emod_add_mul_ediv l (2 ^ (64 - s))
    have h2 := Int.emod_nonneg l (show (2 : Int) ^ (64 - s) ≠ 0 by omega)
    have h3 := Int.emod_lt_of_pos l hF
    refine ⟨l % 2 ^ (64 - s), ?_, h2, h3⟩
    have h4 : H * 2 ^ s * 2 ^ (64 - s) = H * 18446744073709551616 := by rw [Int.mul_assoc, hEF]
    rw [← hL, Int.add_mul, h4, Int.mul_comm (l / 2 ^ (64 - s))]
    omega
  obtain ⟨r0, hNL, hr0⟩ := hNL
  obtain ⟨g, hg⟩ : ∃ g, M / (L * 2 ^ (64 - s)) = g := ⟨_, rfl⟩
  obtain ⟨hg0, hgz, hgp⟩ := long_guess (M := M) (N := N) ⟨hM0, hM1⟩ (show 9223372036854775808 ≤ L by omega) hF2 hNL hr0 hg.symm
  have hd3 := div3 (M := M) (L := L) (P := 2 ^ (64 - s)) (s := s) hs rfl (by omega)
  rw [hg] at hd3
  have hNne : 0 < N := by omega
  have hq0 := Int.emod_nonneg M (show N ≠ 0 by omega)
  have hq1 := Int.emod_lt_of_pos M hNne
  have hq2 := Int.emod_add_mul_ediv M N
  have hqq : 0 ≤ M / N := Int.ediv_nonneg hM0 (by omega)
  have hqW : M / N < 18446744073709551616 := by
    rw [Int.ediv_lt_iff_lt_mul hNne]; omega
  have hgW : g < 18446744073709551617 := by
    rcases Int.lt_or_le g 18446744073709551617 with h | h
    · exact h
    · have h1 := (hgp (by omega)).1
      have := Int.mul_le_mul (show (18446744073709551616 : Int) ≤ g - 1 by omega) hN.1 (by decide) (by omega)
      omega
  have hLZl : LZ N = Lz H l := by unfold LZ; rw [hH, hl]
  have hor2 : M / 18446744073709551616 % 2 * 2 ^ 63 + M % 18446744073709551616 / 2 = M / 2 % 18446744073709551616 := by
    show M / 18446744073709551616 % 2 * 9223372036854775808 + M % 18446744073709551616 / 2 = _
    omega
  have hdiv := Div64_spec X (M / 18446744073709551616 / 2) (M / 2 % 18446744073709551616) L (by omega) (by omega) hLW
  rw [show M / 18446744073709551616 / 2 * 18446744073709551616 + M / 2 % 18446744073709551616 = M / 2 by omega] at hdiv
  have hMz : 0 ≤ M / 2 / L := Int.ediv_nonneg (by omega) (by omega)
  have hcall := compare_spec X
  rw [hLZl]
  refine PSpec.intro Tryz.func123 rfl (by kernel_rfl) rfl rfl ?_
  intro C
  by_cases hg00 : g = 0
  · have hMN := hgz hg00
    subst hg00
    have e1 : M / N = 0 := Int.ediv_eq_zero_of_lt hM0 hMN
    have e2 : M % N = M := Int.emod_eq_of_lt hM0 hMN
    rw [e1, e2]
    have ht := times_spec X N 0 ⟨by omega, by omega⟩ ⟨by omega, by omega⟩ (by omega) true (by simp)
    rw [LZ_word (g := 0) (by omega), Int.mul_zero, hLZl] at ht
    have hmi := minus_spec X M 0 ⟨by omega, by omega⟩ ⟨by omega, by omega⟩ hM0
    rw [Int.sub_zero] at hmi
    have hcm := compare_spec X M N (-1) (by simp [cmpI, hMN])
    rw [hLZl] at hcm
    ((refine LWP.seq <| rgN <| K.box rfl rfl rfl .plain <| K.box rfl rfl rfl .plain <| K.alloc rfl .plain ?_; refine K.alloc rfl .plain ?_; refine RunK.nil <| LWP.seq <| rgN <| kfa rfl rfl ?_; refine kl1 rfl rfl rfl <| kca rfl rfl (hlz) <| kcv rfl (by exact wrap_u64 (by omega)) ?_; refine kas rfl <| RunK.nil <| LWP.seq <| rgN <| kfa rfl rfl ?_; refine kl1 rfl rfl rfl <| kmv rfl <| K.shl rfl rfl (by omega) (shl_s (by omega) rfl ⟨hH2, hY2⟩) .plain <| kfa rfl rfl ?_; refine kl1 rfl rfl rfl <| kmv rfl <| K.sub rfl rfl (wrap_u64 (by omega)) .plain <| K.shr rfl rfl (by omega) (shr_64s (by omega)) .plain <| K.bitop (by simp) rfl rfl (or_apart' (by omega) ⟨by omega, hY2⟩ hlo2 hL) .plain <| kas rfl <| RunK.nil <| LWP.seq <| rgN <| kfa rfl rfl ?_; refine kl1 rfl rfl rfl <| K.shr rfl rfl (by omega) (shr_1 _) .plain <| kfa rfl rfl ?_; refine kl1 rfl rfl rfl <| K.shl rfl rfl (by omega) (shl_63 _) .plain <| kfa rfl rfl ?_; refine kl1 rfl rfl rfl <| K.shr rfl rfl (by omega) (shr_1 _) .plain <| K.bitop (by simp) rfl rfl (or_apart' (by decide) (by omega) (by omega) hor2) .plain <| kmv rfl <| kca rfl rfl (hdiv) <| kmv rfl <| kex rfl rfl <| kex rfl rfl <| kas rfl <| kas rfl <| RunK.nil <| LWP.seq <| rgN <| kmv rfl ?_; refine kmv rfl <| K.sub rfl rfl (wrap_u64 (by omega)) .plain <| K.shr rfl rfl (by omega) ((shr_63s hs).trans hd3) .plain <| kas rfl <| RunK.nil <| LWP.seq <| LWP.seq <| rgN <| kmv rfl <| kne rfl rfl ((bne_eq_false_iff_eq.2 (by omega))) <| RunK.nil <| LWP.condF rfl ?_; refine LWP.skip ?_); (refine LWP.seq <| rgN <| K.loadAll rfl rfl rfl .plain ?_; refine kmv rfl <| K.build rfl rfl (by exact rfl) (by exact nl2 rfl rfl rfl) .plain ?_; refine kca rfl rfl (ht) <| kmv rfl <| kex rfl rfl <| kex rfl rfl <| K.alloc rfl .plain ?_; refine K.storeAll rfl rfl rfl rfl rfl rfl .plain ?_; refine kas rfl <| RunK.nil <| LWP.seq <| rgN <| K.loadAll rfl rfl rfl .plain ?_; refine K.loadAll rfl rfl rfl .plain ?_; refine kca rfl rfl (hmi) <| K.alloc rfl .plain ?_; refine K.storeAll rfl rfl rfl rfl rfl rfl .plain ?_; refine RunK.nil <| LWP.seq <| LWP.seq <| rgN <| K.loadAll rfl rfl rfl .plain ?_; refine K.loadAll rfl rfl rfl .plain ?_; refine kca rfl rfl (hcm) <| K.geq rfl rfl (decide_eq_false (by omega)) .plain <| RunK.nil <| LWP.condF rfl ?_; refine LWP.skip ?_); (refine LWP.seq <| rgD mixed <| kmv rfl <| K.build rfl rfl (by exact rfl) (by exact nl2 rfl rfl rfl) .plain ?_; refine K.loadAll rfl rfl rfl .plain ?_; refine K.storeAll rfl rfl rfl rfl rfl rfl .plain ?_; refine K.storeAll rfl rfl rfl rfl rfl rfl .plain ?_; refine RunK.nil <| rgA ?_; refine LWP.ret ?_))
    exact ⟨[_, _], ⟨⟨_, _, rfl, rfl, rfl, .inl ⟨AggT.h, rfl⟩⟩, ⟨_, _, rfl, rfl, rfl, .inl ⟨AggT.h, rfl⟩⟩, trivial⟩, rfl⟩
  · obtain ⟨h1, h2⟩ := hgp hg00
    obtain ⟨G, hG⟩ : ∃ G, g - 1 = G := ⟨_, rfl⟩
    rw [hG] at h1 h2
    have hGN : 0 ≤ G * N := Int.mul_nonneg (by omega) (by omega)
    have ht := times_spec X N G ⟨by omega, by omega⟩ ⟨by omega, by omega⟩ (by omega) true (decide_eq_true (by rw [Int.mul_comm]; omega))
    rw [LZ_word (g := G) (by omega), Int.mul_comm N G, show G * N % 340282366920938463463374607431768211456 = G * N by omega, hLZl] at ht
    have hmi := minus_spec X M (G * N) ⟨by omega, by omega⟩ ⟨by omega, by omega⟩ h1
    have huse : ∀ q : Int, q * N ≤ M → M < q * N + N → M / N = q ∧ M % N = M - q * N := by
      intro q a b
      have e : M / N = q := by rw [Int.ediv_eq_iff_of_pos hNne]; exact ⟨a, b⟩
      rw [e, Int.mul_comm] at hq2
      exact ⟨e, by omega⟩
    by_cases hlt : M - G * N < N
    · obtain ⟨e1, e2⟩ := huse G h1 (by omega)
      rw [e1, e2]
      have hcm := compare_spec X (M - G * N) N (-1) (by simp [cmpI, hlt])
      rw [hLZl] at hcm
      ((refine LWP.seq <| rgN <| K.box rfl rfl rfl .plain <| K.box rfl rfl rfl .plain <| K.alloc rfl .plain ?_; refine K.alloc rfl .plain ?_; refine RunK.nil <| LWP.seq <| rgN <| kfa rfl rfl ?_; refine kl1 rfl rfl rfl <| kca rfl rfl (hlz) <| kcv rfl (by exact wrap_u64 (by omega)) ?_; refine kas rfl <| RunK.nil <| LWP.seq <| rgN <| kfa rfl rfl ?_; refine kl1 rfl rfl rfl <| kmv rfl <| K.shl rfl rfl (by omega) (shl_s (by omega) rfl ⟨hH2, hY2⟩) .plain <| kfa rfl rfl ?_; refine kl1 rfl rfl rfl <| kmv rfl <| K.sub rfl rfl (wrap_u64 (by omega)) .plain <| K.shr rfl rfl (by omega) (shr_64s (by omega)) .plain <| K.bitop (by simp) rfl rfl (or_apart' (by omega) ⟨by omega, hY2⟩ hlo2 hL) .plain <| kas rfl <| RunK.nil <| LWP.seq <| rgN <| kfa rfl rfl ?_; refine kl1 rfl rfl rfl <| K.shr rfl rfl (by omega) (shr_1 _) .plain <| kfa rfl rfl ?_; refine kl1 rfl rfl rfl <| K.shl rfl rfl (by omega) (shl_63 _) .plain <| kfa rfl rfl ?_; refine kl1 rfl rfl rfl <| K.shr rfl rfl (by omega) (shr_1 _) .plain <| K.bitop (by simp) rfl rfl (or_apart' (by decide) (by omega) (by omega) hor2) .plain <| kmv rfl <| kca rfl rfl (hdiv) <| kmv rfl <| kex rfl rfl <| kex rfl rfl <| kas rfl <| kas rfl <| RunK.nil <| LWP.seq <| rgN <| kmv rfl ?_; refine kmv rfl <| K.sub rfl rfl (wrap_u64 (by omega)) .plain <| K.shr rfl rfl (by omega) ((shr_63s hs).trans hd3) .plain <| kas rfl <| RunK.nil <| LWP.seq <| LWP.seq <| rgN <| kmv rfl <| kne rfl rfl (bne_iff_ne.2 (by omega)) <| RunK.nil <| LWP.condT rfl ?_; refine rgN <| kmv rfl <| K.sub rfl rfl ((wrap_u64 (by omega)).trans hG) .plain <| kas rfl <| RunK.nil <| LWP.seq <| rgN <| K.loadAll rfl rfl rfl .plain ?_); (refine kmv rfl <| K.build rfl rfl (by exact rfl) (by exact nl2 rfl rfl rfl) .plain ?_; refine kca rfl rfl (ht) <| kmv rfl <| kex rfl rfl <| kex rfl rfl <| K.alloc rfl .plain ?_; refine K.storeAll rfl rfl rfl rfl rfl rfl .plain ?_; refine kas rfl <| RunK.nil <| LWP.seq <| rgN <| K.loadAll rfl rfl rfl .plain ?_; refine K.loadAll rfl rfl rfl .plain ?_; refine kca rfl rfl (hmi) <| K.alloc rfl .plain ?_; refine K.storeAll rfl rfl rfl rfl rfl rfl .plain ?_; refine RunK.nil <| LWP.seq <| LWP.seq <| rgN <| K.loadAll rfl rfl rfl .plain ?_; refine K.loadAll rfl rfl rfl .plain ?_; refine kca rfl rfl (hcm) <| K.geq rfl rfl (decide_eq_false (by omega)) .plain <| RunK.nil <| LWP.condF rfl ?_; refine LWP.skip ?_; refine LWP.seq <| rgD mixed <| kmv rfl <| K.build rfl rfl (by exact rfl) (by exact nl2 rfl rfl rfl) .plain ?_); (refine K.loadAll rfl rfl rfl .plain ?_; refine K.storeAll rfl rfl rfl rfl rfl rfl .plain ?_; refine K.storeAll rfl rfl rfl rfl rfl rfl .plain ?_; refine RunK.nil <| rgA ?_; refine LWP.ret ?_))
      rw [show SZ G = .agg [.val (.int .u64 0), .val (.int .u64 G)] by unfold SZ; rw [show G / 18446744073709551616 = 0 by omega, show G % 18446744073709551616 = G by omega]]
      exact ⟨[_, _], ⟨⟨_, _, rfl, rfl, rfl, .inl ⟨AggT.h, rfl⟩⟩, ⟨_, _, rfl, rfl, rfl, .inl ⟨AggT.h, rfl⟩⟩, trivial⟩, rfl⟩
    · have hG1 : (G + 1) * N = G * N + N := by rw [Int.add_mul, Int.one_mul]
      obtain ⟨e1, e2⟩ := huse (G + 1) (by omega) (by omega)
      rw [e1] at hqW
      rw [e1, e2, hG1, show M - (G * N + N) = M - G * N - N by omega]
      have hcm : ∃ r, (r = 0 ∨ r = 1) ∧ cmpI (M - G * N) N = r := ⟨_, by unfold cmpI; (repeat' split) <;> omega, rfl⟩
      obtain ⟨r, hr, hcm⟩ := hcm
      have hcm := compare_spec X (M - G * N) N r hcm
      have hmi2 := minus_spec X (M - G * N) N ⟨by omega, by omega⟩ ⟨by omega, by omega⟩ (by omega)
      rw [hLZl] at hcm hmi2
      ((refine LWP.seq <| rgN <| K.box rfl rfl rfl .plain <| K.box rfl rfl rfl .plain <| K.alloc rfl .plain ?_; refine K.alloc rfl .plain ?_; refine RunK.nil <| LWP.seq <| rgN <| kfa rfl rfl ?_; refine kl1 rfl rfl rfl <| kca rfl rfl (hlz) <| kcv rfl (by exact wrap_u64 (by omega)) ?_; refine kas rfl <| RunK.nil <| LWP.seq <| rgN <| kfa rfl rfl ?_; refine kl1 rfl rfl rfl <| kmv rfl <| K.shl rfl rfl (by omega) (shl_s (by omega) rfl ⟨hH2, hY2⟩) .plain <| kfa rfl rfl ?_; refine kl1 rfl rfl rfl <| kmv rfl <| K.sub rfl rfl (wrap_u64 (by omega)) .plain <| K.shr rfl rfl (by omega) (shr_64s (by omega)) .plain <| K.bitop (by simp) rfl rfl (or_apart' (by omega) ⟨by omega, hY2⟩ hlo2 hL) .plain <| kas rfl <| RunK.nil <| LWP.seq <| rgN <| kfa rfl rfl ?_; refine kl1 rfl rfl rfl <| K.shr rfl rfl (by omega) (shr_1 _) .plain <| kfa rfl rfl ?_; refine kl1 rfl rfl rfl <| K.shl rfl rfl (by omega) (shl_63 _) .plain <| kfa rfl rfl ?_; refine kl1 rfl rfl rfl <| K.shr rfl rfl (by omega) (shr_1 _) .plain <| K.bitop (by simp) rfl rfl (or_apart' (by decide) (by omega) (by omega) hor2) .plain <| kmv rfl <| kca rfl rfl (hdiv) <| kmv rfl <| kex rfl rfl <| kex rfl rfl <| kas rfl <| kas rfl <| RunK.nil <| LWP.seq <| rgN <| kmv rfl ?_; refine kmv rfl <| K.sub rfl rfl (wrap_u64 (by omega)) .plain <| K.shr rfl rfl (by omega) ((shr_63s hs).trans hd3) .plain <| kas rfl <| RunK.nil <| LWP.seq <| LWP.seq <| rgN <| kmv rfl <| kne rfl rfl (bne_iff_ne.2 (by omega)) <| RunK.nil <| LWP.condT rfl ?_; refine rgN <| kmv rfl <| K.sub rfl rfl ((wrap_u64 (by omega)).trans hG) .plain <| kas rfl <| RunK.nil <| LWP.seq <| rgN <| K.loadAll rfl rfl rfl .plain ?_); (refine kmv rfl <| K.build rfl rfl (by exact rfl) (by exact nl2 rfl rfl rfl) .plain ?_; refine kca rfl rfl (ht) <| kmv rfl <| kex rfl rfl <| kex rfl rfl <| K.alloc rfl .plain ?_; refine K.storeAll rfl rfl rfl rfl rfl rfl .plain ?_; refine kas rfl <| RunK.nil <| LWP.seq <| rgN <| K.loadAll rfl rfl rfl .plain ?_; refine K.loadAll rfl rfl rfl .plain ?_; refine kca rfl rfl (hmi) <| K.alloc rfl .plain ?_; refine K.storeAll rfl rfl rfl rfl rfl rfl .plain ?_; refine RunK.nil <| LWP.seq <| LWP.seq <| rgN <| K.loadAll rfl rfl rfl .plain ?_; refine K.loadAll rfl rfl rfl .plain ?_; refine kca rfl rfl (hcm) <| K.geq rfl rfl (decide_eq_true (by omega)) .plain <| RunK.nil <| LWP.condT rfl ?_; refine LWP.seq <| rgN <| kmv rfl <| kad rfl rfl (wrap_u64 (by omega)) <| kas rfl <| RunK.nil <| rgN <| K.loadAll rfl rfl rfl .plain ?_; refine K.loadAll rfl rfl rfl .plain ?_); (refine kca rfl rfl (hmi2) <| K.storeAll rfl rfl rfl rfl rfl rfl .plain ?_; refine RunK.nil <| LWP.seq <| rgD mixed <| kmv rfl <| K.build rfl rfl (by exact rfl) (by exact nl2 rfl rfl rfl) .plain ?_; refine K.loadAll rfl rfl rfl .plain ?_; refine K.storeAll rfl rfl rfl rfl rfl rfl .plain ?_; refine K.storeAll rfl rfl rfl rfl rfl rfl .plain ?_; refine RunK.nil <| rgA ?_; refine LWP.ret ?_))
      rw [show SZ (G + 1) = .agg [.val (.int .u64 0), .val (.int .u64 (G + 1))] by unfold SZ; rw [show (G + 1) / 18446744073709551616 = 0 by omega, show (G + 1) % 18446744073709551616 = G + 1 by omega]]
      exact ⟨[_, _], ⟨⟨_, _, rfl, rfl, rfl, .inl ⟨AggT.h, rfl⟩⟩, ⟨_, _, rfl, rfl, rfl, .inl ⟨AggT.h, rfl⟩⟩, trivial⟩, rfl⟩
end Go.Proofs.YtnfbccfghgmfiaaGreat
end
section
namespace Go.Proofs.YtnfbccfghgmfiaaGreat
open Go Go.Lg Go.Lg.Arith
variable (X : Nat → Option Obj)
theorem two_word {T d Y : Int} (hY : 0 < Y) (hd : 0 ≤ d ∧ d < 18446744073709551616) (hT : 0 ≤ T) :
    (T * 18446744073709551616 + d) / Y = T / Y * 18446744073709551616 + (T % Y * 18446744073709551616 + d) / Y ∧ (T * 18446744073709551616 + d) % Y = (T % Y * 18446744073709551616 + d) % Y ∧
    0 ≤ (T % Y * 18446744073709551616 + d) / Y ∧ (T % Y * 18446744073709551616 + d) / Y < 18446744073709551616 ∧ 0 ≤ T % Y ∧ T % Y < Y ∧ 0 ≤ T / Y := by
  have h := Int.emod_add_mul_ediv T Y
  have h0 := Int.emod_nonneg T (show Y ≠ 0 by omega)
  have h1 := Int.emod_lt_of_pos T hY
  have e : T * 18446744073709551616 + d = (T % Y * 18446744073709551616 + d) + Y * (T / Y * 18446744073709551616) := by
    rw [← Int.mul_assoc]
    generalize Y * (T / Y) = a at *
    omega
  have hq0 : 0 ≤ (T % Y * 18446744073709551616 + d) / Y := Int.ediv_nonneg (by omega) (by omega)
  have hq1 : (T % Y * 18446744073709551616 + d) / Y < 18446744073709551616 := by rw [Int.ediv_lt_iff_lt_mul hY]; omega
  refine ⟨?_, ?_, hq0, hq1, h0, h1, Int.ediv_nonneg hT (by omega)⟩
  · rw [e, Int.add_mul_ediv_left _ _ (by omega)]; omega
  · rw [e, Int.add_mul_emod_self_left]
theorem divide_spec (M N : Int) (hM : Lim M) (hN : 0 < N ∧ N < 170141183460469231731687303715884105728) :
    PSpec Tryz.prog X 104 [LZ M, LZ N] (.tup [SZ (M / N), SZ (M % N)]) := by
  obtain ⟨hM0, hM1⟩ := hM
  refine PSpec.intro Tryz.func104 rfl (by kernel_rfl) rfl rfl ?_
  intro C
  by_cases hl : 18446744073709551616 ≤ N
  · (refine LWP.seq <| rgN <| K.box rfl rfl rfl .plain <| K.box rfl rfl rfl .plain <| K.alloc rfl .plain ?_; refine K.alloc rfl .plain ?_; refine RunK.nil <| LWP.seq <| LWP.seq <| rgN <| kfa rfl rfl ?_; refine kl1 rfl rfl rfl <| kne rfl rfl (bne_iff_ne.2 (by omega)) <| RunK.nil <| LWP.condT rfl ?_; refine LWP.seq <| rgN <| K.loadAll rfl rfl rfl .plain ?_; refine K.loadAll rfl rfl rfl .plain ?_; refine kca rfl rfl (divideLong_spec _ _ _ ⟨hM0, hM1⟩ ⟨hl, hN.2⟩) <| kex rfl rfl <| kex rfl rfl <| K.storeAll rfl rfl rfl rfl rfl rfl .plain ?_; refine K.storeAll rfl rfl rfl rfl rfl rfl .plain ?_; refine RunK.nil <| LWP.ret ?_)
    exact ⟨[_, _], ⟨⟨_, _, rfl, rfl, rfl, .inl ⟨AggT.h, rfl⟩⟩, ⟨_, _, rfl, rfl, rfl, .inl ⟨AggT.h, rfl⟩⟩, trivial⟩, rfl⟩
  · obtain ⟨t1, t2, t3, t4, t5, t6, t7⟩ := two_word (T := M / 18446744073709551616) (d := M % 18446744073709551616) (Y := N) hN.1 (by omega) (by omega)
    rw [show M / 18446744073709551616 * 18446744073709551616 + M % 18446744073709551616 = M by omega] at t1 t2
    have eN : N % 18446744073709551616 = N := by omega
    have hd := Div64_spec X (M / 18446744073709551616 % N) (M % 18446744073709551616) N ⟨t5, t6⟩ (by omega) (by omega)
    have hr0 := Int.emod_nonneg M (show N ≠ 0 by omega)
    have hr1 := Int.emod_lt_of_pos M hN.1
    rw [← t2] at hd
    rw [← eN] at hd
    rw [LZ_word (g := N) (by omega)]
    rw [eN] at hd
    have hq : M / 18446744073709551616 / N < 18446744073709551616 := by
      have := Int.ediv_le_self N (show 0 ≤ M / 18446744073709551616 by omega); omega
    (refine LWP.seq <| rgN <| K.box rfl rfl rfl .plain <| K.box rfl rfl rfl .plain <| K.alloc rfl .plain ?_; refine K.alloc rfl .plain ?_; refine RunK.nil <| LWP.seq <| LWP.seq <| rgN <| kfa rfl rfl ?_; refine kl1 rfl rfl rfl <| kne rfl rfl ((bne_eq_false_iff_eq.2 (by omega))) <| RunK.nil <| LWP.condF rfl ?_; refine LWP.skip ?_; refine LWP.seq <| rgD mixed <| kfa rfl rfl ?_; refine kl1 rfl rfl rfl <| kfa rfl rfl ?_; refine kl1 rfl rfl rfl <| K.quo rfl rfl (by omega) (quo_u64 (by omega) (by omega)) .plain <| kfa rfl rfl ?_; refine kl1 rfl rfl rfl <| kfa rfl rfl ?_; refine kl1 rfl rfl rfl <| K.rem rfl rfl (by omega) (rem_pos (by omega)) .plain <| kas rfl <| kas rfl <| RunK.nil <| rgA ?_; refine LWP.seq <| rgN <| kmv rfl <| kfa rfl rfl ?_; refine kl1 rfl rfl rfl <| kfa rfl rfl ?_; refine kl1 rfl rfl rfl <| kca rfl rfl (hd) <| kmv rfl <| kex rfl rfl <| kex rfl rfl <| kas rfl <| kas rfl <| RunK.nil <| LWP.seq <| rgN <| kmv rfl <| kmv rfl <| K.build rfl rfl (by exact rfl) (by exact nl2 rfl rfl rfl) .plain ?_; refine kmv rfl <| K.build rfl rfl (by exact rfl) (by exact nl2 rfl rfl rfl) .plain ?_; refine K.storeAll rfl rfl rfl rfl rfl rfl .plain ?_; refine K.storeAll rfl rfl rfl rfl rfl rfl .plain ?_; refine RunK.nil <| LWP.ret ?_)
    rw [show SZ (M / N) = .agg [.val (.int .u64 (M / 18446744073709551616 / N)), .val (.int .u64 ((M / 18446744073709551616 % N * 18446744073709551616 + M % 18446744073709551616) / N))] by
        unfold SZ; rw [show M / N / 18446744073709551616 = M / 18446744073709551616 / N by omega, show M / N % 18446744073709551616 = (M / 18446744073709551616 % N * 18446744073709551616 + M % 18446744073709551616) / N by omega],
      show SZ (M % N) = .agg [.val (.int .u64 0), .val (.int .u64 (M % N))] by unfold SZ; rw [show M % N / 18446744073709551616 = 0 by omega, show M % N % 18446744073709551616 = M % N by omega]]
    exact ⟨[_, _], ⟨⟨_, _, rfl, rfl, rfl, .inl ⟨AggT.h, rfl⟩⟩, ⟨_, _, rfl, rfl, rfl, .inl ⟨AggT.h, rfl⟩⟩, trivial⟩, rfl⟩
theorem divisible_spec (b c : Bool) (M N : Int) (hM : In2 M) (hN : In2 N) (r : Bool) (hr : ((formB b M && formB c N) && !(N == 0)) = r) : PSpec Tryz.prog X 103 [LI b M, LI c N] (Lb r) := by
  subst hr
  refine PSpec.intro Tryz.func103 rfl (by kernel_rfl) rfl rfl ?_
  intro C
  cases hf : (formB b M && formB c N)
  · (refine LWP.seq <| rgN <| K.box rfl rfl rfl .plain <| K.box rfl rfl rfl .plain <| kas rfl <| RunK.nil <| LWP.seq <| rgN <| K.loadAll rfl rfl rfl .plain ?_; refine K.loadAll rfl rfl rfl .plain ?_; refine kca rfl rfl (bothForm_spec _ _ _ _ _ hM hN _ hf) <| kmv rfl <| RunK.passed rfl rfl rfl <| RunK.passed rfl rfl rfl <| RunK.passed rfl rfl rfl <| RunK.passed rfl rfl rfl <| kpf rfl rfl <| kas rfl <| RunK.nil <| LWP.ret ?_)
    exact ⟨[_], ⟨rfl, trivial⟩, by simp [resOf]⟩
  · (refine LWP.seq <| rgN <| K.box rfl rfl rfl .plain <| K.box rfl rfl rfl .plain <| kas rfl <| RunK.nil <| LWP.seq <| rgN <| K.loadAll rfl rfl rfl .plain ?_; refine K.loadAll rfl rfl rfl .plain ?_; refine kca rfl rfl (bothForm_spec _ _ _ _ _ hM hN _ hf) <| kmv rfl <| K.loadAll rfl rfl rfl (.taken rfl rfl) ?_; refine gca rfl rfl (sizeOf_spec _ _ _ _) rfl rfl <| gca rfl rfl (zero_spec _ _ hN _ rfl) rfl rfl <| K.not rfl rfl (.taken rfl rfl) ?_; refine kpt rfl rfl <| kas rfl <| RunK.nil <| LWP.ret ?_)
    exact ⟨[_], ⟨rfl, trivial⟩, by simp [resOf]⟩
theorem Quo_arg (b c : Bool) (M N : Int) (hM : In2 M) (hN : In2 N) (hf : ((formB b M && formB c N) && !(N == 0)) = false) : PSpec Tryz.prog X 73 [LI b M, LI c N] (.tup [S0, Sn .i64 1]) := by
  refine PSpec.intro Tryz.func73 rfl (by kernel_rfl) rfl rfl ?_
  intro C
  (refine LWP.seq <| rgN <| K.box rfl rfl rfl .plain <| K.box rfl rfl rfl .plain <| K.alloc rfl .plain ?_; refine kas rfl <| RunK.nil <| LWP.seq <| LWP.seq <| rgN <| K.loadAll rfl rfl rfl .plain ?_; refine K.loadAll rfl rfl rfl .plain ?_; refine kca rfl rfl (divisible_spec _ _ _ _ _ hM hN _ hf) <| K.not rfl rfl .plain <| RunK.nil <| LWP.condT rfl ?_; refine LWP.seq <| rgN <| K.build rfl rfl (by exact rfl) (by exact nl3 rfl rfl rfl rfl) .plain ?_; refine K.storeAll rfl rfl rfl rfl rfl rfl .plain ?_; refine kas rfl <| RunK.nil <| LWP.ret ?_)
  exact ⟨[_, _], ⟨⟨_, _, rfl, rfl, rfl, .inl ⟨AggT.h, rfl⟩⟩, rfl, trivial⟩, rfl⟩
theorem Rem_arg (b c : Bool) (M N : Int) (hM : In2 M) (hN : In2 N) (hf : ((formB b M && formB c N) && !(N == 0)) = false) : PSpec Tryz.prog X 74 [LI b M, LI c N] (.tup [S0, Sn .i64 1]) := by
  refine PSpec.intro Tryz.func74 rfl (by kernel_rfl) rfl rfl ?_
  intro C
  (refine LWP.seq <| rgN <| K.box rfl rfl rfl .plain <| K.box rfl rfl rfl .plain <| K.alloc rfl .plain ?_; refine kas rfl <| RunK.nil <| LWP.seq <| LWP.seq <| rgN <| K.loadAll rfl rfl rfl .plain ?_; refine K.loadAll rfl rfl rfl .plain ?_; refine kca rfl rfl (divisible_spec _ _ _ _ _ hM hN _ hf) <| K.not rfl rfl .plain <| RunK.nil <| LWP.condT rfl ?_; refine LWP.seq <| rgN <| K.build rfl rfl (by exact rfl) (by exact nl3 rfl rfl rfl rfl) .plain ?_; refine K.storeAll rfl rfl rfl rfl rfl rfl .plain ?_; refine kas rfl <| RunK.nil <| LWP.ret ?_)
  exact ⟨[_, _], ⟨⟨_, _, rfl, rfl, rfl, .inl ⟨AggT.h, rfl⟩⟩, rfl, trivial⟩, rfl⟩
theorem mg_zero {y : Int} (hy : y ≠ 0) : 0 < mg y := by unfold mg; split <;> omega
theorem zv_quo (x y : Int) (hy : y ≠ 0) : zv (decide (x < 0) != decide (y < 0)) (mg x / mg y) = x.tdiv y ∧ zv (decide (x < 0)) (mg x % mg y) = x.tmod y := by
  unfold zv mg
  by_cases cx : x < 0 <;> by_cases cy : y < 0
  all_goals simp only [cx, cy, decide_true, decide_false, if_true, if_false, bne_self_eq_false, Bool.false_eq_true, Bool.true_bne, Bool.false_bne, Bool.not_false]
  · obtain ⟨a, rfl⟩ : ∃ a, x = -a := ⟨-x, by omega⟩
    obtain ⟨b, rfl⟩ : ∃ b, y = -b := ⟨-y, by omega⟩
    simp only [Int.neg_neg, Int.neg_tdiv, Int.tdiv_neg, Int.neg_tmod, Int.tmod_neg]
    rw [Int.tdiv_eq_ediv_of_nonneg (by omega), Int.tmod_eq_emod_of_nonneg (by omega)]
    exact ⟨rfl, rfl⟩
  · obtain ⟨a, rfl⟩ : ∃ a, x = -a := ⟨-x, by omega⟩
    simp only [Int.neg_neg, Int.neg_tdiv, Int.neg_tmod]
    rw [Int.tdiv_eq_ediv_of_nonneg (by omega), Int.tmod_eq_emod_of_nonneg (by omega)]
    exact ⟨rfl, rfl⟩
  · obtain ⟨b, rfl⟩ : ∃ b, y = -b := ⟨-y, by omega⟩
    simp only [Int.neg_neg, Int.tdiv_neg, Int.tmod_neg]
    rw [Int.tdiv_eq_ediv_of_nonneg (by omega), Int.tmod_eq_emod_of_nonneg (by omega)]
    exact ⟨rfl, rfl⟩
  · rw [Int.tdiv_eq_ediv_of_nonneg (by omega), Int.tmod_eq_emod_of_nonneg (by omega)]
    exact ⟨rfl, rfl⟩
theorem mg_zero' {y : Int} (hy : y ≠ 0) : (mg y == 0) = false := by
  have := mg_zero hy
  exact beq_eq_false_iff_ne.2 (by omega)
theorem Quo_q (x y : Int) (hx : R127 x) (hy : R127 y) (h0 : y ≠ 0) : PSpec Tryz.prog X 73 [LQ x, LQ y] (.tup [SQ (x.tdiv y), Sn .i64 0]) := by
  have hB := divisible_spec X _ _ _ _ (mg_in2 hx) (mg_in2 hy) true (by rw [both_q hx hy, mg_zero' h0]; rfl)
  have hd := divide_spec X (mg x) (mg y) ⟨mg_nonneg x, mg_lim hx⟩ ⟨mg_zero h0, mg_lim hy⟩
  have hq0 : 0 ≤ mg x / mg y := Int.ediv_nonneg (mg_nonneg x) (mg_nonneg y)
  have hq1 := Int.ediv_le_self (mg y) (mg_nonneg x)
  have hl := mg_lim hx
  have hn := number_spec X (decide (x < 0) != decide (y < 0)) (mg x / mg y) ⟨hq0, by omega⟩ _ rfl
  rw [← tup_q hq0 (zv_quo x y h0).1]
  refine PSpec.intro Tryz.func73 rfl (by kernel_rfl) rfl rfl ?_
  intro C
  (refine LWP.seq <| rgN <| K.box rfl rfl rfl .plain <| K.box rfl rfl rfl .plain <| K.alloc rfl .plain ?_; refine kas rfl <| RunK.nil <| LWP.seq <| LWP.seq <| rgN <| K.loadAll rfl rfl rfl .plain ?_; refine K.loadAll rfl rfl rfl .plain ?_; refine kca rfl rfl (hB) <| K.not rfl rfl .plain <| RunK.nil <| LWP.condF rfl ?_; refine LWP.skip ?_; refine LWP.seq <| rgD mixed <| K.loadAll rfl rfl rfl .plain ?_; refine kca rfl rfl (sizeOf_spec _ _ _ _) <| K.loadAll rfl rfl rfl .plain ?_; refine kca rfl rfl (sizeOf_spec _ _ _ _) <| kca rfl rfl (hd) <| kmv rfl <| kex rfl rfl <| kex rfl rfl <| K.alloc rfl .plain ?_; refine K.alloc rfl .plain ?_; refine K.storeAll rfl rfl rfl rfl rfl rfl .plain ?_; refine K.storeAll rfl rfl rfl rfl rfl rfl .plain ?_; refine RunK.nil <| rgA ?_; refine LWP.seq <| rgN <| kfa rfl rfl ?_; refine kl1 rfl rfl rfl <| kfa rfl rfl ?_; refine kl1 rfl rfl rfl <| K.neqB rfl rfl rfl .plain <| K.loadAll rfl rfl rfl .plain ?_; refine kca rfl rfl (hn) <| K.storeAll rfl rfl rfl rfl rfl rfl .plain ?_; refine kas rfl <| RunK.nil <| LWP.ret ?_)
  exact ⟨[_, _], ⟨⟨_, _, rfl, rfl, rfl, .inl ⟨AggT.h, rfl⟩⟩, rfl, trivial⟩, rfl⟩
theorem Rem_q (x y : Int) (hx : R127 x) (hy : R127 y) (h0 : y ≠ 0) : PSpec Tryz.prog X 74 [LQ x, LQ y] (.tup [SQ (x.tmod y), Sn .i64 0]) := by
  have hB := divisible_spec X _ _ _ _ (mg_in2 hx) (mg_in2 hy) true (by rw [both_q hx hy, mg_zero' h0]; rfl)
  have hd := divide_spec X (mg x) (mg y) ⟨mg_nonneg x, mg_lim hx⟩ ⟨mg_zero h0, mg_lim hy⟩
  have hq0 : 0 ≤ mg x % mg y := Int.emod_nonneg _ (by have := mg_zero h0; omega)
  have hq1 := Int.emod_lt_of_pos (mg x) (mg_zero h0)
  have hl := mg_lim hy
  have hn := number_spec X (decide (x < 0)) (mg x % mg y) ⟨hq0, by omega⟩ _ rfl
  rw [← tup_q hq0 (zv_quo x y h0).2]
  refine PSpec.intro Tryz.func74 rfl (by kernel_rfl) rfl rfl ?_
  intro C
  (refine LWP.seq <| rgN <| K.box rfl rfl rfl .plain <| K.box rfl rfl rfl .plain <| K.alloc rfl .plain ?_; refine kas rfl <| RunK.nil <| LWP.seq <| LWP.seq <| rgN <| K.loadAll rfl rfl rfl .plain ?_; refine K.loadAll rfl rfl rfl .plain ?_; refine kca rfl rfl (hB) <| K.not rfl rfl .plain <| RunK.nil <| LWP.condF rfl ?_; refine LWP.skip ?_; refine LWP.seq <| rgD mixed <| K.loadAll rfl rfl rfl .plain ?_; refine kca rfl rfl (sizeOf_spec _ _ _ _) <| K.loadAll rfl rfl rfl .plain ?_; refine kca rfl rfl (sizeOf_spec _ _ _ _) <| kca rfl rfl (hd) <| kmv rfl <| kex rfl rfl <| kex rfl rfl <| K.alloc rfl .plain ?_; refine K.alloc rfl .plain ?_; refine K.storeAll rfl rfl rfl rfl rfl rfl .plain ?_; refine K.storeAll rfl rfl rfl rfl rfl rfl .plain ?_; refine RunK.nil <| rgA ?_; refine LWP.seq <| rgN <| kfa rfl rfl ?_; refine kl1 rfl rfl rfl <| K.loadAll rfl rfl rfl .plain ?_; refine kca rfl rfl (hn) <| K.storeAll rfl rfl rfl rfl rfl rfl .plain ?_; refine kas rfl <| RunK.nil <| LWP.ret ?_)
  exact ⟨[_, _], ⟨⟨_, _, rfl, rfl, rfl, .inl ⟨AggT.h, rfl⟩⟩, rfl, trivial⟩, rfl⟩
end Go.Proofs.YtnfbccfghgmfiaaGreat
end
section
namespace Go.Proofs.YtnfbccfghgmfiaaGreat
open Go Go.Lg Go.Lg.Arith Go.Lg.Dig Go.RowKit
variable (X : Nat → Option Obj)
def part (M N i j : Nat) : Nat := M % 256 ^ i * N + dg M i * (N % 256 ^ j) * 256 ^ i
end Go.Proofs.YtnfbccfghgmfiaaGreat
end
section
namespace Go.Proofs.YtnfbccfghgmfiaaGreat
open Go Go.Lg Go.Lg.Arith Go.Lg.Dig Go.RowKit
variable (X : Nat → Option Obj)
structure Half (M n : Nat) (s : List UInt8) : Prop where
  more : s = [] ∨ n ≠ 0 → Lib.decDigits M = Lib.decDigits n ++ s
  done : s ≠ [] → n = 0 → Lib.decDigits M = s
end Go.Proofs.YtnfbccfghgmfiaaGreat
end
section
namespace Go.Proofs.YtnfbccfghgmfiaaGreat
open Go Go.Lg Go.Lg.Fml Go.Lg.Fld
structure CodesIn (X : Nat → Option Obj) (ad : Option Addr) (cs : List (List Ins)) : Prop where
  at_ : ∀ (i : Nat) (c : List Ins), cs[i]? = some c → ∃ (blk off : Nat) (arr : Array Value) (el : TypeId) (fr : Nat × Nat) (vad : Option Addr) (vcap : Nat), ad = some ⟨blk, off, none⟩ ∧ X blk = some (.cells arr el fr) ∧ off + i * 1 + 1 ≤ arr.size ∧ arr[off + i]? = some (.slice vad c.length vcap) ∧ InsIn X vad c
theorem CodesIn.mono {X Y : Nat → Option Obj} (hXY : ∀ b o, X b = some o → Y b = some o) {ad : Option Addr} {cs : List (List Ins)} (h : CodesIn X ad cs) : CodesIn Y ad cs := ⟨fun i c hc => by
  obtain ⟨blk, off, arr, el, fr, vad, vcap, h1, h2, h3, h4, h5⟩ := h.at_ i c hc
  exact ⟨blk, off, arr, el, fr, vad, vcap, h1, hXY _ _ h2, h3, h4, h5.mono hXY⟩⟩
theorem CodesIn.nil {X : Nat → Option Obj} {ad : Option Addr} : CodesIn X ad [] := ⟨fun i c h => by simp at h⟩
def smallR (r : Rl) : Prop := (-9223372036854775808 ≤ r.nw ∧ r.nw < 9223372036854775808) ∧ (-9223372036854775808 ≤ r.old ∧ r.old < 9223372036854775808)
structure RulesIn (X : Nat → Option Obj) (ad : Option Addr) (rs : List Rl) : Prop where
  at_ : ∀ (i : Nat) (r : Rl), rs[i]? = some r → ∃ (blk off : Nat) (arr : Array Value) (el : TypeId) (fr : Nat × Nat) (ead : Option Addr) (ecap : Nat), ad = some ⟨blk, off, none⟩ ∧ X blk = some (.cells arr el fr) ∧ off + i * 3 + 3 ≤ arr.size ∧ (arr.toList.drop (off + i * 3)).take 3 = [.int .i64 r.nw, .int .i64 r.old, .slice ead r.ex.length ecap] ∧ CodesIn X ead r.ex
  small : ∀ r ∈ rs, smallR r
theorem RulesIn.mono {X Y : Nat → Option Obj} (hXY : ∀ b o, X b = some o → Y b = some o) {ad : Option Addr} {rs : List Rl} (h : RulesIn X ad rs) : RulesIn Y ad rs := ⟨fun i c hc => by
  obtain ⟨blk, off, arr, el, fr, vad, vcap, h1, h2, h3, h4, h5⟩ := h.at_ i c hc
  exact ⟨blk, off, arr, el, fr, vad, vcap, h1, hXY _ _ h2, h3, h4, h5.mono hXY⟩, h.small⟩
theorem RulesIn.nil {X : Nat → Option Obj} {ad : Option Addr} : RulesIn X ad [] := ⟨fun i c h => by simp at h, fun r hr => by cases hr⟩
theorem RulesIn.get {X : Nat → Option Obj} {ad : Option Addr} {rs : List Rl} (h : RulesIn X ad rs) {i : Nat} {r : Rl} (hr : rs[i]? = some r) : ∃ (blk off : Nat) (arr : Array Value) (el : TypeId) (fr : Nat × Nat) (ead : Option Addr) (ecap : Nat), ad = some ⟨blk, off, none⟩ ∧ X blk = some (.cells arr el fr) ∧ off + i * 3 + 3 ≤ arr.size ∧
    ((arr.toList.drop (off + i * 3)).take 3).map CV.val = [.val (.int .i64 r.nw), .val (.int .i64 r.old), .val (.slice ead r.ex.length ecap)] ∧ arr[off + i * 3]? = some (.int .i64 r.nw) ∧ arr[off + i * 3 + 1]? = some (.int .i64 r.old) ∧ arr[off + i * 3 + 2]? = some (.slice ead r.ex.length ecap) ∧ CodesIn X ead r.ex := by
  obtain ⟨blk, off, arr, el, fr, ead, ecap, h1, h2, h3, h4, h5⟩ := h.at_ i r hr
  have key : ∀ j, j < 3 → arr[off + i * 3 + j]? = ([.int .i64 r.nw, .int .i64 r.old, .slice ead r.ex.length ecap] : List Value)[j]? := fun j hj => by
    rw [← h4, List.getElem?_take, if_pos hj, List.getElem?_drop, Array.getElem?_toList]
  exact ⟨blk, off, arr, el, fr, ead, ecap, h1, h2, h3, by rw [h4]; rfl, key 0 (by omega), key 1 (by omega), key 2 (by omega), h5⟩
def sizeR (rs : List Rl) : Prop := ∀ r ∈ rs, r.ex.length < 1152921504606846976 ∧ ∀ c ∈ r.ex, c.length < 1152921504606846976
end Go.Proofs.YtnfbccfghgmfiaaGreat
end
section
namespace Go.Proofs.YtnfbccfghgmfiaaGreat
open Go Go.Lg Go.Lg.Arith Go.RowKit
theorem parts_facts {x y : Int} (hx : R127 x) (hy : R127 y) (h0 : y ≠ 0) :
    R127 (x.tdiv y) ∧ R127 (x.tmod y) ∧ R127 (x.tdiv y * y) ∧ x.tdiv y * y + x.tmod y = x ∧ mg (x.tmod y) < mg y ∧ (x.tmod y < 0 → x < 0) ∧ (0 < x.tmod y → 0 < x) := by
  obtain ⟨h1, h2⟩ := zv_quo x y h0
  have hB := mg_zero h0
  have hA0 := mg_nonneg x
  have hR0 := Int.emod_nonneg (mg x) (show mg y ≠ 0 by omega)
  have hR1 := Int.emod_lt_of_pos (mg x) hB
  have hQ0 := Int.ediv_nonneg hA0 (Int.le_of_lt hB)
  have hQ1 := Int.ediv_le_self (mg y) hA0
  have hE := Int.emod_add_mul_ediv (mg x) (mg y)
  have hT0 := Int.mul_nonneg hQ0 (Int.le_of_lt hB)
  rw [Int.mul_comm (mg y) (mg x / mg y)] at hE
  rw [← h1, ← h2]
  have key : zv (decide (x < 0) != decide (y < 0)) (mg x / mg y) * y = zv (decide (x < 0)) (mg x / mg y * mg y) := by
    by_cases cy : y < 0
    · have hy' : mg y = -y := mg_neg cy
      generalize mg x / mg y = Q
      by_cases cx : x < 0 <;> simp only [cx, cy, decide_true, decide_false, zv, bne_self_eq_false, Bool.false_bne, if_true, if_false, Bool.false_eq_true]
      · rw [hy', Int.mul_neg, Int.neg_neg]
      · rw [hy', Int.mul_neg, Int.neg_mul]
    · have hy' : mg y = y := mg_pos (by omega)
      generalize mg x / mg y = Q
      by_cases cx : x < 0 <;> simp only [cx, cy, decide_true, decide_false, zv, bne_self_eq_false, Bool.true_bne, Bool.not_false, if_true, if_false, Bool.false_eq_true]
      · rw [hy', Int.neg_mul]
      · rw [hy']
  have zR : ∀ (b : Bool) (n : Int), 0 ≤ n → n < 170141183460469231731687303715884105728 → R127 (zv b n) := by
    intro b n h1 h2
    unfold R127 zv
    cases b <;> simp only [if_true, if_false, Bool.false_eq_true] <;> omega
  have hlx := mg_lim hx
  have hly := mg_lim hy
  rw [key]
  generalize mg x / mg y * mg y = T at *
  generalize mg x / mg y = Q at *
  generalize mg x % mg y = R at *
  refine ⟨zR _ _ hQ0 (by omega), zR _ _ hR0 (by omega), zR _ _ hT0 (by omega), ?_, ?_, ?_, ?_⟩
  · by_cases cx : x < 0
    · rw [decide_eq_true cx]
      have := mg_neg cx
      show -T + -R = x
      omega
    · rw [decide_eq_false cx]
      have := mg_pos (Int.not_lt.1 cx)
      show T + R = x
      omega
  · by_cases cx : x < 0
    · rw [decide_eq_true cx]
      show mg (-R) < mg y
      by_cases c : R = 0
      · subst c; exact hB
      · rw [mg_neg (z := -R) (by omega)]; omega
    · rw [decide_eq_false cx]
      show mg R < mg y
      rw [mg_pos hR0]; exact hR1
  · intro h
    by_cases cx : x < 0
    · exact cx
    · rw [decide_eq_false cx] at h
      have h : R < 0 := h
      omega
  · intro h
    by_cases cx : x < 0
    · rw [decide_eq_true cx] at h
      have h : 0 < -R := h
      omega
    · rw [decide_eq_false cx] at h
      have h : 0 < R := h
      have := mg_pos (Int.not_lt.1 cx)
      omega
end Go.Proofs.YtnfbccfghgmfiaaGreat
end
section
namespace Go.Proofs.YtnfbccfghgmfiaaGreat
open Go Go.Lg Go.Lg.Fml Go.Lg.Fld Go.Lg.Arith
set_option maxRecDepth 100000
variable (X : Nat → Option Obj)
def exR : Except Int Nm → LV
  | .ok v => .tup [SI v.1 v.2, Sn .i64 0]
  | .error e => .tup [S0, Sn .i64 e]
theorem NumsIn.all {X : Nat → Option Obj} {ad : Option Addr} {ns : List Nm} (h : NumsIn X ad ns) (hpos : 0 < ns.length) :
    ∃ (blk off : Nat) (arr : Array Value) (el : TypeId) (fr : Nat × Nat), ad = some ⟨blk, off, none⟩ ∧ X blk = some (.cells arr el fr) ∧ ∀ i b N, ns[i]? = some (b, N) → In2 N ∧ off + i * 3 + 3 ≤ arr.size ∧ ((arr.toList.drop (off + i * 3)).take 3).map CV.val = cI b N := by
  obtain ⟨_, blk, off, arr, el, fr, rfl, hX, _, _⟩ := h.at (i := 0) (b := (ns[0]'hpos).1) (N := (ns[0]'hpos).2) (List.getElem?_eq_getElem hpos)
  refine ⟨blk, off, arr, el, fr, rfl, hX, fun i b N hi => ?_⟩
  obtain ⟨h1, blk', off', arr', el', fr', h2, h3, h4, h5⟩ := h.at hi
  simp only [Option.some.injEq, Addr.mk.injEq] at h2
  obtain ⟨rfl, rfl, _⟩ := h2
  rw [hX] at h3
  simp only [Option.some.injEq, Obj.cells.injEq] at h3
  obtain ⟨rfl, _, _⟩ := h3
  exact ⟨h1, h4, h5⟩
theorem gd_q {u : Nm} (h : gd u = true) (hu : In2 u.2) : LI u.1 u.2 = LQ (zz u) ∧ R127 (zz u) := ⟨LI_q hu h, (zv_in hu h).1⟩
end Go.Proofs.YtnfbccfghgmfiaaGreat
end
section
namespace Go.Proofs.YtnfbccfghgmfiaaGreat
open Go Go.Lg Go.Lg.Fml Go.Lg.Fld Go.Lg.Arith
set_option maxRecDepth 100000
variable (X : Nat → Option Obj)
theorem eqN {b b' : Bool} {M N : Int} (hM : In2 M) (hN : In2 N) : (b == b' && (M / 18446744073709551616 == N / 18446744073709551616 && M % 18446744073709551616 == N % 18446744073709551616)) = decide (((b, M) : Nm) = (b', N)) := by
  by_cases h : b = b' ∧ M = N
  · obtain ⟨rfl, rfl⟩ := h
    simp
  · rw [decide_eq_false (fun e => h (by simpa using e))]
    cases hc : (b == b' && (M / 18446744073709551616 == N / 18446744073709551616 && M % 18446744073709551616 == N % 18446744073709551616)) with
    | false => rfl
    | true =>
      simp only [Bool.and_eq_true, beq_iff_eq] at hc
      exact absurd ⟨hc.1, by omega⟩ h
theorem eqZ {b : Bool} {M : Int} (hM : In2 M) : (b == false && (M / 18446744073709551616 == 0 && M % 18446744073709551616 == 0)) = decide (((b, M) : Nm) = (false, 0)) := by
  have := eqN (b := b) (b' := false) hM (N := 0) (by show 0 ≤ (0 : Int) ∧ (0 : Int) < _; omega)
  exact this
theorem cmp_lz {u v : Nm} : decide (cmpI (zz u) (zz v) < 0) = decide (zz u < zz v) ∧ decide (0 < cmpI (zz u) (zz v)) = decide (zz v < zz u) := by
  unfold cmpI
  by_cases h : zz u < zz v
  · rw [if_pos h, decide_eq_true h, decide_eq_false (show ¬ zz v < zz u by omega)]
    exact ⟨rfl, rfl⟩
  · rw [if_neg h, decide_eq_false h]
    by_cases h2 : zz v < zz u
    · rw [if_pos h2, decide_eq_true h2]; exact ⟨rfl, rfl⟩
    · rw [if_neg h2, decide_eq_false h2]; exact ⟨rfl, rfl⟩
end Go.Proofs.YtnfbccfghgmfiaaGreat
end
section
namespace Go.Proofs.YtnfbccfghgmfiaaGreat
open Go Go.Lg Go.Lg.Fml Go.Lg.Fld Go.Lg.Arith
set_option maxRecDepth 100000
variable (X : Nat → Option Obj)
def inssV (l : List Ins) : List Value := (l.map insV).flatten
theorem inssV_len (l : List Ins) : ((inssV l).map CV.val).length = l.length * 6 := by
  unfold inssV
  rw [List.length_map]
  induction l with
  | nil => rfl
  | cons x t ih => simp only [List.map_cons, List.flatten_cons, List.length_append, List.length_cons, ih, insV, List.length_nil]; omega
theorem inssV_snoc (l : List Ins) (x : Ins) {cs : List CV} (h : cs = (insV x).map CV.val) : (inssV l).map CV.val ++ cs = (inssV (l ++ [x])).map CV.val := by
  unfold inssV
  rw [h, List.map_append, List.flatten_append, List.map_append]
  simp
theorem ins_in {Y : Nat → Option Obj} {blk : Nat} {arr : Array Value} {el : TypeId} {fr : Nat × Nat} {l : List Ins} (hY : Y blk = some (.cells arr el fr)) (hi : ∀ x ∈ l, smallI x) (hsp : ∃ sp, arr.toList = inssV l ++ sp) : InsIn Y (some ⟨blk, 0, none⟩) l :=
  ⟨rows_in hY (fun r hr => by obtain ⟨x, _, rfl⟩ := List.mem_map.1 hr; rfl) hsp, hi⟩
end Go.Proofs.YtnfbccfghgmfiaaGreat
end
section
namespace Go.Proofs.YtnfbccfghgmfiaaGreat
open Go Go.Lg Go.Lg.Fml Go.Lg.Fld Go.Lg.Arith
set_option maxRecDepth 100000
variable (X : Nat → Option Obj)
abbrev LPg (va vb : Int) (ad : Option Addr) (n cap : Nat) : LV := .sv (.agg [.val (.int .i64 va), .val (.int .i64 vb), .val (.slice ad n cap)])
abbrev v3B (t : TypeId) (k : Nat) (a b : Int) (ad : Option Addr) (n cap : Nat) : Nat × Option Box := (k, some ⟨t, [.val (.int .i64 a), .val (.int .i64 b), .val (.slice ad n cap)], false⟩)
def lastR (rs : List Rl) : Nat → Int
  | 0 => 0
  | j + 1 => match rs[j]? with
    | some r => r.nw
    | none => 0
theorem lastR_at {rs : List Rl} {j : Nat} {r : Rl} (h : rs[j]? = some r) : lastR rs (j + 1) = r.nw := by simp only [lastR, h]
theorem chkRs_cons {r : Rl} {last : Int} {t : List Rl} : chkRs last (r :: t) = if chkR r last = 0 then chkRs r.nw t else chkR r last := rfl
theorem firstX_cons {c : List Ins} {t : List (List Ins)} : firstX (c :: t) = if encErr c = 0 then firstX t else encErr c := rfl
theorem drop_at {α : Type} {l : List α} {i : Nat} {x : α} (h : l[i]? = some x) : l.drop i = x :: l.drop (i + 1) := by
  obtain ⟨hi, e⟩ := List.getElem?_eq_some_iff.1 h
  rw [List.drop_eq_getElem_cons hi, e]
theorem chkP_bad {p : Pg} (h : ¬(verOk p.va && verOk p.vb) = true) : chkP p = 1 := if_neg h
theorem chkP_good {p : Pg} (h : (verOk p.va && verOk p.vb) = true) : chkP p = chkRs 0 p.rs := if_pos h
theorem CodesIn.get {X : Nat → Option Obj} {ad : Option Addr} {cs : List (List Ins)} (h : CodesIn X ad cs) {i : Nat} {c : List Ins} (hc : cs[i]? = some c) : ∃ (blk off : Nat) (arr : Array Value) (el : TypeId) (fr : Nat × Nat) (vad : Option Addr) (vcap : Nat), ad = some ⟨blk, off, none⟩ ∧ X blk = some (.cells arr el fr) ∧ arr[off + i * 1]? = some (.slice vad c.length vcap) ∧ InsIn X vad c := by
  obtain ⟨blk, off, arr, el, fr, vad, vcap, h1, h2, h3, h4, h5⟩ := h.at_ i c hc
  exact ⟨blk, off, arr, el, fr, vad, vcap, h1, h2, by rw [Nat.mul_one]; exact h4, h5⟩
end Go.Proofs.YtnfbccfghgmfiaaGreat
end
section
namespace Go.Proofs.YtnfbccfghgmfiaaGreat
open Go Go.Lg Go.Lg.Fml Go.Lg.Fld Go.Lg.Arith Go.Lg.Sg
set_option maxRecDepth 100000
variable (X : Nat → Option Obj)
def nmsV (a : List Nm) : List Value := (a.map nmV).flatten
theorem nmsV_len (a : List Nm) : ((nmsV a).map CV.val).length = a.length * 3 := by
  unfold nmsV
  rw [List.length_map]
  induction a with
  | nil => rfl
  | cons x t ih => simp only [List.map_cons, List.flatten_cons, List.length_append, List.length_cons, ih, nmV, List.length_nil]; omega
theorem nmsV_snoc (a : List Nm) (u : Nm) : (nmsV a).map CV.val ++ [CV.val (.bool u.1), .val (.int .u64 (u.2 / 18446744073709551616)), .val (.int .u64 (u.2 % 18446744073709551616))] = (nmsV (a ++ [u])).map CV.val := by
  unfold nmsV
  rw [List.map_append, List.flatten_append, List.map_append]
  rfl
theorem nms_in {Y : Nat → Option Obj} {blk : Nat} {arr : Array Value} {el : TypeId} {fr : Nat × Nat} {a : List Nm} (hY : Y blk = some (.cells arr el fr)) (hi : ∀ u ∈ a, In2 u.2) (hsp : ∃ sp, arr.toList = nmsV a ++ sp) : NumsIn Y (some ⟨blk, 0, none⟩) a :=
  ⟨rows_in hY (fun r hr => by obtain ⟨x, _, rfl⟩ := List.mem_map.1 hr; rfl) hsp, hi⟩
theorem qn_in2 {z : Int} (h : R127 z) : In2 (qn z).2 := mg_in2 h
theorem elem_mem {fs : List (List Nm)} {a b : Int} {v : Nm} (h : elemX fs a b = .ok v) : ∃ r ∈ fs, v ∈ r := by
  unfold elemX at h
  by_cases h0 : a < 0 ∨ b < 0
  · rw [if_pos h0] at h; cases h
  · rw [if_neg h0] at h
    cases hr : fs[a.toNat]? with
    | none => rw [hr] at h; cases h
    | some r =>
      rw [hr] at h
      simp only at h
      cases hu : r[b.toNat]? with
      | none => rw [hu] at h; cases h
      | some u =>
        rw [hu] at h
        cases h
        exact ⟨r, List.mem_of_getElem? hr, List.mem_of_getElem? hu⟩
theorem leaf_in2 {fs : List (List Nm)} {at_ : Int} {x : Ins} {v : Nm} (hf : ∀ r ∈ fs, ∀ u ∈ r, In2 u.2) (hx : In2 x.k.2) (hat : at_ < 9223372036854775808) (h : leafX fs at_ x = .ok v) : In2 v.2 := by
  unfold leafX at h
  by_cases h1 : x.op = 1
  · rw [if_pos h1] at h; cases h; exact hx
  · rw [if_neg h1] at h
    by_cases h4 : x.op = 4
    · rw [if_pos h4] at h
      by_cases h0 : at_ < 0
      · rw [if_pos h0] at h; cases h
      · rw [if_neg h0] at h
        cases h
        show 0 ≤ at_ ∧ at_ < _
        omega
    · rw [if_neg h4] at h
      obtain ⟨r, hr, hv⟩ := elem_mem h
      exact hf r hr _ hv
theorem truth_in2 (b : Bool) : In2 (truth b).2 := by
  unfold truth In2
  cases b <;> decide
theorem do_in2 {op : Int} {x y v : Nm} (h : doX op x y = .ok v) : In2 v.2 := by
  unfold doX at h
  split at h
  · cases h
  · split at h
    · cases h
    · split at h
      · rename_i hr; cases h; exact qn_in2 hr
      · cases h
theorem node_in2 {op : Int} {a : List Nm} {v : Nm} (ha : ∀ u ∈ a, In2 u.2) (h : nodeX op a = .ok v) : In2 v.2 := by
  match a, ha with
  | [x], ha =>
    simp only [nodeX] at h
    split at h
    · cases h
    · split at h
      · rename_i hg _
        cases h
        have := (zv_in (ha x (by simp)) (by simpa [gd] using hg)).1
        exact qn_in2 (by unfold R127 at *; show -_ < -(zz x) ∧ -(zz x) < _; unfold zz; omega)
      · cases h; exact truth_in2 _
  | [x, y], ha =>
    simp only [nodeX] at h
    repeat' (split at h)
    all_goals first
      | (cases h; done)
      | exact do_in2 h
      | (cases h; first | exact truth_in2 _ | exact ha _ (by simp) | (split <;> exact ha _ (by simp)))
  | [x, y, z], ha =>
    simp only [nodeX] at h
    split at h
    · cases h
    · cases h; split <;> exact ha _ (by simp)
  | [], ha => cases h
  | _ :: _ :: _ :: _ :: _, ha => cases h
theorem one_in2 {fs : List (List Nm)} {at_ : Int} {x : Ins} {a : List Nm} {v : Nm} (hf : ∀ r ∈ fs, ∀ u ∈ r, In2 u.2) (hx : In2 x.k.2) (hat : at_ < 9223372036854775808) (ha : ∀ u ∈ a, In2 u.2) (h : oneX fs at_ x a = .ok v) : In2 v.2 := by
  unfold oneX at h
  split at h
  · exact leaf_in2 hf hx hat h
  · exact node_in2 ha h
theorem tree_in2 {fs : List (List Nm)} {at_ : Int} (hf : ∀ r ∈ fs, ∀ u ∈ r, In2 u.2) (hat : at_ < 9223372036854775808) : ∀ {t : Tr} {v : Nm}, (∀ x ∈ t.flat, In2 x.k.2) → t.ev (oneX fs at_) = .ok v → In2 v.2
  | .n0 x, v, hx, h => one_in2 hf (hx x (by simp [Tr.flat])) hat (a := []) (fun u hu => by cases hu) h
  | .n1 x a, v, hx, h => by
    simp only [Tr.ev] at h
    cases ha : a.ev (oneX fs at_) with
    | error e => rw [ha] at h; cases h
    | ok u =>
      rw [ha] at h
      have h1 := tree_in2 hf hat (fun y hy => hx y (by simp [Tr.flat, hy])) ha
      exact one_in2 hf (hx x (by simp [Tr.flat])) hat (a := [u]) (fun w hw => by rw [List.mem_singleton.1 hw]; exact h1) h
  | .n2 x a b, v, hx, h => by
    simp only [Tr.ev] at h
    cases ha : a.ev (oneX fs at_) with
    | error e => rw [ha] at h; cases h
    | ok u =>
      rw [ha] at h
      simp only at h
      have h1 := tree_in2 hf hat (fun y hy => hx y (by simp [Tr.flat, hy])) ha
      cases hb : b.ev (oneX fs at_) with
      | error e => rw [hb] at h; cases h
      | ok w =>
        rw [hb] at h
        have h2 := tree_in2 hf hat (fun y hy => hx y (by simp [Tr.flat, hy])) hb
        exact one_in2 hf (hx x (by simp [Tr.flat])) hat (a := [u, w]) (fun q hq => by
          simp only [List.mem_cons, List.not_mem_nil, or_false] at hq
          rcases hq with rfl | rfl
          · exact h1
          · exact h2) h
  | .n3 x a b c, v, hx, h => by
    simp only [Tr.ev] at h
    cases ha : a.ev (oneX fs at_) with
    | error e => rw [ha] at h; cases h
    | ok u =>
      rw [ha] at h
      simp only at h
      have h1 := tree_in2 hf hat (fun y hy => hx y (by simp [Tr.flat, hy])) ha
      cases hb : b.ev (oneX fs at_) with
      | error e => rw [hb] at h; cases h
      | ok w =>
        rw [hb] at h
        simp only at h
        have h2 := tree_in2 hf hat (fun y hy => hx y (by simp [Tr.flat, hy])) hb
        cases hc : c.ev (oneX fs at_) with
        | error e => rw [hc] at h; cases h
        | ok s =>
          rw [hc] at h
          have h3 := tree_in2 hf hat (fun y hy => hx y (by simp [Tr.flat, hy])) hc
          exact one_in2 hf (hx x (by simp [Tr.flat])) hat (a := [u, w, s]) (fun q hq => by
            simp only [List.mem_cons, List.not_mem_nil, or_false] at hq
            rcases hq with rfl | rfl | rfl
            · exact h1
            · exact h2
            · exact h3) h
end Go.Proofs.YtnfbccfghgmfiaaGreat
end
section
namespace Go.Proofs.YtnfbccfghgmfiaaGreat
open Go Go.Lg Go.Lg.Fml Go.Lg.Fld Go.Lg.Arith
set_option maxRecDepth 100000
def exV : Except Int Nm → Nm
  | .ok v => v
  | .error _ => (false, 0)
def exE : Except Int Nm → Int
  | .ok _ => 0
  | .error e => e
theorem exR_eq (r : Except Int Nm) : exR r = .tup [SI (exV r).1 (exV r).2, Sn .i64 (exE r)] := by cases r <;> rfl
variable (X : Nat → Option Obj)
theorem addR_ex (z : Int) : addR z = exR (if R127 z then Except.ok (qn z) else Except.error 3 : Except Int Nm) := by
  by_cases h : R127 z
  · rw [addR_in h, if_pos h]; rfl
  · rw [addR_out h, if_neg h]; rfl
theorem wAdd_do (u v : Nm) (hu : In2 u.2) (hv : In2 v.2) : PSpec Tryz.prog X 70 [LI u.1 u.2, LI v.1 v.2] (exR (doX 5 u v)) := by
  cases hg : (gd u && gd v) with
  | false =>
    rw [doX_bad hg]
    exact Add_arg X u.1 v.1 u.2 v.2 hu hv hg
  | true =>
    obtain ⟨gu, gv⟩ := Bool.and_eq_true_iff.1 hg
    obtain ⟨e1, r1⟩ := gd_q gu hu
    obtain ⟨e2, r2⟩ := gd_q gv hv
    rw [e1, e2]
    unfold doX
    rw [hg, if_neg (by decide), if_neg (by omega), show arith 5 (zz u) (zz v) = zz u + zz v from rfl, ← addR_ex]
    exact Add_q X (zz u) (zz v) r1 r2
theorem wSub_do (u v : Nm) (hu : In2 u.2) (hv : In2 v.2) : PSpec Tryz.prog X 71 [LI u.1 u.2, LI v.1 v.2] (exR (doX 6 u v)) := by
  cases hg : (gd u && gd v) with
  | false =>
    rw [doX_bad hg]
    exact Sub_arg X u.1 v.1 u.2 v.2 hu hv hg
  | true =>
    obtain ⟨gu, gv⟩ := Bool.and_eq_true_iff.1 hg
    obtain ⟨e1, r1⟩ := gd_q gu hu
    obtain ⟨e2, r2⟩ := gd_q gv hv
    rw [e1, e2]
    unfold doX
    rw [hg, if_neg (by decide), if_neg (by omega), show arith 6 (zz u) (zz v) = zz u - zz v from rfl, ← addR_ex]
    exact Sub_q X (zz u) (zz v) r1 r2
theorem wMul_do (u v : Nm) (hu : In2 u.2) (hv : In2 v.2) : PSpec Tryz.prog X 72 [LI u.1 u.2, LI v.1 v.2] (exR (doX 7 u v)) := by
  cases hg : (gd u && gd v) with
  | false =>
    rw [doX_bad hg]
    exact Mul_arg X u.1 v.1 u.2 v.2 hu hv hg
  | true =>
    obtain ⟨gu, gv⟩ := Bool.and_eq_true_iff.1 hg
    obtain ⟨e1, r1⟩ := gd_q gu hu
    obtain ⟨e2, r2⟩ := gd_q gv hv
    rw [e1, e2]
    unfold doX
    rw [hg, if_neg (by decide), if_neg (by omega), show arith 7 (zz u) (zz v) = zz u * zz v from rfl, ← addR_ex]
    exact Mul_q X (zz u) (zz v) r1 r2
theorem wQuo_do (u v : Nm) (hu : In2 u.2) (hv : In2 v.2) : PSpec Tryz.prog X 73 [LI u.1 u.2, LI v.1 v.2] (exR (doX 8 u v)) := by
  cases hg : (gd u && gd v) with
  | false =>
    rw [doX_bad hg]
    exact Quo_arg X u.1 v.1 u.2 v.2 hu hv (by rw [show (formB u.1 u.2 && formB v.1 v.2) = false from hg]; rfl)
  | true =>
    obtain ⟨gu, gv⟩ := Bool.and_eq_true_iff.1 hg
    obtain ⟨e1, r1⟩ := gd_q gu hu
    obtain ⟨e2, r2⟩ := gd_q gv hv
    by_cases h0 : zz v = 0
    · have hv0 : v.2 = 0 := by
        have h1 : zv v.1 v.2 = 0 := h0
        have h2 := hv
        unfold zv at h1
        unfold In2 at h2
        split at h1 <;> omega
      rw [show doX 8 u v = .error 1 by unfold doX; rw [hg, if_neg (by decide), if_pos ⟨by decide, h0⟩]]
      exact Quo_arg X u.1 v.1 u.2 v.2 hu hv (by rw [hv0]; simp)
    · have hq := (parts_facts r1 r2 h0).1
      rw [e1, e2]
      unfold doX
      rw [hg, if_neg (by decide), if_neg (fun h => h0 h.2), show arith 8 (zz u) (zz v) = (zz u).tdiv (zz v) from rfl, if_pos hq]
      exact Quo_q X (zz u) (zz v) r1 r2 h0
theorem wRem_do (u v : Nm) (hu : In2 u.2) (hv : In2 v.2) : PSpec Tryz.prog X 74 [LI u.1 u.2, LI v.1 v.2] (exR (doX 9 u v)) := by
  cases hg : (gd u && gd v) with
  | false =>
    rw [doX_bad hg]
    exact Rem_arg X u.1 v.1 u.2 v.2 hu hv (by rw [show (formB u.1 u.2 && formB v.1 v.2) = false from hg]; rfl)
  | true =>
    obtain ⟨gu, gv⟩ := Bool.and_eq_true_iff.1 hg
    obtain ⟨e1, r1⟩ := gd_q gu hu
    obtain ⟨e2, r2⟩ := gd_q gv hv
    by_cases h0 : zz v = 0
    · have hv0 : v.2 = 0 := by
        have h1 : zv v.1 v.2 = 0 := h0
        have h2 := hv
        unfold zv at h1
        unfold In2 at h2
        split at h1 <;> omega
      rw [show doX 9 u v = .error 1 by unfold doX; rw [hg, if_neg (by decide), if_pos ⟨by decide, h0⟩]]
      exact Rem_arg X u.1 v.1 u.2 v.2 hu hv (by rw [hv0]; simp)
    · have hq := (parts_facts r1 r2 h0).2.1
      rw [e1, e2]
      unfold doX
      rw [hg, if_neg (by decide), if_neg (fun h => h0 h.2), show arith 9 (zz u) (zz v) = (zz u).tmod (zz v) from rfl, if_pos hq]
      exact Rem_q X (zz u) (zz v) r1 r2 h0
def truX (x y : Nm) (b : Bool) : Except Int Nm := if (gd x && gd y) = false then .error 1 else .ok (truth b)
def sameX (x y : Nm) : Except Int Nm := truX x y (decide (x = y))
def lessX (x y : Nm) : Except Int Nm := truX x y (decide (zz x < zz y))
def pickX (x y z : Nm) : Except Int Nm := if gd x = false then .error 1 else .ok (if x = (false, 0) then z else y)
def needX (x y : Nm) : Except Int Nm := if gd y = false then .error 1 else if y = (false, 0) then .error 9 else .ok x
theorem tForm (x : Nm) (hx : In2 x.2) (r : Bool) (h : gd x = r) : PSpec Tryz.prog X 37 [LI x.1 x.2] (Lb r) := Form_spec X _ _ hx r h
theorem tTruth (x y : Nm) (hx : In2 x.2) (hy : In2 y.2) (b : Bool) : PSpec Tryz.prog X 108 [LI x.1 x.2, LI y.1 y.2, Lb b] (exR (truX x y b)) := by
  cases h1 : gd x with
  | false =>
    have f1 := tForm X x hx false h1
    rw [show truX x y b = .error 1 by unfold truX; rw [h1]; rfl]
    refine PSpec.intro Tryz.func108 rfl (by kernel_rfl) rfl rfl ?_
    intro C
    (refine LWP.seq <| rgN <| K.box rfl rfl rfl .plain <| K.box rfl rfl rfl .plain <| K.alloc rfl .plain ?_; refine kas rfl <| RunK.nil <| LWP.seq <| LWP.block <| LWP.seq <| rgN <| K.loadAll rfl rfl rfl .plain ?_; refine kca rfl rfl f1 <| K.not rfl rfl .plain <| kmv rfl <| RunK.passed rfl rfl rfl <| RunK.passed rfl rfl rfl <| RunK.passed rfl rfl rfl <| kpt rfl rfl <| kas rfl <| RunK.nil <| LWP.condT rfl ?_; refine LWP.seq <| rgN <| K.build rfl rfl (by exact rfl) (by exact nl3 rfl rfl rfl rfl) .plain ?_; refine K.storeAll rfl rfl rfl rfl rfl rfl .plain ?_; refine kas rfl <| RunK.nil <| LWP.ret ?_)
    exact ⟨[_, _], ⟨⟨_, _, rfl, rfl, rfl, .inl ⟨AggT.h, rfl⟩⟩, rfl, trivial⟩, rfl⟩
  | true =>
  have f1 := tForm X x hx true h1
  cases h2 : gd y with
  | false =>
    have f2 := tForm X y hy false h2
    rw [show truX x y b = .error 1 by unfold truX; rw [h1, h2]; rfl]
    refine PSpec.intro Tryz.func108 rfl (by kernel_rfl) rfl rfl ?_
    intro C
    (refine LWP.seq <| rgN <| K.box rfl rfl rfl .plain <| K.box rfl rfl rfl .plain <| K.alloc rfl .plain ?_; refine kas rfl <| RunK.nil <| LWP.seq <| LWP.block <| LWP.seq <| rgN <| K.loadAll rfl rfl rfl .plain ?_; refine kca rfl rfl f1 <| K.not rfl rfl .plain <| kmv rfl <| K.loadAll rfl rfl rfl (.taken rfl rfl) ?_; refine gca rfl rfl f2 rfl rfl <| K.not rfl rfl (.taken rfl rfl) ?_; refine kpf rfl rfl <| kas rfl <| RunK.nil <| LWP.condT rfl ?_; refine LWP.seq <| rgN <| K.build rfl rfl (by exact rfl) (by exact nl3 rfl rfl rfl rfl) .plain ?_; refine K.storeAll rfl rfl rfl rfl rfl rfl .plain ?_; refine kas rfl <| RunK.nil <| LWP.ret ?_)
    exact ⟨[_, _], ⟨⟨_, _, rfl, rfl, rfl, .inl ⟨AggT.h, rfl⟩⟩, rfl, trivial⟩, rfl⟩
  | true =>
  have f2 := tForm X y hy true h2
  rw [show truX x y b = .ok (truth b) by unfold truX; rw [h1, h2]; rfl]
  cases b with
  | true =>
    have hO := Of_spec X 1 (by omega)
    refine PSpec.intro Tryz.func108 rfl (by kernel_rfl) rfl rfl ?_
    intro C
    (refine LWP.seq <| rgN <| K.box rfl rfl rfl .plain <| K.box rfl rfl rfl .plain <| K.alloc rfl .plain ?_; refine kas rfl <| RunK.nil <| LWP.seq <| LWP.block <| LWP.seq <| rgN <| K.loadAll rfl rfl rfl .plain ?_; refine kca rfl rfl f1 <| K.not rfl rfl .plain <| kmv rfl <| K.loadAll rfl rfl rfl (.taken rfl rfl) ?_; refine gca rfl rfl f2 rfl rfl <| K.not rfl rfl (.taken rfl rfl) ?_; refine kpf rfl rfl <| kas rfl <| RunK.nil <| LWP.condF rfl ?_; refine LWP.seq <| rgN <| kmv rfl <| kas rfl <| RunK.nil <| LWP.condT rfl ?_; refine LWP.seq <| rgN <| kca rfl rfl (hO) <| K.storeAll rfl rfl rfl rfl rfl rfl .plain ?_; refine kas rfl <| RunK.nil <| LWP.ret ?_)
    exact ⟨[_, _], ⟨⟨_, _, rfl, rfl, rfl, .inl ⟨AggT.h, rfl⟩⟩, rfl, trivial⟩, rfl⟩
  | false =>
    have hO := Of_spec X 0 (by omega)
    refine PSpec.intro Tryz.func108 rfl (by kernel_rfl) rfl rfl ?_
    intro C
    (refine LWP.seq <| rgN <| K.box rfl rfl rfl .plain <| K.box rfl rfl rfl .plain <| K.alloc rfl .plain ?_; refine kas rfl <| RunK.nil <| LWP.seq <| LWP.block <| LWP.seq <| rgN <| K.loadAll rfl rfl rfl .plain ?_; refine kca rfl rfl f1 <| K.not rfl rfl .plain <| kmv rfl <| K.loadAll rfl rfl rfl (.taken rfl rfl) ?_; refine gca rfl rfl f2 rfl rfl <| K.not rfl rfl (.taken rfl rfl) ?_; refine kpf rfl rfl <| kas rfl <| RunK.nil <| LWP.condF rfl ?_; refine LWP.seq <| rgN <| kmv rfl <| kas rfl <| RunK.nil <| LWP.condF rfl ?_; refine LWP.skip ?_; refine LWP.seq <| rgN <| kca rfl rfl (hO) <| K.storeAll rfl rfl rfl rfl rfl rfl .plain ?_; refine kas rfl <| RunK.nil <| LWP.ret ?_)
    exact ⟨[_, _], ⟨⟨_, _, rfl, rfl, rfl, .inl ⟨AggT.h, rfl⟩⟩, rfl, trivial⟩, rfl⟩
theorem tSame (x y : Nm) (hx : In2 x.2) (hy : In2 y.2) : PSpec Tryz.prog X 80 [LI x.1 x.2, LI y.1 y.2] (exR (sameX x y)) := by
  have q := eqI (b := x.1) (b' := y.1) (h := x.2 / 18446744073709551616) (h' := y.2 / 18446744073709551616) (l := x.2 % 18446744073709551616) (l' := y.2 % 18446744073709551616) _ (eqN hx hy)
  unfold sameX
  have hT := tTruth X x y hx hy (decide (x = y))
  rw [show decide (((x.1, x.2) : Nm) = (y.1, y.2)) = decide (x = y) from rfl] at q
  generalize decide (x = y) = z at *
  rw [exR_eq] at hT ⊢
  generalize exE (truX x y z) = e at *
  generalize exV (truX x y z) = v at *
  obtain ⟨vb, vN⟩ := v
  refine PSpec.intro Tryz.func80 rfl (by kernel_rfl) rfl rfl ?_
  intro C
  (refine LWP.seq <| rgN <| K.box rfl rfl rfl .plain <| K.box rfl rfl rfl .plain <| K.alloc rfl .plain ?_; refine kas rfl <| RunK.nil <| LWP.seq <| rgD mixed <| K.loadAll rfl rfl rfl .plain ?_; refine K.loadAll rfl rfl rfl .plain ?_; refine K.loadAll rfl rfl rfl .plain ?_; refine K.loadAll rfl rfl rfl .plain ?_; refine K.aggEq rfl rfl rfl rfl (by kernel_rfl) q (.inl ⟨rfl, rfl⟩) .plain <| kca rfl rfl (hT) <| kex rfl rfl <| kex rfl rfl <| K.storeAll rfl rfl rfl rfl rfl rfl .plain ?_; refine kas rfl <| RunK.nil <| rgA ?_; refine LWP.ret ?_)
  exact ⟨[_, _], ⟨⟨_, _, rfl, rfl, rfl, .inl ⟨AggT.h, rfl⟩⟩, rfl, trivial⟩, rfl⟩
theorem tCmp (x y : Nm) (hx : In2 x.2) (hy : In2 y.2) : ∃ r : Int, PSpec Tryz.prog X 109 [LI x.1 x.2, LI y.1 y.2] (Ln .i64 r) ∧ ((gd x && gd y) = true → decide (r < 0) = decide (zz x < zz y)) := by
  cases h : (gd x && gd y) with
  | false => exact ⟨0, Cmp_bad X _ _ _ _ hx hy h, fun h' => by cases h'⟩
  | true =>
    obtain ⟨gx, gy⟩ := Bool.and_eq_true_iff.1 h
    obtain ⟨e1, r1⟩ := gd_q gx hx
    obtain ⟨e2, r2⟩ := gd_q gy hy
    refine ⟨cmpI (zz x) (zz y), ?_, fun _ => (cmp_lz (u := x) (v := y)).1⟩
    rw [e1, e2]
    exact Cmp_q X _ _ r1 r2 _ rfl
theorem tLess (x y : Nm) (hx : In2 x.2) (hy : In2 y.2) : PSpec Tryz.prog X 78 [LI x.1 x.2, LI y.1 y.2] (exR (lessX x y)) := by
  obtain ⟨r, hC, hr⟩ := tCmp X x y hx hy
  have hT := tTruth X x y hx hy (decide (r < 0))
  have e : truX x y (decide (r < 0)) = lessX x y := by
    unfold lessX
    cases h : (gd x && gd y) with
    | false => unfold truX; rw [h]; rfl
    | true => rw [hr h]
  rw [e] at hT
  rw [exR_eq] at hT ⊢
  generalize exE (lessX x y) = e at *
  generalize exV (lessX x y) = v at *
  obtain ⟨vb, vN⟩ := v
  refine PSpec.intro Tryz.func78 rfl (by kernel_rfl) rfl rfl ?_
  intro C
  (refine LWP.seq <| rgN <| K.box rfl rfl rfl .plain <| K.box rfl rfl rfl .plain <| K.alloc rfl .plain ?_; refine kas rfl <| RunK.nil <| LWP.seq <| rgD mixed <| K.loadAll rfl rfl rfl .plain ?_; refine K.loadAll rfl rfl rfl .plain ?_; refine K.loadAll rfl rfl rfl .plain ?_; refine K.loadAll rfl rfl rfl .plain ?_; refine kca rfl rfl (hC) <| klt rfl rfl rfl <| kca rfl rfl (hT) <| kex rfl rfl <| kex rfl rfl <| K.storeAll rfl rfl rfl rfl rfl rfl .plain ?_; refine kas rfl <| RunK.nil <| rgA ?_; refine LWP.ret ?_)
  exact ⟨[_, _], ⟨⟨_, _, rfl, rfl, rfl, .inl ⟨AggT.h, rfl⟩⟩, rfl, trivial⟩, rfl⟩
theorem sgn_qn {x : Nm} (hx : In2 x.2) (g : gd x = true) : sgnI (zz x) = 0 ↔ x = (false, 0) := by
  obtain ⟨e1, r1⟩ := gd_q g hx
  have h := eqZ (b := x.1) hx
  obtain ⟨b, N⟩ := x
  unfold In2 at hx
  unfold gd formB at g
  unfold sgnI zz zv at *
  simp only at *
  constructor
  · intro h0
    have hN : N = 0 := by
      cases b <;> simp only [Bool.false_eq_true, if_false, if_true] at h0 <;> (repeat' split at h0) <;> omega
    subst hN
    cases b with
    | false => rfl
    | true => simp at g
  · intro e
    cases e
    rfl
theorem tSign (x : Nm) (hx : In2 x.2) (g : gd x = true) : ∃ s : Int, PSpec Tryz.prog X 112 [LI x.1 x.2] (Ln .i64 s) ∧ (s = 0 ↔ x = (false, 0)) := by
  obtain ⟨e1, r1⟩ := gd_q g hx
  exact ⟨sgnI (zz x), by rw [e1]; exact Sign_q X _ r1 _ rfl, sgn_qn hx g⟩
theorem tPick (x y z : Nm) (hx : In2 x.2) : PSpec Tryz.prog X 82 [LI x.1 x.2, LI y.1 y.2, LI z.1 z.2] (exR (pickX x y z)) := by
  cases h1 : gd x with
  | false =>
    have f1 := tForm X x hx false h1
    rw [show pickX x y z = .error 1 by unfold pickX; rw [h1]; rfl]
    refine PSpec.intro Tryz.func82 rfl (by kernel_rfl) rfl rfl ?_
    intro C
    (refine LWP.seq <| rgN <| K.box rfl rfl rfl .plain <| K.box rfl rfl rfl .plain <| K.box rfl rfl rfl .plain <| K.alloc rfl .plain ?_; refine kas rfl <| RunK.nil <| LWP.seq <| LWP.block <| LWP.seq <| rgN <| K.loadAll rfl rfl rfl .plain ?_; refine kca rfl rfl (f1) <| K.not rfl rfl .plain <| kas rfl <| RunK.nil <| LWP.condT rfl ?_; refine LWP.seq <| rgN <| K.build rfl rfl (by exact rfl) (by exact nl3 rfl rfl rfl rfl) .plain ?_; refine K.storeAll rfl rfl rfl rfl rfl rfl .plain ?_; refine kas rfl <| RunK.nil <| LWP.ret ?_)
    exact ⟨[_, _], ⟨⟨_, _, rfl, rfl, rfl, .inl ⟨AggT.h, rfl⟩⟩, rfl, trivial⟩, rfl⟩
  | true =>
  have f1 := tForm X x hx true h1
  obtain ⟨s, hS, hs⟩ := tSign X x hx h1
  by_cases c : x = (false, 0)
  · rw [show pickX x y z = .ok z by unfold pickX; rw [h1, if_neg (by decide), if_pos c]]
    have c := hs.2 c
    subst c
    refine PSpec.intro Tryz.func82 rfl (by kernel_rfl) rfl rfl ?_
    intro C
    (refine LWP.seq <| rgN <| K.box rfl rfl rfl .plain <| K.box rfl rfl rfl .plain <| K.box rfl rfl rfl .plain <| K.alloc rfl .plain ?_; refine kas rfl <| RunK.nil <| LWP.seq <| LWP.block <| LWP.seq <| rgN <| K.loadAll rfl rfl rfl .plain ?_; refine kca rfl rfl (f1) <| K.not rfl rfl .plain <| kas rfl <| RunK.nil <| LWP.condF rfl ?_; refine LWP.seq <| rgN <| K.loadAll rfl rfl rfl .plain ?_; refine kca rfl rfl (hS) <| kne rfl rfl (r := false) rfl <| kas rfl <| RunK.nil <| LWP.condF rfl ?_; refine LWP.skip ?_; refine LWP.seq <| rgN <| K.loadAll rfl rfl rfl .plain ?_; refine K.storeAll rfl rfl rfl rfl rfl rfl .plain ?_; refine kas rfl <| RunK.nil <| LWP.ret ?_)
    exact ⟨[_, _], ⟨⟨_, _, rfl, rfl, rfl, .inl ⟨AggT.h, rfl⟩⟩, rfl, trivial⟩, rfl⟩
  · rw [show pickX x y z = .ok y by unfold pickX; rw [h1, if_neg (by decide), if_neg c]]
    have c : s ≠ 0 := fun h => c (hs.1 h)
    refine PSpec.intro Tryz.func82 rfl (by kernel_rfl) rfl rfl ?_
    intro C
    (refine LWP.seq <| rgN <| K.box rfl rfl rfl .plain <| K.box rfl rfl rfl .plain <| K.box rfl rfl rfl .plain <| K.alloc rfl .plain ?_; refine kas rfl <| RunK.nil <| LWP.seq <| LWP.block <| LWP.seq <| rgN <| K.loadAll rfl rfl rfl .plain ?_; refine kca rfl rfl (f1) <| K.not rfl rfl .plain <| kas rfl <| RunK.nil <| LWP.condF rfl ?_; refine LWP.seq <| rgN <| K.loadAll rfl rfl rfl .plain ?_; refine kca rfl rfl (hS) <| kne rfl rfl (r := true) (bne_iff_ne.2 c) <| kas rfl <| RunK.nil <| LWP.condT rfl ?_; refine LWP.seq <| rgN <| K.loadAll rfl rfl rfl .plain ?_; refine K.storeAll rfl rfl rfl rfl rfl rfl .plain ?_; refine kas rfl <| RunK.nil <| LWP.ret ?_)
    exact ⟨[_, _], ⟨⟨_, _, rfl, rfl, rfl, .inl ⟨AggT.h, rfl⟩⟩, rfl, trivial⟩, rfl⟩
theorem tNeed (x y : Nm) (hy : In2 y.2) : PSpec Tryz.prog X 83 [LI x.1 x.2, LI y.1 y.2] (exR (needX x y)) := by
  cases h1 : gd y with
  | false =>
    have f1 := tForm X y hy false h1
    rw [show needX x y = .error 1 by unfold needX; rw [h1]; rfl]
    refine PSpec.intro Tryz.func83 rfl (by kernel_rfl) rfl rfl ?_
    intro C
    (refine LWP.seq <| rgN <| K.box rfl rfl rfl .plain <| K.box rfl rfl rfl .plain <| K.alloc rfl .plain ?_; refine kas rfl <| RunK.nil <| LWP.seq <| LWP.block <| LWP.seq <| rgN <| K.loadAll rfl rfl rfl .plain ?_; refine kca rfl rfl (f1) <| K.not rfl rfl .plain <| kas rfl <| RunK.nil <| LWP.condT rfl ?_; refine LWP.seq <| rgN <| K.build rfl rfl (by exact rfl) (by exact nl3 rfl rfl rfl rfl) .plain ?_; refine K.storeAll rfl rfl rfl rfl rfl rfl .plain ?_; refine kas rfl <| RunK.nil <| LWP.ret ?_)
    exact ⟨[_, _], ⟨⟨_, _, rfl, rfl, rfl, .inl ⟨AggT.h, rfl⟩⟩, rfl, trivial⟩, rfl⟩
  | true =>
  have f1 := tForm X y hy true h1
  obtain ⟨s, hS, hs⟩ := tSign X y hy h1
  by_cases c : y = (false, 0)
  · rw [show needX x y = .error 9 by unfold needX; rw [h1, if_neg (by decide), if_pos c]]
    have c := hs.2 c
    subst c
    refine PSpec.intro Tryz.func83 rfl (by kernel_rfl) rfl rfl ?_
    intro C
    (refine LWP.seq <| rgN <| K.box rfl rfl rfl .plain <| K.box rfl rfl rfl .plain <| K.alloc rfl .plain ?_; refine kas rfl <| RunK.nil <| LWP.seq <| LWP.block <| LWP.seq <| rgN <| K.loadAll rfl rfl rfl .plain ?_; refine kca rfl rfl (f1) <| K.not rfl rfl .plain <| kas rfl <| RunK.nil <| LWP.condF rfl ?_; refine LWP.seq <| rgN <| K.loadAll rfl rfl rfl .plain ?_; refine kca rfl rfl (hS) <| keq rfl rfl (r := true) rfl <| kas rfl <| RunK.nil <| LWP.condT rfl ?_; refine LWP.seq <| rgN <| K.build rfl rfl (by exact rfl) (by exact nl3 rfl rfl rfl rfl) .plain ?_; refine K.storeAll rfl rfl rfl rfl rfl rfl .plain ?_; refine kas rfl <| RunK.nil <| LWP.ret ?_)
    exact ⟨[_, _], ⟨⟨_, _, rfl, rfl, rfl, .inl ⟨AggT.h, rfl⟩⟩, rfl, trivial⟩, rfl⟩
  · rw [show needX x y = .ok x by unfold needX; rw [h1, if_neg (by decide), if_neg c]]
    have c : s ≠ 0 := fun h => c (hs.1 h)
    refine PSpec.intro Tryz.func83 rfl (by kernel_rfl) rfl rfl ?_
    intro C
    (refine LWP.seq <| rgN <| K.box rfl rfl rfl .plain <| K.box rfl rfl rfl .plain <| K.alloc rfl .plain ?_; refine kas rfl <| RunK.nil <| LWP.seq <| LWP.block <| LWP.seq <| rgN <| K.loadAll rfl rfl rfl .plain ?_; refine kca rfl rfl (f1) <| K.not rfl rfl .plain <| kas rfl <| RunK.nil <| LWP.condF rfl ?_; refine LWP.seq <| rgN <| K.loadAll rfl rfl rfl .plain ?_; refine kca rfl rfl (hS) <| keq rfl rfl (r := false) (beq_eq_false_iff_ne.2 c) <| kas rfl <| RunK.nil <| LWP.condF rfl ?_; refine LWP.skip ?_; refine LWP.seq <| rgN <| K.loadAll rfl rfl rfl .plain ?_; refine K.storeAll rfl rfl rfl rfl rfl rfl .plain ?_; refine kas rfl <| RunK.nil <| LWP.ret ?_)
    exact ⟨[_, _], ⟨⟨_, _, rfl, rfl, rfl, .inl ⟨AggT.h, rfl⟩⟩, rfl, trivial⟩, rfl⟩
end Go.Proofs.YtnfbccfghgmfiaaGreat
end
section
namespace Go.Lg
open Go Go.RowKit
section
variable {P : Program} {n : Nat} {ops os : List Oper} {acc : List Eff} {K : List Eff → St → Prop} {s : List (Nat × LV)} {bx : List (Nat × Option Box)} {X : Nat → Option Obj} {σ : St}
theorem LOK.makeSlc0 {d m : Nat} {t e : TypeId} {x y : Operand} {ty : TypeId} {pos : String} {after_ : Array Edge} {g : Option (Nat × Bool)} {kl kc : IntKind} {zs : List Value} {sz : Nat} {bytes : Nat}
    (hx : σ.ev x = some (.sv (.one (.val (.int kl 0))))) (hy : σ.ev y = some (.sv (.one (.val (.int kc (m : Nat)))))) (hst : slcBuild P t m = some (zs, sz, e)) (hby : (P.info? e).map (·.bytes) = some bytes) (hfit : bytes * m ≤ 281474976710656 ∧ m < 9223372036854775808)
    (hk : σ.fresh d = true) : LOK P n ops ⟨some d, .makeSlice t x y, ty, pos, after_, g⟩ σ ⟨[(d, .sv (.one (.slc d 0 0 sz)))], [], [(d, some ⟨e, [], true⟩)]⟩ :=
  LOK.make fun σ' ha C ι a w hr => by
    have hk' : σ'.stat d = none := (ha.stat d (.inr (by simp))).trans (St.fresh_none hk)
    have hlt := St.fresh_lt hk
    have h1 : a.eval x = .int kl 0 := hr.ev ((ha.ev (x := x) (by simp [Op.operands])).trans hx)
    have h2 : a.eval y = .int kc (m : Nat) := hr.ev ((ha.ev (x := y) (by simp [Op.operands])).trans hy)
    unfold slcBuild at hst
    cases hu : P.underlying t with
    | none => simp [hu] at hst
    | some dd =>
      cases dd <;> simp only [hu] at hst <;> try (simp at hst; done)
      rename_i e'
      cases hie : P.info? e' with
      | none => simp [hie] at hst
      | some ie =>
        cases hz : ie.zero with
        | none => simp [hie, hz] at hst
        | some z =>
          simp only [hie, hz] at hst
          by_cases hbig : m * ie.size > 2 ^ 24
          · rw [if_pos hbig] at hst; cases hst
          · rw [if_neg hbig] at hst
            simp only [Option.some.injEq, Prod.mk.injEq] at hst
            obtain ⟨e1, e2, e3⟩ := hst
            subst e3
            rw [hie] at hby
            simp only [Option.map_some, Option.some.injEq] at hby
            have hbb : (ie.bytes : Int) * ((m : Nat) : Int) ≤ 281474976710656 := by
              rw [hby, ← Int.natCast_mul]
              have := hfit.1
              omega
            have hrun := run_make (P := P) w t e' ie z hu hie hz kl kc 0 (m : Nat) (Int.le_refl _) (by omega) hbb (by have := hfit.2; omega)
            simp only [Int.toNat_natCast, Int.toNat_zero] at hrun
            have hmc : madeCells z.cells (m * ie.size) = zs.toArray := by
              unfold madeCells
              rw [range_map, ← e1]
            rw [hmc] at hrun
            refine ⟨.slice (some ⟨w.heap.size, 0, none⟩) 0 m, w.alloc (.cells zs.toArray e'), put1 ι d (w.heap.size, zs.toArray.size), ?_, ?_, ?_⟩
            · simp only [execOp, h1, h2, Sem.run_bind, hrun, Result.andThen_ok, Sem.run_pure]
            · exact hr.new hlt hk' (b := ⟨e', [], true⟩) ⟨[], zs, by simp, trivial⟩
            · have hl : zs.length = m * sz := by rw [← e1, ← e2]; simp
              simp [LV.rel, SV.rel, CV.rel, stat_cons, put1, hl]
theorem K.makeSlc0 {d m : Nat} {t e : TypeId} {x y : Operand} {ty : TypeId} {pos : String} {after_ : Array Edge} {g : Option (Nat × Bool)} {kl kc : IntKind} {zs : List Value} {sz : Nat} {bytes : Nat}
    (hx : (⟨s, bx, X⟩ : St).ev x = some (.sv (.one (.val (.int kl 0))))) (hy : (⟨s, bx, X⟩ : St).ev y = some (.sv (.one (.val (.int kc (m : Nat)))))) (hst : slcBuild P t m = some (zs, sz, e)) (hby : (P.info? e).map (·.bytes) = some bytes) (hfit : bytes * m ≤ 281474976710656 ∧ m < 9223372036854775808)
    (hk : (⟨s, bx, X⟩ : St).fresh d = true) (hw : Want ops s g) (kont : RunK P n ops os ⟨(d, .sv (.one (.slc d 0 0 sz))) :: s, (d, some ⟨e, [], true⟩) :: bx, X⟩ (⟨[(d, .sv (.one (.slc d 0 0 sz)))], [], [(d, some ⟨e, [], true⟩)]⟩ :: acc) K) :
    RunK P n ops (⟨some d, .makeSlice t x y, ty, pos, after_, g⟩ :: os) ⟨s, bx, X⟩ acc K := RunK.gen hw (LOK.makeSlc0 hx hy hst hby hfit hk) kont
end
end Go.Lg
end
section
namespace Go.Lg
open Go Go.RowKit
def CV.fix (k b : Nat) : CV → CV
  | .ptr k' off => cond (Nat.beq k' k) (.val (.pointer (some ⟨b, off, none⟩))) (.ptr k' off)
  | .fn fi gi k' => cond (Nat.beq k' k) (.val (.func fi #[] (gi b).toArray)) (.fn fi gi k')
  | c => c
def SV.fix (k b : Nat) : SV → SV
  | .one c => .one (c.fix k b)
  | .agg l => .agg (l.map (CV.fix k b))
def LV.fix (k b : Nat) : LV → LV
  | .sv s => .sv (s.fix k b)
  | .tup l => .tup (l.map (SV.fix k b))
def Box.fix (k b : Nat) (x : Box) : Box := ⟨x.elem, x.cells.map (CV.fix k b), x.row⟩
def CV.fixIn (k : Nat) (B : List (Nat × Option Box)) : CV → Bool
  | .ptr k' _ => Nat.beq k' k || (look k' B).isSome
  | .fn _ _ k' => Nat.beq k' k || (look k' B).isSome
  | c => c.inUse B
def SV.fixIn (k : Nat) (B : List (Nat × Option Box)) : SV → Bool
  | .one c => c.fixIn k B
  | .agg l => l.all (CV.fixIn k B)
def LV.fixIn (k : Nat) (B : List (Nat × Option Box)) : LV → Bool
  | .sv s => s.fixIn k B
  | .tup l => l.all (SV.fixIn k B)
def fixS (k b : Nat) (s : List (Nat × LV)) : List (Nat × LV) := s.map fun p => (p.1, p.2.fix k b)
def fixB (k b : Nat) (s : List (Nat × Option Box)) : List (Nat × Option Box) := s.map fun p => (p.1, p.2.map (Box.fix k b))
section
variable {S T : Nat → Option (Option Box)} {ι : Nat → Nat × Nat} {B : List (Nat × Option Box)} {k : Nat}
def Stay (B : List (Nat × Option Box)) (S T : Nat → Option (Option Box)) : Prop := ∀ k', (look k' B).isSome = true → ∃ x y, T k' = some x ∧ S k' = some y ∧ x.isSome = y.isSome
theorem CV.rel_stay (hT : Stay B S T) {c : CV} (hu : c.inUse B = true) {v : Value} (hr : c.rel S ι v) : c.rel T ι v := by
  cases c with
  | val u => exact hr
  | junk => trivial
  | ptr k' off =>
    obtain ⟨x, y, h1, h2, h3⟩ := hT k' hu
    simp only [CV.rel, h1, h2] at hr ⊢
    cases x <;> cases y <;> first | exact hr | cases h3
  | slc k' off n sz =>
    obtain ⟨x, y, h1, h2, h3⟩ := hT k' hu
    simp only [CV.rel, h1, h2] at hr ⊢
    cases x <;> cases y <;> first | exact hr | cases h3
  | mp k' =>
    obtain ⟨x, y, h1, h2, h3⟩ := hT k' hu
    simp only [CV.rel, h1, h2] at hr ⊢
    cases x <;> cases y <;> first | exact hr | cases h3
  | fn fi gi k' =>
    obtain ⟨x, y, h1, h2, h3⟩ := hT k' hu
    simp only [CV.rel, h1, h2] at hr ⊢
    cases x <;> cases y <;> first | exact hr | cases h3
theorem CV.rel_fix (hT : Stay B S T) (hk : ∃ b, S k = some (some b)) {c : CV} (hu : c.fixIn k B = true) {v : Value} (hr : c.rel S ι v) : (c.fix k (ι k).1).rel T ι v := by
  obtain ⟨b, hb⟩ := hk
  cases c with
  | val u => exact hr
  | junk => trivial
  | ptr k' off =>
    simp only [CV.fixIn, Bool.or_eq_true] at hu
    cases e : Nat.beq k' k with
    | true =>
      have e' := Nat.eq_of_beq_eq_true e
      subst e'
      simp only [CV.fix, e, cond_true]
      simp only [CV.rel, hb] at hr
      exact hr
    | false =>
      simp only [CV.fix, e, cond_false]
      rw [e] at hu
      exact CV.rel_stay (c := .ptr k' off) hT (hu.resolve_left (by decide)) hr
  | slc k' off n sz => exact CV.rel_stay (c := .slc k' off n sz) hT hu hr
  | mp k' => exact CV.rel_stay (c := .mp k') hT hu hr
  | fn fi gi k' =>
    simp only [CV.fixIn, Bool.or_eq_true] at hu
    cases e : Nat.beq k' k with
    | true =>
      have e' := Nat.eq_of_beq_eq_true e
      subst e'
      simp only [CV.fix, e, cond_true]
      simp only [CV.rel, hb] at hr
      exact hr
    | false =>
      simp only [CV.fix, e, cond_false]
      rw [e] at hu
      exact CV.rel_stay (c := .fn fi gi k') hT (hu.resolve_left (by decide)) hr
theorem CVs.rel_stay (hT : Stay B S T) : ∀ {l : List CV} {vs : List Value}, l.all (CV.inUse B) = true → CVs.rel S ι l vs → CVs.rel T ι l vs
  | [], [], _, _ => trivial
  | _ :: _, _ :: _, hu, hr => by
    simp only [List.all_cons, Bool.and_eq_true] at hu
    exact ⟨CV.rel_stay hT hu.1 hr.1, CVs.rel_stay hT hu.2 hr.2⟩
  | [], _ :: _, _, hr => hr.elim
  | _ :: _, [], _, hr => hr.elim
theorem CVs.rel_fix (hT : Stay B S T) (hk : ∃ b, S k = some (some b)) : ∀ {l : List CV} {vs : List Value}, l.all (CV.fixIn k B) = true → CVs.rel S ι l vs → CVs.rel T ι (l.map (CV.fix k (ι k).1)) vs
  | [], [], _, _ => trivial
  | _ :: _, _ :: _, hu, hr => by
    simp only [List.all_cons, Bool.and_eq_true] at hu
    exact ⟨CV.rel_fix hT hk hu.1 hr.1, CVs.rel_fix hT hk hu.2 hr.2⟩
  | [], _ :: _, _, hr => hr.elim
  | _ :: _, [], _, hr => hr.elim
theorem SV.rel_stay (hT : Stay B S T) {s : SV} (hu : s.inUse B = true) {v : Value} (hr : s.rel S ι v) : s.rel T ι v := by
  cases s with
  | one c => exact CV.rel_stay hT hu hr
  | agg l => obtain ⟨arr, e, hl⟩ := hr; exact ⟨arr, e, CVs.rel_stay hT hu hl⟩
theorem SV.rel_fix (hT : Stay B S T) (hk : ∃ b, S k = some (some b)) {s : SV} (hu : s.fixIn k B = true) {v : Value} (hr : s.rel S ι v) : (s.fix k (ι k).1).rel T ι v := by
  cases s with
  | one c => exact CV.rel_fix hT hk hu hr
  | agg l => obtain ⟨arr, e, hl⟩ := hr; exact ⟨arr, e, CVs.rel_fix hT hk hu hl⟩
theorem SVs.rel_stay (hT : Stay B S T) : ∀ {l : List SV} {vs : List Value}, l.all (SV.inUse B) = true → SVs.rel S ι l vs → SVs.rel T ι l vs
  | [], [], _, _ => trivial
  | _ :: _, _ :: _, hu, hr => by
    simp only [List.all_cons, Bool.and_eq_true] at hu
    exact ⟨SV.rel_stay hT hu.1 hr.1, SVs.rel_stay hT hu.2 hr.2⟩
  | [], _ :: _, _, hr => hr.elim
  | _ :: _, [], _, hr => hr.elim
theorem SVs.rel_fix (hT : Stay B S T) (hk : ∃ b, S k = some (some b)) : ∀ {l : List SV} {vs : List Value}, l.all (SV.fixIn k B) = true → SVs.rel S ι l vs → SVs.rel T ι (l.map (SV.fix k (ι k).1)) vs
  | [], [], _, _ => trivial
  | _ :: _, _ :: _, hu, hr => by
    simp only [List.all_cons, Bool.and_eq_true] at hu
    exact ⟨SV.rel_fix hT hk hu.1 hr.1, SVs.rel_fix hT hk hu.2 hr.2⟩
  | [], _ :: _, _, hr => hr.elim
  | _ :: _, [], _, hr => hr.elim
theorem LV.rel_stay (hT : Stay B S T) {s : LV} (hu : s.inUse B = true) {v : Value} (hr : s.rel S ι v) : s.rel T ι v := by
  cases s with
  | sv s => exact SV.rel_stay hT hu hr
  | tup l => obtain ⟨arr, e, hl⟩ := hr; exact ⟨arr, e, SVs.rel_stay hT hu hl⟩
theorem LV.rel_fix (hT : Stay B S T) (hk : ∃ b, S k = some (some b)) {s : LV} (hu : s.fixIn k B = true) {v : Value} (hr : s.rel S ι v) : (s.fix k (ι k).1).rel T ι v := by
  cases s with
  | sv s => exact SV.rel_fix hT hk hu hr
  | tup l => obtain ⟨arr, e, hl⟩ := hr; exact ⟨arr, e, SVs.rel_fix hT hk hu hl⟩
theorem Box.rel_stay (hT : Stay B S T) {b : Box} (hu : b.cells.all (CV.inUse B) = true) {vs : List Value} (hr : b.rel S ι vs) : b.rel T ι vs := by
  unfold Box.rel at hr ⊢
  cases hb : b.row with
  | res R => rw [hb] at hr; exact hr.elim
  | bool r =>
    cases r with
    | false => rw [hb] at hr; exact CVs.rel_stay hT hu hr
    | true => rw [hb] at hr; obtain ⟨us, sp, e, hl⟩ := hr; exact ⟨us, sp, e, CVs.rel_stay hT hu hl⟩
theorem Box.rel_fix (hT : Stay B S T) (hk : ∃ b, S k = some (some b)) {b : Box} (hu : b.cells.all (CV.fixIn k B) = true) {vs : List Value} (hr : b.rel S ι vs) : (b.fix k (ι k).1).rel T ι vs := by
  obtain ⟨e, cs, r⟩ := b
  unfold Box.rel at hr ⊢
  simp only [Box.fix] at hu hr ⊢
  cases r with
  | res R => exact hr.elim
  | bool r =>
    cases r with
    | false => exact CVs.rel_fix hT hk hu hr
    | true => obtain ⟨us, sp, e, hl⟩ := hr; exact ⟨us, sp, e, CVs.rel_fix hT hk hu hl⟩
end
theorem look_fixS (k b d : Nat) (s : List (Nat × LV)) : look d (fixS k b s) = (look d s).map (LV.fix k b) := by
  induction s with
  | nil => rfl
  | cons p s ih =>
    obtain ⟨d', lv⟩ := p
    show cond (Nat.beq d' d) _ (look d (fixS k b s)) = (cond (Nat.beq d' d) _ (look d s)).map _
    cases Nat.beq d' d with
    | true => rfl
    | false => exact ih
theorem look_fixB (k b d : Nat) (s : List (Nat × Option Box)) : look d (fixB k b s) = (look d s).map (fun x => x.map (Box.fix k b)) := by
  induction s with
  | nil => rfl
  | cons p s ih =>
    obtain ⟨d', lv⟩ := p
    show cond (Nat.beq d' d) _ (look d (fixB k b s)) = (cond (Nat.beq d' d) _ (look d s)).map _
    cases Nat.beq d' d with
    | true => rfl
    | false => exact ih
section
variable {P : Program} {n : Nat} {C : Ctx} {c : Code} {Q : Exit → St → Prop} {X : Nat → Option Obj}
theorem Rel.fixN {ι : Nat → Nat × Nat} {a : Act} {w : World} {s0 s : List (Nat × LV)} {b0 bx : List (Nat × Option Box)} {k : Nat} {b : Box} {H : Nat → Option Obj} {F : Nat → Nat → Option Obj}
    (hk : look k (b0 ++ bx) = none) (hs : s.all (fun p => p.2.inUse (b0 ++ bx)) = true) (hb : bx.all (fun p => match p.2 with | some b => b.cells.all (CV.inUse (b0 ++ bx)) | none => true) = true)
    (hs0 : s0.all (fun p => p.2.fixIn k (b0 ++ bx)) = true) (hb0 : b0.all (fun p => match p.2 with | some b => b.cells.all (CV.fixIn k (b0 ++ bx)) | none => true) = true)
    (hr : Rel n C ι ⟨s0 ++ s, b0 ++ (k, some b) :: bx, X⟩ a w)
    (hH : ∀ i o, H i = some o → w.heap[i]? = some o ∧ X i = none ∧ ∀ j bj, (⟨s0 ++ s, b0 ++ (k, some b) :: bx, X⟩ : St).stat j = some (some bj) → (ι j).1 = i → j = k)
    (hF : ResAt (fun b => C.own b ∨ C.w0.heap.size ≤ b) ι F (⟨s0 ++ s, b0 ++ (k, some b) :: bx, X⟩ : St).stat X w) (hFH : ∀ j, j ≠ k → ∀ i, F j i ≠ none → H i = none) :
    Rel n C ι ⟨fixS k (ι k).1 s0 ++ s, fixB k (ι k).1 b0 ++ bx, joinM X H⟩ a w := by
  have hk1 : look k b0 = none ∧ look k bx = none := by
    rw [look_append] at hk
    cases h : look k b0 with
    | none => rw [h] at hk; exact ⟨rfl, hk⟩
    | some x => rw [h] at hk; cases hk
  have hstat : ∀ j, (⟨s0 ++ s, b0 ++ (k, some b) :: bx, X⟩ : St).stat j = (look j b0).or (if j = k then some (some b) else look j bx) := fun j => by
    show look j (b0 ++ (k, some b) :: bx) = _
    rw [look_append]
    have := stat_cons [] bx X k j (some b)
    simp only [St.stat] at this
    rw [this]
  have hnew : ∀ j, (⟨fixS k (ι k).1 s0 ++ s, fixB k (ι k).1 b0 ++ bx, joinM X H⟩ : St).stat j = ((look j b0).map (fun x => x.map (Box.fix k (ι k).1))).or (look j bx) := fun j => by
    show look j (fixB k (ι k).1 b0 ++ bx) = _
    rw [look_append, look_fixB]
  have hst : (⟨s0 ++ s, b0 ++ (k, some b) :: bx, X⟩ : St).stat k = some (some b) := by rw [hstat, hk1.1, if_pos rfl]; rfl
  have live : ∀ j x, (⟨fixS k (ι k).1 s0 ++ s, fixB k (ι k).1 b0 ++ bx, joinM X H⟩ : St).stat j = some x → j ≠ k ∧ ((∃ y, look j b0 = some y ∧ x = y.map (Box.fix k (ι k).1) ∧ (⟨s0 ++ s, b0 ++ (k, some b) :: bx, X⟩ : St).stat j = some y) ∨ (look j b0 = none ∧ look j bx = some x ∧ (⟨s0 ++ s, b0 ++ (k, some b) :: bx, X⟩ : St).stat j = some x)) := fun j x hj => by
    rw [hnew] at hj
    cases h0 : look j b0 with
    | some y =>
      rw [h0] at hj
      have hj : some (y.map (Box.fix k (ι k).1)) = some x := hj
      cases hj
      exact ⟨fun e => (by rw [e, hk1.1] at h0; cases h0), .inl ⟨y, rfl, rfl, by rw [hstat, h0]; rfl⟩⟩
    | none =>
      rw [h0] at hj
      have hj : look j bx = some x := hj
      have hne : j ≠ k := fun e => by rw [e, hk1.2] at hj; cases hj
      exact ⟨hne, .inr ⟨rfl, hj, by rw [hstat, h0, if_neg hne]; exact hj⟩⟩
  have hT : Stay (b0 ++ bx) (⟨s0 ++ s, b0 ++ (k, some b) :: bx, X⟩ : St).stat (⟨fixS k (ι k).1 s0 ++ s, fixB k (ι k).1 b0 ++ bx, joinM X H⟩ : St).stat := fun j hj => by
    rw [look_append] at hj
    rw [hnew, hstat]
    cases h0 : look j b0 with
    | some y =>
      refine ⟨y.map (Box.fix k (ι k).1), y, rfl, rfl, ?_⟩
      cases y <;> rfl
    | none =>
      rw [h0] at hj
      have hj : (look j bx).isSome = true := hj
      obtain ⟨x, hx⟩ := Option.isSome_iff_exists.1 hj
      have hne : j ≠ k := fun e => by rw [e, hk1.2] at hx; cases hx
      rw [if_neg hne, hx]
      exact ⟨x, x, rfl, rfl, rfl⟩
  have live2 : ∀ j bj, (⟨fixS k (ι k).1 s0 ++ s, fixB k (ι k).1 b0 ++ bx, joinM X H⟩ : St).stat j = some (some bj) → j ≠ k ∧ ∃ bj0, (⟨s0 ++ s, b0 ++ (k, some b) :: bx, X⟩ : St).stat j = some (some bj0) ∧ bj.row = bj0.row := fun j bj hj => by
    obtain ⟨hne, h⟩ := live j _ hj
    rcases h with ⟨y, _, h2, h3⟩ | ⟨_, _, h3⟩
    · cases y with
      | none => cases h2
      | some y =>
        have h2 : some bj = some (y.fix k (ι k).1) := h2
        cases h2
        exact ⟨hne, y, h3, rfl⟩
    · exact ⟨hne, bj, h3, rfl⟩
  have hHk : ∀ j bj, (⟨fixS k (ι k).1 s0 ++ s, fixB k (ι k).1 b0 ++ bx, joinM X H⟩ : St).stat j = some (some bj) → H (ι j).1 = none := fun j bj hj => by
    obtain ⟨hne, bj0, h1, _⟩ := live2 j bj hj
    cases hc : H (ι j).1 with
    | none => rfl
    | some o => exact absurd ((hH _ o hc).2.2 j bj0 h1 rfl) hne
  exact {
    defers := hr.defers, size := hr.size
    slots := fun d lv hd => by
      have hd : look d (fixS k (ι k).1 s0 ++ s) = some lv := hd
      rw [look_append, look_fixS] at hd
      cases h0 : look d s0 with
      | some lv0 =>
        rw [h0] at hd
        have hd : some (lv0.fix k (ι k).1) = some lv := hd
        cases hd
        obtain ⟨v, hv, hvr⟩ := hr.slots d lv0 (by show look d (s0 ++ s) = _; rw [look_append, h0]; rfl)
        exact ⟨v, hv, LV.rel_fix hT ⟨b, hst⟩ (List.all_eq_true.1 hs0 _ (look_mem h0)) hvr⟩
      | none =>
        rw [h0] at hd
        have hd : look d s = some lv := hd
        obtain ⟨v, hv, hvr⟩ := hr.slots d lv (by show look d (s0 ++ s) = _; rw [look_append, h0]; exact hd)
        exact ⟨v, hv, LV.rel_stay hT (List.all_eq_true.1 hs _ (look_mem hd)) hvr⟩
    boxes := fun j bj hj hbk => by
      obtain ⟨hne, h⟩ := live j _ hj
      rcases h with ⟨y, h1, h2, h3⟩ | ⟨h1, h2, h3⟩
      · cases y with
        | none => cases h2
        | some y =>
          have h2 : some bj = some (y.fix k (ι k).1) := h2
          cases h2
          obtain ⟨arr, fr, g1, g2, g3, g4⟩ := hr.boxes j y h3 hbk
          exact ⟨arr, fr, g1, g2, g3, Box.rel_fix hT ⟨b, hst⟩ (by simpa using List.all_eq_true.1 hb0 _ (look_mem h1)) g4⟩
      · obtain ⟨arr, fr, g1, g2, g3, g4⟩ := hr.boxes j bj h3 hbk
        exact ⟨arr, fr, g1, g2, g3, Box.rel_stay hT (by simpa using List.all_eq_true.1 hb _ (look_mem h2)) g4⟩
    own := fun j bj hj => by
      obtain ⟨hne, bj0, h1, _⟩ := live2 j bj hj
      obtain ⟨h2, h3⟩ := hr.own j bj0 h1
      exact ⟨h2, (joinM_out (hHk j bj hj)).trans h3⟩
    inj := fun i j bi bj hi hj he => by
      obtain ⟨_, bi0, h1, _⟩ := live2 i bi hi
      obtain ⟨_, bj0, h2, _⟩ := live2 j bj hj
      exact hr.inj i j bi0 bj0 h1 h2 he
    keep := fun j bj hj hge => by
      obtain ⟨_, bj0, h1, _⟩ := live2 j bj hj
      exact hr.keep j bj0 h1 hge
    ext := fun i o hi => by
      have hi : joinM X H i = some o := hi
      cases hc : H i with
      | none => rw [joinM_out hc] at hi; exact hr.ext i o hi
      | some o' =>
        rw [joinM_in hc] at hi
        cases hi
        exact (hH i o hc).1
    res := by
      refine ⟨fun j => open Classical in if j = k then fun _ => none else F j, fun j e' cs' R' hj => ?_, fun j i o ho => ?_, fun i j i' h1 h2 => ?_⟩
      · obtain ⟨hne, h⟩ := live j _ hj
        rw [if_neg hne]
        rcases h with ⟨y, h1, h2, h3⟩ | ⟨h1, h2, h3⟩
        · cases y with
          | none => cases h2
          | some y =>
            obtain ⟨ye, yc, yr⟩ := y
            have h2 : some (⟨e', cs', .res R'⟩ : Box) = some (Box.fix k (ι k).1 ⟨ye, yc, yr⟩) := h2
            simp only [Box.fix, Option.some.injEq, Box.mk.injEq] at h2
            obtain ⟨_, _, e3⟩ := h2
            subst e3
            exact hF.holds j _ _ R' h3
        · exact hF.holds j _ _ R' h3
      · by_cases ej : j = k
        · rw [if_pos ej] at ho; cases ho
        · rw [if_neg ej] at ho
          obtain ⟨⟨e1, cs1, R1, h1⟩, h2, h3, h4, h5, h6⟩ := hF.mem j i o ho
          refine ⟨?_, h2, h3, h4, (joinM_out (hFH j ej i (by rw [ho]; simp))).trans h5, fun i2 bi hi ei => ?_⟩
          · rw [hstat, if_neg ej] at h1
            unfold isRes
            rw [hnew]
            cases h0 : look j b0 with
            | some y =>
              rw [h0] at h1
              have h1 : some y = some (some ⟨e1, cs1, .res R1⟩) := h1
              cases h1
              exact ⟨_, _, _, rfl⟩
            | none =>
              rw [h0] at h1
              have h1 : look j bx = some (some ⟨e1, cs1, .res R1⟩) := h1
              exact ⟨_, _, _, h1⟩
          · obtain ⟨_, bi0, h7, _⟩ := live2 i2 bi hi
            exact h6 i2 bi0 h7 ei
      · by_cases ei : i = k
        · rw [if_pos ei] at h1; exact absurd rfl h1
        · by_cases ej : j = k
          · rw [if_pos ej] at h2; exact absurd rfl h2
          · rw [if_neg ei] at h1
            rw [if_neg ej] at h2
            exact hF.apart i j i' h1 h2
    frame := hr.frame, big := hr.big, os := hr.os, tape := hr.tape, output := hr.output }
def oneM (blk : Nat) (o : Obj) : Nat → Option Obj := fun i => if i = blk then some o else none
theorem joinM_one (X : Nat → Option Obj) (blk : Nat) (o : Obj) : joinM X (oneM blk o) = withBlock X blk o := by
  funext i
  unfold joinM oneM withBlock
  by_cases e : i = blk <;> simp [e]
theorem Rel.fixBox {ι : Nat → Nat × Nat} {a : Act} {w : World} {s0 s : List (Nat × LV)} {b0 bx : List (Nat × Option Box)} {k : Nat} {el : TypeId} {vals : List Value} {row : Bool}
    (hk : look k (b0 ++ bx) = none) (hs : s.all (fun p => p.2.inUse (b0 ++ bx)) = true) (hb : bx.all (fun p => match p.2 with | some b => b.cells.all (CV.inUse (b0 ++ bx)) | none => true) = true)
    (hs0 : s0.all (fun p => p.2.fixIn k (b0 ++ bx)) = true) (hb0 : b0.all (fun p => match p.2 with | some b => b.cells.all (CV.fixIn k (b0 ++ bx)) | none => true) = true)
    (hr : Rel n C ι ⟨s0 ++ s, b0 ++ (k, some ⟨el, vals.map .val, row⟩) :: bx, X⟩ a w) :
    ∃ (blk : Nat) (arr : Array Value) (fr : Nat × Nat), X blk = none ∧ Frozen C blk arr fr ∧ (∃ sp, arr.toList = vals ++ sp) ∧
      Rel n C ι ⟨fixS k blk s0 ++ s, fixB k blk b0 ++ bx, withBlock X blk (.cells arr el fr)⟩ a w := by
  have hst : (⟨s0 ++ s, b0 ++ (k, some ⟨el, vals.map .val, row⟩) :: bx, X⟩ : St).stat k = some (some ⟨el, vals.map .val, row⟩) := by
    show look k (b0 ++ (k, some ⟨el, vals.map .val, row⟩) :: bx) = _
    rw [look_append] at hk ⊢
    cases h : look k b0 with
    | none => simp [look]
    | some x => rw [h] at hk; cases hk
  obtain ⟨arr, fr, harr, hth, hsz, hbr⟩ := hr.boxes k _ hst rfl
  obtain ⟨F, hF⟩ := hr.res
  obtain ⟨hown, hX⟩ := hr.own k _ hst
  have hsp : ∃ sp, arr.toList = vals ++ sp := by
    unfold Box.rel at hbr
    cases row with
    | false => exact ⟨[], by rw [List.append_nil]; exact rel_vals hbr⟩
    | true =>
      obtain ⟨us, sp, e, hl⟩ := hbr
      exact ⟨sp, by rw [e, rel_vals hl]⟩
  refine ⟨(ι k).1, arr, fr, hX, ⟨hown, hth⟩, hsp, ?_⟩
  rw [← joinM_one]
  refine hr.fixN hk hs hb hs0 hb0 (fun i o hi => ?_) hF (fun j hj i hi => ?_)
  · unfold oneM at hi
    split at hi
    · rename_i e
      subst e
      cases hi
      exact ⟨harr, hX, fun j bj hj he => hr.inj j k bj _ hj hst he⟩
    · cases hi
  · unfold oneM
    split
    · rename_i e
      subst e
      cases hc : F j (ι k).1 with
      | none => exact absurd hc hi
      | some o =>
        obtain ⟨_, _, _, _, _, h6⟩ := hF.mem j _ o hc
        exact absurd (h6 k _ hst rfl).symm hj
    · rfl
theorem Rel.fixRsc {ι : Nat → Nat × Nat} {a : Act} {w : World} {s0 s : List (Nat × LV)} {b0 bx : List (Nat × Option Box)} {k : Nat} {e : TypeId} {cs : List CV} {R : Rsc}
    (hk : look k (b0 ++ bx) = none) (hs : s.all (fun p => p.2.inUse (b0 ++ bx)) = true) (hb : bx.all (fun p => match p.2 with | some b => b.cells.all (CV.inUse (b0 ++ bx)) | none => true) = true)
    (hs0 : s0.all (fun p => p.2.fixIn k (b0 ++ bx)) = true) (hb0 : b0.all (fun p => match p.2 with | some b => b.cells.all (CV.fixIn k (b0 ++ bx)) | none => true) = true)
    (hr : Rel n C ι ⟨s0 ++ s, b0 ++ (k, some ⟨e, cs, .res R⟩) :: bx, X⟩ a w) :
    ∃ (ρ : Nat × Nat) (H : Nat → Option Obj), R.holds ρ H ∧ OwnedM C X H ∧
      Rel n C ι ⟨fixS k ρ.1 s0 ++ s, fixB k ρ.1 b0 ++ bx, joinM X H⟩ a w := by
  have hst : (⟨s0 ++ s, b0 ++ (k, some ⟨e, cs, .res R⟩) :: bx, X⟩ : St).stat k = some (some ⟨e, cs, .res R⟩) := by
    show look k (b0 ++ (k, some ⟨e, cs, .res R⟩) :: bx) = _
    rw [look_append] at hk ⊢
    cases h : look k b0 with
    | none => simp [look]
    | some x => rw [h] at hk; cases hk
  obtain ⟨F, hF⟩ := hr.res
  refine ⟨ι k, F k, (hF.holds k _ _ _ hst).1, ⟨fun b o hb => let h := hF.mem k b o hb; ⟨h.2.2.2.1, h.2.2.1, h.2.2.2.2.1⟩⟩, ?_⟩
  refine hr.fixN hk hs hb hs0 hb0 (fun i o hi => ?_) hF (fun j hj i hi => ?_)
  · obtain ⟨_, h2, _, _, h5, h6⟩ := hF.mem k i o hi
    exact ⟨h2, h5, fun j bj hj he => h6 j bj hj he⟩
  · cases hc : F k i with
    | none => rfl
    | some o => exact absurd (hF.apart j k i hi (by rw [hc]; simp)) hj
theorem Leads.fixBox {Mid : St → Prop} (s0 : List (Nat × LV)) (b0 : List (Nat × Option Box)) {s : List (Nat × LV)} {bx : List (Nat × Option Box)} {k : Nat} {el : TypeId} {vals : List Value} {row : Bool}
    (hk : look k (b0 ++ bx) = none) (hs : s.all (fun p => p.2.inUse (b0 ++ bx)) = true) (hb : bx.all (fun p => match p.2 with | some b => b.cells.all (CV.inUse (b0 ++ bx)) | none => true) = true)
    (hs0 : s0.all (fun p => p.2.fixIn k (b0 ++ bx)) = true) (hb0 : b0.all (fun p => match p.2 with | some b => b.cells.all (CV.fixIn k (b0 ++ bx)) | none => true) = true)
    (h : ∀ (blk : Nat) (arr : Array Value) (fr : Nat × Nat), X blk = none → Frozen C blk arr fr → (∃ sp, arr.toList = vals ++ sp) →
      Leads n C Mid ⟨fixS k blk s0 ++ s, fixB k blk b0 ++ bx, withBlock X blk (.cells arr el fr)⟩) :
    Leads n C Mid ⟨s0 ++ s, b0 ++ (k, some ⟨el, vals.map .val, row⟩) :: bx, X⟩ := by
  refine ⟨fun ι a w hr => ?_⟩
  obtain ⟨blk, arr, fr, h1, h2, h5, h6⟩ := hr.fixBox hk hs hb hs0 hb0
  exact (h blk arr fr h1 h2 h5).out ι a w h6
theorem Leads.fixRsc {Mid : St → Prop} (s0 : List (Nat × LV)) (b0 : List (Nat × Option Box)) {s : List (Nat × LV)} {bx : List (Nat × Option Box)} {k : Nat} {e : TypeId} {cs : List CV} {R : Rsc}
    (hk : look k (b0 ++ bx) = none) (hs : s.all (fun p => p.2.inUse (b0 ++ bx)) = true) (hb : bx.all (fun p => match p.2 with | some b => b.cells.all (CV.inUse (b0 ++ bx)) | none => true) = true)
    (hs0 : s0.all (fun p => p.2.fixIn k (b0 ++ bx)) = true) (hb0 : b0.all (fun p => match p.2 with | some b => b.cells.all (CV.fixIn k (b0 ++ bx)) | none => true) = true)
    (h : ∀ (ρ : Nat × Nat) (H : Nat → Option Obj), R.holds ρ H → OwnedM C X H → Leads n C Mid ⟨fixS k ρ.1 s0 ++ s, fixB k ρ.1 b0 ++ bx, joinM X H⟩) :
    Leads n C Mid ⟨s0 ++ s, b0 ++ (k, some ⟨e, cs, .res R⟩) :: bx, X⟩ := by
  refine ⟨fun ι a w hr => ?_⟩
  obtain ⟨ρ, H, h1, h2, h3⟩ := hr.fixRsc hk hs hb hs0 hb0
  exact (h ρ H h1 h2).out ι a w h3
end
section
variable {P : Program} {n : Nat} {ops os : List Oper} {acc : List Eff} {K : List Eff → St → Prop} {s : List (Nat × LV)} {bx : List (Nat × Option Box)} {X : Nat → Option Obj} {σ : St}
theorem LOK.makeFuncP {d k off : Nat} {fn : Fn} {x : Operand} {ty : TypeId} {pos : String} {after_ : Array Edge} {g : Option (Nat × Bool)} {b : Box} (hx : σ.ev x = some (.sv (.one (.ptr k off)))) (hk : σ.stat k = some (some b)) :
    LOK P n ops ⟨some d, .makeFunc fn #[] #[x], ty, pos, after_, g⟩ σ ⟨[(d, .sv (.one (.fn fn (fun i => [.pointer (some ⟨i, off, none⟩)]) k)))], [k], []⟩ :=
  LOK.value fun σ' ha C ι a w hr => by
    have hk' := (ha.stat k (.inl (by simp))).trans hk
    have hv := hr.ev ((ha.ev (x := x) (by simp [Op.operands])).trans hx)
    simp only [LV.rel, SV.rel, CV.rel, hk'] at hv
    refine ⟨.func fn #[] #[.pointer (some ⟨(ι k).1, off, none⟩)], by simp [execOp, Instr.makeFunc, hv], ?_⟩
    simp only [LV.rel, SV.rel, CV.rel, hk']
theorem K.makeFuncP {d k off : Nat} {fn : Fn} {x : Operand} {ty : TypeId} {pos : String} {after_ : Array Edge} {g : Option (Nat × Bool)} {b : Box} (hx : (⟨s, bx, X⟩ : St).ev x = some (.sv (.one (.ptr k off)))) (hk : (⟨s, bx, X⟩ : St).stat k = some (some b)) (hw : Want ops s g)
    (kont : RunK P n ops os ⟨(d, .sv (.one (.fn fn (fun i => [.pointer (some ⟨i, off, none⟩)]) k))) :: s, bx, X⟩ (⟨[(d, .sv (.one (.fn fn (fun i => [.pointer (some ⟨i, off, none⟩)]) k)))], [k], []⟩ :: acc) K) :
    RunK P n ops (⟨some d, .makeFunc fn #[] #[x], ty, pos, after_, g⟩ :: os) ⟨s, bx, X⟩ acc K := RunK.g1 (LOK.makeFuncP hx hk) hw kont
end
section
variable {P : Program} {n : Nat} {ops os : List Oper} {acc : List Eff} {K : List Eff → St → Prop} {s : List (Nat × LV)} {bx : List (Nat × Option Box)} {X : Nat → Option Obj} {σ : St}
def isFunc (P : Program) (t : TypeId) : Bool := match P.underlying t with | some (.func _ _ _) => true | _ => false
theorem isFunc_spec {t : TypeId} (h : isFunc P t = true) : ∃ a b c, P.underlying t = some (.func a b c) := by
  unfold isFunc at h
  split at h
  · rename_i a b c e; exact ⟨a, b, c, e⟩
  · cases h
theorem run_equal_func (w : World) (t : TypeId) (f : Fn) (ns : Array Value) (cs : Array Value) (h : isFunc P t = true) : (Op.equal t (.func f ns cs) .nilFunc).run P w = .ok false w := by
  obtain ⟨a, b, c, hu⟩ := isFunc_spec h
  have key : ∀ d, (Op.equalIn (d + 1) t (.func f ns cs) .nilFunc).run P w = .ok false w := fun d => by simp [Op.equalIn, run_underlying hu]
  exact key 9999
theorem run_equal_nilFunc (w : World) (t : TypeId) (h : isFunc P t = true) : (Op.equal t .nilFunc .nilFunc).run P w = .ok true w := by
  obtain ⟨a, b, c, hu⟩ := isFunc_spec h
  have key : ∀ d, (Op.equalIn (d + 1) t .nilFunc .nilFunc).run P w = .ok true w := fun d => by simp [Op.equalIn, run_underlying hu]
  exact key 9999
theorem LOK.funcNil {d : Nat} {t t' : TypeId} {x : Operand} {ty : TypeId} {pos : String} {after_ : Array Edge} {g : Option (Nat × Bool)} {r : Bool} {v : Value} (hx : σ.ev x = some (.sv (.one (.val v)))) (ht : isFunc P t = true)
    (hv : (v = .nilFunc ∧ r = true) ∨ ((∃ f ns cs, v = .func f ns cs) ∧ r = false)) :
    LOK P n ops ⟨some d, .binOp .eql t x (.const .nilFunc) t', ty, pos, after_, g⟩ σ ⟨[(d, .sv (.one (.val (.bool r))))], [], []⟩ :=
  LOK.value fun σ' ha C ι a w hr => by
    have hv' : a.eval x = v := hr.ev ((ha.ev (x := x) (by simp [Op.operands])).trans hx)
    have hc : a.eval (.const .nilFunc) = .nilFunc := rfl
    rcases hv with ⟨rfl, rfl⟩ | ⟨⟨f, ns, cs, rfl⟩, rfl⟩
    · exact ⟨_, by simp only [execOp, hv', hc, eqGuard, Sem.run_bind]; simp [binOp, run_equal_nilFunc w t ht], rfl⟩
    · exact ⟨_, by simp only [execOp, hv', hc, eqGuard, Sem.run_bind]; simp [binOp, run_equal_func w t f ns cs ht], rfl⟩
theorem K.funcNil {d : Nat} {t t' : TypeId} {x : Operand} {ty : TypeId} {pos : String} {after_ : Array Edge} {g : Option (Nat × Bool)} {r : Bool} {v : Value} (hx : (⟨s, bx, X⟩ : St).ev x = some (.sv (.one (.val v)))) (ht : isFunc P t = true)
    (hv : (v = .nilFunc ∧ r = true) ∨ ((∃ f ns cs, v = .func f ns cs) ∧ r = false)) (hw : Want ops s g)
    (kont : RunK P n ops os ⟨(d, .sv (.one (.val (.bool r)))) :: s, bx, X⟩ (⟨[(d, .sv (.one (.val (.bool r))))], [], []⟩ :: acc) K) :
    RunK P n ops (⟨some d, .binOp .eql t x (.const .nilFunc) t', ty, pos, after_, g⟩ :: os) ⟨s, bx, X⟩ acc K := RunK.g1 (LOK.funcNil hx ht hv) hw kont
end
end Go.Lg
end
section
namespace Go.Proofs.YtnfbccfghgmfiaaGreat
open Go Go.Lg Go.Lg.Fml Go.Lg.Fld Go.Lg.Arith
set_option maxRecDepth 100000
def MoreM (X Y : Nat → Option Obj) : Prop := ∀ b o, X b = some o → Y b = some o
theorem MoreM.refl (X : Nat → Option Obj) : MoreM X X := fun _ _ h => h
theorem MoreM.trans {X Y Z : Nat → Option Obj} (h : MoreM X Y) (h' : MoreM Y Z) : MoreM X Z := fun b o hb => h' b o (h b o hb)
abbrev capL (caps : List Value) : List LV := caps.map fun v => .sv (.one (.val v))
def OneV (Y : Nat → Option Obj) (v : Value) (F : Nm → Except Int Nm) : Prop := ∃ (f : FuncId) (caps : List Value), v = .func (.func f) #[] caps.toArray ∧ ∀ Z, MoreM Y Z → ∀ x : Nm, In2 x.2 → PSpec Tryz.prog Z f ([LI x.1 x.2] ++ capL caps) (exR (F x))
def TwoV (Y : Nat → Option Obj) (v : Value) (F : Nm → Nm → Except Int Nm) : Prop := ∃ (f : FuncId) (caps : List Value), v = .func (.func f) #[] caps.toArray ∧ ∀ Z, MoreM Y Z → ∀ x y : Nm, In2 x.2 → In2 y.2 → PSpec Tryz.prog Z f ([LI x.1 x.2, LI y.1 y.2] ++ capL caps) (exR (F x y))
def ThreeV (Y : Nat → Option Obj) (v : Value) (F : Nm → Nm → Nm → Except Int Nm) : Prop := ∃ (f : FuncId) (caps : List Value), v = .func (.func f) #[] caps.toArray ∧ ∀ Z, MoreM Y Z → ∀ x y z : Nm, In2 x.2 → In2 y.2 → In2 z.2 → PSpec Tryz.prog Z f ([LI x.1 x.2, LI y.1 y.2, LI z.1 z.2] ++ capL caps) (exR (F x y z))
structure EnvIn (Z : Nat → Option Obj) (fad : Option Addr) (fs : List (List Nm)) (at_ : Int) : Prop where
  fss : FssIn Z fad fs
  len : fs.length < 4611686018427387904
  rows : ∀ r ∈ fs, r.length < 4611686018427387904
  place : -9223372036854775808 ≤ at_ ∧ at_ < 9223372036854775808
theorem EnvIn.mono {Y Z : Nat → Option Obj} (h : MoreM Y Z) {fad : Option Addr} {fs : List (List Nm)} {at_ : Int} (e : EnvIn Y fad fs at_) : EnvIn Z fad fs at_ := ⟨e.fss.mono h, e.len, e.rows, e.place⟩
def DeedV (Y : Nat → Option Obj) (v : Value) (op : Int) : Prop := ∃ (f : FuncId) (caps : List Value), v = .func (.func f) #[] caps.toArray ∧ ∀ Z, MoreM Y Z → ∀ x : Ins, x.op = op → smallI x → ∀ (fad : Option Addr) (fcap : Nat) (fs : List (List Nm)) (at_ : Int), EnvIn Z fad fs at_ →
  ∀ (tad : Option Addr) (tcap : Nat) (ts : List Nm), NumsIn Z tad ts → ts.length = takes op → PSpec Tryz.prog Z f ([LIn x, LEnv fad fs.length fcap at_, Lx tad ts.length tcap] ++ capL caps) (exR (oneX fs at_ x ts))
theorem DeedV.mono {Y Z : Nat → Option Obj} (h : MoreM Y Z) {v : Value} {op : Int} (hv : DeedV Y v op) : DeedV Z v op := by
  obtain ⟨f, caps, e, hp⟩ := hv
  exact ⟨f, caps, e, fun W hW => hp W (h.trans hW)⟩
theorem two_fn (Y : Nat → Option Obj) {f : FuncId} {F : Nm → Nm → Except Int Nm} (h : ∀ (Z : Nat → Option Obj) (x y : Nm), In2 x.2 → In2 y.2 → PSpec Tryz.prog Z f [LI x.1 x.2, LI y.1 y.2] (exR (F x y))) : TwoV Y (.func (.func f) #[] #[]) F := ⟨f, [], rfl, fun Z _ x y hx hy => h Z x y hx hy⟩
theorem three_fn (Y : Nat → Option Obj) {f : FuncId} {F : Nm → Nm → Nm → Except Int Nm} (h : ∀ (Z : Nat → Option Obj) (x y z : Nm), In2 x.2 → In2 y.2 → In2 z.2 → PSpec Tryz.prog Z f [LI x.1 x.2, LI y.1 y.2, LI z.1 z.2] (exR (F x y z))) : ThreeV Y (.func (.func f) #[] #[]) F := ⟨f, [], rfl, fun Z _ x y z hx hy hz => h Z x y z hx hy hz⟩
abbrev pv (blk : Nat) : Value := .pointer (some ⟨blk, 0, none⟩)
section
variable {Y : Nat → Option Obj} {blk : Nat} {arr : Array Value} {el : TypeId} {fr : Nat × Nat} {v : Value}
theorem two_swapped {F : Nm → Nm → Except Int Nm} (hY : Y blk = some (.cells arr el fr)) (hv : arr[0]? = some v) (hF : TwoV Y v F) : TwoV Y (.func (.func 110) #[] #[pv blk]) (fun x y => F y x) := by
  obtain ⟨f, caps, rfl, hF⟩ := hF
  refine ⟨110, [pv blk], rfl, fun Z hZ x y hx hy => ?_⟩
  have hP := hF Z hZ y x hy hx
  have hX := hZ _ _ hY
  show PSpec _ Z _ [LI x.1 x.2, LI y.1 y.2, .sv (.one (.val (pv blk)))] (exR (F y x))
  rw [exR_eq] at hP ⊢
  generalize exE (F y x) = e at *
  generalize exV (F y x) = v at *
  obtain ⟨vb, vN⟩ := v
  refine PSpec.intro Tryz.func110 rfl (by kernel_rfl) rfl rfl ?_
  intro C
  (refine LWP.seq <| rgN <| K.box rfl rfl rfl .plain <| K.box rfl rfl rfl .plain <| K.alloc rfl .plain ?_; refine kas rfl <| RunK.nil <| LWP.seq <| rgN <| K.loadX rfl hX rfl hv .plain <| K.loadAll rfl rfl rfl .plain ?_; refine K.loadAll rfl rfl rfl .plain ?_; refine K.callF rfl rfl rfl hP .plain ?_; refine kex rfl rfl <| kex rfl rfl <| K.storeAll rfl rfl rfl rfl rfl rfl .plain ?_; refine kas rfl <| RunK.nil <| LWP.ret ?_)
  exact ⟨[_, _], ⟨⟨_, _, rfl, rfl, rfl, .inl ⟨AggT.h, rfl⟩⟩, rfl, trivial⟩, rfl⟩
def choX (G : Nm → Nm → Except Int Nm) (x y : Nm) : Except Int Nm := match G x y with | .error e => .error e | .ok a => pickX a x y
theorem two_chosen {F : Nm → Nm → Except Int Nm} (hY : Y blk = some (.cells arr el fr)) (hv : arr[0]? = some v) (hF : TwoV Y v F) (h2 : ∀ x y a, F x y = .ok a → In2 a.2) (hz : ∀ x y e, F x y = .error e → e ≠ 0) : TwoV Y (.func (.func 107) #[] #[pv blk]) (choX F) := by
  obtain ⟨f, caps, rfl, hF⟩ := hF
  refine ⟨107, [pv blk], rfl, fun Z hZ x y hx hy => ?_⟩
  have hP := hF Z hZ x y hx hy
  have hX := hZ _ _ hY
  show PSpec _ Z _ [LI x.1 x.2, LI y.1 y.2, .sv (.one (.val (pv blk)))] (exR (choX F x y))
  unfold choX
  cases hf : F x y with
  | error e =>
    have he := hz x y e hf
    rw [hf] at hP
    show PSpec _ Z _ _ (.tup [S0, Sn .i64 e])
    have hP : PSpec Tryz.prog Z f ([LI x.1 x.2, LI y.1 y.2] ++ capL caps) (.tup [S0, Sn .i64 e]) := hP
    refine PSpec.intro Tryz.func107 rfl (by kernel_rfl) rfl rfl ?_
    intro C
    (refine LWP.seq <| rgN <| K.box rfl rfl rfl .plain <| K.box rfl rfl rfl .plain <| K.alloc rfl .plain ?_; refine kas rfl <| RunK.nil <| LWP.seq <| rgN <| K.loadX rfl hX rfl hv .plain <| K.loadAll rfl rfl rfl .plain ?_; refine K.loadAll rfl rfl rfl .plain ?_; refine K.callF rfl rfl rfl hP .plain ?_; refine kmv rfl <| kex rfl rfl <| kex rfl rfl <| K.alloc rfl .plain ?_; refine K.storeAll rfl rfl rfl rfl rfl rfl .plain ?_; refine kas rfl <| RunK.nil <| LWP.seq <| LWP.seq <| rgN <| kmv rfl <| kne rfl rfl (r := true) (bne_iff_ne.2 he) <| RunK.nil <| LWP.condT rfl ?_; refine LWP.seq <| rgN <| K.build rfl rfl (by exact rfl) (by exact nl3 rfl rfl rfl rfl) .plain ?_; refine kmv rfl <| K.storeAll rfl rfl rfl rfl rfl rfl .plain ?_; refine kas rfl <| RunK.nil <| LWP.ret ?_)
    exact ⟨[_, _], ⟨⟨_, _, rfl, rfl, rfl, .inl ⟨AggT.h, rfl⟩⟩, rfl, trivial⟩, rfl⟩
  | ok a =>
    have ha := h2 x y a hf
    rw [hf] at hP
    have hP : PSpec Tryz.prog Z f ([LI x.1 x.2, LI y.1 y.2] ++ capL caps) (.tup [SI a.1 a.2, Sn .i64 0]) := hP
    have hK := tPick Z a x y ha
    show PSpec _ Z _ _ (exR (pickX a x y))
    rw [exR_eq] at hK ⊢
    generalize exE (pickX a x y) = e at *
    generalize exV (pickX a x y) = v at *
    obtain ⟨vb, vN⟩ := v
    refine PSpec.intro Tryz.func107 rfl (by kernel_rfl) rfl rfl ?_
    intro C
    (refine LWP.seq <| rgN <| K.box rfl rfl rfl .plain <| K.box rfl rfl rfl .plain <| K.alloc rfl .plain ?_; refine kas rfl <| RunK.nil <| LWP.seq <| rgN <| K.loadX rfl hX rfl hv .plain <| K.loadAll rfl rfl rfl .plain ?_; refine K.loadAll rfl rfl rfl .plain ?_; refine K.callF rfl rfl rfl hP .plain ?_; refine kmv rfl <| kex rfl rfl <| kex rfl rfl <| K.alloc rfl .plain ?_; refine K.storeAll rfl rfl rfl rfl rfl rfl .plain ?_; refine kas rfl <| RunK.nil <| LWP.seq <| LWP.seq <| rgN <| kmv rfl <| kne rfl rfl (r := false) rfl <| RunK.nil <| LWP.condF rfl ?_; refine LWP.skip ?_; refine LWP.seq <| rgN <| K.loadAll rfl rfl rfl .plain ?_; refine K.loadAll rfl rfl rfl .plain ?_; refine K.loadAll rfl rfl rfl .plain ?_; refine kca rfl rfl (hK) <| kex rfl rfl <| kex rfl rfl <| K.storeAll rfl rfl rfl rfl rfl rfl .plain ?_; refine kas rfl <| RunK.nil <| LWP.ret ?_)
    exact ⟨[_, _], ⟨⟨_, _, rfl, rfl, rfl, .inl ⟨AggT.h, rfl⟩⟩, rfl, trivial⟩, rfl⟩
theorem one_zero {F : Nm → Nm → Except Int Nm} (hY : Y blk = some (.cells arr el fr)) (hv : arr[0]? = some v) (hF : TwoV Y v F) : OneV Y (.func (.func 106) #[] #[pv blk]) (fun x => F (false, 0) x) := by
  obtain ⟨f, caps, rfl, hF⟩ := hF
  refine ⟨106, [pv blk], rfl, fun Z hZ x hx => ?_⟩
  have hP : PSpec Tryz.prog Z f ([.sv S0, LI x.1 x.2] ++ capL caps) (exR (F (false, 0) x)) := hF Z hZ (false, 0) x ⟨by decide, by decide⟩ hx
  have hX := hZ _ _ hY
  show PSpec _ Z _ [LI x.1 x.2, .sv (.one (.val (pv blk)))] (exR (F (false, 0) x))
  rw [exR_eq] at hP ⊢
  generalize exE (F (false, 0) x) = e at *
  generalize exV (F (false, 0) x) = v at *
  obtain ⟨vb, vN⟩ := v
  refine PSpec.intro Tryz.func106 rfl (by kernel_rfl) rfl rfl ?_
  intro C
  (refine LWP.seq <| rgN <| K.box rfl rfl rfl .plain <| K.alloc rfl .plain ?_; refine kas rfl <| RunK.nil <| LWP.seq <| rgN <| K.loadX rfl hX rfl hv .plain <| K.build rfl rfl (by exact rfl) (by exact nl3 rfl rfl rfl rfl) .plain ?_; refine K.loadAll rfl rfl rfl .plain ?_; refine K.callF rfl rfl rfl hP .plain ?_; refine kex rfl rfl <| kex rfl rfl <| K.storeAll rfl rfl rfl rfl rfl rfl .plain ?_; refine kas rfl <| RunK.nil <| LWP.ret ?_)
  exact ⟨[_, _], ⟨⟨_, _, rfl, rfl, rfl, .inl ⟨AggT.h, rfl⟩⟩, rfl, trivial⟩, rfl⟩
theorem deed_one {op : Int} {F : Nm → Except Int Nm} (ht : takes op = 1) (hY : Y blk = some (.cells arr el fr)) (hv : arr[0]? = some v) (hF : OneV Y v F) (hop : ∀ u, In2 u.2 → nodeX op [u] = F u) : DeedV Y (.func (.func 105) #[] #[pv blk]) op := by
  obtain ⟨f, caps, rfl, hF⟩ := hF
  refine ⟨105, [pv blk], rfl, fun Z hZ x hxo hx fad fcap fs at_ hE tad tcap ts hts hlen => ?_⟩
  rw [ht] at hlen
  match ts, hlen, hts with
  | [u], _, hts =>
  have e1 : oneX fs at_ x [u] = F u := by unfold oneX; rw [hxo, if_neg (by rw [ht]; decide), hop u (hts.in2 _ (by simp))]
  rw [e1]
  obtain ⟨tb, tof, ta, te, tf, rfl, hT, hall⟩ := hts.all (by show 0 < 1; omega)
  obtain ⟨i0, s0, c0⟩ := hall 0 _ _ rfl
  have h0 : tof + Int.toNat 0 * 3 = tof + 0 * 3 := rfl
  have hb0 : 0 ≤ (0 : Int) ∧ (0 : Int) < (1 : Nat) := by omega
  have hP := hF Z hZ u i0
  have hX := hZ _ _ hY
  show PSpec _ Z _ [LIn x, LEnv fad fs.length fcap at_, Lx (some ⟨tb, tof, none⟩) 1 tcap, .sv (.one (.val (pv blk)))] (exR (F u))
  rw [exR_eq] at hP ⊢
  generalize exE (F u) = e at *
  generalize exV (F u) = v at *
  obtain ⟨vb, vN⟩ := v
  refine PSpec.intro Tryz.func105 rfl (by kernel_rfl) rfl rfl ?_
  intro C
  (refine LWP.seq <| rgN <| K.box rfl rfl rfl .plain <| K.box rfl rfl rfl .plain <| K.alloc rfl .plain ?_; refine kas rfl <| RunK.nil <| LWP.seq <| rgD mixed <| K.loadX rfl hX rfl hv .plain <| kmv rfl <| K.indexX rfl rfl SliceT.h hb0 h0 .plain <| K.loadXagg rfl hT (by kernel_rfl) s0 c0 .plain <| K.callF rfl rfl rfl hP .plain ?_; refine kex rfl rfl <| kex rfl rfl <| K.storeAll rfl rfl rfl rfl rfl rfl .plain ?_; refine kas rfl <| RunK.nil <| rgA ?_; refine LWP.ret ?_)
  exact ⟨[_, _], ⟨⟨_, _, rfl, rfl, rfl, .inl ⟨AggT.h, rfl⟩⟩, rfl, trivial⟩, rfl⟩
theorem deed_two {op : Int} {F : Nm → Nm → Except Int Nm} (ht : takes op = 2) (hY : Y blk = some (.cells arr el fr)) (hv : arr[0]? = some v) (hF : TwoV Y v F) (hop : ∀ u w, In2 u.2 → In2 w.2 → nodeX op [u, w] = F u w) : DeedV Y (.func (.func 94) #[] #[pv blk]) op := by
  obtain ⟨f, caps, rfl, hF⟩ := hF
  refine ⟨94, [pv blk], rfl, fun Z hZ x hxo hx fad fcap fs at_ hE tad tcap ts hts hlen => ?_⟩
  rw [ht] at hlen
  match ts, hlen, hts with
  | [u, z], _, hts =>
  have e1 : oneX fs at_ x [u, z] = F u z := by unfold oneX; rw [hxo, if_neg (by rw [ht]; decide), hop u z (hts.in2 _ (by simp)) (hts.in2 _ (by simp))]
  rw [e1]
  obtain ⟨tb, tof, ta, te, tf, rfl, hT, hall⟩ := hts.all (by show 0 < 2; omega)
  obtain ⟨i0, s0, c0⟩ := hall 0 _ _ rfl
  have h0 : tof + Int.toNat 0 * 3 = tof + 0 * 3 := rfl
  have hb0 : 0 ≤ (0 : Int) ∧ (0 : Int) < (2 : Nat) := by omega
  obtain ⟨i1, s1, c1⟩ := hall 1 _ _ rfl
  have h1 : tof + Int.toNat 1 * 3 = tof + 1 * 3 := rfl
  have hb1 : 0 ≤ (1 : Int) ∧ (1 : Int) < (2 : Nat) := by omega
  have hP := hF Z hZ u z i0 i1
  have hX := hZ _ _ hY
  show PSpec _ Z _ [LIn x, LEnv fad fs.length fcap at_, Lx (some ⟨tb, tof, none⟩) 2 tcap, .sv (.one (.val (pv blk)))] (exR (F u z))
  rw [exR_eq] at hP ⊢
  generalize exE (F u z) = e at *
  generalize exV (F u z) = v at *
  obtain ⟨vb, vN⟩ := v
  refine PSpec.intro Tryz.func94 rfl (by kernel_rfl) rfl rfl ?_
  intro C
  (refine LWP.seq <| rgN <| K.box rfl rfl rfl .plain <| K.box rfl rfl rfl .plain <| K.alloc rfl .plain ?_; refine kas rfl <| RunK.nil <| LWP.seq <| rgD mixed <| K.loadX rfl hX rfl hv .plain <| kmv rfl <| K.indexX rfl rfl SliceT.h hb0 h0 .plain <| K.loadXagg rfl hT (by kernel_rfl) s0 c0 .plain <| kmv rfl <| K.indexX rfl rfl SliceT.h hb1 h1 .plain <| K.loadXagg rfl hT (by kernel_rfl) s1 c1 .plain <| K.callF rfl rfl rfl hP .plain ?_; refine kex rfl rfl <| kex rfl rfl <| K.storeAll rfl rfl rfl rfl rfl rfl .plain ?_; refine kas rfl <| RunK.nil <| rgA ?_; refine LWP.ret ?_)
  exact ⟨[_, _], ⟨⟨_, _, rfl, rfl, rfl, .inl ⟨AggT.h, rfl⟩⟩, rfl, trivial⟩, rfl⟩
theorem deed_three {op : Int} {F : Nm → Nm → Nm → Except Int Nm} (ht : takes op = 3) (hY : Y blk = some (.cells arr el fr)) (hv : arr[0]? = some v) (hF : ThreeV Y v F) (hop : ∀ u w z, In2 u.2 → In2 w.2 → In2 z.2 → nodeX op [u, w, z] = F u w z) : DeedV Y (.func (.func 111) #[] #[pv blk]) op := by
  obtain ⟨f, caps, rfl, hF⟩ := hF
  refine ⟨111, [pv blk], rfl, fun Z hZ x hxo hx fad fcap fs at_ hE tad tcap ts hts hlen => ?_⟩
  rw [ht] at hlen
  match ts, hlen, hts with
  | [u, z, q], _, hts =>
  have e1 : oneX fs at_ x [u, z, q] = F u z q := by unfold oneX; rw [hxo, if_neg (by rw [ht]; decide), hop u z q (hts.in2 _ (by simp)) (hts.in2 _ (by simp)) (hts.in2 _ (by simp))]
  rw [e1]
  obtain ⟨tb, tof, ta, te, tf, rfl, hT, hall⟩ := hts.all (by show 0 < 3; omega)
  obtain ⟨i0, s0, c0⟩ := hall 0 _ _ rfl
  have h0 : tof + Int.toNat 0 * 3 = tof + 0 * 3 := rfl
  have hb0 : 0 ≤ (0 : Int) ∧ (0 : Int) < (3 : Nat) := by omega
  obtain ⟨i1, s1, c1⟩ := hall 1 _ _ rfl
  have h1 : tof + Int.toNat 1 * 3 = tof + 1 * 3 := rfl
  have hb1 : 0 ≤ (1 : Int) ∧ (1 : Int) < (3 : Nat) := by omega
  obtain ⟨i2, s2, c2⟩ := hall 2 _ _ rfl
  have h2 : tof + Int.toNat 2 * 3 = tof + 2 * 3 := rfl
  have hb2 : 0 ≤ (2 : Int) ∧ (2 : Int) < (3 : Nat) := by omega
  have hP := hF Z hZ u z q i0 i1 i2
  have hX := hZ _ _ hY
  show PSpec _ Z _ [LIn x, LEnv fad fs.length fcap at_, Lx (some ⟨tb, tof, none⟩) 3 tcap, .sv (.one (.val (pv blk)))] (exR (F u z q))
  rw [exR_eq] at hP ⊢
  generalize exE (F u z q) = e at *
  generalize exV (F u z q) = v at *
  obtain ⟨vb, vN⟩ := v
  refine PSpec.intro Tryz.func111 rfl (by kernel_rfl) rfl rfl ?_
  intro C
  (refine LWP.seq <| rgN <| K.box rfl rfl rfl .plain <| K.box rfl rfl rfl .plain <| K.alloc rfl .plain ?_; refine kas rfl <| RunK.nil <| LWP.seq <| rgD mixed <| K.loadX rfl hX rfl hv .plain <| kmv rfl <| K.indexX rfl rfl SliceT.h hb0 h0 .plain <| K.loadXagg rfl hT (by kernel_rfl) s0 c0 .plain <| kmv rfl <| K.indexX rfl rfl SliceT.h hb1 h1 .plain <| K.loadXagg rfl hT (by kernel_rfl) s1 c1 .plain <| kmv rfl <| K.indexX rfl rfl SliceT.h hb2 h2 .plain <| K.loadXagg rfl hT (by kernel_rfl) s2 c2 .plain ?_; refine K.callF rfl rfl rfl hP .plain ?_; refine kex rfl rfl <| kex rfl rfl <| K.storeAll rfl rfl rfl rfl rfl rfl .plain ?_; refine kas rfl <| RunK.nil <| rgA ?_; refine LWP.ret ?_)
  exact ⟨[_, _], ⟨⟨_, _, rfl, rfl, rfl, .inl ⟨AggT.h, rfl⟩⟩, rfl, trivial⟩, rfl⟩
end
variable (X : Nat → Option Obj)
theorem tFind (fad : Option Addr) (fcap : Nat) (fs : List (List Nm)) (at_ : Int) (hE : EnvIn X fad fs at_) (a b : Int) (ha : -9223372036854775808 ≤ a ∧ a < 9223372036854775808) (hb : -9223372036854775808 ≤ b ∧ b < 9223372036854775808) :
    PSpec Tryz.prog X 92 [LEnv fad fs.length fcap at_, Ln .i64 a, Ln .i64 b] (exR (elemX fs a b)) := by
  have hfl := hE.len
  by_cases c1 : a < 0
  · rw [show elemX fs a b = .error 3 by unfold elemX; rw [if_pos (.inl c1)]]
    refine PSpec.intro Tryz.func92 rfl (by kernel_rfl) rfl rfl ?_
    intro C
    (refine LWP.seq <| rgN <| K.box rfl rfl rfl .plain <| K.alloc rfl .plain ?_; refine kas rfl <| RunK.nil <| LWP.seq <| LWP.seq <| rgN <| kmv rfl <| klt rfl rfl (r := true) (decide_eq_true c1) <| kmv rfl <| RunK.passed rfl rfl rfl <| RunK.passed rfl rfl rfl <| RunK.passed rfl rfl rfl <| RunK.passed rfl rfl rfl <| RunK.passed rfl rfl rfl <| kpt rfl rfl ?_; refine RunK.nil <| LWP.condT rfl ?_; refine LWP.seq <| rgN <| K.build rfl rfl (by exact rfl) (by exact nl3 rfl rfl rfl rfl) .plain ?_; refine K.storeAll rfl rfl rfl rfl rfl rfl .plain ?_; refine kas rfl <| RunK.nil <| LWP.ret ?_)
    exact ⟨[_, _], ⟨⟨_, _, rfl, rfl, rfl, .inl ⟨AggT.h, rfl⟩⟩, rfl, trivial⟩, rfl⟩
  by_cases c2 : (fs.length : Int) ≤ a
  · rw [show elemX fs a b = .error 3 by unfold elemX; split <;> first | rfl | (rw [List.getElem?_eq_none (by omega)])]
    refine PSpec.intro Tryz.func92 rfl (by kernel_rfl) rfl rfl ?_
    intro C
    (refine LWP.seq <| rgN <| K.box rfl rfl rfl .plain <| K.alloc rfl .plain ?_; refine kas rfl <| RunK.nil <| LWP.seq <| LWP.seq <| rgN <| kmv rfl <| klt rfl rfl (r := false) (decide_eq_false c1) <| kmv rfl <| gmv rfl rfl rfl <| K.fieldAddr rfl rfl (.taken rfl rfl) ?_; refine K.loadOne rfl rfl rfl (.taken rfl rfl) ?_; refine K.lenX rfl SliceT.h rfl (.taken rfl rfl) ?_; refine K.geq rfl rfl (r := true) (decide_eq_true c2) (.taken rfl rfl) ?_; refine kpf rfl rfl <| RunK.nil <| LWP.condT rfl ?_; refine LWP.seq <| rgN <| K.build rfl rfl (by exact rfl) (by exact nl3 rfl rfl rfl rfl) .plain ?_; refine K.storeAll rfl rfl rfl rfl rfl rfl .plain ?_; refine kas rfl <| RunK.nil <| LWP.ret ?_)
    exact ⟨[_, _], ⟨⟨_, _, rfl, rfl, rfl, .inl ⟨AggT.h, rfl⟩⟩, rfl, trivial⟩, rfl⟩
  obtain ⟨r, hr⟩ : ∃ r, fs[a.toNat]? = some r := ⟨_, List.getElem?_eq_getElem (by omega)⟩
  obtain ⟨blk, off, arr, el, fr, vad, vcap, rfl, hX, hsz, hcell, hN⟩ := hE.fss.at_ _ _ hr
  have hrl := hE.rows r (List.mem_of_getElem? hr)
  have hio : off + Int.toNat a * 1 = off + a.toNat := by omega
  by_cases c3 : b < 0
  · rw [show elemX fs a b = .error 3 by unfold elemX; rw [if_pos (.inr c3)]]
    refine PSpec.intro Tryz.func92 rfl (by kernel_rfl) rfl rfl ?_
    intro C
    (refine LWP.seq <| rgN <| K.box rfl rfl rfl .plain <| K.alloc rfl .plain ?_; refine kas rfl <| RunK.nil <| LWP.seq <| LWP.seq <| rgN <| kmv rfl <| klt rfl rfl (r := false) (decide_eq_false c1) <| kmv rfl <| gmv rfl rfl rfl <| K.fieldAddr rfl rfl (.taken rfl rfl) ?_; refine K.loadOne rfl rfl rfl (.taken rfl rfl) ?_; refine K.lenX rfl SliceT.h rfl (.taken rfl rfl) ?_; refine K.geq rfl rfl (r := false) (decide_eq_false c2) (.taken rfl rfl) ?_; refine kpf rfl rfl <| RunK.nil <| LWP.condF rfl ?_; refine LWP.skip ?_; refine LWP.seq <| rgN <| kfa rfl rfl ?_; refine kl1 rfl rfl rfl <| kmv rfl <| K.indexX rfl rfl SliceT.h (by omega) hio .plain <| K.loadX rfl hX rfl hcell .plain <| kas rfl <| RunK.nil <| LWP.seq <| LWP.seq <| rgN <| kmv rfl <| klt rfl rfl (r := true) (decide_eq_true c3) <| kmv rfl <| RunK.passed rfl rfl rfl <| RunK.passed rfl rfl rfl ?_; refine RunK.passed rfl rfl rfl <| RunK.passed rfl rfl rfl <| kpt rfl rfl <| RunK.nil <| LWP.condT rfl ?_; refine LWP.seq <| rgN <| K.build rfl rfl (by exact rfl) (by exact nl3 rfl rfl rfl rfl) .plain ?_; refine K.storeAll rfl rfl rfl rfl rfl rfl .plain ?_; refine kas rfl <| RunK.nil <| LWP.ret ?_)
    exact ⟨[_, _], ⟨⟨_, _, rfl, rfl, rfl, .inl ⟨AggT.h, rfl⟩⟩, rfl, trivial⟩, rfl⟩
  by_cases c4 : (r.length : Int) ≤ b
  · rw [show elemX fs a b = .error 3 by unfold elemX; rw [if_neg (by omega), hr]; simp only; rw [List.getElem?_eq_none (by omega)]]
    refine PSpec.intro Tryz.func92 rfl (by kernel_rfl) rfl rfl ?_
    intro C
    (refine LWP.seq <| rgN <| K.box rfl rfl rfl .plain <| K.alloc rfl .plain ?_; refine kas rfl <| RunK.nil <| LWP.seq <| LWP.seq <| rgN <| kmv rfl <| klt rfl rfl (r := false) (decide_eq_false c1) <| kmv rfl <| gmv rfl rfl rfl <| K.fieldAddr rfl rfl (.taken rfl rfl) ?_; refine K.loadOne rfl rfl rfl (.taken rfl rfl) ?_; refine K.lenX rfl SliceT.h rfl (.taken rfl rfl) ?_; refine K.geq rfl rfl (r := false) (decide_eq_false c2) (.taken rfl rfl) ?_; refine kpf rfl rfl <| RunK.nil <| LWP.condF rfl ?_; refine LWP.skip ?_; refine LWP.seq <| rgN <| kfa rfl rfl ?_; refine kl1 rfl rfl rfl <| kmv rfl <| K.indexX rfl rfl SliceT.h (by omega) hio .plain <| K.loadX rfl hX rfl hcell .plain <| kas rfl <| RunK.nil <| LWP.seq <| LWP.seq <| rgN <| kmv rfl <| klt rfl rfl (r := false) (decide_eq_false c3) <| kmv rfl <| gmv rfl rfl rfl <| gmv rfl rfl rfl ?_; refine K.lenX rfl SliceT.h rfl (.taken rfl rfl) ?_; refine K.geq rfl rfl (r := true) (decide_eq_true c4) (.taken rfl rfl) ?_; refine kpf rfl rfl <| RunK.nil <| LWP.condT rfl ?_; refine LWP.seq <| rgN <| K.build rfl rfl (by exact rfl) (by exact nl3 rfl rfl rfl rfl) .plain ?_; refine K.storeAll rfl rfl rfl rfl rfl rfl .plain ?_; refine kas rfl <| RunK.nil <| LWP.ret ?_)
    exact ⟨[_, _], ⟨⟨_, _, rfl, rfl, rfl, .inl ⟨AggT.h, rfl⟩⟩, rfl, trivial⟩, rfl⟩
  obtain ⟨⟨vb, vN⟩, hv⟩ : ∃ v, r[b.toNat]? = some v := ⟨_, List.getElem?_eq_getElem (by omega)⟩
  obtain ⟨_, blk2, off2, arr2, el2, fr2, rfl, hX2, hsz2, hcs2⟩ := hN.at hv
  have hio2 : off2 + Int.toNat b * 3 = off2 + b.toNat * 3 := rfl
  rw [show elemX fs a b = .ok (vb, vN) by unfold elemX; rw [if_neg (by omega), hr]; simp only; rw [hv]]
  refine PSpec.intro Tryz.func92 rfl (by kernel_rfl) rfl rfl ?_
  intro C
  (refine LWP.seq <| rgN <| K.box rfl rfl rfl .plain <| K.alloc rfl .plain ?_; refine kas rfl <| RunK.nil <| LWP.seq <| LWP.seq <| rgN <| kmv rfl <| klt rfl rfl (r := false) (decide_eq_false c1) <| kmv rfl <| gmv rfl rfl rfl <| K.fieldAddr rfl rfl (.taken rfl rfl) ?_; refine K.loadOne rfl rfl rfl (.taken rfl rfl) ?_; refine K.lenX rfl SliceT.h rfl (.taken rfl rfl) ?_; refine K.geq rfl rfl (r := false) (decide_eq_false c2) (.taken rfl rfl) ?_; refine kpf rfl rfl <| RunK.nil <| LWP.condF rfl ?_; refine LWP.skip ?_; refine LWP.seq <| rgN <| kfa rfl rfl ?_; refine kl1 rfl rfl rfl <| kmv rfl <| K.indexX rfl rfl SliceT.h (by omega) hio .plain <| K.loadX rfl hX rfl hcell .plain <| kas rfl <| RunK.nil <| LWP.seq <| LWP.seq <| rgN <| kmv rfl <| klt rfl rfl (r := false) (decide_eq_false c3) <| kmv rfl <| gmv rfl rfl rfl <| gmv rfl rfl rfl ?_; refine K.lenX rfl SliceT.h rfl (.taken rfl rfl) ?_; refine K.geq rfl rfl (r := false) (decide_eq_false c4) (.taken rfl rfl) ?_; refine kpf rfl rfl <| RunK.nil <| LWP.condF rfl ?_; refine LWP.skip ?_; refine LWP.seq <| rgN <| kmv rfl <| kmv rfl <| K.indexX rfl rfl SliceT.h (by omega) hio2 .plain <| K.loadXagg rfl hX2 (by kernel_rfl) hsz2 hcs2 .plain <| K.storeAll rfl rfl rfl rfl rfl rfl .plain ?_; refine kas rfl <| RunK.nil <| LWP.ret ?_)
  exact ⟨[_, _], ⟨⟨_, _, rfl, rfl, rfl, .inl ⟨AggT.h, rfl⟩⟩, rfl, trivial⟩, rfl⟩
theorem deed_num : DeedV X (.func (.func 65) #[] #[]) 1 := by
  refine ⟨65, [], rfl, fun Z hZ x hxo hx fad fcap fs at_ hE tad tcap ts hts hlen => ?_⟩
  rw [show oneX fs at_ x ts = .ok x.k by unfold oneX leafX; rw [hxo]; rfl]
  show PSpec _ Z _ [LIn x, LEnv fad fs.length fcap at_, Lx tad ts.length tcap] (.tup [SI x.k.1 x.k.2, Sn .i64 0])
  refine PSpec.intro Tryz.func65 rfl (by kernel_rfl) rfl rfl ?_
  intro C
  (refine LWP.seq <| rgN <| K.box rfl rfl rfl .plain <| K.box rfl rfl rfl .plain <| K.alloc rfl .plain ?_; refine kas rfl <| RunK.nil <| LWP.seq <| rgN <| kfa rfl rfl ?_; refine K.loadPart rfl rfl rfl (by exact nl3 rfl rfl rfl rfl) .plain ?_; refine K.storeAll rfl rfl rfl rfl rfl rfl .plain ?_; refine kas rfl <| RunK.nil <| LWP.ret ?_)
  exact ⟨[_, _], ⟨⟨_, _, rfl, rfl, rfl, .inl ⟨AggT.h, rfl⟩⟩, rfl, trivial⟩, rfl⟩
theorem deed_elem : DeedV X (.func (.func 66) #[] #[]) 2 := by
  refine ⟨66, [], rfl, fun Z hZ x hxo hx fad fcap fs at_ hE tad tcap ts hts hlen => ?_⟩
  rw [show oneX fs at_ x ts = elemX fs x.a x.b by unfold oneX leafX; rw [hxo]; rfl]
  have hP := tFind Z fad fcap fs at_ hE x.a x.b hx.2.1 hx.2.2.1
  show PSpec _ Z _ [LIn x, LEnv fad fs.length fcap at_, Lx tad ts.length tcap] (exR (elemX fs x.a x.b))
  rw [exR_eq] at hP ⊢
  generalize exE (elemX fs x.a x.b) = e at *
  generalize exV (elemX fs x.a x.b) = v at *
  obtain ⟨vb, vN⟩ := v
  refine PSpec.intro Tryz.func66 rfl (by kernel_rfl) rfl rfl ?_
  intro C
  (refine LWP.seq <| rgN <| K.box rfl rfl rfl .plain <| K.box rfl rfl rfl .plain <| K.alloc rfl .plain ?_; refine kas rfl <| RunK.nil <| LWP.seq <| rgN <| K.loadAll rfl rfl rfl .plain ?_; refine kfa rfl rfl ?_; refine kl1 rfl rfl rfl <| kfa rfl rfl ?_; refine kl1 rfl rfl rfl <| kca rfl rfl (hP) <| kex rfl rfl <| kex rfl rfl <| K.storeAll rfl rfl rfl rfl rfl rfl .plain ?_; refine kas rfl <| RunK.nil <| LWP.ret ?_)
  exact ⟨[_, _], ⟨⟨_, _, rfl, rfl, rfl, .inl ⟨AggT.h, rfl⟩⟩, rfl, trivial⟩, rfl⟩
theorem deed_here : DeedV X (.func (.func 67) #[] #[]) 3 := by
  refine ⟨67, [], rfl, fun Z hZ x hxo hx fad fcap fs at_ hE tad tcap ts hts hlen => ?_⟩
  rw [show oneX fs at_ x ts = elemX fs x.a at_ by unfold oneX leafX; rw [hxo]; rfl]
  have hP := tFind Z fad fcap fs at_ hE x.a at_ hx.2.1 hE.place
  show PSpec _ Z _ [LIn x, LEnv fad fs.length fcap at_, Lx tad ts.length tcap] (exR (elemX fs x.a at_))
  rw [exR_eq] at hP ⊢
  generalize exE (elemX fs x.a at_) = e at *
  generalize exV (elemX fs x.a at_) = v at *
  obtain ⟨vb, vN⟩ := v
  refine PSpec.intro Tryz.func67 rfl (by kernel_rfl) rfl rfl ?_
  intro C
  (refine LWP.seq <| rgN <| K.box rfl rfl rfl .plain <| K.box rfl rfl rfl .plain <| K.alloc rfl .plain ?_; refine kas rfl <| RunK.nil <| LWP.seq <| rgN <| K.loadAll rfl rfl rfl .plain ?_; refine kfa rfl rfl ?_; refine kl1 rfl rfl rfl <| kfa rfl rfl ?_; refine kl1 rfl rfl rfl <| kca rfl rfl (hP) <| kex rfl rfl <| kex rfl rfl <| K.storeAll rfl rfl rfl rfl rfl rfl .plain ?_; refine kas rfl <| RunK.nil <| LWP.ret ?_)
  exact ⟨[_, _], ⟨⟨_, _, rfl, rfl, rfl, .inl ⟨AggT.h, rfl⟩⟩, rfl, trivial⟩, rfl⟩
theorem deed_place : DeedV X (.func (.func 68) #[] #[]) 4 := by
  refine ⟨68, [], rfl, fun Z hZ x hxo hx fad fcap fs at_ hE tad tcap ts hts hlen => ?_⟩
  have hpl := hE.place
  rw [show oneX fs at_ x ts = (if at_ < 0 then .error 3 else .ok (false, at_)) by unfold oneX leafX; rw [hxo]; rfl]
  show PSpec _ Z _ [LIn x, LEnv fad fs.length fcap at_, Lx tad ts.length tcap] _
  by_cases c : at_ < 0
  · rw [if_pos c]
    refine PSpec.intro Tryz.func68 rfl (by kernel_rfl) rfl rfl ?_
    intro C
    (refine LWP.seq <| rgN <| K.box rfl rfl rfl .plain <| K.box rfl rfl rfl .plain <| K.alloc rfl .plain ?_; refine kas rfl <| RunK.nil <| LWP.seq <| LWP.seq <| rgN <| kfa rfl rfl ?_; refine kl1 rfl rfl rfl <| klt rfl rfl (r := true) (decide_eq_true c) <| RunK.nil <| LWP.condT rfl ?_; refine LWP.seq <| rgN <| K.build rfl rfl (by exact rfl) (by exact nl3 rfl rfl rfl rfl) .plain ?_; refine K.storeAll rfl rfl rfl rfl rfl rfl .plain ?_; refine kas rfl <| RunK.nil <| LWP.ret ?_)
    exact ⟨[_, _], ⟨⟨_, _, rfl, rfl, rfl, .inl ⟨AggT.h, rfl⟩⟩, rfl, trivial⟩, rfl⟩
  · rw [if_neg c]
    have hO := Of_spec Z at_ hpl
    rw [show LQ at_ = LI false at_ by unfold LQ; rw [mg_pos (by omega), decide_eq_false c]] at hO
    show PSpec _ Z _ _ (.tup [SI false at_, Sn .i64 0])
    refine PSpec.intro Tryz.func68 rfl (by kernel_rfl) rfl rfl ?_
    intro C
    (refine LWP.seq <| rgN <| K.box rfl rfl rfl .plain <| K.box rfl rfl rfl .plain <| K.alloc rfl .plain ?_; refine kas rfl <| RunK.nil <| LWP.seq <| LWP.seq <| rgN <| kfa rfl rfl ?_; refine kl1 rfl rfl rfl <| klt rfl rfl (r := false) (decide_eq_false c) <| RunK.nil <| LWP.condF rfl ?_; refine LWP.skip ?_; refine LWP.seq <| rgN <| kfa rfl rfl ?_; refine kl1 rfl rfl rfl <| kca rfl rfl (hO) <| K.storeAll rfl rfl rfl rfl rfl rfl .plain ?_; refine kas rfl <| RunK.nil <| LWP.ret ?_)
    exact ⟨[_, _], ⟨⟨_, _, rfl, rfl, rfl, .inl ⟨AggT.h, rfl⟩⟩, rfl, trivial⟩, rfl⟩
end Go.Proofs.YtnfbccfghgmfiaaGreat
end
