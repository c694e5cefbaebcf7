/- A piece of a proof over this program: contracts of its functions, and a logic to prove them by. -/
import Derived.Test.YtimpjdbhalnofaaGreatDoorQ3
import Derived.Test.YtimpjdbhalnofaaGreatDoorQ4
import Derived.Lib.Walk
import Derived.Lib.ItoaMem
import Derived.Lib.AppendIntMem
import Derived.WalkKit
import Derived.BigCall
import Derived.BigGuard
section
namespace Go.Proofs.YtimpjdbhalnofaaGreatDoor
open Go Go.Lg Go.Lg.Arith
variable (X : Nat → Option Obj)
theorem Mul_arg (b c : Bool) (M N : Int) (hM : In2 M) (hN : In2 N) (hf : (formB b M && formB c N) = false) : PSpec Tryz.prog X 24 [LI b M, LI c N] (.tup [S0, Sn .i64 1]) := by
  refine PSpec.intro Tryz.func24 rfl (by kernel_rfl) rfl rfl ?_
  intro C
  (refine LWP.seq <| rgN <| K.box rfl rfl rfl .plain <| K.box rfl rfl rfl .plain <| K.alloc rfl .plain ?_; refine kas rfl <| RunK.nil <| LWP.seq <| LWP.seq <| rgN <| K.loadAll rfl rfl rfl .plain ?_; refine K.loadAll rfl rfl rfl .plain ?_; refine kca rfl rfl (bothForm_spec _ _ _ _ _ hM hN _ hf) <| K.not rfl rfl .plain <| RunK.nil <| LWP.condT rfl ?_; refine LWP.seq <| rgN <| K.build rfl rfl (by exact rfl) (by exact nl3 rfl rfl rfl rfl) .plain ?_; refine K.storeAll rfl rfl rfl rfl rfl rfl .plain ?_; refine kas rfl <| RunK.nil <| LWP.ret ?_)
  exact ⟨[_, _], ⟨⟨_, _, rfl, rfl, rfl, .inl ⟨AggT.h, rfl⟩⟩, rfl, trivial⟩, rfl⟩
theorem zv_mul (x y : Int) : zv (decide (x < 0) != decide (y < 0)) (mg x * mg y) = x * y := by
  unfold zv mg
  by_cases cx : x < 0 <;> by_cases cy : y < 0 <;> simp [cx, cy, Int.neg_mul, Int.mul_neg]
theorem range_zv {b : Bool} {N : Int} (hN : 0 ≤ N) : R127 (zv b N) ↔ N < 170141183460469231731687303715884105728 := by
  unfold R127 zv
  cases b <;> simp <;> omega
theorem Mul_q (x y : Int) (hx : R127 x) (hy : R127 y) : PSpec Tryz.prog X 24 [LQ x, LQ y] (addR (x * y)) := by
  have hf := both_q hx hy
  have hB := bothForm_spec X _ _ _ _ (mg_in2 hx) (mg_in2 hy) true hf
  have hz := zv_mul x y
  have hp0 : 0 ≤ mg x * mg y := Int.mul_nonneg (mg_nonneg x) (mg_nonneg y)
  have hrange := range_zv (b := decide (x < 0) != decide (y < 0)) hp0
  rw [hz] at hrange
  by_cases hfar : 18446744073709551616 ≤ mg x ∧ 18446744073709551616 ≤ mg y
  · have hm := Int.mul_le_mul hfar.1 hfar.2 (by decide) (by omega : (0 : Int) ≤ mg x)
    rw [addR_out (by rw [hrange]; omega)]
    refine PSpec.intro Tryz.func24 rfl (by kernel_rfl) rfl rfl ?_
    intro C
    (refine LWP.seq <| rgN <| K.box rfl rfl rfl .plain <| K.box rfl rfl rfl .plain <| K.alloc rfl .plain ?_; refine kas rfl <| RunK.nil <| LWP.seq <| LWP.seq <| rgN <| K.loadAll rfl rfl rfl .plain ?_; refine K.loadAll rfl rfl rfl .plain ?_; refine kca rfl rfl (hB) <| K.not rfl rfl .plain <| RunK.nil <| LWP.condF rfl ?_; refine LWP.skip ?_; refine LWP.seq <| rgD mixed <| K.loadAll rfl rfl rfl .plain ?_; refine kca rfl rfl (sizeOf_spec _ _ _ _) <| K.loadAll rfl rfl rfl .plain ?_; refine kca rfl rfl (sizeOf_spec _ _ _ _) <| kca rfl rfl (times_far _ _ _ (mg_in2 hx) (mg_in2 hy) hfar.1 hfar.2) <| kmv rfl <| kex rfl rfl <| kex rfl rfl <| K.alloc rfl .plain ?_; refine K.storeAll rfl rfl rfl rfl rfl rfl .plain ?_; refine kas rfl <| RunK.nil <| rgA ?_; refine LWP.seq <| LWP.seq <| rgN <| kmv rfl <| K.not rfl rfl .plain <| RunK.nil <| LWP.condT rfl ?_; refine LWP.seq <| rgN <| K.build rfl rfl (by exact rfl) (by exact nl3 rfl rfl rfl rfl) .plain ?_; refine K.storeAll rfl rfl rfl rfl rfl rfl .plain ?_; refine kas rfl <| RunK.nil <| LWP.ret ?_)
    exact ⟨[_, _], ⟨⟨_, _, rfl, rfl, rfl, .inl ⟨AggT.h, rfl⟩⟩, rfl, trivial⟩, rfl⟩
  · have ht := times_spec X (mg x) (mg y) (mg_in2 hx) (mg_in2 hy) (by omega)
    by_cases hbig : mg x * mg y < 340282366920938463463374607431768211456
    · have ht' := ht true (decide_eq_true hbig)
      have e : mg x * mg y % 340282366920938463463374607431768211456 = mg x * mg y := by omega
      rw [e] at ht'
      by_cases hfit : mg x * mg y < 170141183460469231731687303715884105728
      · rw [addR_in (hrange.2 hfit), ← tup_q hp0 hz]
        have hb := bounded_ok X (decide (x < 0) != decide (y < 0)) (mg x * mg y) ⟨hp0, hfit⟩ _ rfl
        refine PSpec.intro Tryz.func24 rfl (by kernel_rfl) rfl rfl ?_
        intro C
        (refine LWP.seq <| rgN <| K.box rfl rfl rfl .plain <| K.box rfl rfl rfl .plain <| K.alloc rfl .plain ?_; refine kas rfl <| RunK.nil <| LWP.seq <| LWP.seq <| rgN <| K.loadAll rfl rfl rfl .plain ?_; refine K.loadAll rfl rfl rfl .plain ?_; refine kca rfl rfl (hB) <| K.not rfl rfl .plain <| RunK.nil <| LWP.condF rfl ?_; refine LWP.skip ?_; refine LWP.seq <| rgD mixed <| K.loadAll rfl rfl rfl .plain ?_; refine kca rfl rfl (sizeOf_spec _ _ _ _) <| K.loadAll rfl rfl rfl .plain ?_; refine kca rfl rfl (sizeOf_spec _ _ _ _) <| kca rfl rfl (ht') <| kmv rfl <| kex rfl rfl <| kex rfl rfl <| K.alloc rfl .plain ?_; refine K.storeAll rfl rfl rfl rfl rfl rfl .plain ?_; refine kas rfl <| RunK.nil <| rgA ?_; refine LWP.seq <| LWP.seq <| rgN <| kmv rfl <| K.not rfl rfl .plain <| RunK.nil <| LWP.condF rfl ?_; refine LWP.skip ?_; refine LWP.seq <| rgN <| kfa rfl rfl ?_; refine kl1 rfl rfl rfl <| kfa rfl rfl ?_; refine kl1 rfl rfl rfl <| K.neqB rfl rfl rfl .plain <| K.loadAll rfl rfl rfl .plain ?_; refine kca rfl rfl (hb) <| kex rfl rfl <| kex rfl rfl <| K.storeAll rfl rfl rfl rfl rfl rfl .plain ?_; refine kas rfl <| RunK.nil <| LWP.ret ?_)
        exact ⟨[_, _], ⟨⟨_, _, rfl, rfl, rfl, .inl ⟨AggT.h, rfl⟩⟩, rfl, trivial⟩, rfl⟩
      · rw [addR_out (by rw [hrange]; omega)]
        have hb := bounded_no X (decide (x < 0) != decide (y < 0)) (mg x * mg y) (by omega) ⟨hp0, hbig⟩
        refine PSpec.intro Tryz.func24 rfl (by kernel_rfl) rfl rfl ?_
        intro C
        (refine LWP.seq <| rgN <| K.box rfl rfl rfl .plain <| K.box rfl rfl rfl .plain <| K.alloc rfl .plain ?_; refine kas rfl <| RunK.nil <| LWP.seq <| LWP.seq <| rgN <| K.loadAll rfl rfl rfl .plain ?_; refine K.loadAll rfl rfl rfl .plain ?_; refine kca rfl rfl (hB) <| K.not rfl rfl .plain <| RunK.nil <| LWP.condF rfl ?_; refine LWP.skip ?_; refine LWP.seq <| rgD mixed <| K.loadAll rfl rfl rfl .plain ?_; refine kca rfl rfl (sizeOf_spec _ _ _ _) <| K.loadAll rfl rfl rfl .plain ?_; refine kca rfl rfl (sizeOf_spec _ _ _ _) <| kca rfl rfl (ht') <| kmv rfl <| kex rfl rfl <| kex rfl rfl <| K.alloc rfl .plain ?_; refine K.storeAll rfl rfl rfl rfl rfl rfl .plain ?_; refine kas rfl <| RunK.nil <| rgA ?_; refine LWP.seq <| LWP.seq <| rgN <| kmv rfl <| K.not rfl rfl .plain <| RunK.nil <| LWP.condF rfl ?_; refine LWP.skip ?_; refine LWP.seq <| rgN <| kfa rfl rfl ?_; refine kl1 rfl rfl rfl <| kfa rfl rfl ?_; refine kl1 rfl rfl rfl <| K.neqB rfl rfl rfl .plain <| K.loadAll rfl rfl rfl .plain ?_; refine kca rfl rfl (hb) <| kex rfl rfl <| kex rfl rfl <| K.storeAll rfl rfl rfl rfl rfl rfl .plain ?_; refine kas rfl <| RunK.nil <| LWP.ret ?_)
        exact ⟨[_, _], ⟨⟨_, _, rfl, rfl, rfl, .inl ⟨AggT.h, rfl⟩⟩, rfl, trivial⟩, rfl⟩
    · have ht' := ht false (decide_eq_false hbig)
      rw [addR_out (by rw [hrange]; omega)]
      refine PSpec.intro Tryz.func24 rfl (by kernel_rfl) rfl rfl ?_
      intro C
      (refine LWP.seq <| rgN <| K.box rfl rfl rfl .plain <| K.box rfl rfl rfl .plain <| K.alloc rfl .plain ?_; refine kas rfl <| RunK.nil <| LWP.seq <| LWP.seq <| rgN <| K.loadAll rfl rfl rfl .plain ?_; refine K.loadAll rfl rfl rfl .plain ?_; refine kca rfl rfl (hB) <| K.not rfl rfl .plain <| RunK.nil <| LWP.condF rfl ?_; refine LWP.skip ?_; refine LWP.seq <| rgD mixed <| K.loadAll rfl rfl rfl .plain ?_; refine kca rfl rfl (sizeOf_spec _ _ _ _) <| K.loadAll rfl rfl rfl .plain ?_; refine kca rfl rfl (sizeOf_spec _ _ _ _) <| kca rfl rfl (ht') <| kmv rfl <| kex rfl rfl <| kex rfl rfl <| K.alloc rfl .plain ?_; refine K.storeAll rfl rfl rfl rfl rfl rfl .plain ?_; refine kas rfl <| RunK.nil <| rgA ?_; refine LWP.seq <| LWP.seq <| rgN <| kmv rfl <| K.not rfl rfl .plain <| RunK.nil <| LWP.condT rfl ?_; refine LWP.seq <| rgN <| K.build rfl rfl (by exact rfl) (by exact nl3 rfl rfl rfl rfl) .plain ?_; refine K.storeAll rfl rfl rfl rfl rfl rfl .plain ?_; refine kas rfl <| RunK.nil <| LWP.ret ?_)
      exact ⟨[_, _], ⟨⟨_, _, rfl, rfl, rfl, .inl ⟨AggT.h, rfl⟩⟩, rfl, trivial⟩, rfl⟩
end Go.Proofs.YtimpjdbhalnofaaGreatDoor
end
section
namespace Go.Proofs.YtimpjdbhalnofaaGreatDoor
open Go Go.Lg Go.Lg.Arith
variable (X : Nat → Option Obj)
def lzOf (y : Int) : Nat := 64 - Lib.bitLen y.toNat
theorem lzOf_spec {y : Int} (hy : 0 < y ∧ y < 18446744073709551616) : lzOf y ≤ 63 ∧ 9223372036854775808 ≤ y * 2 ^ lzOf y ∧ y * 2 ^ lzOf y < 18446744073709551616 := by
  obtain ⟨n, rfl⟩ := Int.eq_ofNat_of_zero_le (Int.le_of_lt hy.1)
  have hb := Lib.bitLenAux_bounds 64 n (by have := hy.2; omega) (by have := hy.1; omega)
  have hle : Lib.bitLen n ≤ 64 := Lib.bitLen_le n 64 (by decide) (by have := hy.2; omega)
  change 1 ≤ Lib.bitLen n ∧ 2 ^ (Lib.bitLen n - 1) ≤ n ∧ n < 2 ^ Lib.bitLen n at hb
  have e : lzOf (n : Int) = 64 - Lib.bitLen n := by simp [lzOf]
  rw [e]
  generalize Lib.bitLen n = k at *
  obtain ⟨h1, h2, h3⟩ := hb
  have m1 := Nat.mul_le_mul_right (2 ^ (64 - k)) h2
  have m2 := Nat.mul_lt_mul_of_pos_right h3 (Nat.two_pow_pos (64 - k))
  rw [← Nat.pow_add, show k - 1 + (64 - k) = 63 by omega] at m1
  rw [← Nat.pow_add, show k + (64 - k) = 64 by omega] at m2
  have ec : ((n : Int) * 2 ^ (64 - k)) = ((n * 2 ^ (64 - k) : Nat) : Int) := by rw [Int.natCast_mul, Int.natCast_pow]; rfl
  rw [ec]
  exact ⟨by omega, by omega, by omega⟩
theorem lz_spec (y : Int) (hy : 0 ≤ y ∧ y < 18446744073709551616) : PSpec Tryz.prog X 118 [Ln .u64 y] (Ln .i64 (lzOf y : Nat)) := by
  refine PSpec.ofCalls (vals := [.int .u64 y]) (v := .int .i64 (lzOf y : Nat)) (by kernel_rfl) rfl rfl (fun w _ => ?_)
  refine (Tryz.bits_LeadingZeros64 y w hy.1 (by omega)).mono ?_
  rintro e w' ⟨rfl, rfl⟩
  refine ⟨?_, rfl⟩
  have hle : Lib.bitLen y.toNat ≤ 64 := Lib.bitLen_le _ 64 (by decide) (by have := hy.2; omega)
  have : ((lzOf y : Nat) : Int) = 64 - (Lib.bitLen y.toNat : Int) := by unfold lzOf; omega
  rw [this]
set_option maxHeartbeats 1000000 in
theorem Div64_spec (hi lo y : Int) (hh : 0 ≤ hi ∧ hi < y) (hl : 0 ≤ lo ∧ lo < 18446744073709551616) (hy : y < 18446744073709551616) :
    PSpec Tryz.prog X 83 [Ln .u64 hi, Ln .u64 lo, Ln .u64 y] (.tup [Sn .u64 ((hi * 18446744073709551616 + lo) / y), Sn .u64 ((hi * 18446744073709551616 + lo) % y)]) := by
  have hlz := lz_spec X y (by omega)
  obtain ⟨hs, hY1, hY2⟩ := lzOf_spec (y := y) (by omega)
  generalize lzOf y = s at hlz hs hY1 hY2
  have hE : (0 : Int) < 2 ^ s := Int.pow_pos (by decide)
  have hF : (0 : Int) < 2 ^ (64 - s) := Int.pow_pos (by decide)
  have hEF := pow_split (s := s) (by omega)
  have hsh := shift2 (hi := hi) (lo := lo) hE hF hEF hl.1
  have hsc := scale (N := hi * 18446744073709551616 + lo) (y := y) hE (by omega)
  have hlo2 : 0 ≤ lo / 2 ^ (64 - s) ∧ lo / 2 ^ (64 - s) < 2 ^ s := by
    refine ⟨Int.ediv_nonneg hl.1 (Int.le_of_lt hF), ?_⟩
    rw [Int.ediv_lt_iff_lt_mul hF, hEF]; exact hl.2
  have hhi2 : 0 ≤ hi ∧ hi * 2 ^ s < 18446744073709551616 := by
    refine ⟨hh.1, ?_⟩
    have := Int.mul_le_mul_of_nonneg_right (Int.le_of_lt hh.2) (Int.le_of_lt hE)
    omega
  have hhi3 : 0 ≤ hi * 2 ^ s := Int.mul_nonneg hh.1 (Int.le_of_lt hE)
  obtain ⟨Y, hY⟩ : ∃ Y, y * 2 ^ s = Y := ⟨_, rfl⟩
  obtain ⟨U, hU⟩ : ∃ U, hi * 2 ^ s + lo / 2 ^ (64 - s) = U := ⟨_, rfl⟩
  obtain ⟨V, hV⟩ : ∃ V, lo * 2 ^ s % 18446744073709551616 = V := ⟨_, rfl⟩
  have hV0 : 0 ≤ V ∧ V < 18446744073709551616 := by omega
  have hUY : U < Y := by
    have h1 : (hi * 18446744073709551616 + lo) * 2 ^ s < (y * 18446744073709551616) * 2 ^ s := Int.mul_lt_mul_of_pos_right (by omega) hE
    rw [Int.mul_right_comm] at h1
    rw [hY] at h1
    rw [hsh, hU, hV] at h1
    omega
  have hU0 : 0 ≤ U := by omega
  rw [hsh, hU, hV, hY] at hsc
  rw [hY] at hY1 hY2
  have ka1 : KArg (Y / 4294967296) (Y % 4294967296) U (V / 4294967296) := ⟨by omega, by omega, by omega, by omega⟩
  have eY : Y / 4294967296 * 4294967296 + Y % 4294967296 = Y := by omega
  have ks1 := k_start ka1
  have kq1 : ∀ q r, KInv (Y / 4294967296) (Y % 4294967296) U (V / 4294967296) q r → q * Y ≤ U * 4294967296 + V / 4294967296 → q = (U * 4294967296 + V / 4294967296) / Y ∧ U * 4294967296 + V / 4294967296 - q * Y = (U * 4294967296 + V / 4294967296) % Y := by
    intro q r k he
    have := k_quo ka1 k (by rw [eY]; exact he)
    rw [eY] at this
    exact this
  refine PSpec.intro Tryz.func83 rfl (by kernel_rfl) rfl rfl ?_
  intro C
  by_cases hz : hi = 0
  · subst hz
    (refine LWP.seq <| rgN <| kas rfl <| kas rfl <| RunK.nil <| LWP.seq <| LWP.seq <| rgN <| kmv rfl <| keq rfl rfl (beq_eq_false_iff_ne.2 (by omega)) <| RunK.nil <| LWP.condF rfl ?_; refine LWP.skip ?_; refine LWP.seq <| LWP.seq <| rgN <| kmv rfl <| kmv rfl <| K.leq rfl rfl (decide_eq_false (by omega)) .plain <| RunK.nil <| LWP.condF rfl ?_; refine LWP.skip ?_; refine LWP.seq <| LWP.seq <| rgN <| kmv rfl <| keq rfl rfl (beq_iff_eq.2 (by omega)) <| RunK.nil <| LWP.condT rfl ?_; refine LWP.seq <| rgD mixed <| kmv rfl <| kmv rfl <| K.quo rfl rfl (by omega) (quo_u64 (by omega) (by omega)) .plain <| kmv rfl <| kmv rfl <| K.rem rfl rfl (by omega) (rem_pos (by omega)) .plain <| kas rfl <| kas rfl <| RunK.nil <| rgA ?_; refine LWP.ret ?_)
    exact ⟨[_, _], ⟨rfl, rfl, trivial⟩, by simp [resOf]⟩
  · have hm1 : 0 ≤ U / (Y / 4294967296) * (Y / 4294967296) ∧ U / (Y / 4294967296) * (Y / 4294967296) ≤ U := by have := ks1.r0; have := ks1.eq; exact ⟨Int.mul_nonneg ks1.q0 (by omega), by omega⟩
    (refine LWP.seq <| rgN <| kas rfl <| kas rfl <| RunK.nil <| LWP.seq <| LWP.seq <| rgN <| kmv rfl <| keq rfl rfl (beq_eq_false_iff_ne.2 (by omega)) <| RunK.nil <| LWP.condF rfl ?_; refine LWP.skip ?_; refine LWP.seq <| LWP.seq <| rgN <| kmv rfl <| kmv rfl <| K.leq rfl rfl (decide_eq_false (by omega)) .plain <| RunK.nil <| LWP.condF rfl ?_; refine LWP.skip ?_; refine LWP.seq <| LWP.seq <| rgN <| kmv rfl <| keq rfl rfl (beq_eq_false_iff_ne.2 (by omega)) <| RunK.nil <| LWP.condF rfl ?_; refine LWP.skip ?_; refine LWP.seq <| rgN <| kmv rfl <| kca rfl rfl (hlz) <| kcv rfl (by exact wrap_u64 (by omega)) ?_; refine kas rfl <| RunK.nil <| LWP.seq <| rgN <| kmv rfl <| kmv rfl <| K.shl rfl rfl (by omega) (shl_s (by omega) hY (by omega)) .plain <| kas rfl <| RunK.nil <| LWP.seq <| rgN <| kmv rfl <| K.shr rfl rfl (by omega) (shr_32 _) .plain <| kas rfl ?_; refine RunK.nil <| LWP.seq <| rgN <| kmv rfl <| K.bitop (by simp) rfl rfl (and_32 (by omega)) .plain <| kas rfl <| RunK.nil <| LWP.seq <| rgN <| kmv rfl <| kmv rfl <| K.shl rfl rfl (by omega) (shl_s (by omega) rfl ⟨hhi3, hhi2.2⟩) .plain <| kmv rfl <| kmv rfl ?_; refine K.sub rfl rfl (wrap_u64 (by omega)) .plain <| K.shr rfl rfl (by omega) (shr_64s (by omega)) .plain <| K.bitop (by simp) rfl rfl (or_apart' (by omega) hhi2 hlo2 hU) .plain <| kas rfl <| RunK.nil <| LWP.seq <| rgN <| kmv rfl <| kmv rfl <| K.shl rfl rfl (by omega) ((shl_mod (by omega)).trans hV) .plain <| kas rfl <| RunK.nil <| LWP.seq <| rgN ?_; refine kmv rfl <| K.shr rfl rfl (by omega) (shr_32 _) .plain <| kas rfl <| RunK.nil <| LWP.seq <| rgN <| kmv rfl <| K.bitop (by simp) rfl rfl (and_32 (by omega)) .plain <| kas rfl <| RunK.nil <| LWP.seq <| rgN <| kmv rfl <| kmv rfl ?_; refine K.quo rfl rfl (by omega) (quo_u64 (by omega) (by omega)) .plain <| kas rfl <| RunK.nil <| LWP.seq <| rgN <| kmv rfl <| kmv rfl <| kmv rfl <| K.mul rfl rfl (wrap_u64 (by omega)) .plain <| K.sub rfl rfl (wrap_u64 (by omega)) .plain <| kas rfl <| RunK.nil <| LWP.seq <| LWP.block ?_)
    have hy1 : U - U / (Y / 4294967296) * (Y / 4294967296) < Y / 4294967296 := by
      have h2 := Int.emod_add_mul_ediv U (Y / 4294967296)
      have h3 := Int.emod_lt_of_pos U (show 0 < Y / 4294967296 by omega)
      rw [Int.mul_comm] at h2
      omega
    refine LWP.meet (fun σ => ∃ q r : Int, q = (U * 4294967296 + V / 4294967296) / Y ∧ σ = ⟨[(2, Ln .u64 Y), (8, Ln .u64 s), (9, Ln .u64 (Y / 4294967296)), (10, Ln .u64 (Y % 4294967296)), (11, Ln .u64 U), (13, Ln .u64 (V / 4294967296)), (14, Ln .u64 (V % 4294967296)), (15, Ln .u64 q), (16, Ln .u64 r)], [], X⟩) ?_ ?_
    · refine LWP.loop (fun m σ => ∃ q r : Int, KInv (Y / 4294967296) (Y % 4294967296) U (V / 4294967296) q r ∧ r < 4294967296 ∧ m = q.toNat ∧ σ = ⟨[(2, Ln .u64 Y), (8, Ln .u64 s), (9, Ln .u64 (Y / 4294967296)), (10, Ln .u64 (Y % 4294967296)), (11, Ln .u64 U), (13, Ln .u64 (V / 4294967296)), (14, Ln .u64 (V % 4294967296)), (15, Ln .u64 q), (16, Ln .u64 r)], [], X⟩) (U / (Y / 4294967296)).toNat
        ⟨_, Le.of (by exact ⟨rfl, rfl, rfl, rfl, rfl, rfl, rfl, rfl, rfl, trivial⟩) (by exact trivial) (by exact rfl) (by exact rfl) (by exact rfl), _, _, ks1, by omega, rfl, rfl⟩ ?_
      rintro m σ ⟨q, r, k, hr, rfl, rfl⟩
      have hq0 := k.q0
      have hr0 := k.r0
      have hqU : q ≤ U := by
        have := k.eq
        have := Int.mul_le_mul_of_nonneg_left (show (1 : Int) ≤ Y / 4294967296 by omega) hq0
        omega
      have next : ∀ q' r', KInv (Y / 4294967296) (Y % 4294967296) U (V / 4294967296) q' r' → 4294967296 ≤ r' → q' = (U * 4294967296 + V / 4294967296) / Y := fun q' r' k' h' => (kq1 q' r' k' (by have := k_break ka1 k' h'; rwa [eY] at this)).1
      by_cases hq : 4294967296 ≤ q
      · have k' := k_big ka1 k hq
        have hrn := next _ _ k'
        by_cases hr2 : 4294967296 ≤ r + Y / 4294967296
        · (refine LWP.seq <| LWP.seq <| rgN <| kmv rfl <| K.geq rfl rfl (decide_eq_true (by omega)) .plain <| kmv rfl <| RunK.passed rfl rfl rfl <| RunK.passed rfl rfl rfl <| RunK.passed rfl rfl rfl <| RunK.passed rfl rfl rfl <| RunK.passed rfl rfl rfl <| RunK.passed rfl rfl rfl <| RunK.passed rfl rfl rfl <| RunK.passed rfl rfl rfl ?_; refine kpt rfl rfl <| RunK.nil <| LWP.condT rfl ?_; refine LWP.skip ?_; refine LWP.block <| LWP.seq <| rgN <| kmv rfl <| K.sub rfl rfl (wrap_u64 (by omega)) .plain <| kas rfl <| RunK.nil <| LWP.seq <| rgN <| kmv rfl <| kmv rfl <| kad rfl rfl (wrap_u64 (by omega)) <| kas rfl <| RunK.nil ?_; refine LWP.seq <| rgN <| kmv rfl <| K.geq rfl rfl (decide_eq_true (by omega)) .plain <| RunK.nil <| LWP.condT rfl ?_; refine LWP.exit ?_)
          exact ⟨_, Le.of (by exact ⟨rfl, rfl, rfl, rfl, rfl, rfl, rfl, rfl, rfl, trivial⟩) (by exact trivial) (by exact rfl) (by exact rfl) (by exact rfl), _, _, hrn hr2, rfl⟩
        · (refine LWP.seq <| LWP.seq <| rgN <| kmv rfl <| K.geq rfl rfl (decide_eq_true (by omega)) .plain <| kmv rfl <| RunK.passed rfl rfl rfl <| RunK.passed rfl rfl rfl <| RunK.passed rfl rfl rfl <| RunK.passed rfl rfl rfl <| RunK.passed rfl rfl rfl <| RunK.passed rfl rfl rfl <| RunK.passed rfl rfl rfl <| RunK.passed rfl rfl rfl ?_; refine kpt rfl rfl <| RunK.nil <| LWP.condT rfl ?_; refine LWP.skip ?_; refine LWP.block <| LWP.seq <| rgN <| kmv rfl <| K.sub rfl rfl (wrap_u64 (by omega)) .plain <| kas rfl <| RunK.nil <| LWP.seq <| rgN <| kmv rfl <| kmv rfl <| kad rfl rfl (wrap_u64 (by omega)) <| kas rfl <| RunK.nil ?_; refine LWP.seq <| rgN <| kmv rfl <| K.geq rfl rfl (decide_eq_false (by omega)) .plain <| RunK.nil <| LWP.condF rfl ?_; refine LWP.skip ?_)
          exact ⟨_, _, by omega, Le.of (by exact ⟨rfl, rfl, rfl, rfl, rfl, rfl, rfl, rfl, rfl, trivial⟩) (by exact trivial) (by exact rfl) (by exact rfl) (by exact rfl), _, _, k', by omega, rfl, rfl⟩
      · have hqy := mul_bound (a := q) (b := Y % 4294967296) (A := 4294967295) (B := 4294967295) ⟨hq0, by omega⟩ ⟨by omega, by omega⟩
        by_cases hb : 4294967296 * r + V / 4294967296 < q * (Y % 4294967296)
        · have k' := k_high ka1 k hb
          have hrn := next _ _ k'
          have hq1 : 1 ≤ q := by have := k'.q0; omega
          by_cases hr2 : 4294967296 ≤ r + Y / 4294967296
          · (refine LWP.seq <| LWP.seq <| rgN <| kmv rfl <| K.geq rfl rfl (decide_eq_false (by omega)) .plain <| kmv rfl <| gmv rfl rfl rfl <| gmv rfl rfl rfl <| K.mul rfl rfl (wrap_u64 (by omega)) (.taken rfl rfl) ?_; refine gmv rfl rfl rfl <| K.mul rfl rfl (wrap_u64 (by omega)) (.taken rfl rfl) ?_; refine gmv rfl rfl rfl <| K.add rfl rfl (wrap_u64 (by omega)) (.taken rfl rfl) ?_; refine K.gtr rfl rfl (decide_eq_true (by omega)) (.taken rfl rfl) ?_; refine kpf rfl rfl <| RunK.nil <| LWP.condT rfl ?_; refine LWP.skip ?_; refine LWP.block <| LWP.seq <| rgN <| kmv rfl <| K.sub rfl rfl (wrap_u64 (by omega)) .plain <| kas rfl <| RunK.nil <| LWP.seq <| rgN <| kmv rfl <| kmv rfl <| kad rfl rfl (wrap_u64 (by omega)) <| kas rfl <| RunK.nil ?_; refine LWP.seq <| rgN <| kmv rfl <| K.geq rfl rfl (decide_eq_true (by omega)) .plain <| RunK.nil <| LWP.condT rfl ?_; refine LWP.exit ?_)
            exact ⟨_, Le.of (by exact ⟨rfl, rfl, rfl, rfl, rfl, rfl, rfl, rfl, rfl, trivial⟩) (by exact trivial) (by exact rfl) (by exact rfl) (by exact rfl), _, _, hrn hr2, rfl⟩
          · (refine LWP.seq <| LWP.seq <| rgN <| kmv rfl <| K.geq rfl rfl (decide_eq_false (by omega)) .plain <| kmv rfl <| gmv rfl rfl rfl <| gmv rfl rfl rfl <| K.mul rfl rfl (wrap_u64 (by omega)) (.taken rfl rfl) ?_; refine gmv rfl rfl rfl <| K.mul rfl rfl (wrap_u64 (by omega)) (.taken rfl rfl) ?_; refine gmv rfl rfl rfl <| K.add rfl rfl (wrap_u64 (by omega)) (.taken rfl rfl) ?_; refine K.gtr rfl rfl (decide_eq_true (by omega)) (.taken rfl rfl) ?_; refine kpf rfl rfl <| RunK.nil <| LWP.condT rfl ?_; refine LWP.skip ?_; refine LWP.block <| LWP.seq <| rgN <| kmv rfl <| K.sub rfl rfl (wrap_u64 (by omega)) .plain <| kas rfl <| RunK.nil <| LWP.seq <| rgN <| kmv rfl <| kmv rfl <| kad rfl rfl (wrap_u64 (by omega)) <| kas rfl <| RunK.nil ?_; refine LWP.seq <| rgN <| kmv rfl <| K.geq rfl rfl (decide_eq_false (by omega)) .plain <| RunK.nil <| LWP.condF rfl ?_; refine LWP.skip ?_)
            exact ⟨_, _, by omega, Le.of (by exact ⟨rfl, rfl, rfl, rfl, rfl, rfl, rfl, rfl, rfl, trivial⟩) (by exact trivial) (by exact rfl) (by exact rfl) (by exact rfl), _, _, k', by omega, rfl, rfl⟩
        · (refine LWP.seq <| LWP.seq <| rgN <| kmv rfl <| K.geq rfl rfl (decide_eq_false (by omega)) .plain <| kmv rfl <| gmv rfl rfl rfl <| gmv rfl rfl rfl <| K.mul rfl rfl (wrap_u64 (by omega)) (.taken rfl rfl) ?_; refine gmv rfl rfl rfl <| K.mul rfl rfl (wrap_u64 (by omega)) (.taken rfl rfl) ?_; refine gmv rfl rfl rfl <| K.add rfl rfl (wrap_u64 (by omega)) (.taken rfl rfl) ?_; refine K.gtr rfl rfl (decide_eq_false (by omega)) (.taken rfl rfl) ?_; refine kpf rfl rfl <| RunK.nil <| LWP.condF rfl ?_; refine LWP.exit ?_)
          exact ⟨_, Le.of (by exact ⟨rfl, rfl, rfl, rfl, rfl, rfl, rfl, rfl, rfl, trivial⟩) (by exact trivial) (by exact rfl) (by exact rfl) (by exact rfl), _, _, (kq1 q r k (by have := k_end k (by omega); rwa [eY] at this)).1, rfl⟩
    · rintro σ ⟨q1, r1, hq1, rfl⟩
      have hYp : 0 < Y := by omega
      have hq1B := digit_lt hYp hUY (show V / 4294967296 < 4294967296 by omega) hq1
      obtain ⟨R, hR⟩ : ∃ R, (U * 4294967296 + V / 4294967296) % Y = R := ⟨_, rfl⟩
      have hR0 := Int.emod_nonneg (U * 4294967296 + V / 4294967296) (show Y ≠ 0 by omega)
      have hR1 := Int.emod_lt_of_pos (U * 4294967296 + V / 4294967296) hYp
      have hRe := Int.emod_add_mul_ediv (U * 4294967296 + V / 4294967296) Y
      rw [← hq1, Int.mul_comm Y q1] at hRe
      rw [hR] at hR0 hR1 hRe
      have hq10 : 0 ≤ q1 := by rw [hq1]; exact Int.ediv_nonneg (by omega) (by omega)
      have hsub1 : IntKind.u64.wrap (IntKind.u64.wrap (IntKind.u64.wrap (U * 4294967296) + V / 4294967296) - IntKind.u64.wrap (q1 * Y)) = R := by rw [wrap3 (by omega)]; omega
      have ka2 : KArg (Y / 4294967296) (Y % 4294967296) R (V % 4294967296) := ⟨by omega, by omega, by omega, by omega⟩
      have ks2 := k_start ka2
      have kq2 : ∀ q r, KInv (Y / 4294967296) (Y % 4294967296) R (V % 4294967296) q r → q * Y ≤ R * 4294967296 + V % 4294967296 → q = (R * 4294967296 + V % 4294967296) / Y ∧ R * 4294967296 + V % 4294967296 - q * Y = (R * 4294967296 + V % 4294967296) % Y := by
        intro q r k he
        have := k_quo ka2 k (by rw [eY]; exact he)
        rw [eY] at this
        exact this
      have hm2 : 0 ≤ R / (Y / 4294967296) * (Y / 4294967296) ∧ R / (Y / 4294967296) * (Y / 4294967296) ≤ R := by have := ks2.r0; have := ks2.eq; exact ⟨Int.mul_nonneg ks2.q0 (by omega), by omega⟩
      have hy2 : R - R / (Y / 4294967296) * (Y / 4294967296) < Y / 4294967296 := by
        have h2 := Int.emod_add_mul_ediv R (Y / 4294967296)
        have h3 := Int.emod_lt_of_pos R (show 0 < Y / 4294967296 by omega)
        rw [Int.mul_comm] at h2
        omega
      (refine LWP.seq <| rgN <| kmv rfl <| K.mul rfl rfl rfl .plain <| kmv rfl <| kad rfl rfl rfl <| kmv rfl <| kmv rfl <| K.mul rfl rfl rfl .plain <| K.sub rfl rfl hsub1 .plain <| kas rfl <| RunK.nil <| LWP.seq <| rgN ?_; refine kmv rfl <| kmv rfl <| K.quo rfl rfl (by omega) (quo_u64 (by omega) (by omega)) .plain <| kas rfl <| RunK.nil <| LWP.seq <| rgN <| kmv rfl <| kmv rfl <| kmv rfl <| K.mul rfl rfl (wrap_u64 (by omega)) .plain <| K.sub rfl rfl (wrap_u64 (by omega)) .plain <| kas rfl <| RunK.nil ?_; refine LWP.seq <| LWP.block ?_)
      refine LWP.meet (fun σ => ∃ q r : Int, q = (R * 4294967296 + V % 4294967296) / Y ∧ σ = ⟨[(2, Ln .u64 Y), (8, Ln .u64 s), (14, Ln .u64 (V % 4294967296)), (15, Ln .u64 q1), (17, Ln .u64 R), (18, Ln .u64 q), (16, Ln .u64 r)], [], X⟩) ?_ ?_
      · refine LWP.loop (fun m σ => ∃ q r : Int, KInv (Y / 4294967296) (Y % 4294967296) R (V % 4294967296) q r ∧ r < 4294967296 ∧ m = q.toNat ∧ σ = ⟨[(2, Ln .u64 Y), (8, Ln .u64 s), (9, Ln .u64 (Y / 4294967296)), (10, Ln .u64 (Y % 4294967296)), (14, Ln .u64 (V % 4294967296)), (15, Ln .u64 q1), (17, Ln .u64 R), (18, Ln .u64 q), (16, Ln .u64 r)], [], X⟩) (R / (Y / 4294967296)).toNat
          ⟨_, Le.of (by exact ⟨rfl, rfl, rfl, rfl, rfl, rfl, rfl, rfl, rfl, trivial⟩) (by exact trivial) (by exact rfl) (by exact rfl) (by exact rfl), _, _, ks2, by omega, rfl, rfl⟩ ?_
        rintro m σ ⟨q, r, k, hr, rfl, rfl⟩
        have hq0 := k.q0
        have hr0 := k.r0
        have hqU : q ≤ R := by
          have := k.eq
          have := Int.mul_le_mul_of_nonneg_left (show (1 : Int) ≤ Y / 4294967296 by omega) hq0
          omega
        have next : ∀ q' r', KInv (Y / 4294967296) (Y % 4294967296) R (V % 4294967296) q' r' → 4294967296 ≤ r' → q' = (R * 4294967296 + V % 4294967296) / Y := fun q' r' k' h' => (kq2 q' r' k' (by have := k_break ka2 k' h'; rwa [eY] at this)).1
        by_cases hq : 4294967296 ≤ q
        · have k' := k_big ka2 k hq
          have hrn := next _ _ k'
          by_cases hr2 : 4294967296 ≤ r + Y / 4294967296
          · (refine LWP.seq <| LWP.seq <| rgN <| kmv rfl <| K.geq rfl rfl (decide_eq_true (by omega)) .plain <| kmv rfl <| RunK.passed rfl rfl rfl <| RunK.passed rfl rfl rfl <| RunK.passed rfl rfl rfl <| RunK.passed rfl rfl rfl <| RunK.passed rfl rfl rfl <| RunK.passed rfl rfl rfl <| RunK.passed rfl rfl rfl <| RunK.passed rfl rfl rfl ?_; refine kpt rfl rfl <| RunK.nil <| LWP.condT rfl ?_; refine LWP.skip ?_; refine LWP.block <| LWP.seq <| rgN <| kmv rfl <| K.sub rfl rfl (wrap_u64 (by omega)) .plain <| kas rfl <| RunK.nil <| LWP.seq <| rgN <| kmv rfl <| kmv rfl <| kad rfl rfl (wrap_u64 (by omega)) <| kas rfl <| RunK.nil ?_; refine LWP.seq <| rgN <| kmv rfl <| K.geq rfl rfl (decide_eq_true (by omega)) .plain <| RunK.nil <| LWP.condT rfl ?_; refine LWP.exit ?_)
            exact ⟨_, Le.of (by exact ⟨rfl, rfl, rfl, rfl, rfl, rfl, rfl, trivial⟩) (by exact trivial) (by exact rfl) (by exact rfl) (by exact rfl), _, _, hrn hr2, rfl⟩
          · (refine LWP.seq <| LWP.seq <| rgN <| kmv rfl <| K.geq rfl rfl (decide_eq_true (by omega)) .plain <| kmv rfl <| RunK.passed rfl rfl rfl <| RunK.passed rfl rfl rfl <| RunK.passed rfl rfl rfl <| RunK.passed rfl rfl rfl <| RunK.passed rfl rfl rfl <| RunK.passed rfl rfl rfl <| RunK.passed rfl rfl rfl <| RunK.passed rfl rfl rfl ?_; refine kpt rfl rfl <| RunK.nil <| LWP.condT rfl ?_; refine LWP.skip ?_; refine LWP.block <| LWP.seq <| rgN <| kmv rfl <| K.sub rfl rfl (wrap_u64 (by omega)) .plain <| kas rfl <| RunK.nil <| LWP.seq <| rgN <| kmv rfl <| kmv rfl <| kad rfl rfl (wrap_u64 (by omega)) <| kas rfl <| RunK.nil ?_; refine LWP.seq <| rgN <| kmv rfl <| K.geq rfl rfl (decide_eq_false (by omega)) .plain <| RunK.nil <| LWP.condF rfl ?_; refine LWP.skip ?_)
            exact ⟨_, _, by omega, Le.of (by exact ⟨rfl, rfl, rfl, rfl, rfl, rfl, rfl, rfl, rfl, trivial⟩) (by exact trivial) (by exact rfl) (by exact rfl) (by exact rfl), _, _, k', by omega, rfl, rfl⟩
        · have hqy := mul_bound (a := q) (b := Y % 4294967296) (A := 4294967295) (B := 4294967295) ⟨hq0, by omega⟩ ⟨by omega, by omega⟩
          by_cases hb : 4294967296 * r + V % 4294967296 < q * (Y % 4294967296)
          · have k' := k_high ka2 k hb
            have hrn := next _ _ k'
            have hq1 : 1 ≤ q := by have := k'.q0; omega
            by_cases hr2 : 4294967296 ≤ r + Y / 4294967296
            · (refine LWP.seq <| LWP.seq <| rgN <| kmv rfl <| K.geq rfl rfl (decide_eq_false (by omega)) .plain <| kmv rfl <| gmv rfl rfl rfl <| gmv rfl rfl rfl <| K.mul rfl rfl (wrap_u64 (by omega)) (.taken rfl rfl) ?_; refine gmv rfl rfl rfl <| K.mul rfl rfl (wrap_u64 (by omega)) (.taken rfl rfl) ?_; refine gmv rfl rfl rfl <| K.add rfl rfl (wrap_u64 (by omega)) (.taken rfl rfl) ?_; refine K.gtr rfl rfl (decide_eq_true (by omega)) (.taken rfl rfl) ?_; refine kpf rfl rfl <| RunK.nil <| LWP.condT rfl ?_; refine LWP.skip ?_; refine LWP.block <| LWP.seq <| rgN <| kmv rfl <| K.sub rfl rfl (wrap_u64 (by omega)) .plain <| kas rfl <| RunK.nil <| LWP.seq <| rgN <| kmv rfl <| kmv rfl <| kad rfl rfl (wrap_u64 (by omega)) <| kas rfl <| RunK.nil ?_; refine LWP.seq <| rgN <| kmv rfl <| K.geq rfl rfl (decide_eq_true (by omega)) .plain <| RunK.nil <| LWP.condT rfl ?_; refine LWP.exit ?_)
              exact ⟨_, Le.of (by exact ⟨rfl, rfl, rfl, rfl, rfl, rfl, rfl, trivial⟩) (by exact trivial) (by exact rfl) (by exact rfl) (by exact rfl), _, _, hrn hr2, rfl⟩
            · (refine LWP.seq <| LWP.seq <| rgN <| kmv rfl <| K.geq rfl rfl (decide_eq_false (by omega)) .plain <| kmv rfl <| gmv rfl rfl rfl <| gmv rfl rfl rfl <| K.mul rfl rfl (wrap_u64 (by omega)) (.taken rfl rfl) ?_; refine gmv rfl rfl rfl <| K.mul rfl rfl (wrap_u64 (by omega)) (.taken rfl rfl) ?_; refine gmv rfl rfl rfl <| K.add rfl rfl (wrap_u64 (by omega)) (.taken rfl rfl) ?_; refine K.gtr rfl rfl (decide_eq_true (by omega)) (.taken rfl rfl) ?_; refine kpf rfl rfl <| RunK.nil <| LWP.condT rfl ?_; refine LWP.skip ?_; refine LWP.block <| LWP.seq <| rgN <| kmv rfl <| K.sub rfl rfl (wrap_u64 (by omega)) .plain <| kas rfl <| RunK.nil <| LWP.seq <| rgN <| kmv rfl <| kmv rfl <| kad rfl rfl (wrap_u64 (by omega)) <| kas rfl <| RunK.nil ?_; refine LWP.seq <| rgN <| kmv rfl <| K.geq rfl rfl (decide_eq_false (by omega)) .plain <| RunK.nil <| LWP.condF rfl ?_; refine LWP.skip ?_)
              exact ⟨_, _, by omega, Le.of (by exact ⟨rfl, rfl, rfl, rfl, rfl, rfl, rfl, rfl, rfl, trivial⟩) (by exact trivial) (by exact rfl) (by exact rfl) (by exact rfl), _, _, k', by omega, rfl, rfl⟩
          · (refine LWP.seq <| LWP.seq <| rgN <| kmv rfl <| K.geq rfl rfl (decide_eq_false (by omega)) .plain <| kmv rfl <| gmv rfl rfl rfl <| gmv rfl rfl rfl <| K.mul rfl rfl (wrap_u64 (by omega)) (.taken rfl rfl) ?_; refine gmv rfl rfl rfl <| K.mul rfl rfl (wrap_u64 (by omega)) (.taken rfl rfl) ?_; refine gmv rfl rfl rfl <| K.add rfl rfl (wrap_u64 (by omega)) (.taken rfl rfl) ?_; refine K.gtr rfl rfl (decide_eq_false (by omega)) (.taken rfl rfl) ?_; refine kpf rfl rfl <| RunK.nil <| LWP.condF rfl ?_; refine LWP.exit ?_)
            exact ⟨_, Le.of (by exact ⟨rfl, rfl, rfl, rfl, rfl, rfl, rfl, trivial⟩) (by exact trivial) (by exact rfl) (by exact rfl) (by exact rfl), _, _, (kq2 q r k (by have := k_end k (by omega); rwa [eY] at this)).1, rfl⟩
      · rintro σ ⟨q2, r2, hq2, rfl⟩
        have hend := quo_end hYp hq1 hR.symm hq2
        have hq2B := digit_lt hYp hR1 (show V % 4294967296 < 4294967296 by omega) hq2
        have hq20 : 0 ≤ q2 := by rw [hq2]; exact Int.ediv_nonneg (by omega) (by omega)
        obtain ⟨T, hT⟩ : ∃ T, (R * 4294967296 + V % 4294967296) % Y = T := ⟨_, rfl⟩
        have hT0 := Int.emod_nonneg (R * 4294967296 + V % 4294967296) (show Y ≠ 0 by omega)
        have hT1 := Int.emod_lt_of_pos (R * 4294967296 + V % 4294967296) hYp
        have hTe := Int.emod_add_mul_ediv (R * 4294967296 + V % 4294967296) Y
        rw [← hq2, Int.mul_comm Y q2] at hTe
        rw [hT] at hT0 hT1 hTe hend
        have hsub2 : IntKind.u64.wrap (IntKind.u64.wrap (IntKind.u64.wrap (R * 4294967296) + V % 4294967296) - IntKind.u64.wrap (q2 * Y)) = T := by rw [wrap3 (by omega)]; omega
        (refine LWP.seq <| rgN <| kmv rfl <| K.mul rfl rfl (wrap_u64 (by omega)) .plain <| kmv rfl <| kad rfl rfl (wrap_u64 (by omega)) <| kmv rfl <| K.mul rfl rfl rfl .plain <| kmv rfl <| kad rfl rfl rfl <| kmv rfl <| kmv rfl <| K.mul rfl rfl rfl .plain <| K.sub rfl rfl hsub2 .plain ?_; refine kmv rfl <| K.shr rfl rfl (by omega) (shr_s (by omega)) .plain <| kas rfl <| kas rfl <| RunK.nil <| LWP.ret ?_)
        rw [← hsc.1, ← hsc.2, ← hend.1, ← hend.2]
        exact ⟨[_, _], ⟨rfl, rfl, trivial⟩, rfl⟩
end Go.Proofs.YtimpjdbhalnofaaGreatDoor
end
section
namespace Go.Proofs.YtimpjdbhalnofaaGreatDoor
open Go Go.Lg Go.Lg.Arith
variable (X : Nat → Option Obj)
theorem LZ_word {g : Int} (h : 0 ≤ g ∧ g < 18446744073709551616) : LZ g = Lz 0 g := by
  unfold LZ
  rw [show g / 18446744073709551616 = 0 by omega, show g % 18446744073709551616 = g by omega]
set_option maxHeartbeats 1000000 in
theorem divideLong_spec (M N : Int) (hM : Lim M) (hN : 18446744073709551616 ≤ N ∧ N < 170141183460469231731687303715884105728) :
    PSpec Tryz.prog X 82 [LZ M, LZ N] (.tup [SZ (M / N), SZ (M % N)]) := by
  obtain ⟨hM0, hM1⟩ := hM
  obtain ⟨H, hH⟩ : ∃ H, N / 18446744073709551616 = H := ⟨_, rfl⟩
  obtain ⟨l, hl⟩ : ∃ l, N % 18446744073709551616 = l := ⟨_, rfl⟩
  have hH1 : 0 < H ∧ H < 9223372036854775808 := by omega
  have hl1 : 0 ≤ l ∧ l < 18446744073709551616 := by omega
  have hlz := lz_spec X H (by omega)
  obtain ⟨hs, hY1, hY2⟩ := lzOf_spec (y := H) (by omega)
  generalize lzOf H = s at hlz hs hY1 hY2
  have hs1 : 1 ≤ s := by
    rcases Nat.eq_zero_or_pos s with h | h
    · subst h; simp at hY1; omega
    · exact h
  have hE : (0 : Int) < 2 ^ s := Int.pow_pos (by decide)
  have hF : (0 : Int) < 2 ^ (64 - s) := Int.pow_pos (by decide)
  have hEF := pow_split (s := s) (by omega)
  have hF2 : (2 : Int) ≤ 2 ^ (64 - s) := by
    rw [show 64 - s = (63 - s) + 1 by omega, Int.pow_succ]
    have : (0 : Int) < 2 ^ (63 - s) := Int.pow_pos (by decide)
    omega
  have hlo2 : 0 ≤ l / 2 ^ (64 - s) ∧ l / 2 ^ (64 - s) < 2 ^ s := by
    refine ⟨Int.ediv_nonneg hl1.1 (Int.le_of_lt hF), ?_⟩
    rw [Int.ediv_lt_iff_lt_mul hF, hEF]; exact hl1.2
  have hH2 : 0 ≤ H * 2 ^ s := Int.mul_nonneg (by omega) (Int.le_of_lt hE)
  obtain ⟨L, hL⟩ : ∃ L, H * 2 ^ s + l / 2 ^ (64 - s) = L := ⟨_, rfl⟩
  have hLW : L < 18446744073709551616 := by
    have h1 : H < 2 ^ (64 - s) := by
      rcases Int.lt_or_le H (2 ^ (64 - s)) with h | h
      · exact h
      · have := Int.mul_le_mul_of_nonneg_right h (Int.le_of_lt hE)
        rw [Int.mul_comm ((2 : Int) ^ (64 - s)), hEF] at this
        omega
    have h2 := Int.mul_le_mul_of_nonneg_right (show H ≤ 2 ^ (64 - s) - 1 by omega) (Int.le_of_lt hE)
    rw [Int.sub_mul, Int.one_mul, Int.mul_comm ((2 : Int) ^ (64 - s)), hEF] at h2
    omega
  have hNL : ∃ r0, N = L * 2 ^ (64 - s) + r0 ∧ 0 ≤ r0 ∧ r0 < 2 ^ (64 - s) := by
    have h1 := Int.emod_add_mul_ediv l (2 ^ (64 - s))
    have h2 := Int.emod_nonneg l (show (2 : Int) ^ (64 - s) ≠ 0 by omega)
    have h3 := Int.emod_lt_of_pos l hF
    refine ⟨l % 2 ^ (64 - s), ?_, h2, h3⟩
    have h4 : H * 2 ^ s * 2 ^ (64 - s) = H * 18446744073709551616 := by rw [Int.mul_assoc, hEF]
    rw [← hL, Int.add_mul, h4, Int.mul_comm (l / 2 ^ (64 - s))]
    omega
  obtain ⟨r0, hNL, hr0⟩ := hNL
  obtain ⟨g, hg⟩ : ∃ g, M / (L * 2 ^ (64 - s)) = g := ⟨_, rfl⟩
  obtain ⟨hg0, hgz, hgp⟩ := long_guess (M := M) (N := N) ⟨hM0, hM1⟩ (show 9223372036854775808 ≤ L by omega) hF2 hNL hr0 hg.symm
  have hd3 := div3 (M := M) (L := L) (P := 2 ^ (64 - s)) (s := s) hs rfl (by omega)
  rw [hg] at hd3
  have hNne : 0 < N := by omega
  have hq0 := Int.emod_nonneg M (show N ≠ 0 by omega)
  have hq1 := Int.emod_lt_of_pos M hNne
  have hq2 := Int.emod_add_mul_ediv M N
  have hqq : 0 ≤ M / N := Int.ediv_nonneg hM0 (by omega)
  have hqW : M / N < 18446744073709551616 := by
    rw [Int.ediv_lt_iff_lt_mul hNne]; omega
  have hgW : g < 18446744073709551617 := by
    rcases Int.lt_or_le g 18446744073709551617 with h | h
    · exact h
    · have h1 := (hgp (by omega)).1
      have := Int.mul_le_mul (show (18446744073709551616 : Int) ≤ g - 1 by omega) hN.1 (by decide) (by omega)
      omega
  have hLZl : LZ N = Lz H l := by unfold LZ; rw [hH, hl]
  have hor2 : M / 18446744073709551616 % 2 * 2 ^ 63 + M % 18446744073709551616 / 2 = M / 2 % 18446744073709551616 := by
    show M / 18446744073709551616 % 2 * 9223372036854775808 + M % 18446744073709551616 / 2 = _
    omega
  have hdiv := Div64_spec X (M / 18446744073709551616 / 2) (M / 2 % 18446744073709551616) L (by omega) (by omega) hLW
  rw [show M / 18446744073709551616 / 2 * 18446744073709551616 + M / 2 % 18446744073709551616 = M / 2 by omega] at hdiv
  have hMz : 0 ≤ M / 2 / L := Int.ediv_nonneg (by omega) (by omega)
  have hcall := compare_spec X
  rw [hLZl]
  refine PSpec.intro Tryz.func82 rfl (by kernel_rfl) rfl rfl ?_
  intro C
  by_cases hg00 : g = 0
  · have hMN := hgz hg00
    subst hg00
    have e1 : M / N = 0 := Int.ediv_eq_zero_of_lt hM0 hMN
    have e2 : M % N = M := Int.emod_eq_of_lt hM0 hMN
    rw [e1, e2]
    have ht := times_spec X N 0 ⟨by omega, by omega⟩ ⟨by omega, by omega⟩ (by omega) true (by simp)
    rw [LZ_word (g := 0) (by omega), Int.mul_zero, hLZl] at ht
    have hmi := minus_spec X M 0 ⟨by omega, by omega⟩ ⟨by omega, by omega⟩ hM0
    rw [Int.sub_zero] at hmi
    have hcm := compare_spec X M N (-1) (by simp [cmpI, hMN])
    rw [hLZl] at hcm
    ((refine LWP.seq <| rgN <| K.box rfl rfl rfl .plain <| K.box rfl rfl rfl .plain <| K.alloc rfl .plain ?_; refine K.alloc rfl .plain ?_; refine RunK.nil <| LWP.seq <| rgN <| kfa rfl rfl ?_; refine kl1 rfl rfl rfl <| kca rfl rfl (hlz) <| kcv rfl (by exact wrap_u64 (by omega)) ?_; refine kas rfl <| RunK.nil <| LWP.seq <| rgN <| kfa rfl rfl ?_; refine kl1 rfl rfl rfl <| kmv rfl <| K.shl rfl rfl (by omega) (shl_s (by omega) rfl ⟨hH2, hY2⟩) .plain <| kfa rfl rfl ?_; refine kl1 rfl rfl rfl <| kmv rfl <| K.sub rfl rfl (wrap_u64 (by omega)) .plain <| K.shr rfl rfl (by omega) (shr_64s (by omega)) .plain <| K.bitop (by simp) rfl rfl (or_apart' (by omega) ⟨by omega, hY2⟩ hlo2 hL) .plain <| kas rfl <| RunK.nil <| LWP.seq <| rgN <| kfa rfl rfl ?_; refine kl1 rfl rfl rfl <| K.shr rfl rfl (by omega) (shr_1 _) .plain <| kfa rfl rfl ?_; refine kl1 rfl rfl rfl <| K.shl rfl rfl (by omega) (shl_63 _) .plain <| kfa rfl rfl ?_; refine kl1 rfl rfl rfl <| K.shr rfl rfl (by omega) (shr_1 _) .plain <| K.bitop (by simp) rfl rfl (or_apart' (by decide) (by omega) (by omega) hor2) .plain <| kmv rfl <| kca rfl rfl (hdiv) <| kmv rfl <| kex rfl rfl <| kex rfl rfl <| kas rfl <| kas rfl <| RunK.nil <| LWP.seq <| rgN <| kmv rfl ?_; refine kmv rfl <| K.sub rfl rfl (wrap_u64 (by omega)) .plain <| K.shr rfl rfl (by omega) ((shr_63s hs).trans hd3) .plain <| kas rfl <| RunK.nil <| LWP.seq <| LWP.seq <| rgN <| kmv rfl <| kne rfl rfl ((bne_eq_false_iff_eq.2 (by omega))) <| RunK.nil <| LWP.condF rfl ?_; refine LWP.skip ?_); (refine LWP.seq <| rgN <| K.loadAll rfl rfl rfl .plain ?_; refine kmv rfl <| K.build rfl rfl (by exact rfl) (by exact nl2 rfl rfl rfl) .plain ?_; refine kca rfl rfl (ht) <| kmv rfl <| kex rfl rfl <| kex rfl rfl <| K.alloc rfl .plain ?_; refine K.storeAll rfl rfl rfl rfl rfl rfl .plain ?_; refine kas rfl <| RunK.nil <| LWP.seq <| rgN <| K.loadAll rfl rfl rfl .plain ?_; refine K.loadAll rfl rfl rfl .plain ?_; refine kca rfl rfl (hmi) <| K.alloc rfl .plain ?_; refine K.storeAll rfl rfl rfl rfl rfl rfl .plain ?_; refine RunK.nil <| LWP.seq <| LWP.seq <| rgN <| K.loadAll rfl rfl rfl .plain ?_; refine K.loadAll rfl rfl rfl .plain ?_; refine kca rfl rfl (hcm) <| K.geq rfl rfl (decide_eq_false (by omega)) .plain <| RunK.nil <| LWP.condF rfl ?_; refine LWP.skip ?_); (refine LWP.seq <| rgD mixed <| kmv rfl <| K.build rfl rfl (by exact rfl) (by exact nl2 rfl rfl rfl) .plain ?_; refine K.loadAll rfl rfl rfl .plain ?_; refine K.storeAll rfl rfl rfl rfl rfl rfl .plain ?_; refine K.storeAll rfl rfl rfl rfl rfl rfl .plain ?_; refine RunK.nil <| rgA ?_; refine LWP.ret ?_))
    exact ⟨[_, _], ⟨⟨_, _, rfl, rfl, rfl, .inl ⟨AggT.h, rfl⟩⟩, ⟨_, _, rfl, rfl, rfl, .inl ⟨AggT.h, rfl⟩⟩, trivial⟩, rfl⟩
  · obtain ⟨h1, h2⟩ := hgp hg00
    obtain ⟨G, hG⟩ : ∃ G, g - 1 = G := ⟨_, rfl⟩
    rw [hG] at h1 h2
    have hGN : 0 ≤ G * N := Int.mul_nonneg (by omega) (by omega)
    have ht := times_spec X N G ⟨by omega, by omega⟩ ⟨by omega, by omega⟩ (by omega) true (decide_eq_true (by rw [Int.mul_comm]; omega))
    rw [LZ_word (g := G) (by omega), Int.mul_comm N G, show G * N % 340282366920938463463374607431768211456 = G * N by omega, hLZl] at ht
    have hmi := minus_spec X M (G * N) ⟨by omega, by omega⟩ ⟨by omega, by omega⟩ h1
    have huse : ∀ q : Int, q * N ≤ M → M < q * N + N → M / N = q ∧ M % N = M - q * N := by
      intro q a b
      have e : M / N = q := by rw [Int.ediv_eq_iff_of_pos hNne]; exact ⟨a, b⟩
      rw [e, Int.mul_comm] at hq2
      exact ⟨e, by omega⟩
    by_cases hlt : M - G * N < N
    · obtain ⟨e1, e2⟩ := huse G h1 (by omega)
      rw [e1, e2]
      have hcm := compare_spec X (M - G * N) N (-1) (by simp [cmpI, hlt])
      rw [hLZl] at hcm
      ((refine LWP.seq <| rgN <| K.box rfl rfl rfl .plain <| K.box rfl rfl rfl .plain <| K.alloc rfl .plain ?_; refine K.alloc rfl .plain ?_; refine RunK.nil <| LWP.seq <| rgN <| kfa rfl rfl ?_; refine kl1 rfl rfl rfl <| kca rfl rfl (hlz) <| kcv rfl (by exact wrap_u64 (by omega)) ?_; refine kas rfl <| RunK.nil <| LWP.seq <| rgN <| kfa rfl rfl ?_; refine kl1 rfl rfl rfl <| kmv rfl <| K.shl rfl rfl (by omega) (shl_s (by omega) rfl ⟨hH2, hY2⟩) .plain <| kfa rfl rfl ?_; refine kl1 rfl rfl rfl <| kmv rfl <| K.sub rfl rfl (wrap_u64 (by omega)) .plain <| K.shr rfl rfl (by omega) (shr_64s (by omega)) .plain <| K.bitop (by simp) rfl rfl (or_apart' (by omega) ⟨by omega, hY2⟩ hlo2 hL) .plain <| kas rfl <| RunK.nil <| LWP.seq <| rgN <| kfa rfl rfl ?_; refine kl1 rfl rfl rfl <| K.shr rfl rfl (by omega) (shr_1 _) .plain <| kfa rfl rfl ?_; refine kl1 rfl rfl rfl <| K.shl rfl rfl (by omega) (shl_63 _) .plain <| kfa rfl rfl ?_; refine kl1 rfl rfl rfl <| K.shr rfl rfl (by omega) (shr_1 _) .plain <| K.bitop (by simp) rfl rfl (or_apart' (by decide) (by omega) (by omega) hor2) .plain <| kmv rfl <| kca rfl rfl (hdiv) <| kmv rfl <| kex rfl rfl <| kex rfl rfl <| kas rfl <| kas rfl <| RunK.nil <| LWP.seq <| rgN <| kmv rfl ?_; refine kmv rfl <| K.sub rfl rfl (wrap_u64 (by omega)) .plain <| K.shr rfl rfl (by omega) ((shr_63s hs).trans hd3) .plain <| kas rfl <| RunK.nil <| LWP.seq <| LWP.seq <| rgN <| kmv rfl <| kne rfl rfl (bne_iff_ne.2 (by omega)) <| RunK.nil <| LWP.condT rfl ?_; refine rgN <| kmv rfl <| K.sub rfl rfl ((wrap_u64 (by omega)).trans hG) .plain <| kas rfl <| RunK.nil <| LWP.seq <| rgN <| K.loadAll rfl rfl rfl .plain ?_); (refine kmv rfl <| K.build rfl rfl (by exact rfl) (by exact nl2 rfl rfl rfl) .plain ?_; refine kca rfl rfl (ht) <| kmv rfl <| kex rfl rfl <| kex rfl rfl <| K.alloc rfl .plain ?_; refine K.storeAll rfl rfl rfl rfl rfl rfl .plain ?_; refine kas rfl <| RunK.nil <| LWP.seq <| rgN <| K.loadAll rfl rfl rfl .plain ?_; refine K.loadAll rfl rfl rfl .plain ?_; refine kca rfl rfl (hmi) <| K.alloc rfl .plain ?_; refine K.storeAll rfl rfl rfl rfl rfl rfl .plain ?_; refine RunK.nil <| LWP.seq <| LWP.seq <| rgN <| K.loadAll rfl rfl rfl .plain ?_; refine K.loadAll rfl rfl rfl .plain ?_; refine kca rfl rfl (hcm) <| K.geq rfl rfl (decide_eq_false (by omega)) .plain <| RunK.nil <| LWP.condF rfl ?_; refine LWP.skip ?_; refine LWP.seq <| rgD mixed <| kmv rfl <| K.build rfl rfl (by exact rfl) (by exact nl2 rfl rfl rfl) .plain ?_); (refine K.loadAll rfl rfl rfl .plain ?_; refine K.storeAll rfl rfl rfl rfl rfl rfl .plain ?_; refine K.storeAll rfl rfl rfl rfl rfl rfl .plain ?_; refine RunK.nil <| rgA ?_; refine LWP.ret ?_))
      rw [show SZ G = .agg [.val (.int .u64 0), .val (.int .u64 G)] by unfold SZ; rw [show G / 18446744073709551616 = 0 by omega, show G % 18446744073709551616 = G by omega]]
      exact ⟨[_, _], ⟨⟨_, _, rfl, rfl, rfl, .inl ⟨AggT.h, rfl⟩⟩, ⟨_, _, rfl, rfl, rfl, .inl ⟨AggT.h, rfl⟩⟩, trivial⟩, rfl⟩
    · have hG1 : (G + 1) * N = G * N + N := by rw [Int.add_mul, Int.one_mul]
      obtain ⟨e1, e2⟩ := huse (G + 1) (by omega) (by omega)
      rw [e1] at hqW
      rw [e1, e2, hG1, show M - (G * N + N) = M - G * N - N by omega]
      have hcm : ∃ r, (r = 0 ∨ r = 1) ∧ cmpI (M - G * N) N = r := ⟨_, by unfold cmpI; (repeat' split) <;> omega, rfl⟩
      obtain ⟨r, hr, hcm⟩ := hcm
      have hcm := compare_spec X (M - G * N) N r hcm
      have hmi2 := minus_spec X (M - G * N) N ⟨by omega, by omega⟩ ⟨by omega, by omega⟩ (by omega)
      rw [hLZl] at hcm hmi2
      ((refine LWP.seq <| rgN <| K.box rfl rfl rfl .plain <| K.box rfl rfl rfl .plain <| K.alloc rfl .plain ?_; refine K.alloc rfl .plain ?_; refine RunK.nil <| LWP.seq <| rgN <| kfa rfl rfl ?_; refine kl1 rfl rfl rfl <| kca rfl rfl (hlz) <| kcv rfl (by exact wrap_u64 (by omega)) ?_; refine kas rfl <| RunK.nil <| LWP.seq <| rgN <| kfa rfl rfl ?_; refine kl1 rfl rfl rfl <| kmv rfl <| K.shl rfl rfl (by omega) (shl_s (by omega) rfl ⟨hH2, hY2⟩) .plain <| kfa rfl rfl ?_; refine kl1 rfl rfl rfl <| kmv rfl <| K.sub rfl rfl (wrap_u64 (by omega)) .plain <| K.shr rfl rfl (by omega) (shr_64s (by omega)) .plain <| K.bitop (by simp) rfl rfl (or_apart' (by omega) ⟨by omega, hY2⟩ hlo2 hL) .plain <| kas rfl <| RunK.nil <| LWP.seq <| rgN <| kfa rfl rfl ?_; refine kl1 rfl rfl rfl <| K.shr rfl rfl (by omega) (shr_1 _) .plain <| kfa rfl rfl ?_; refine kl1 rfl rfl rfl <| K.shl rfl rfl (by omega) (shl_63 _) .plain <| kfa rfl rfl ?_; refine kl1 rfl rfl rfl <| K.shr rfl rfl (by omega) (shr_1 _) .plain <| K.bitop (by simp) rfl rfl (or_apart' (by decide) (by omega) (by omega) hor2) .plain <| kmv rfl <| kca rfl rfl (hdiv) <| kmv rfl <| kex rfl rfl <| kex rfl rfl <| kas rfl <| kas rfl <| RunK.nil <| LWP.seq <| rgN <| kmv rfl ?_; refine kmv rfl <| K.sub rfl rfl (wrap_u64 (by omega)) .plain <| K.shr rfl rfl (by omega) ((shr_63s hs).trans hd3) .plain <| kas rfl <| RunK.nil <| LWP.seq <| LWP.seq <| rgN <| kmv rfl <| kne rfl rfl (bne_iff_ne.2 (by omega)) <| RunK.nil <| LWP.condT rfl ?_; refine rgN <| kmv rfl <| K.sub rfl rfl ((wrap_u64 (by omega)).trans hG) .plain <| kas rfl <| RunK.nil <| LWP.seq <| rgN <| K.loadAll rfl rfl rfl .plain ?_); (refine kmv rfl <| K.build rfl rfl (by exact rfl) (by exact nl2 rfl rfl rfl) .plain ?_; refine kca rfl rfl (ht) <| kmv rfl <| kex rfl rfl <| kex rfl rfl <| K.alloc rfl .plain ?_; refine K.storeAll rfl rfl rfl rfl rfl rfl .plain ?_; refine kas rfl <| RunK.nil <| LWP.seq <| rgN <| K.loadAll rfl rfl rfl .plain ?_; refine K.loadAll rfl rfl rfl .plain ?_; refine kca rfl rfl (hmi) <| K.alloc rfl .plain ?_; refine K.storeAll rfl rfl rfl rfl rfl rfl .plain ?_; refine RunK.nil <| LWP.seq <| LWP.seq <| rgN <| K.loadAll rfl rfl rfl .plain ?_; refine K.loadAll rfl rfl rfl .plain ?_; refine kca rfl rfl (hcm) <| K.geq rfl rfl (decide_eq_true (by omega)) .plain <| RunK.nil <| LWP.condT rfl ?_; refine LWP.seq <| rgN <| kmv rfl <| kad rfl rfl (wrap_u64 (by omega)) <| kas rfl <| RunK.nil <| rgN <| K.loadAll rfl rfl rfl .plain ?_; refine K.loadAll rfl rfl rfl .plain ?_); (refine kca rfl rfl (hmi2) <| K.storeAll rfl rfl rfl rfl rfl rfl .plain ?_; refine RunK.nil <| LWP.seq <| rgD mixed <| kmv rfl <| K.build rfl rfl (by exact rfl) (by exact nl2 rfl rfl rfl) .plain ?_; refine K.loadAll rfl rfl rfl .plain ?_; refine K.storeAll rfl rfl rfl rfl rfl rfl .plain ?_; refine K.storeAll rfl rfl rfl rfl rfl rfl .plain ?_; refine RunK.nil <| rgA ?_; refine LWP.ret ?_))
      rw [show SZ (G + 1) = .agg [.val (.int .u64 0), .val (.int .u64 (G + 1))] by unfold SZ; rw [show (G + 1) / 18446744073709551616 = 0 by omega, show (G + 1) % 18446744073709551616 = G + 1 by omega]]
      exact ⟨[_, _], ⟨⟨_, _, rfl, rfl, rfl, .inl ⟨AggT.h, rfl⟩⟩, ⟨_, _, rfl, rfl, rfl, .inl ⟨AggT.h, rfl⟩⟩, trivial⟩, rfl⟩
end Go.Proofs.YtimpjdbhalnofaaGreatDoor
end
section
namespace Go.Proofs.YtimpjdbhalnofaaGreatDoor
open Go Go.Lg Go.Lg.Arith
variable (X : Nat → Option Obj)
theorem two_word {T d Y : Int} (hY : 0 < Y) (hd : 0 ≤ d ∧ d < 18446744073709551616) (hT : 0 ≤ T) :
    (T * 18446744073709551616 + d) / Y = T / Y * 18446744073709551616 + (T % Y * 18446744073709551616 + d) / Y ∧ (T * 18446744073709551616 + d) % Y = (T % Y * 18446744073709551616 + d) % Y ∧
    0 ≤ (T % Y * 18446744073709551616 + d) / Y ∧ (T % Y * 18446744073709551616 + d) / Y < 18446744073709551616 ∧ 0 ≤ T % Y ∧ T % Y < Y ∧ 0 ≤ T / Y := by
  have h := Int.emod_add_mul_ediv T Y
  have h0 := Int.emod_nonneg T (show Y ≠ 0 by omega)
  have h1 := Int.emod_lt_of_pos T hY
  have e : T * 18446744073709551616 + d = (T % Y * 18446744073709551616 + d) + Y * (T / Y * 18446744073709551616) := by
    rw [← Int.mul_assoc]
    generalize Y * (T / Y) = a at *
    omega
  have hq0 : 0 ≤ (T % Y * 18446744073709551616 + d) / Y := Int.ediv_nonneg (by omega) (by omega)
  have hq1 : (T % Y * 18446744073709551616 + d) / Y < 18446744073709551616 := by rw [Int.ediv_lt_iff_lt_mul hY]; omega
  refine ⟨?_, ?_, hq0, hq1, h0, h1, Int.ediv_nonneg hT (by omega)⟩
  · rw [e, Int.add_mul_ediv_left _ _ (by omega)]; omega
  · rw [e, Int.add_mul_emod_self_left]
theorem divide_spec (M N : Int) (hM : Lim M) (hN : 0 < N ∧ N < 170141183460469231731687303715884105728) :
    PSpec Tryz.prog X 59 [LZ M, LZ N] (.tup [SZ (M / N), SZ (M % N)]) := by
  obtain ⟨hM0, hM1⟩ := hM
  refine PSpec.intro Tryz.func59 rfl (by kernel_rfl) rfl rfl ?_
  intro C
  by_cases hl : 18446744073709551616 ≤ N
  · (refine LWP.seq <| rgN <| K.box rfl rfl rfl .plain <| K.box rfl rfl rfl .plain <| K.alloc rfl .plain ?_; refine K.alloc rfl .plain ?_; refine RunK.nil <| LWP.seq <| LWP.seq <| rgN <| kfa rfl rfl ?_; refine kl1 rfl rfl rfl <| kne rfl rfl (bne_iff_ne.2 (by omega)) <| RunK.nil <| LWP.condT rfl ?_; refine LWP.seq <| rgN <| K.loadAll rfl rfl rfl .plain ?_; refine K.loadAll rfl rfl rfl .plain ?_; refine kca rfl rfl (divideLong_spec _ _ _ ⟨hM0, hM1⟩ ⟨hl, hN.2⟩) <| kex rfl rfl <| kex rfl rfl <| K.storeAll rfl rfl rfl rfl rfl rfl .plain ?_; refine K.storeAll rfl rfl rfl rfl rfl rfl .plain ?_; refine RunK.nil <| LWP.ret ?_)
    exact ⟨[_, _], ⟨⟨_, _, rfl, rfl, rfl, .inl ⟨AggT.h, rfl⟩⟩, ⟨_, _, rfl, rfl, rfl, .inl ⟨AggT.h, rfl⟩⟩, trivial⟩, rfl⟩
  · obtain ⟨t1, t2, t3, t4, t5, t6, t7⟩ := two_word (T := M / 18446744073709551616) (d := M % 18446744073709551616) (Y := N) hN.1 (by omega) (by omega)
    rw [show M / 18446744073709551616 * 18446744073709551616 + M % 18446744073709551616 = M by omega] at t1 t2
    have eN : N % 18446744073709551616 = N := by omega
    have hd := Div64_spec X (M / 18446744073709551616 % N) (M % 18446744073709551616) N ⟨t5, t6⟩ (by omega) (by omega)
    have hr0 := Int.emod_nonneg M (show N ≠ 0 by omega)
    have hr1 := Int.emod_lt_of_pos M hN.1
    rw [← t2] at hd
    rw [← eN] at hd
    rw [LZ_word (g := N) (by omega)]
    rw [eN] at hd
    have hq : M / 18446744073709551616 / N < 18446744073709551616 := by
      have := Int.ediv_le_self N (show 0 ≤ M / 18446744073709551616 by omega); omega
    (refine LWP.seq <| rgN <| K.box rfl rfl rfl .plain <| K.box rfl rfl rfl .plain <| K.alloc rfl .plain ?_; refine K.alloc rfl .plain ?_; refine RunK.nil <| LWP.seq <| LWP.seq <| rgN <| kfa rfl rfl ?_; refine kl1 rfl rfl rfl <| kne rfl rfl ((bne_eq_false_iff_eq.2 (by omega))) <| RunK.nil <| LWP.condF rfl ?_; refine LWP.skip ?_; refine LWP.seq <| rgD mixed <| kfa rfl rfl ?_; refine kl1 rfl rfl rfl <| kfa rfl rfl ?_; refine kl1 rfl rfl rfl <| K.quo rfl rfl (by omega) (quo_u64 (by omega) (by omega)) .plain <| kfa rfl rfl ?_; refine kl1 rfl rfl rfl <| kfa rfl rfl ?_; refine kl1 rfl rfl rfl <| K.rem rfl rfl (by omega) (rem_pos (by omega)) .plain <| kas rfl <| kas rfl <| RunK.nil <| rgA ?_; refine LWP.seq <| rgN <| kmv rfl <| kfa rfl rfl ?_; refine kl1 rfl rfl rfl <| kfa rfl rfl ?_; refine kl1 rfl rfl rfl <| kca rfl rfl (hd) <| kmv rfl <| kex rfl rfl <| kex rfl rfl <| kas rfl <| kas rfl <| RunK.nil <| LWP.seq <| rgN <| kmv rfl <| kmv rfl <| K.build rfl rfl (by exact rfl) (by exact nl2 rfl rfl rfl) .plain ?_; refine kmv rfl <| K.build rfl rfl (by exact rfl) (by exact nl2 rfl rfl rfl) .plain ?_; refine K.storeAll rfl rfl rfl rfl rfl rfl .plain ?_; refine K.storeAll rfl rfl rfl rfl rfl rfl .plain ?_; refine RunK.nil <| LWP.ret ?_)
    rw [show SZ (M / N) = .agg [.val (.int .u64 (M / 18446744073709551616 / N)), .val (.int .u64 ((M / 18446744073709551616 % N * 18446744073709551616 + M % 18446744073709551616) / N))] by
        unfold SZ; rw [show M / N / 18446744073709551616 = M / 18446744073709551616 / N by omega, show M / N % 18446744073709551616 = (M / 18446744073709551616 % N * 18446744073709551616 + M % 18446744073709551616) / N by omega],
      show SZ (M % N) = .agg [.val (.int .u64 0), .val (.int .u64 (M % N))] by unfold SZ; rw [show M % N / 18446744073709551616 = 0 by omega, show M % N % 18446744073709551616 = M % N by omega]]
    exact ⟨[_, _], ⟨⟨_, _, rfl, rfl, rfl, .inl ⟨AggT.h, rfl⟩⟩, ⟨_, _, rfl, rfl, rfl, .inl ⟨AggT.h, rfl⟩⟩, trivial⟩, rfl⟩
theorem divisible_spec (b c : Bool) (M N : Int) (hM : In2 M) (hN : In2 N) (r : Bool) (hr : ((formB b M && formB c N) && !(N == 0)) = r) : PSpec Tryz.prog X 58 [LI b M, LI c N] (Lb r) := by
  subst hr
  refine PSpec.intro Tryz.func58 rfl (by kernel_rfl) rfl rfl ?_
  intro C
  cases hf : (formB b M && formB c N)
  · (refine LWP.seq <| rgN <| K.box rfl rfl rfl .plain <| K.box rfl rfl rfl .plain <| kas rfl <| RunK.nil <| LWP.seq <| rgN <| K.loadAll rfl rfl rfl .plain ?_; refine K.loadAll rfl rfl rfl .plain ?_; refine kca rfl rfl (bothForm_spec _ _ _ _ _ hM hN _ hf) <| kmv rfl <| RunK.passed rfl rfl rfl <| RunK.passed rfl rfl rfl <| RunK.passed rfl rfl rfl <| RunK.passed rfl rfl rfl <| kpf rfl rfl <| kas rfl <| RunK.nil <| LWP.ret ?_)
    exact ⟨[_], ⟨rfl, trivial⟩, by simp [resOf]⟩
  · (refine LWP.seq <| rgN <| K.box rfl rfl rfl .plain <| K.box rfl rfl rfl .plain <| kas rfl <| RunK.nil <| LWP.seq <| rgN <| K.loadAll rfl rfl rfl .plain ?_; refine K.loadAll rfl rfl rfl .plain ?_; refine kca rfl rfl (bothForm_spec _ _ _ _ _ hM hN _ hf) <| kmv rfl <| K.loadAll rfl rfl rfl (.taken rfl rfl) ?_; refine gca rfl rfl (sizeOf_spec _ _ _ _) rfl rfl <| gca rfl rfl (zero_spec _ _ hN _ rfl) rfl rfl <| K.not rfl rfl (.taken rfl rfl) ?_; refine kpt rfl rfl <| kas rfl <| RunK.nil <| LWP.ret ?_)
    exact ⟨[_], ⟨rfl, trivial⟩, by simp [resOf]⟩
theorem Quo_arg (b c : Bool) (M N : Int) (hM : In2 M) (hN : In2 N) (hf : ((formB b M && formB c N) && !(N == 0)) = false) : PSpec Tryz.prog X 25 [LI b M, LI c N] (.tup [S0, Sn .i64 1]) := by
  refine PSpec.intro Tryz.func25 rfl (by kernel_rfl) rfl rfl ?_
  intro C
  (refine LWP.seq <| rgN <| K.box rfl rfl rfl .plain <| K.box rfl rfl rfl .plain <| K.alloc rfl .plain ?_; refine kas rfl <| RunK.nil <| LWP.seq <| LWP.seq <| rgN <| K.loadAll rfl rfl rfl .plain ?_; refine K.loadAll rfl rfl rfl .plain ?_; refine kca rfl rfl (divisible_spec _ _ _ _ _ hM hN _ hf) <| K.not rfl rfl .plain <| RunK.nil <| LWP.condT rfl ?_; refine LWP.seq <| rgN <| K.build rfl rfl (by exact rfl) (by exact nl3 rfl rfl rfl rfl) .plain ?_; refine K.storeAll rfl rfl rfl rfl rfl rfl .plain ?_; refine kas rfl <| RunK.nil <| LWP.ret ?_)
  exact ⟨[_, _], ⟨⟨_, _, rfl, rfl, rfl, .inl ⟨AggT.h, rfl⟩⟩, rfl, trivial⟩, rfl⟩
theorem Rem_arg (b c : Bool) (M N : Int) (hM : In2 M) (hN : In2 N) (hf : ((formB b M && formB c N) && !(N == 0)) = false) : PSpec Tryz.prog X 26 [LI b M, LI c N] (.tup [S0, Sn .i64 1]) := by
  refine PSpec.intro Tryz.func26 rfl (by kernel_rfl) rfl rfl ?_
  intro C
  (refine LWP.seq <| rgN <| K.box rfl rfl rfl .plain <| K.box rfl rfl rfl .plain <| K.alloc rfl .plain ?_; refine kas rfl <| RunK.nil <| LWP.seq <| LWP.seq <| rgN <| K.loadAll rfl rfl rfl .plain ?_; refine K.loadAll rfl rfl rfl .plain ?_; refine kca rfl rfl (divisible_spec _ _ _ _ _ hM hN _ hf) <| K.not rfl rfl .plain <| RunK.nil <| LWP.condT rfl ?_; refine LWP.seq <| rgN <| K.build rfl rfl (by exact rfl) (by exact nl3 rfl rfl rfl rfl) .plain ?_; refine K.storeAll rfl rfl rfl rfl rfl rfl .plain ?_; refine kas rfl <| RunK.nil <| LWP.ret ?_)
  exact ⟨[_, _], ⟨⟨_, _, rfl, rfl, rfl, .inl ⟨AggT.h, rfl⟩⟩, rfl, trivial⟩, rfl⟩
theorem mg_zero {y : Int} (hy : y ≠ 0) : 0 < mg y := by unfold mg; split <;> omega
theorem zv_quo (x y : Int) (hy : y ≠ 0) : zv (decide (x < 0) != decide (y < 0)) (mg x / mg y) = x.tdiv y ∧ zv (decide (x < 0)) (mg x % mg y) = x.tmod y := by
  unfold zv mg
  by_cases cx : x < 0 <;> by_cases cy : y < 0
  all_goals simp only [cx, cy, decide_true, decide_false, if_true, if_false, bne_self_eq_false, Bool.false_eq_true, Bool.true_bne, Bool.false_bne, Bool.not_false]
  · obtain ⟨a, rfl⟩ : ∃ a, x = -a := ⟨-x, by omega⟩
    obtain ⟨b, rfl⟩ : ∃ b, y = -b := ⟨-y, by omega⟩
    simp only [Int.neg_neg, Int.neg_tdiv, Int.tdiv_neg, Int.neg_tmod, Int.tmod_neg]
    rw [Int.tdiv_eq_ediv_of_nonneg (by omega), Int.tmod_eq_emod_of_nonneg (by omega)]
    exact ⟨rfl, rfl⟩
  · obtain ⟨a, rfl⟩ : ∃ a, x = -a := ⟨-x, by omega⟩
    simp only [Int.neg_neg, Int.neg_tdiv, Int.neg_tmod]
    rw [Int.tdiv_eq_ediv_of_nonneg (by omega), Int.tmod_eq_emod_of_nonneg (by omega)]
    exact ⟨rfl, rfl⟩
  · obtain ⟨b, rfl⟩ : ∃ b, y = -b := ⟨-y, by omega⟩
    simp only [Int.neg_neg, Int.tdiv_neg, Int.tmod_neg]
    rw [Int.tdiv_eq_ediv_of_nonneg (by omega), Int.tmod_eq_emod_of_nonneg (by omega)]
    exact ⟨rfl, rfl⟩
  · rw [Int.tdiv_eq_ediv_of_nonneg (by omega), Int.tmod_eq_emod_of_nonneg (by omega)]
    exact ⟨rfl, rfl⟩
theorem mg_zero' {y : Int} (hy : y ≠ 0) : (mg y == 0) = false := by
  have := mg_zero hy
  exact beq_eq_false_iff_ne.2 (by omega)
theorem Quo_q (x y : Int) (hx : R127 x) (hy : R127 y) (h0 : y ≠ 0) : PSpec Tryz.prog X 25 [LQ x, LQ y] (.tup [SQ (x.tdiv y), Sn .i64 0]) := by
  have hB := divisible_spec X _ _ _ _ (mg_in2 hx) (mg_in2 hy) true (by rw [both_q hx hy, mg_zero' h0]; rfl)
  have hd := divide_spec X (mg x) (mg y) ⟨mg_nonneg x, mg_lim hx⟩ ⟨mg_zero h0, mg_lim hy⟩
  have hq0 : 0 ≤ mg x / mg y := Int.ediv_nonneg (mg_nonneg x) (mg_nonneg y)
  have hq1 := Int.ediv_le_self (mg y) (mg_nonneg x)
  have hl := mg_lim hx
  have hn := number_spec X (decide (x < 0) != decide (y < 0)) (mg x / mg y) ⟨hq0, by omega⟩ _ rfl
  rw [← tup_q hq0 (zv_quo x y h0).1]
  refine PSpec.intro Tryz.func25 rfl (by kernel_rfl) rfl rfl ?_
  intro C
  (refine LWP.seq <| rgN <| K.box rfl rfl rfl .plain <| K.box rfl rfl rfl .plain <| K.alloc rfl .plain ?_; refine kas rfl <| RunK.nil <| LWP.seq <| LWP.seq <| rgN <| K.loadAll rfl rfl rfl .plain ?_; refine K.loadAll rfl rfl rfl .plain ?_; refine kca rfl rfl (hB) <| K.not rfl rfl .plain <| RunK.nil <| LWP.condF rfl ?_; refine LWP.skip ?_; refine LWP.seq <| rgD mixed <| K.loadAll rfl rfl rfl .plain ?_; refine kca rfl rfl (sizeOf_spec _ _ _ _) <| K.loadAll rfl rfl rfl .plain ?_; refine kca rfl rfl (sizeOf_spec _ _ _ _) <| kca rfl rfl (hd) <| kmv rfl <| kex rfl rfl <| kex rfl rfl <| K.alloc rfl .plain ?_; refine K.alloc rfl .plain ?_; refine K.storeAll rfl rfl rfl rfl rfl rfl .plain ?_; refine K.storeAll rfl rfl rfl rfl rfl rfl .plain ?_; refine RunK.nil <| rgA ?_; refine LWP.seq <| rgN <| kfa rfl rfl ?_; refine kl1 rfl rfl rfl <| kfa rfl rfl ?_; refine kl1 rfl rfl rfl <| K.neqB rfl rfl rfl .plain <| K.loadAll rfl rfl rfl .plain ?_; refine kca rfl rfl (hn) <| K.storeAll rfl rfl rfl rfl rfl rfl .plain ?_; refine kas rfl <| RunK.nil <| LWP.ret ?_)
  exact ⟨[_, _], ⟨⟨_, _, rfl, rfl, rfl, .inl ⟨AggT.h, rfl⟩⟩, rfl, trivial⟩, rfl⟩
theorem Rem_q (x y : Int) (hx : R127 x) (hy : R127 y) (h0 : y ≠ 0) : PSpec Tryz.prog X 26 [LQ x, LQ y] (.tup [SQ (x.tmod y), Sn .i64 0]) := by
  have hB := divisible_spec X _ _ _ _ (mg_in2 hx) (mg_in2 hy) true (by rw [both_q hx hy, mg_zero' h0]; rfl)
  have hd := divide_spec X (mg x) (mg y) ⟨mg_nonneg x, mg_lim hx⟩ ⟨mg_zero h0, mg_lim hy⟩
  have hq0 : 0 ≤ mg x % mg y := Int.emod_nonneg _ (by have := mg_zero h0; omega)
  have hq1 := Int.emod_lt_of_pos (mg x) (mg_zero h0)
  have hl := mg_lim hy
  have hn := number_spec X (decide (x < 0)) (mg x % mg y) ⟨hq0, by omega⟩ _ rfl
  rw [← tup_q hq0 (zv_quo x y h0).2]
  refine PSpec.intro Tryz.func26 rfl (by kernel_rfl) rfl rfl ?_
  intro C
  (refine LWP.seq <| rgN <| K.box rfl rfl rfl .plain <| K.box rfl rfl rfl .plain <| K.alloc rfl .plain ?_; refine kas rfl <| RunK.nil <| LWP.seq <| LWP.seq <| rgN <| K.loadAll rfl rfl rfl .plain ?_; refine K.loadAll rfl rfl rfl .plain ?_; refine kca rfl rfl (hB) <| K.not rfl rfl .plain <| RunK.nil <| LWP.condF rfl ?_; refine LWP.skip ?_; refine LWP.seq <| rgD mixed <| K.loadAll rfl rfl rfl .plain ?_; refine kca rfl rfl (sizeOf_spec _ _ _ _) <| K.loadAll rfl rfl rfl .plain ?_; refine kca rfl rfl (sizeOf_spec _ _ _ _) <| kca rfl rfl (hd) <| kmv rfl <| kex rfl rfl <| kex rfl rfl <| K.alloc rfl .plain ?_; refine K.alloc rfl .plain ?_; refine K.storeAll rfl rfl rfl rfl rfl rfl .plain ?_; refine K.storeAll rfl rfl rfl rfl rfl rfl .plain ?_; refine RunK.nil <| rgA ?_; refine LWP.seq <| rgN <| kfa rfl rfl ?_; refine kl1 rfl rfl rfl <| K.loadAll rfl rfl rfl .plain ?_; refine kca rfl rfl (hn) <| K.storeAll rfl rfl rfl rfl rfl rfl .plain ?_; refine kas rfl <| RunK.nil <| LWP.ret ?_)
  exact ⟨[_, _], ⟨⟨_, _, rfl, rfl, rfl, .inl ⟨AggT.h, rfl⟩⟩, rfl, trivial⟩, rfl⟩
end Go.Proofs.YtimpjdbhalnofaaGreatDoor
end
section
namespace Go.Proofs.YtimpjdbhalnofaaGreatDoor
open Go Go.Proofs Go.Shelf Go.RowKit Go.Sort Go.Lib
set_option maxHeartbeats 6400000 in
set_option maxRecDepth 100000 in
theorem inner_format (u : Nat) (hu64 : u < 18446744073709551616) (w : World) (htab : Lib.TabIs Tryz.prog w "internal/strconv.uint64pow10" .u64 Lib.pow10Tab) :
    Calls Tryz.prog 141 #[.int .u64 u, .int .i64 10] w fun e w' => e = .returned (.string ⟨(Lib.decDigits u).toArray⟩) ∧ Below w.heap.size w w' := by
  have mixed := Tryz.lays99.mixed
  have e74 : ∀ args w, (callFunc 145 args).run Tryz.prog w = .ok (.enter 145 args) w := enters_of Tryz.func145 (by kernel_rfl) rfl
  have e75 : ∀ args w, (callFunc 146 args).run Tryz.prog w = .ok (.enter 146 args) w := enters_of Tryz.func146 (by kernel_rfl) rfl
  have e76 : ∀ args w, (callFunc 147 args).run Tryz.prog w = .ok (.enter 147 args) w := enters_of Tryz.func147 (by kernel_rfl) rfl
  by_cases hs : u < 100
  · go_enter Tryz.func141, Tryz.ntmps141
    go_wp2_with (go_at_fn 145; refine (Tryz.internal_strconv_small u hs _).mono ?_; rintro e w' ⟨rfl, rfl⟩)
    go_ret
    exact ⟨rfl, Below.refl _ _⟩
  · have hu1 : 1 ≤ u := by omega
    have hnd20 : Lib.nDigits u ≤ 20 := by have := Lib.numDigits_eq u hu1 hu64; split at this <;> omega
    have hal : Tryz.prog.arrayLen 184 = 24 := by kernel_rfl
    have hsl1 : ∀ W, (Instr.sliceAt 184 (.pointer (some ⟨w.heap.size, 0, none⟩)) none (some (.int .i64 (Lib.nDigits u : Int))) none).run Tryz.prog W = .ok (.slice (some ⟨w.heap.size, 0, none⟩) (Lib.nDigits u) 24) W := fun W => by
      rw [run_sliceAt_array_h W 184 ⟨w.heap.size, 0, none⟩ (by kernel_rfl) .i64 (Lib.nDigits u : Int) (by omega) (by rw [hal]; omega)]
      go_simp
    have hH0 : Holds (fun (b : UInt8) => Value.int .u8 (b.toNat : Int)) (w.alloc (.cells Lib.zeros24 184)) w.heap.size 0 (Array.replicate (Lib.nDigits u) (0 : UInt8)) := fun j hj => by
      have hj' : j < Lib.nDigits u := by simpa using hj
      refine ⟨?_, World.frozen?_alloc_new _ _ _ _⟩
      rw [World.cell?_alloc_new, zeros24_at _ (by omega), getElem!_pos _ j hj]
      simp
    have hfmt := Tryz.internal_strconv_formatBase10 w.heap.size 0 24 u (Array.replicate (Lib.nDigits u) 0) (w.alloc (.cells Lib.zeros24 184)) hH0 (by rw [Array.size_replicate]; exact Lib.lt_pow_nDigits u) hu64 (by rw [Array.size_replicate]; omega)
    rw [Array.size_replicate] at hfmt
    have HH0 := Lib.hid hH0
    clear hH0 hal
    go_enter Tryz.func141, Tryz.ntmps141
    go_wp2_with (first
      | (go_at_fn 146; refine (Tryz.internal_strconv_numDigits u hu1 hu64 _ (Lib.tabIs_alloc htab _)).mono ?_; rintro e w' ⟨rfl, rfl⟩))
    go_at_fn 147
    refine hfmt.mono ?_
    rintro e w' ⟨rfl, k, v', dk, rfl, hF⟩
    have hcv : (convert 56 9 (.slice (some ⟨w.heap.size, 0, none⟩) (Lib.nDigits u) 24)).run Tryz.prog ((putRow (fun (b : UInt8) => Value.int .u8 (b.toNat : Int)) (w.alloc (.cells Lib.zeros24 184)) w.heap.size 0 dk).drewN k) = .ok (.string ⟨(Lib.decDigits u).toArray⟩) ((putRow (fun (b : UInt8) => Value.int .u8 (b.toNat : Int)) (w.alloc (.cells Lib.zeros24 184)) w.heap.size 0 dk).drewN k) := by
      have h := run_convert_bytes_back (P := Tryz.prog) ((putRow (fun (b : UInt8) => Value.int .u8 (b.toNat : Int)) (w.alloc (.cells Lib.zeros24 184)) w.heap.size 0 dk).drewN k) 56 9 5 ⟨w.heap.size, 0, none⟩ 24 (Lib.decDigits u) Tryz.underlying56 Tryz.underlying5 Tryz.underlying9 (fun j hj => by
        rw [Lib.row_is_numeral hF j hj, Lib.add_plain, World.cell?_drewN]
        exact cell?_putRow (fun (b : UInt8) => Value.int .u8 (b.toNat : Int)) _ w.heap.size 0 _ dk HH0.out (by rw [hF.size, Array.size_replicate]) j (by rw [hF.size]; rw [Lib.decDigits_length] at hj; exact hj))
      rw [Lib.decDigits_length] at h
      exact h
    go_wp2
    go_ret
    refine ⟨rfl, ?_⟩
    have e : ∃ os, (putRow (fun (b : UInt8) => Value.int .u8 (b.toNat : Int)) (w.alloc (.cells Lib.zeros24 184)) w.heap.size 0 dk).drewN k = grow (w.drewN k) os := by
      rw [alloc_eq_grow]
      obtain ⟨os', _, e⟩ := putRow_grow_new (fun (b : UInt8) => Value.int .u8 (b.toNat : Int)) w #[.cells Lib.zeros24 184] w.heap.size 0 dk (Nat.le_refl _)
      exact ⟨os', by rw [e]; rfl⟩
    obtain ⟨os, e⟩ := e
    rw [e]
    exact below_grow _ _ (Nat.le_refl _) k os
end Go.Proofs.YtimpjdbhalnofaaGreatDoor
end
section
namespace Go.Lg.Dec
open Go Go.Lib
def pad : Nat → Nat → List UInt8
  | 0, _ => []
  | k + 1, u => pad k (u / 10) ++ [UInt8.ofNat (48 + u % 10)]
theorem dec_pad : ∀ (k U L : Nat), 0 < U → L < 10 ^ k → decDigits (U * 10 ^ k + L) = decDigits U ++ pad k L
  | 0, U, L, _, hL => by
    have : L = 0 := by simpa using hL
    subst this
    simp [pad]
  | k + 1, U, L, hU, hL => by
    have hp : 0 < 10 ^ k := Nat.pow_pos (by decide)
    have h1 : U * 10 ^ (k + 1) + L = (U * 10 ^ k + L / 10) * 10 + L % 10 := by rw [Nat.pow_succ, ← Nat.mul_assoc, Nat.add_mul]; omega
    have hb : ¬ U * 10 ^ (k + 1) + L < 10 := by
      have : 1 * 10 ^ k ≤ U * 10 ^ k := Nat.mul_le_mul_right _ hU
      omega
    rw [decDigits, dif_neg hb, h1, show ((U * 10 ^ k + L / 10) * 10 + L % 10) / 10 = U * 10 ^ k + L / 10 by omega, show ((U * 10 ^ k + L / 10) * 10 + L % 10) % 10 = L % 10 by omega,
      dec_pad k U (L / 10) hU (by rw [Nat.pow_succ] at hL; omega), List.append_assoc]
    rfl
theorem rep_snoc (k : Nat) : repeatL [48] k ++ [48] = repeatL [48] (k + 1) := by rw [repeatL_add, repeatL_one]
theorem pad_rep : ∀ (k L : Nat), L < 10 ^ (k + 1) → pad (k + 1) L = repeatL [48] (k + 1 - nDigits L) ++ decDigits L
  | 0, L, hL => by
    have h : L < 10 := by simpa using hL
    rw [nDigits_small h, decDigits_one h]
    simp [pad, repeatL, Nat.mod_eq_of_lt h]
  | k + 1, L, hL => by
    have hL' : L / 10 < 10 ^ (k + 1) := by rw [Nat.pow_succ] at hL; omega
    have ih := pad_rep k (L / 10) hL'
    show pad (k + 1) (L / 10) ++ [UInt8.ofNat (48 + L % 10)] = _
    rw [ih]
    by_cases h : L < 10
    · rw [nDigits_small h, show L / 10 = 0 by omega, nDigits_small (show 0 < 10 by decide), decDigits_one (show 0 < 10 by decide), decDigits_one h, Nat.mod_eq_of_lt h]
      show repeatL [48] (k + 1 - 1) ++ [48] ++ _ = _
      rw [rep_snoc]
      rfl
    · rw [nDigits_big h, show k + 1 + 1 - (nDigits (L / 10) + 1) = k + 1 - nDigits (L / 10) by omega, List.append_assoc]
      congr 1
      conv => rhs; rw [decDigits, dif_neg h]
theorem nDigits_le : ∀ (k u : Nat), u < 10 ^ (k + 1) → nDigits u ≤ k + 1
  | 0, u, h => by rw [nDigits_small (by simpa using h)]; omega
  | k + 1, u, h => by
    by_cases c : u < 10
    · rw [nDigits_small c]; omega
    · rw [nDigits_big c]
      have := nDigits_le k (u / 10) (by rw [Nat.pow_succ] at h; omega)
      omega
end Go.Lg.Dec
namespace Go.Proofs.YtimpjdbhalnofaaGreatDoor
open Go Go.Lg Go.Lg.Arith Go.Lg.Dec Go.RowKit
variable (X : Nat → Option Obj)
def XTab : Prop := ∀ w : World, (∀ b o, X b = some o → w.heap[b]? = some o) → Lib.TabIs Tryz.prog w "internal/strconv.uint64pow10" .u64 Lib.pow10Tab
theorem format_inner (hT : XTab X) (u : Nat) (hu : u < 18446744073709551616) : PSpec Tryz.prog X 141 [Ln .u64 (u : Nat), Ln .i64 10] (Ls (Lib.decDigits u)) :=
  PSpec.ofBelow (vals := [.int .u64 (u : Nat), .int .i64 10]) (v := .string ⟨(Lib.decDigits u).toArray⟩) (by kernel_rfl) rfl rfl (fun w hX => inner_format u hu w (hT w hX))
theorem format_spec (hT : XTab X) (u : Nat) (hu : u < 18446744073709551616) : PSpec Tryz.prog X 133 [Ln .u64 (u : Nat), Ln .i64 10] (Ls (Lib.decDigits u)) := by
  refine PSpec.intro Tryz.func133 rfl (by kernel_rfl) rfl rfl ?_
  intro C
  (refine LWP.seq <| rgN <| kas rfl <| RunK.nil <| LWP.seq <| rgN <| kmv rfl <| kmv rfl <| kca rfl rfl (format_inner _ hT u hu) <| kas rfl <| RunK.nil <| LWP.ret ?_)
  exact ⟨[_], ⟨rfl, trivial⟩, rfl⟩
theorem repeat_spec (c : Nat) (hc : c ≤ 1000) : PSpec Tryz.prog X 134 [Ls [48], Ln .i64 (c : Nat)] (Ls (Lib.repeatL [48] c)) :=
  PSpec.ofBelow (vals := [.string ⟨[48].toArray⟩, .int .i64 (c : Nat)]) (v := .string ⟨(Lib.repeatL [48] c).toArray⟩) (by kernel_rfl) rfl rfl (fun w _ => Tryz.strings_Repeat ⟨[48].toArray⟩ c w (by omega) (by show 1 * c ≤ _; omega))
theorem digits_spec (hT : XTab X) (M : Nat) (hM : M < 170141183460469231731687303715884105728) : PSpec Tryz.prog X 103 [LZ (M : Nat)] (Ls (Lib.decDigits M)) := by
  have hdv := Div64_spec X ((M : Int) / 18446744073709551616) ((M : Int) % 18446744073709551616) 10000000000000000000 (by omega) (by omega) (by omega)
  rw [show (M : Int) / 18446744073709551616 * 18446744073709551616 + (M : Int) % 18446744073709551616 = (M : Int) by omega] at hdv
  rw [show (M : Int) / 10000000000000000000 = ((M / 10000000000000000000 : Nat) : Int) by omega, show (M : Int) % 10000000000000000000 = ((M % 10000000000000000000 : Nat) : Int) by omega] at hdv
  have hL : M % 10000000000000000000 < 10000000000000000000 := Nat.mod_lt _ (by decide)
  have hU : M / 10000000000000000000 < 18446744073709551616 := by omega
  have hsum : M = M / 10000000000000000000 * 10 ^ 19 + M % 10000000000000000000 := by omega
  generalize M / 10000000000000000000 = U at *
  generalize M % 10000000000000000000 = L at *
  have hf1 := format_spec X hT L (by omega)
  have hf2 := format_spec X hT U hU
  have hn := nDigits_le 18 L hL
  have hp := Lib.nDigits_pos L
  have hu := nDigits_le 19 U (by omega)
  have hs1 : (⟨(Lib.decDigits L).toArray⟩ : ByteArray).size = Lib.nDigits L := Lib.decDigits_length L
  have hs2 : (⟨(Lib.decDigits U).toArray⟩ : ByteArray).size = Lib.nDigits U := Lib.decDigits_length U
  have hs3 : (⟨(Lib.repeatL [48] (19 - Lib.nDigits L)).toArray⟩ : ByteArray).size = (19 - Lib.nDigits L) * 1 := Lib.repeatL_length _ _
  have hs4 : (⟨(Lib.decDigits U ++ Lib.repeatL [48] (19 - Lib.nDigits L)).toArray⟩ : ByteArray).size = Lib.nDigits U + (19 - Lib.nDigits L) * 1 := by
    show (Lib.decDigits U ++ Lib.repeatL [48] (19 - Lib.nDigits L)).length = _
    rw [List.length_append, Lib.decDigits_length, Lib.repeatL_length]
    rfl
  have hsub : IntKind.i64.wrap (19 - ((⟨(Lib.decDigits L).toArray⟩ : ByteArray).size : Nat)) = ((19 - Lib.nDigits L : Nat) : Int) := by
    rw [hs1, wrap_i64 (by omega)]; omega
  refine PSpec.intro Tryz.func103 rfl (by kernel_rfl) rfl rfl ?_
  intro C
  by_cases h0 : U = 0
  · subst h0
    rw [Nat.zero_mul, Nat.zero_add] at hsum
    subst hsum
    (refine LWP.seq <| rgN <| K.box rfl rfl rfl .plain <| kas rfl <| RunK.nil <| LWP.seq <| rgN <| kfa rfl rfl ?_; refine kl1 rfl rfl rfl <| kfa rfl rfl ?_; refine kl1 rfl rfl rfl <| kca rfl rfl (hdv) <| kmv rfl <| kex rfl rfl <| kex rfl rfl <| kas rfl <| kas rfl <| RunK.nil <| LWP.seq <| rgN <| kmv rfl <| kca rfl rfl (hf1) <| kas rfl <| RunK.nil ?_; refine LWP.seq <| LWP.seq <| rgN <| kmv rfl <| keq rfl rfl (beq_iff_eq.2 (by omega)) <| RunK.nil <| LWP.condT rfl ?_; refine LWP.seq <| rgN <| kmv rfl <| kas rfl <| RunK.nil <| LWP.ret ?_)
    exact ⟨[_], ⟨rfl, trivial⟩, rfl⟩
  · have e : Lib.decDigits M = Lib.decDigits U ++ Lib.repeatL [48] (19 - Lib.nDigits L) ++ Lib.decDigits L := by
      rw [hsum, dec_pad 19 U L (by omega) hL, pad_rep 18 L hL, List.append_assoc]
    rw [e]
    (refine LWP.seq <| rgN <| K.box rfl rfl rfl .plain <| kas rfl <| RunK.nil <| LWP.seq <| rgN <| kfa rfl rfl ?_; refine kl1 rfl rfl rfl <| kfa rfl rfl ?_; refine kl1 rfl rfl rfl <| kca rfl rfl (hdv) <| kmv rfl <| kex rfl rfl <| kex rfl rfl <| kas rfl <| kas rfl <| RunK.nil <| LWP.seq <| rgN <| kmv rfl <| kca rfl rfl (hf1) <| kas rfl <| RunK.nil ?_; refine LWP.seq <| LWP.seq <| rgN <| kmv rfl <| keq rfl rfl (beq_eq_false_iff_ne.2 (by omega)) <| RunK.nil <| LWP.condF rfl ?_; refine LWP.skip ?_; refine LWP.seq <| rgN <| kmv rfl <| kln rfl <| K.sub rfl rfl hsub .plain <| kca rfl rfl (repeat_spec _ (19 - Lib.nDigits L) (by omega)) <| kas rfl <| RunK.nil <| LWP.seq <| rgN <| kmv rfl <| kca rfl rfl (hf2) <| kmv rfl <| K.strAdd rfl rfl (by omega) (str_add _ _) .plain ?_; refine kmv rfl <| K.strAdd rfl rfl (by omega) (str_add _ _) .plain <| kas rfl <| RunK.nil <| LWP.ret ?_)
    exact ⟨[_], ⟨rfl, trivial⟩, rfl⟩
theorem Text_spec (hT : XTab X) (x : Int) (hx : R127 x) : PSpec Tryz.prog X 68 [LQ x] (Ls (textQ x)) := by
  have hF := Form_spec X _ _ (mg_in2 hx) true (formB_q hx)
  have hm := mg_nonneg x
  have hl := mg_lim hx
  have hd := digits_spec X hT (mg x).toNat (by omega)
  rw [show (((mg x).toNat : Nat) : Int) = mg x by omega] at hd
  have hlen : (⟨(Lib.decDigits (mg x).toNat).toArray⟩ : ByteArray).size ≤ 39 := by
    show (Lib.decDigits (mg x).toNat).length ≤ 39
    rw [Lib.decDigits_length]
    exact nDigits_le 38 _ (by omega)
  refine PSpec.intro Tryz.func68 rfl (by kernel_rfl) rfl rfl ?_
  intro C
  by_cases c : x < 0
  · have e : textQ x = [45] ++ Lib.decDigits (mg x).toNat := if_pos c
    rw [e]
    unfold LQ at hF ⊢
    simp only [c, decide_true] at hF ⊢
    (refine LWP.seq <| rgN <| K.box rfl rfl rfl .plain <| kas rfl <| RunK.nil <| LWP.seq <| LWP.seq <| rgN <| K.loadAll rfl rfl rfl .plain ?_; refine kca rfl rfl (hF) <| K.not rfl rfl .plain <| RunK.nil <| LWP.condF rfl ?_; refine LWP.skip ?_; refine LWP.seq <| rgN <| K.loadAll rfl rfl rfl .plain ?_; refine kca rfl rfl (sizeOf_spec _ _ _ _) <| kca rfl rfl (hd) <| kas rfl <| RunK.nil <| LWP.seq <| LWP.seq <| rgN <| kfa rfl rfl ?_; refine kl1 rfl rfl rfl <| RunK.nil <| LWP.condT rfl ?_; refine LWP.seq <| rgN <| kmv rfl <| K.strAdd rfl rfl (Nat.le_trans (Nat.add_le_add_left hlen _) (by decide)) (str_add [45] _) .plain <| kas rfl <| RunK.nil <| LWP.ret ?_)
    exact ⟨[_], ⟨rfl, trivial⟩, rfl⟩
  · have e : textQ x = Lib.decDigits (mg x).toNat := if_neg c
    rw [e]
    unfold LQ at hF ⊢
    simp only [c, decide_false] at hF ⊢
    (refine LWP.seq <| rgN <| K.box rfl rfl rfl .plain <| kas rfl <| RunK.nil <| LWP.seq <| LWP.seq <| rgN <| K.loadAll rfl rfl rfl .plain ?_; refine kca rfl rfl (hF) <| K.not rfl rfl .plain <| RunK.nil <| LWP.condF rfl ?_; refine LWP.skip ?_; refine LWP.seq <| rgN <| K.loadAll rfl rfl rfl .plain ?_; refine kca rfl rfl (sizeOf_spec _ _ _ _) <| kca rfl rfl (hd) <| kas rfl <| RunK.nil <| LWP.seq <| LWP.seq <| rgN <| kfa rfl rfl ?_; refine kl1 rfl rfl rfl <| RunK.nil <| LWP.condF rfl ?_; refine LWP.skip ?_; refine LWP.seq <| rgN <| kmv rfl <| kas rfl <| RunK.nil <| LWP.ret ?_)
    exact ⟨[_], ⟨rfl, trivial⟩, rfl⟩
end Go.Proofs.YtimpjdbhalnofaaGreatDoor
end
section
namespace Go.Proofs.YtimpjdbhalnofaaGreatDoor
open Go Go.Lg Go.Lg.Arith Go.Lg.Dec Go.Lg.Dig Go.RowKit
variable (X : Nat → Option Obj)
theorem dg_words (n i : Nat) (hi : i < 8) : dg n i = dg (n % 18446744073709551616) i ∧ dg n (8 + i) = dg (n / 18446744073709551616 % 18446744073709551616) i := by
  have e64 : 18446744073709551616 = 256 ^ 8 := by decide
  rw [e64]
  exact ⟨(dg_mod hi).symm, by rw [dg_shift, dg_mod hi]⟩
def toR (a : Bool) (n : Nat) : LV := if n < 170141183460469231731687303715884105728 then .tup [SI (sg a (n : Nat)) (n : Nat), Sb true] else .tup [S0, Sb false]
theorem To_spec (a : Bool) (n : Nat) (hn : n < T40) : PSpec Tryz.prog X 131 [LN a (dg n)] (toR a n) := by
  refine PSpec.intro Tryz.func131 rfl (by kernel_rfl) rfl (by unfold toR; split <;> rfl) ?_
  intro C
  (refine LWP.seq <| rgN <| K.box rfl rfl rfl .plain <| K.alloc rfl .plain ?_; refine kas rfl <| RunK.nil <| LWP.seq <| rgN <| K.build rfl rfl (by exact rfl) (by exact nl3 rfl rfl rfl rfl) .plain ?_; refine K.alloc rfl .plain ?_; refine K.storeAll rfl rfl rfl rfl rfl rfl .plain ?_; refine RunK.nil <| LWP.seq <| LWP.seq <| rgN <| kas rfl <| RunK.nil <| LWP.block ?_)
  obtain ⟨l, hl⟩ : ∃ l, n % 18446744073709551616 = l := ⟨_, rfl⟩
  obtain ⟨h, hh⟩ : ∃ h, n / 18446744073709551616 % 18446744073709551616 = h := ⟨_, rfl⟩
  have hl64 : l < 18446744073709551616 := by omega
  have hh64 : h < 18446744073709551616 := by omega
  refine LWP.meet (fun σ => σ = ⟨[(1, .sv (.one (.ptr 1 0))), (2, .sv (.one (.ptr 2 0))), (4, .sv (.one (.ptr 4 0)))], [(1, some { elem := 160, cells := num a (dg n) }), (2, some { elem := 30, cells := [.val (.bool false), .val (.int .u64 0), .val (.int .u64 0)] }), (4, some { elem := 30, cells := [.val (.bool false), .val (.int .u64 (h : Nat)), .val (.int .u64 (l : Nat))] })], X⟩) ?_ ?_
  · refine LWP.loop (fun m σ => m ≤ 8 ∧ ∃ z : Int, z = (m : Int) - 1 ∧ σ = ⟨[(1, .sv (.one (.ptr 1 0))), (2, .sv (.one (.ptr 2 0))), (4, .sv (.one (.ptr 4 0))), (5, Ln .i64 z)], [(1, some { elem := 160, cells := num a (dg n) }), (2, some { elem := 30, cells := [.val (.bool false), .val (.int .u64 0), .val (.int .u64 0)] }), (4, some { elem := 30, cells := [.val (.bool false), .val (.int .u64 ((h / 256 ^ m : Nat) : Int)), .val (.int .u64 ((l / 256 ^ m : Nat) : Int))] })], X⟩) 8
      ⟨_, Le.of (by exact ⟨rfl, rfl, rfl, rfl, trivial⟩) (by exact ⟨rfl, rfl, by rw [Nat.div_eq_of_lt (show h < 256 ^ 8 from hh64), Nat.div_eq_of_lt (show l < 256 ^ 8 from hl64)]; rfl, trivial⟩) (by exact rfl) (by exact rfl) (by exact rfl), by omega, 7, by omega, rfl⟩ ?_
    rintro m σ ⟨hm, z, rfl, rfl⟩
    cases m with
    | zero =>
      rw [Nat.pow_zero, Nat.div_one, Nat.div_one]
      (refine LWP.seq <| LWP.seq <| rgN <| kmv rfl <| K.geq rfl rfl (decide_eq_false (by omega)) .plain <| RunK.nil <| LWP.condF rfl ?_; refine LWP.exit ?_)
      exact ⟨_, Le.of (by exact ⟨rfl, rfl, rfl, trivial⟩) (by exact ⟨rfl, rfl, rfl, trivial⟩) (by exact rfl) (by exact rfl) (by exact rfl), rfl⟩
    | succ i =>
      rw [show (((i + 1 : Nat) : Int) - 1) = (i : Int) by omega]
      have hi : i < 8 := by omega
      obtain ⟨q1, q2⟩ := dg_words n i hi
      rw [hl] at q1
      rw [hh] at q2
      have dl := div_next l i
      have dh := div_next h i
      have bl : l / 256 ^ i ≤ l := Nat.div_le_self _ _
      have bh : h / 256 ^ i ≤ h := Nat.div_le_self _ _
      generalize l / 256 ^ (i + 1) = u at *
      generalize h / 256 ^ (i + 1) = v at *
      have w1 : IntKind.u64.wrap ((dg n i : Nat) : Int) = ((dg n i : Nat) : Int) := by have := dg_lt n i; exact wrap_u64 (by omega)
      have w2 : IntKind.u64.wrap ((dg n (8 + i) : Nat) : Int) = ((dg n (8 + i) : Nat) : Int) := by have := dg_lt n (8 + i); exact wrap_u64 (by omega)
      have a1 : IntKind.u64.wrap ((u : Int) * 256 + (dg n i : Nat)) = ((l / 256 ^ i : Nat) : Int) := by rw [dl, q1, wrap_u64 (by omega)]; omega
      have a2 : IntKind.u64.wrap ((v : Int) * 256 + (dg n (8 + i) : Nat)) = ((h / 256 ^ i : Nat) : Int) := by rw [dh, q2, wrap_u64 (by omega)]; omega
      have m1 : IntKind.u64.wrap ((u : Int) * 256) = (u : Int) * 256 := wrap_u64 (by omega)
      have m2 : IntKind.u64.wrap ((v : Int) * 256) = (v : Int) * 256 := wrap_u64 (by omega)
      (refine LWP.seq <| LWP.seq <| rgN <| kmv rfl <| K.geq rfl rfl (decide_eq_true (by omega)) .plain <| RunK.nil <| LWP.condT rfl ?_; refine LWP.skip ?_; refine LWP.seq <| LWP.block <| LWP.seq <| rgD mixed <| kfa rfl rfl ?_; refine kl1 rfl rfl rfl <| K.mul rfl rfl m1 .plain <| kmv rfl <| kfa rfl rfl ?_; refine K.indexArr rfl rfl (by omega) rfl .plain ?_; refine kl1 rfl rfl (num_at (i := i) (by omega)) <| kcv rfl w1 ?_; refine kad rfl rfl a1 <| kfa rfl rfl ?_; refine K.storeOne rfl rfl rfl rfl rfl (nl3 rfl rfl rfl rfl) .plain <| RunK.nil <| rgA ?_; refine rgD mixed <| kfa rfl rfl ?_; refine kl1 rfl rfl rfl <| K.mul rfl rfl m2 .plain <| kmv rfl <| kad rfl rfl (wrap_i64 (by omega)) <| kfa rfl rfl ?_; refine K.indexArr rfl rfl (by omega) rfl .plain ?_; refine kl1 rfl rfl (num_at (i := 8 + i) (by omega)) <| kcv rfl w2 ?_; refine kad rfl rfl a2 <| kfa rfl rfl ?_; refine K.storeOne rfl rfl rfl rfl rfl (nl3 rfl rfl rfl rfl) .plain <| RunK.nil <| rgA ?_; refine rgN <| kmv rfl <| K.sub rfl rfl (wrap_i64 (by omega)) .plain <| kas rfl <| RunK.nil ?_)
      exact ⟨i, _, by omega, Le.of (by exact ⟨rfl, rfl, rfl, rfl, trivial⟩) (by exact ⟨rfl, rfl, rfl, trivial⟩) (by exact rfl) (by exact rfl) (by exact rfl), by omega, _, rfl, rfl⟩
  · rintro σ rfl
    have no : ¬ n < 170141183460469231731687303715884105728 → toR a n = .tup [S0, Sb false] := fun h => if_neg h
    have e15 : (256 : Nat) ^ 15 = 1329227995784915872903807060280344576 := by decide
    have e16 : (256 : Nat) ^ 16 = 340282366920938463463374607431768211456 := by decide
    (refine LWP.seq <| LWP.seq <| rgN <| kas rfl <| RunK.nil <| LWP.block ?_)
    refine LWP.loop (fun m σ => ∃ i : Nat, 16 ≤ i ∧ i ≤ 40 ∧ (∀ j, 16 ≤ j → j < i → dg n j = 0) ∧ m = 40 - i ∧ σ = ⟨[(1, .sv (.one (.ptr 1 0))), (2, .sv (.one (.ptr 2 0))), (4, .sv (.one (.ptr 4 0))), (6, Ln .i64 (i : Nat))], [(1, some { elem := 160, cells := num a (dg n) }), (2, some { elem := 30, cells := [.val (.bool false), .val (.int .u64 0), .val (.int .u64 0)] }), (4, some { elem := 30, cells := [.val (.bool false), .val (.int .u64 (h : Nat)), .val (.int .u64 (l : Nat))] })], X⟩) 24
      ⟨_, Le.of (by exact ⟨rfl, rfl, rfl, rfl, trivial⟩) (by exact ⟨rfl, rfl, rfl, trivial⟩) (by exact rfl) (by exact rfl) (by exact rfl), 16, by omega, by omega, fun j h1 h2 => absurd h2 (by omega), rfl, rfl⟩ ?_
    rintro m σ ⟨i, h16, h40, hz, rfl, rfl⟩
    by_cases c : i < 40
    · by_cases d : dg n i = 0
      · (refine LWP.seq <| LWP.seq <| rgN <| kmv rfl <| klt rfl rfl (decide_eq_true (by omega)) <| RunK.nil <| LWP.condT rfl ?_; refine LWP.skip ?_; refine LWP.seq <| LWP.block <| LWP.seq <| rgN <| kmv rfl <| kfa rfl rfl ?_; refine K.indexArr rfl rfl (by omega) rfl .plain ?_; refine kl1 rfl rfl (num_at (i := i) c) <| kne rfl rfl ((bne_eq_false_iff_eq.2 (by omega))) <| RunK.nil <| LWP.condF rfl ?_; refine LWP.skip ?_; refine rgN <| kmv rfl <| kad rfl rfl (wrap_i64 (by omega)) <| kas rfl <| RunK.nil ?_)
        refine ⟨_, _, by omega, Le.of (by exact ⟨rfl, rfl, rfl, rfl, trivial⟩) (by exact ⟨rfl, rfl, rfl, trivial⟩) (by exact rfl) (by exact rfl) (by exact rfl), i + 1, by omega, by omega, ?_, rfl, rfl⟩
        intro j h1 h2
        by_cases e : j = i
        · rw [e]; exact d
        · exact hz j h1 (by omega)
      · have e := no (fun hlt => d (dg_high (Nat.lt_of_lt_of_le (Nat.lt_trans hlt (by decide : 170141183460469231731687303715884105728 < 256 ^ 16)) (Nat.pow_le_pow_right (by decide) h16))))
        (refine LWP.seq <| LWP.seq <| rgN <| kmv rfl <| klt rfl rfl (decide_eq_true (by omega)) <| RunK.nil <| LWP.condT rfl ?_; refine LWP.skip ?_; refine LWP.seq <| LWP.block <| LWP.seq <| rgN <| kmv rfl <| kfa rfl rfl ?_; refine K.indexArr rfl rfl (by omega) rfl .plain ?_; refine kl1 rfl rfl (num_at (i := i) c) <| kne rfl rfl (bne_iff_ne.2 (by omega)) <| RunK.nil <| LWP.condT rfl ?_; refine LWP.seq <| rgN <| K.build rfl rfl (by exact rfl) (by exact nl3 rfl rfl rfl rfl) .plain ?_; refine K.storeAll rfl rfl rfl rfl rfl rfl .plain ?_; refine kas rfl <| RunK.nil <| LWP.ret ?_)
        exact ⟨[_, _], ⟨⟨_, _, rfl, rfl, rfl, .inl ⟨AggT.h, rfl⟩⟩, rfl, trivial⟩, by rw [e]; rfl⟩
    · have e40 : i = 40 := by omega
      subst e40
      have n16 : n < 256 ^ 16 := all_zero 24 hn hz
      rw [e16] at n16
      have d15 : dg n 15 = n / 1329227995784915872903807060280344576 % 256 := by unfold dg; rw [e15]
      by_cases hlt : n < 170141183460469231731687303715884105728
      · have yes : toR a n = .tup [SI (sg a (n : Nat)) (n : Nat), Sb true] := if_pos hlt
        rw [show ((h : Nat) : Int) = (n : Int) / 18446744073709551616 by omega, show ((l : Nat) : Int) = (n : Int) % 18446744073709551616 by omega]
        cases a with
        | false =>
          have hs : sg false (n : Nat) = false := rfl
          (refine LWP.seq <| LWP.seq <| rgN <| kmv rfl <| klt rfl rfl (decide_eq_false (by omega)) <| RunK.nil <| LWP.condF rfl ?_; refine LWP.exit <| LWP.seq <| LWP.seq <| rgN <| kfa rfl rfl ?_; refine K.indexArr rfl rfl (by omega) rfl .plain ?_; refine kl1 rfl rfl (num_at (i := 15) (by decide)) <| K.gtr rfl rfl (decide_eq_false (by omega)) .plain <| RunK.nil <| LWP.condF rfl ?_; refine LWP.skip ?_; refine LWP.seq <| rgN <| kfa rfl rfl ?_; refine kl1 rfl rfl rfl <| kmv rfl <| RunK.passed rfl rfl rfl <| RunK.passed rfl rfl rfl <| RunK.passed rfl rfl rfl <| RunK.passed rfl rfl rfl <| RunK.passedU rfl rfl <| RunK.passedU rfl rfl <| RunK.passedU rfl rfl <| RunK.passed rfl rfl rfl <| kpf rfl rfl <| kfa rfl rfl ?_; refine K.storeOne rfl rfl rfl rfl rfl (nl3 rfl rfl rfl rfl) .plain <| RunK.nil <| LWP.seq <| rgN <| K.loadAll rfl rfl rfl .plain ?_; refine K.storeAll rfl rfl rfl rfl rfl rfl .plain ?_; refine kas rfl <| RunK.nil <| LWP.ret ?_)
          exact ⟨[_, _], ⟨⟨_, _, rfl, rfl, rfl, .inl ⟨AggT.h, rfl⟩⟩, rfl, trivial⟩, by rw [yes, hs]; rfl⟩
        | true =>
          by_cases zh : (n : Int) / 18446744073709551616 = 0
          · by_cases zl : (n : Int) % 18446744073709551616 = 0
            · have hs : sg true (n : Nat) = false := by unfold sg; rw [show (((n : Nat) : Int) == 0) = true from beq_iff_eq.2 (by omega)]; rfl
              (refine LWP.seq <| LWP.seq <| rgN <| kmv rfl <| klt rfl rfl (decide_eq_false (by omega)) <| RunK.nil <| LWP.condF rfl ?_; refine LWP.exit <| LWP.seq <| LWP.seq <| rgN <| kfa rfl rfl ?_; refine K.indexArr rfl rfl (by omega) rfl .plain ?_; refine kl1 rfl rfl (num_at (i := 15) (by decide)) <| K.gtr rfl rfl (decide_eq_false (by omega)) .plain <| RunK.nil <| LWP.condF rfl ?_; refine LWP.skip ?_; refine LWP.seq <| rgN <| kfa rfl rfl ?_; refine kl1 rfl rfl rfl <| kmv rfl <| K.fieldAddr rfl rfl (.taken rfl rfl) ?_; refine K.loadOne rfl rfl rfl (.taken rfl rfl) ?_; refine K.neq rfl rfl ((bne_eq_false_iff_eq.2 (by omega))) (.taken rfl rfl) ?_; refine gmv rfl rfl rfl <| K.fieldAddr rfl rfl (.taken rfl rfl) ?_; refine K.loadOne rfl rfl rfl (.taken rfl rfl) ?_; refine K.neq rfl rfl ((bne_eq_false_iff_eq.2 (by omega))) (.taken rfl rfl) ?_; refine K.pickF rfl rfl (.taken rfl rfl) ?_; refine kpt rfl rfl <| kfa rfl rfl ?_; refine K.storeOne rfl rfl rfl rfl rfl (nl3 rfl rfl rfl rfl) .plain <| RunK.nil <| LWP.seq <| rgN <| K.loadAll rfl rfl rfl .plain ?_; refine K.storeAll rfl rfl rfl rfl rfl rfl .plain ?_; refine kas rfl <| RunK.nil <| LWP.ret ?_)
              exact ⟨[_, _], ⟨⟨_, _, rfl, rfl, rfl, .inl ⟨AggT.h, rfl⟩⟩, rfl, trivial⟩, by rw [yes, hs]; rfl⟩
            · have hs : sg true (n : Nat) = true := by unfold sg; rw [show (((n : Nat) : Int) == 0) = false from beq_eq_false_iff_ne.2 (by omega)]; rfl
              (refine LWP.seq <| LWP.seq <| rgN <| kmv rfl <| klt rfl rfl (decide_eq_false (by omega)) <| RunK.nil <| LWP.condF rfl ?_; refine LWP.exit <| LWP.seq <| LWP.seq <| rgN <| kfa rfl rfl ?_; refine K.indexArr rfl rfl (by omega) rfl .plain ?_; refine kl1 rfl rfl (num_at (i := 15) (by decide)) <| K.gtr rfl rfl (decide_eq_false (by omega)) .plain <| RunK.nil <| LWP.condF rfl ?_; refine LWP.skip ?_; refine LWP.seq <| rgN <| kfa rfl rfl ?_; refine kl1 rfl rfl rfl <| kmv rfl <| K.fieldAddr rfl rfl (.taken rfl rfl) ?_; refine K.loadOne rfl rfl rfl (.taken rfl rfl) ?_; refine K.neq rfl rfl ((bne_eq_false_iff_eq.2 (by omega))) (.taken rfl rfl) ?_; refine gmv rfl rfl rfl <| K.fieldAddr rfl rfl (.taken rfl rfl) ?_; refine K.loadOne rfl rfl rfl (.taken rfl rfl) ?_; refine K.neq rfl rfl (bne_iff_ne.2 (by omega)) (.taken rfl rfl) ?_; refine K.pickF rfl rfl (.taken rfl rfl) ?_; refine kpt rfl rfl <| kfa rfl rfl ?_; refine K.storeOne rfl rfl rfl rfl rfl (nl3 rfl rfl rfl rfl) .plain <| RunK.nil <| LWP.seq <| rgN <| K.loadAll rfl rfl rfl .plain ?_; refine K.storeAll rfl rfl rfl rfl rfl rfl .plain ?_; refine kas rfl <| RunK.nil <| LWP.ret ?_)
              exact ⟨[_, _], ⟨⟨_, _, rfl, rfl, rfl, .inl ⟨AggT.h, rfl⟩⟩, rfl, trivial⟩, by rw [yes, hs]; rfl⟩
          · have hs : sg true (n : Nat) = true := by unfold sg; rw [show (((n : Nat) : Int) == 0) = false from beq_eq_false_iff_ne.2 (by omega)]; rfl
            (refine LWP.seq <| LWP.seq <| rgN <| kmv rfl <| klt rfl rfl (decide_eq_false (by omega)) <| RunK.nil <| LWP.condF rfl ?_; refine LWP.exit <| LWP.seq <| LWP.seq <| rgN <| kfa rfl rfl ?_; refine K.indexArr rfl rfl (by omega) rfl .plain ?_; refine kl1 rfl rfl (num_at (i := 15) (by decide)) <| K.gtr rfl rfl (decide_eq_false (by omega)) .plain <| RunK.nil <| LWP.condF rfl ?_; refine LWP.skip ?_; refine LWP.seq <| rgN <| kfa rfl rfl ?_; refine kl1 rfl rfl rfl <| kmv rfl <| K.fieldAddr rfl rfl (.taken rfl rfl) ?_; refine K.loadOne rfl rfl rfl (.taken rfl rfl) ?_; refine K.neq rfl rfl (bne_iff_ne.2 (by omega)) (.taken rfl rfl) ?_; refine gmv rfl rfl rfl <| RunK.passed rfl rfl rfl <| RunK.passed rfl rfl rfl <| RunK.passed rfl rfl rfl <| K.pickT rfl rfl (.taken rfl rfl) ?_; refine kpt rfl rfl <| kfa rfl rfl ?_; refine K.storeOne rfl rfl rfl rfl rfl (nl3 rfl rfl rfl rfl) .plain <| RunK.nil <| LWP.seq <| rgN <| K.loadAll rfl rfl rfl .plain ?_; refine K.storeAll rfl rfl rfl rfl rfl rfl .plain ?_; refine kas rfl <| RunK.nil <| LWP.ret ?_)
            exact ⟨[_, _], ⟨⟨_, _, rfl, rfl, rfl, .inl ⟨AggT.h, rfl⟩⟩, rfl, trivial⟩, by rw [yes, hs]; rfl⟩
      · have e := no hlt
        (refine LWP.seq <| LWP.seq <| rgN <| kmv rfl <| klt rfl rfl (decide_eq_false (by omega)) <| RunK.nil <| LWP.condF rfl ?_; refine LWP.exit <| LWP.seq <| LWP.seq <| rgN <| kfa rfl rfl ?_; refine K.indexArr rfl rfl (by omega) rfl .plain ?_; refine kl1 rfl rfl (num_at (i := 15) (by decide)) <| K.gtr rfl rfl (decide_eq_true (by omega)) .plain <| RunK.nil <| LWP.condT rfl ?_; refine LWP.seq <| rgN <| K.build rfl rfl (by exact rfl) (by exact nl3 rfl rfl rfl rfl) .plain ?_; refine K.storeAll rfl rfl rfl rfl rfl rfl .plain ?_; refine kas rfl <| RunK.nil <| LWP.ret ?_)
        exact ⟨[_, _], ⟨⟨_, _, rfl, rfl, rfl, .inl ⟨AggT.h, rfl⟩⟩, rfl, trivial⟩, by rw [e]; rfl⟩
end Go.Proofs.YtimpjdbhalnofaaGreatDoor
end
section
namespace Go.Proofs.YtimpjdbhalnofaaGreatDoor
open Go Go.Lg Go.Lg.Arith Go.Lg.Dec Go.Lg.Dig Go.RowKit
variable (X : Nat → Option Obj)
def part (M N i j : Nat) : Nat := M % 256 ^ i * N + dg M i * (N % 256 ^ j) * 256 ^ i
theorem part_next (M N i j : Nat) : part M N i (j + 1) = part M N i j + dg M i * dg N j * 256 ^ (i + j) := by
  unfold part
  rw [mod_next, Nat.mul_add, Nat.add_mul, Nat.pow_add, ← Nat.add_assoc]
  congr 1
  rw [Nat.mul_comm (256 ^ i), ← Nat.mul_assoc, ← Nat.mul_assoc]
theorem part_zero (M N i : Nat) : part M N i 0 = M % 256 ^ i * N := by
  unfold part
  rw [Nat.pow_zero, Nat.mod_one, Nat.mul_zero, Nat.zero_mul, Nat.add_zero]
theorem part_le (M N i j : Nat) : part M N i j ≤ M % 256 ^ (i + 1) * N := by
  unfold part
  rw [mod_next, Nat.add_mul]
  refine Nat.add_le_add_left ?_ _
  rw [Nat.mul_assoc, Nat.mul_assoc, Nat.mul_comm (N % 256 ^ j)]
  exact Nat.mul_le_mul_left _ (Nat.mul_le_mul_left _ (Nat.mod_le _ _))
theorem part_all {M N i j : Nat} (h : N < 256 ^ j) : part M N i j = M % 256 ^ (i + 1) * N := by
  unfold part
  rw [mod_next, Nat.add_mul, Nat.mod_eq_of_lt h, Nat.mul_assoc, Nat.mul_assoc, Nat.mul_comm N]
set_option maxHeartbeats 6400000 in
theorem Times_spec (a b s : Bool) (hs : (a != b) = s) (M N : Nat) (hM : M < 256 ^ 16) (hN : N < 256 ^ 16) : PSpec Tryz.prog X 130 [LN a (dg M), LN b (dg N)] (LN s (dg (M * N))) := by
  have hMN : M * N < 256 ^ 32 := by
    rw [show (256 : Nat) ^ 32 = 256 ^ 16 * 256 ^ 16 by decide]
    exact Nat.mul_lt_mul'' hM hN
  refine PSpec.intro Tryz.func130 rfl (by kernel_rfl) rfl rfl ?_
  intro C
  (refine LWP.seq <| rgN <| K.box rfl rfl rfl .plain <| K.box rfl rfl rfl .plain <| K.alloc rfl .plain ?_; refine RunK.nil <| LWP.seq <| rgN <| kfa rfl rfl ?_; refine kl1 rfl rfl rfl <| kfa rfl rfl ?_; refine kl1 rfl rfl rfl <| K.neqB rfl rfl hs .plain <| K.build rfl rfl (by exact rfl) (by exact rfl) .plain ?_; refine K.alloc rfl .plain ?_; refine K.storeAll rfl rfl rfl rfl rfl rfl .plain ?_; refine RunK.nil <| LWP.seq <| LWP.seq <| rgN <| kas rfl <| RunK.nil <| LWP.block ?_)
  refine LWP.loop (fun m σ => ∃ i : Nat, i ≤ 16 ∧ m = 16 - i ∧ σ = ⟨[(2, .sv (.one (.ptr 2 0))), (3, .sv (.one (.ptr 3 0))), (4, .sv (.one (.ptr 4 0))), (5, .sv (.one (.ptr 5 0))), (6, Ln .i64 (i : Nat))], [(2, some { elem := 160, cells := num a (dg M) }), (3, some { elem := 160, cells := num b (dg N) }), (4, some { elem := 160, cells := num false (fun _ => 0) }), (5, some { elem := 160, cells := num s (dg (M % 256 ^ i * N)) })], X⟩) 16
    ⟨_, Le.of (by exact ⟨rfl, rfl, rfl, rfl, rfl, trivial⟩) (by exact ⟨rfl, rfl, rfl, by rw [show num s (dg (M % 256 ^ 0 * N)) = num s (fun _ => 0) from num_congr fun x _ => by rw [Nat.pow_zero, Nat.mod_one, Nat.zero_mul, dg_zero]]; rfl, trivial⟩) (by exact rfl) (by exact rfl) (by exact rfl), 0, by omega, rfl, rfl⟩ ?_
  rintro m σ ⟨i, hi, rfl, rfl⟩
  by_cases h16 : i < 16
  · (refine LWP.seq <| LWP.seq <| rgN <| kmv rfl <| klt rfl rfl (decide_eq_true (by omega)) <| RunK.nil <| LWP.condT rfl ?_; refine LWP.skip ?_; refine LWP.seq <| LWP.block <| LWP.seq <| rgN <| kas rfl <| RunK.nil <| LWP.seq <| rgN <| kas rfl <| RunK.nil <| LWP.block ?_)
    · refine LWP.loop (fun m σ => ∃ j c : Nat, j ≤ 32 ∧ m = 40 - j ∧ c = part M N i j / 256 ^ (i + j) - M % 256 ^ i * N / 256 ^ (i + j) ∧ c ≤ 511 ∧ σ = ⟨[(2, .sv (.one (.ptr 2 0))), (3, .sv (.one (.ptr 3 0))), (4, .sv (.one (.ptr 4 0))), (5, .sv (.one (.ptr 5 0))), (6, Ln .i64 (i : Nat)), (7, Ln .i64 (c : Nat)), (8, Ln .i64 (j : Nat))], [(2, some { elem := 160, cells := num a (dg M) }), (3, some { elem := 160, cells := num b (dg N) }), (4, some { elem := 160, cells := num false (fun _ => 0) }), (5, some { elem := 160, cells := num s (mix (part M N i j) (M % 256 ^ i * N) (i + j)) })], X⟩) 40
        ⟨_, Le.of (by exact ⟨rfl, rfl, rfl, rfl, rfl, rfl, rfl, trivial⟩) (by exact ⟨rfl, rfl, rfl, by rw [part_zero, mix_all s rfl]; rfl, trivial⟩) (by exact rfl) (by exact rfl) (by exact rfl), 0, 0, by omega, rfl, by rw [part_zero, Nat.sub_self], by omega, rfl⟩ ?_
      rintro m σ ⟨j, c, hj, rfl, hc, hc5, rfl⟩
      have hST : M % 256 ^ i * N ≤ part M N i j := by rw [← part_zero M N i]; exact Nat.add_le_add_left (Nat.mul_le_mul_right _ (Nat.mul_le_mul_left _ (by rw [Nat.pow_zero, Nat.mod_one]; exact Nat.zero_le _))) _
      have hT : part M N i j < 256 ^ 32 := Nat.lt_of_le_of_lt (part_le M N i j) (Nat.lt_of_le_of_lt (Nat.mul_le_mul_right _ (Nat.mod_le _ _)) hMN)
      have hcj : 0 < c → i + j < 32 := by
        intro h
        have h1 : part M N i j / 256 ^ (i + j) ≠ 0 := by intro e; rw [e, Nat.zero_sub] at hc; omega
        have h2 : 256 ^ (i + j) ≤ part M N i j := by
          rcases Nat.lt_or_ge (part M N i j) (256 ^ (i + j)) with h3 | h3
          · exact absurd (Nat.div_eq_of_lt h3) h1
          · exact h3
        rcases Nat.lt_or_ge (i + j) 32 with h3 | h3
        · exact h3
        · have := Nat.pow_le_pow_right (show 0 < 256 by decide) h3
          omega
      have hnext := part_next M N i j
      obtain ⟨k1, k2⟩ := mul_step (y := dg M i * dg N j) hST hc
      rw [← hnext] at k1 k2
      have hset := mix_step s (T := part M N i j) (S := M % 256 ^ i * N) (k := i + j) (y := dg M i * dg N j) (d := (dg (M % 256 ^ i * N) (i + j) + c + dg M i * dg N j) % 256) (by rw [← hnext]; exact k1)
      rw [← hnext] at hset
      have hy : dg M i * dg N j ≤ 255 * 255 := Nat.mul_le_mul (Nat.le_of_lt_succ (dg_lt M i)) (Nat.le_of_lt_succ (dg_lt N j))
      have hD := dg_lt (M % 256 ^ i * N) (i + j)
      have hmx : mix (part M N i j) (M % 256 ^ i * N) (i + j) (i + j) = dg (M % 256 ^ i * N) (i + j) := if_neg (by omega)
      have wy : IntKind.i64.wrap (((dg M i : Nat) : Int) * (dg N j : Nat)) = ((dg M i * dg N j : Nat) : Int) := by rw [← Int.natCast_mul, wrap_i64 (by omega)]
      have hat : ∀ h : i + j < 40, (num s (mix (part M N i j) (M % 256 ^ i * N) (i + j)))[1 + (i + j) * 1]? = some (dv (dg (M % 256 ^ i * N) (i + j))) := fun h => by rw [num_at h, hmx]
      have hz : 16 ≤ j → dg M i * dg N j = 0 := by
        intro h
        rw [dg_high (Nat.lt_of_lt_of_le hN (Nat.pow_le_pow_right (by decide) h)), Nat.mul_zero]
      have hend : 16 ≤ j → c = 0 → num s (mix (part M N i j) (M % 256 ^ i * N) (i + j)) = num s (dg (M % 256 ^ (i + 1) * N)) := by
        intro h h0
        have hle : M % 256 ^ i * N / 256 ^ (i + j) ≤ part M N i j / 256 ^ (i + j) := Nat.div_le_div_right hST
        have hall := part_all (M := M) (i := i) (Nat.lt_of_lt_of_le hN (Nat.pow_le_pow_right (show 0 < 256 by decide) h))
        rw [← hall, mix_all s (by omega)]
      clear hnext hmx hST hT hMN hM hN
      generalize hp : part M N i (j + 1) / 256 ^ (i + j + 1) - M % 256 ^ i * N / 256 ^ (i + j + 1) = c' at *
      generalize dg (M % 256 ^ i * N) (i + j) = D at *
      generalize hy' : dg M i * dg N j = y at *
      generalize hk : dg (part M N i (j + 1)) (i + j) = E5 at *
      by_cases j16 : j < 16
      · have w1 : ((D : Int) + (c : Nat) + (y : Nat)).tmod 256 = (((D + c + y) % 256 : Nat) : Int) := by rw [rem_pos (by omega)]; omega
        have w2 : IntKind.i64.wrap (((D : Int) + (c : Nat) + (y : Nat)).tdiv 256) = (c' : Int) := by rw [quo_i64 (by omega) (by omega)]; omega
        (refine LWP.seq <| LWP.seq <| rgN <| kmv rfl <| klt rfl rfl (decide_eq_true (by omega)) <| kmv rfl <| RunK.passed rfl rfl rfl <| RunK.passed rfl rfl rfl <| kpt rfl rfl <| RunK.nil <| LWP.condT rfl ?_; refine LWP.skip ?_; refine LWP.seq <| LWP.block <| LWP.seq <| rgN <| kmv rfl <| kmv rfl <| kad rfl rfl (wrap_i64 (by omega)) <| kfa rfl rfl ?_; refine K.indexArr rfl rfl (by omega) rfl .plain ?_; refine kl1 rfl rfl (hat (by omega)) <| kmv rfl <| kad rfl rfl (wrap_i64 (by omega)) <| kas rfl <| RunK.nil <| LWP.seq <| LWP.seq <| rgN <| kmv rfl <| klt rfl rfl (decide_eq_true (by omega)) <| RunK.nil <| LWP.condT rfl ?_; refine rgD mixed <| kmv rfl <| kmv rfl <| kfa rfl rfl ?_; refine K.indexArr rfl rfl (by omega) rfl .plain ?_; refine kl1 rfl rfl (num_at (i := i) (by omega)) <| kmv rfl <| kfa rfl rfl ?_; refine K.indexArr rfl rfl (by omega) rfl .plain ?_; refine kl1 rfl rfl (num_at (i := j) (by omega)) <| K.mul rfl rfl wy .plain <| kad rfl rfl (wrap_i64 (by omega)) <| kas rfl <| RunK.nil <| rgA ?_; refine LWP.seq <| rgN <| kmv rfl <| kmv rfl <| kad rfl rfl (wrap_i64 (by omega)) <| kmv rfl <| K.rem rfl rfl (by omega) w1 .plain <| kfa rfl rfl ?_; refine K.indexArr rfl rfl (by omega) rfl .plain ?_; refine K.storeOne rfl rfl rfl rfl (num_blt (i := i + j) (by omega)) ((num_set (i := i + j) (by omega)).trans hset) .plain <| RunK.nil <| rgN <| kmv rfl <| K.quo rfl rfl (by omega) w2 .plain <| kas rfl <| RunK.nil <| rgN <| kmv rfl <| kad rfl rfl (wrap_i64 (by omega)) <| kas rfl <| RunK.nil ?_)
        exact ⟨_, _, by omega, Le.of (by exact ⟨rfl, rfl, rfl, rfl, rfl, rfl, rfl, trivial⟩) (by exact ⟨rfl, rfl, rfl, rfl, trivial⟩) (by exact rfl) (by exact rfl) (by exact rfl), j + 1, c', by omega, rfl, hp.symm, by omega, rfl⟩
      · have y0 : y = 0 := hz (by omega)
        by_cases c0 : c = 0
        · have he := hend (by omega) c0
          rw [he]
          (refine LWP.seq <| LWP.seq <| rgN <| kmv rfl <| klt rfl rfl (decide_eq_false (by omega)) <| kmv rfl <| gmv rfl rfl rfl <| K.gtr rfl rfl (decide_eq_false (by omega)) (.taken rfl rfl) ?_; refine kpf rfl rfl <| RunK.nil <| LWP.condF rfl ?_; refine LWP.exit <| rgN <| kmv rfl <| kad rfl rfl (wrap_i64 (by omega)) <| kas rfl <| RunK.nil ?_)
          exact ⟨_, _, by omega, Le.of (by exact ⟨rfl, rfl, rfl, rfl, rfl, trivial⟩) (by exact ⟨rfl, rfl, rfl, rfl, trivial⟩) (by exact rfl) (by exact rfl) (by exact rfl), i + 1, by omega, rfl, rfl⟩
        · have hij := hcj (by omega)
          have w1 : ((D : Int) + (c : Nat)).tmod 256 = (((D + c + y) % 256 : Nat) : Int) := by rw [rem_pos (by omega)]; omega
          have w2 : IntKind.i64.wrap (((D : Int) + (c : Nat)).tdiv 256) = (c' : Int) := by rw [quo_i64 (by omega) (by omega)]; omega
          (refine LWP.seq <| LWP.seq <| rgN <| kmv rfl <| klt rfl rfl (decide_eq_false (by omega)) <| kmv rfl <| gmv rfl rfl rfl <| K.gtr rfl rfl (decide_eq_true (by omega)) (.taken rfl rfl) ?_; refine kpf rfl rfl <| RunK.nil <| LWP.condT rfl ?_; refine LWP.skip ?_; refine LWP.seq <| LWP.block <| LWP.seq <| rgN <| kmv rfl <| kmv rfl <| kad rfl rfl (wrap_i64 (by omega)) <| kfa rfl rfl ?_; refine K.indexArr rfl rfl (by omega) rfl .plain ?_; refine kl1 rfl rfl (hat (by omega)) <| kmv rfl <| kad rfl rfl (wrap_i64 (by omega)) <| kas rfl <| RunK.nil <| LWP.seq <| LWP.seq <| rgN <| kmv rfl <| klt rfl rfl (decide_eq_false (by omega)) <| RunK.nil <| LWP.condF rfl ?_; refine LWP.skip ?_; refine LWP.seq <| rgN <| kmv rfl <| kmv rfl <| kad rfl rfl (wrap_i64 (by omega)) <| kmv rfl <| K.rem rfl rfl (by omega) w1 .plain <| kfa rfl rfl ?_; refine K.indexArr rfl rfl (by omega) rfl .plain ?_; refine K.storeOne rfl rfl rfl rfl (num_blt (i := i + j) (by omega)) ((num_set (i := i + j) (by omega)).trans hset) .plain <| RunK.nil <| rgN <| kmv rfl <| K.quo rfl rfl (by omega) w2 .plain <| kas rfl <| RunK.nil <| rgN <| kmv rfl <| kad rfl rfl (wrap_i64 (by omega)) <| kas rfl <| RunK.nil ?_)
          exact ⟨_, _, by omega, Le.of (by exact ⟨rfl, rfl, rfl, rfl, rfl, rfl, rfl, trivial⟩) (by exact ⟨rfl, rfl, rfl, rfl, trivial⟩) (by exact rfl) (by exact rfl) (by exact rfl), j + 1, c', by omega, rfl, hp.symm, by omega, rfl⟩
  · have e : i = 16 := by omega
    subst e
    rw [Nat.mod_eq_of_lt hM]
    (refine LWP.seq <| LWP.seq <| rgN <| kmv rfl <| klt rfl rfl (decide_eq_false (by omega)) <| RunK.nil <| LWP.condF rfl ?_; refine LWP.exit <| LWP.seq <| rgN <| K.loadAll rfl rfl rfl .plain ?_; refine K.storeAll rfl rfl rfl rfl rfl rfl .plain ?_; refine RunK.nil <| LWP.ret ?_)
    exact ⟨[_], ⟨⟨_, _, rfl, rfl, rfl, .inl ⟨AggT.h, rfl⟩⟩, trivial⟩, rfl⟩
end Go.Proofs.YtimpjdbhalnofaaGreatDoor
end
section
namespace Go.Proofs.YtimpjdbhalnofaaGreatDoor
open Go Go.Lg Go.Lg.Arith Go.Lg.Dec Go.Lg.Dig Go.RowKit
variable (X : Nat → Option Obj)
abbrev bxN (f : List CV) : Option Box := some { elem := 160, cells := f }
set_option maxHeartbeats 6400000 in
theorem Parted_spec (a b : Bool) (A B : Nat) (hA : A < T40) (hB : 0 < B) (hB2 : B < 340282366920938463463374607431768211456) : PSpec Tryz.prog X 110 [LN a (dg A), LN b (dg B)] (.tup [SN false (dg (A / B)), SN false (dg (A % B))]) := by
  have big := pow40
  refine PSpec.intro Tryz.func110 rfl (by kernel_rfl) rfl rfl ?_
  intro C
  (refine LWP.seq <| rgN <| K.box rfl rfl rfl .plain <| K.box rfl rfl rfl .plain <| K.alloc rfl .plain ?_; refine K.alloc rfl .plain ?_; refine RunK.nil <| LWP.seq <| rgN <| kfa rfl rfl ?_; refine K.storeOne rfl rfl rfl rfl num_blt0 num_sign .plain <| RunK.nil <| LWP.seq <| rgN <| K.build rfl rfl (by exact rfl) (by exact rfl) .plain ?_; refine K.alloc rfl .plain ?_; refine K.storeAll rfl rfl rfl rfl rfl rfl .plain ?_; refine RunK.nil <| LWP.seq <| rgN <| K.build rfl rfl (by exact rfl) (by exact rfl) .plain ?_; refine K.alloc rfl .plain ?_; refine K.storeAll rfl rfl rfl rfl rfl rfl .plain ?_; refine RunK.nil <| LWP.seq <| LWP.seq <| rgN <| kas rfl <| RunK.nil <| LWP.block ?_)
  refine LWP.loop (fun m σ => m ≤ 40 ∧ ∃ z : Int, z = (m : Int) - 1 ∧ σ = ⟨[(2, .sv (.one (.ptr 2 0))), (3, .sv (.one (.ptr 3 0))), (4, .sv (.one (.ptr 4 0))), (5, .sv (.one (.ptr 5 0))), (6, .sv (.one (.ptr 6 0))), (7, .sv (.one (.ptr 7 0))), (8, Ln .i64 z)], [(2, bxN (num a (dg A))), (3, bxN (num false (dg B))), (4, bxN (num false (fun _ => 0))), (5, bxN (num false (fun _ => 0))), (6, bxN (num false (dg (A / 256 ^ m / B * 256 ^ m)))), (7, bxN (num false (dg (A / 256 ^ m % B))))], X⟩) 40
    ⟨_, Le.of (by exact ⟨rfl, rfl, rfl, rfl, rfl, rfl, rfl, trivial⟩) (by exact ⟨rfl, rfl, rfl, rfl, by rw [Nat.div_eq_of_lt hA, Nat.zero_div, Nat.zero_mul, show num false (dg 0) = num false (fun _ => 0) from num_congr fun x _ => dg_zero x]; rfl, by rw [Nat.div_eq_of_lt hA, Nat.zero_mod, show num false (dg 0) = num false (fun _ => 0) from num_congr fun x _ => dg_zero x]; rfl, trivial⟩) (by exact rfl) (by exact rfl) (by exact rfl), by omega, 39, by omega, rfl⟩ ?_
  rintro m σ ⟨hm, z, rfl, rfl⟩
  cases m with
  | zero =>
    rw [Nat.pow_zero, Nat.div_one, Nat.mul_one]
    (refine LWP.seq <| LWP.seq <| rgN <| kmv rfl <| K.geq rfl rfl (decide_eq_false (by omega)) .plain <| RunK.nil <| LWP.condF rfl ?_; refine LWP.exit <| LWP.seq <| rgD mixed <| K.loadAll rfl rfl rfl .plain ?_; refine K.loadAll rfl rfl rfl .plain ?_; refine K.storeAll rfl rfl rfl rfl rfl rfl .plain ?_; refine K.storeAll rfl rfl rfl rfl rfl rfl .plain ?_; refine RunK.nil <| rgA ?_; refine LWP.ret ?_)
    exact ⟨[_, _], ⟨⟨_, _, rfl, rfl, rfl, .inl ⟨AggT.h, rfl⟩⟩, ⟨_, _, rfl, rfl, rfl, .inl ⟨AggT.h, rfl⟩⟩, trivial⟩, rfl⟩
  | succ i =>
    rw [show (((i + 1 : Nat) : Int) - 1) = (i : Int) by omega]
    have hi : i < 40 := by omega
    have hR := Nat.mod_lt (A / 256 ^ (i + 1)) hB
    have hd := dg_lt A i
    have hq := fun t V => quo_step (A := A) (i := i) (t := t) (V := V) hB
    generalize A / 256 ^ (i + 1) / B = Q at *
    generalize A / 256 ^ (i + 1) % B = R at *
    (refine LWP.seq <| LWP.seq <| rgN <| kmv rfl <| K.geq rfl rfl (decide_eq_true (by omega)) .plain <| RunK.nil <| LWP.condT rfl ?_; refine LWP.skip ?_; refine LWP.seq <| LWP.block <| LWP.seq <| LWP.seq <| rgN <| kas rfl <| RunK.nil <| LWP.block ?_)
    refine LWP.loop (fun m σ => m ≤ 39 ∧ σ = ⟨[(2, .sv (.one (.ptr 2 0))), (3, .sv (.one (.ptr 3 0))), (4, .sv (.one (.ptr 4 0))), (5, .sv (.one (.ptr 5 0))), (6, .sv (.one (.ptr 6 0))), (7, .sv (.one (.ptr 7 0))), (8, Ln .i64 (i : Nat)), (9, Ln .i64 (m : Nat))], [(2, bxN (num a (dg A))), (3, bxN (num false (dg B))), (4, bxN (num false (fun _ => 0))), (5, bxN (num false (fun _ => 0))), (6, bxN (num false (dg (Q * 256 ^ (i + 1))))), (7, bxN (num false (shf R m)))], X⟩) 39
      ⟨_, Le.of (by exact ⟨rfl, rfl, rfl, rfl, rfl, rfl, rfl, rfl, trivial⟩) (by exact ⟨rfl, rfl, rfl, rfl, rfl, by rw [shf_start]; rfl, trivial⟩) (by exact rfl) (by exact rfl) (by exact rfl), by omega, rfl⟩ ?_
    rintro m σ ⟨hm2, rfl⟩
    cases m with
    | succ t =>
      have ht : t < 40 := by omega
      have ht1 : t + 1 < 40 := by omega
      have w : IntKind.i64.wrap (((t + 1 : Nat) : Int) - 1) = (t : Int) := by rw [wrap_i64 (by omega)]; omega
      have hat : (num false (shf R (t + 1)))[1 + t * 1]? = some (dv (dg R t)) := by rw [num_at ht]; unfold shf; rw [if_neg (by omega)]
      (refine LWP.seq <| LWP.seq <| rgN <| kmv rfl <| K.gtr rfl rfl (decide_eq_true (by omega)) .plain <| RunK.nil <| LWP.condT rfl ?_; refine LWP.skip ?_; refine LWP.seq <| LWP.block <| rgN <| kmv rfl <| kmv rfl <| K.sub rfl rfl w .plain <| kfa rfl rfl ?_; refine K.indexArr rfl rfl (by omega) rfl .plain ?_; refine kl1 rfl rfl hat <| kfa rfl rfl ?_; refine K.indexArr rfl rfl (by omega) rfl .plain ?_; refine K.storeOne rfl rfl rfl rfl (num_blt (i := t + 1) ht1) ((num_set (i := t + 1) ht1).trans (shf_step false R t)) .plain <| RunK.nil <| rgN <| kmv rfl <| K.sub rfl rfl w .plain <| kas rfl <| RunK.nil ?_)
      exact ⟨t, _, by omega, Le.of (by exact ⟨rfl, rfl, rfl, rfl, rfl, rfl, rfl, rfl, trivial⟩) (by exact ⟨rfl, rfl, rfl, rfl, rfl, rfl, trivial⟩) (by exact rfl) (by exact rfl) (by exact rfl), by omega, rfl⟩
    | zero =>
      (refine LWP.seq <| LWP.seq <| rgN <| kmv rfl <| K.gtr rfl rfl (decide_eq_false (by omega)) .plain <| RunK.nil <| LWP.condF rfl ?_; refine LWP.exit <| LWP.seq <| rgN <| kmv rfl <| kfa rfl rfl ?_; refine K.indexArr rfl rfl (by omega) rfl .plain ?_; refine kl1 rfl rfl (num_at (i := i) hi) <| kfa rfl rfl ?_; refine K.indexArr rfl rfl (by omega) rfl .plain ?_; refine K.storeOne rfl rfl rfl rfl (num_blt (i := 0) (by decide)) ((num_set (i := 0) (by decide)).trans (shf_end false R (dg A i) hd)) .plain <| RunK.nil <| LWP.block ?_)
      refine LWP.loop (fun m σ => ∃ t V : Nat, V + t * B = R * 256 + dg A i ∧ t ≤ 255 ∧ m = V ∧ σ = ⟨[(2, .sv (.one (.ptr 2 0))), (3, .sv (.one (.ptr 3 0))), (4, .sv (.one (.ptr 4 0))), (5, .sv (.one (.ptr 5 0))), (6, .sv (.one (.ptr 6 0))), (7, .sv (.one (.ptr 7 0))), (8, Ln .i64 (i : Nat))], [(2, bxN (num a (dg A))), (3, bxN (num false (dg B))), (4, bxN (num false (fun _ => 0))), (5, bxN (num false (fun _ => 0))), (6, bxN (num false (dg (Q * 256 ^ (i + 1) + t * 256 ^ i)))), (7, bxN (num false (dg V)))], X⟩) (R * 256 + dg A i)
        ⟨_, Le.of (by exact ⟨rfl, rfl, rfl, rfl, rfl, rfl, rfl, trivial⟩) (by exact ⟨rfl, rfl, rfl, rfl, by rw [Nat.zero_mul, Nat.add_zero]; rfl, rfl, trivial⟩) (by exact rfl) (by exact rfl) (by exact rfl), 0, _, by rw [Nat.zero_mul, Nat.add_zero], by omega, rfl, rfl⟩ ?_
      rintro m σ ⟨t, V, hV, ht, hmV, rfl⟩
      have hVle : V ≤ R * 256 + dg A i := by rw [← hV]; exact Nat.le_add_right _ _
      have hV40 : V < T40 := by unfold T40; rw [big]; omega
      have hB40 : B < T40 := by unfold T40; rw [big]; omega
      obtain ⟨r, hr, c1, c2, c3⟩ := cmp_facts_0 V B
      have hS := Size_spec X false false V B hV40 hB40 r hr
      by_cases hlt : V < B
      · obtain ⟨q1, q2⟩ := hq t V hV hlt
        (refine LWP.seq <| LWP.seq <| rgN <| K.loadAll rfl rfl rfl .plain ?_; refine K.loadAll rfl rfl rfl .plain ?_; refine kca rfl rfl (hS) <| K.geq rfl rfl (decide_eq_false (by omega)) .plain <| RunK.nil <| LWP.condF rfl ?_; refine LWP.exit <| rgN <| kmv rfl <| K.sub rfl rfl (wrap_i64 (by omega)) .plain <| kas rfl <| RunK.nil ?_)
        exact ⟨i, _, by omega, Le.of (by exact ⟨rfl, rfl, rfl, rfl, rfl, rfl, rfl, trivial⟩) (by exact ⟨rfl, rfl, rfl, rfl, by rw [q1]; rfl, by rw [q2]; rfl, trivial⟩) (by exact rfl) (by exact rfl) (by exact rfl), by omega, _, rfl, rfl⟩
      · have hm := less_spec X false false V B (by omega)
        have ht1 : t + 1 < 256 := by
          have h1 : (t + 1) * B < 256 * B := by rw [Nat.add_mul]; omega
          exact Nat.lt_of_mul_lt_mul_right h1
        have hat : (num false (dg (Q * 256 ^ (i + 1) + t * 256 ^ i)))[1 + i * 1]? = some (dv t) := by rw [num_at hi, mid_at (by omega)]
        have w : IntKind.i64.wrap ((t : Int) + 1) = ((t + 1 : Nat) : Int) := by rw [wrap_i64 (by omega)]; rfl
        (refine LWP.seq <| LWP.seq <| rgN <| K.loadAll rfl rfl rfl .plain ?_; refine K.loadAll rfl rfl rfl .plain ?_; refine kca rfl rfl (hS) <| K.geq rfl rfl (decide_eq_true (by omega)) .plain <| RunK.nil <| LWP.condT rfl ?_; refine LWP.skip ?_; refine LWP.block <| LWP.seq <| rgN <| K.loadAll rfl rfl rfl .plain ?_; refine K.loadAll rfl rfl rfl .plain ?_; refine kca rfl rfl (hm) <| K.storeAll rfl rfl rfl rfl rfl rfl .plain ?_; refine RunK.nil <| rgN <| kmv rfl <| kfa rfl rfl ?_; refine K.indexArr rfl rfl (by omega) rfl .plain ?_; refine kl1 rfl rfl hat <| kad rfl rfl w <| kfa rfl rfl ?_; refine K.indexArr rfl rfl (by omega) rfl .plain ?_; refine K.storeOne rfl rfl rfl rfl (num_blt (i := i) hi) ((num_set (i := i) hi).trans (mid_step false ht1)) .plain <| RunK.nil ?_)
        exact ⟨_, _, by omega, Le.of (by exact ⟨rfl, rfl, rfl, rfl, rfl, rfl, rfl, trivial⟩) (by exact ⟨rfl, rfl, rfl, rfl, rfl, rfl, trivial⟩) (by exact rfl) (by exact rfl) (by exact rfl), t + 1, V - B, by rw [Nat.add_mul]; omega, by omega, rfl, rfl⟩
end Go.Proofs.YtimpjdbhalnofaaGreatDoor
end
section
namespace Go.Proofs.YtimpjdbhalnofaaGreatDoor
open Go Go.Lg Go.Lg.Arith Go.Lg.Dec Go.Lg.Dig Go.RowKit
variable (X : Nat → Option Obj)
theorem Sum_any (a b : Bool) (M N : Nat) (hM : M < 340282366920938463463374607431768211456) (hN : N < 340282366920938463463374607431768211456) :
    ∃ (s : Bool) (n : Nat), PSpec Tryz.prog X 129 [LN a (dg M), LN b (dg N)] (LN s (dg n)) ∧ zv s (n : Nat) = zv a (M : Nat) + zv b (N : Nat) ∧ n < T40 := by
  have big := pow40
  have l40 : ∀ n : Nat, n < 680564733841876926926749214863536422912 → n < T40 := fun n h => by unfold T40; rw [big]; omega
  cases h : (a != b) with
  | false =>
    have e : a = b := by simpa using h
    subst e
    refine ⟨a, M + N, Sum_same X a a h M N, ?_, l40 _ (by omega)⟩
    cases a
    · show (((M + N : Nat) : Int)) = (M : Int) + N; omega
    · show -(((M + N : Nat) : Int)) = -(M : Int) + -(N : Int); omega
  | true =>
    by_cases c : N ≤ M
    · refine ⟨a, M - N, Sum_more X a b h M N (l40 _ (by omega)) (l40 _ (by omega)) c, ?_, l40 _ (by omega)⟩
      cases a <;> cases b <;> first | cases h | skip
      · show (((M - N : Nat) : Int)) = (M : Int) + -(N : Int); omega
      · show -(((M - N : Nat) : Int)) = -(M : Int) + (N : Int); omega
    · refine ⟨b, N - M, Sum_less X a b h M N (l40 _ (by omega)) (l40 _ (by omega)) (by omega), ?_, l40 _ (by omega)⟩
      cases a <;> cases b <;> first | cases h | skip
      · show -(((N - M : Nat) : Int)) = (M : Int) + -(N : Int); omega
      · show (((N - M : Nat) : Int)) = -(M : Int) + (N : Int); omega
theorem toR_iff {s : Bool} {n : Nat} {z : Int} (h : zv s (n : Nat) = z) : R127 z ↔ n < 170141183460469231731687303715884105728 := by
  obtain ⟨_, h2⟩ := sg_q (b := s) (N := (n : Nat)) (by omega) h
  unfold R127
  unfold mg at h2
  split at h2 <;> omega
theorem toR_in {s : Bool} {n : Nat} {z : Int} (h : zv s (n : Nat) = z) (hR : R127 z) : toR s n = .tup [SQ z, Sb true] := by
  obtain ⟨h1, h2⟩ := sg_q (b := s) (N := (n : Nat)) (by omega) h
  unfold toR
  rw [if_pos ((toR_iff h).1 hR), h1]
  unfold SQ
  rw [← h2]
theorem toR_out {s : Bool} {n : Nat} {z : Int} (h : zv s (n : Nat) = z) (hR : ¬ R127 z) : toR s n = .tup [S0, Sb false] := by
  unfold toR
  rw [if_neg (fun c => hR ((toR_iff h).2 c))]
theorem zv_q (x : Int) : zv (decide (x < 0)) (((mg x).toNat : Nat) : Int) = x := by
  rw [mg_nat]
  by_cases c : x < 0
  · rw [decide_eq_true c, mg_neg c]; show - -x = x; omega
  · rw [decide_eq_false c, mg_pos (Int.not_lt.1 c)]; rfl
theorem zv_not (b : Bool) (N : Int) : zv (!b) N = -zv b N := by
  cases b
  · rfl
  · show N = - -N; omega
theorem zv_prod (a b : Bool) (M N : Nat) : zv (a != b) ((M * N : Nat) : Int) = zv a (M : Nat) * zv b (N : Nat) := by
  rw [Int.natCast_mul]
  cases a <;> cases b
  · rfl
  · show -((M : Int) * N) = (M : Int) * -(N : Int); rw [Int.mul_neg]
  · show -((M : Int) * N) = -(M : Int) * (N : Int); rw [Int.neg_mul]
  · show (M : Int) * N = -(M : Int) * -(N : Int); rw [Int.neg_mul_neg]
theorem mg_128 {x : Int} (hx : R127 x) : (mg x).toNat < 340282366920938463463374607431768211456 := by have := mg_lim hx; have := mg_nonneg x; omega
theorem Do_1 (x y : Int) (hx : R127 x) (hy : R127 y) (z : Int) (hz : (if 1 = 1 then x + y else x - y) = z) : PSpec Tryz.prog X 100 [Ln .i64 1, LQ x, LQ y] (addR z) := by
  have hF1 := Good_spec X _ _ (mg_in2 hx) true (formB_q hx)
  have hF2 := Good_spec X _ _ (mg_in2 hy) true (formB_q hy)
  have f1 := From_q X x hx
  have f2 := From_q X y hy
  obtain ⟨s, n, hA, hv, hn⟩ := Sum_any X (decide (x < 0)) (if 1 = 1 then decide (y < 0) else !decide (y < 0)) (mg x).toNat (mg y).toNat (mg_128 hx) (mg_128 hy)
  have hv' : zv s (n : Nat) = z := by
    rw [hv, ← hz]
    first
      | (show zv (decide (x < 0)) _ + zv (decide (y < 0)) _ = x + y; rw [zv_q, zv_q])
      | (show zv (decide (x < 0)) _ + zv (!decide (y < 0)) _ = x - y; rw [zv_not, zv_q, zv_q]; omega)
  have hT := To_spec X s n hn
  by_cases hr : R127 z
  · rw [toR_in hv' hr] at hT
    rw [addR_in hr]
    refine PSpec.intro Tryz.func100 rfl (by kernel_rfl) rfl rfl ?_
    intro C
    ((refine LWP.seq <| rgN <| K.box rfl rfl rfl .plain <| K.box rfl rfl rfl .plain <| K.alloc rfl .plain ?_; refine kas rfl <| RunK.nil <| LWP.seq <| LWP.seq <| rgN <| K.loadAll rfl rfl rfl .plain ?_; refine kca rfl rfl (hF1) <| K.not rfl rfl .plain <| kmv rfl <| K.loadAll rfl rfl rfl (.taken rfl rfl) ?_; refine gca rfl rfl (hF2) rfl rfl <| K.not rfl rfl (.taken rfl rfl) ?_; refine kpf rfl rfl <| kmv rfl <| gmv rfl rfl rfl <| K.gtr rfl rfl (decide_eq_false (by omega)) (.taken rfl rfl) ?_; refine gmv rfl rfl rfl <| RunK.passed rfl rfl rfl <| RunK.passed rfl rfl rfl <| RunK.passed rfl rfl rfl <| K.pickF rfl rfl (.taken rfl rfl) ?_; refine gmv rfl rfl rfl <| RunK.passed rfl rfl rfl <| RunK.passed rfl rfl rfl <| RunK.passed rfl rfl rfl <| K.pickF rfl rfl (.taken rfl rfl) ?_; refine kpf rfl rfl <| RunK.nil <| LWP.condF rfl ?_; refine LWP.skip ?_; refine LWP.seq <| rgN <| K.loadAll rfl rfl rfl .plain ?_; refine kca rfl rfl (f1) <| K.alloc rfl .plain ?_; refine K.storeAll rfl rfl rfl rfl rfl rfl .plain ?_); (refine RunK.nil <| LWP.seq <| rgN <| K.loadAll rfl rfl rfl .plain ?_; refine kca rfl rfl (f2) <| K.alloc rfl .plain ?_; refine K.storeAll rfl rfl rfl rfl rfl rfl .plain ?_; refine RunK.nil <| LWP.seq <| rgN <| K.build rfl rfl (by exact rfl) (by exact rfl) .plain ?_; refine K.alloc rfl .plain ?_; refine K.storeAll rfl rfl rfl rfl rfl rfl .plain ?_; refine RunK.nil <| LWP.seq <| LWP.seq <| rgN <| kmv rfl <| RunK.nil <| LWP.block <| LWP.seq <| rgN <| keq rfl rfl (beq_iff_eq.2 (by omega)) <| kas rfl <| RunK.nil <| LWP.condT rfl ?_; refine rgN <| K.loadAll rfl rfl rfl .plain ?_; refine K.loadAll rfl rfl rfl .plain ?_; refine kca rfl rfl (hA) <| K.storeAll rfl rfl rfl rfl rfl rfl .plain ?_; refine RunK.nil <| LWP.seq <| rgN <| K.loadAll rfl rfl rfl .plain ?_; refine kca rfl rfl (hT) <| kmv rfl <| kex rfl rfl <| kex rfl rfl <| K.alloc rfl .plain ?_); (refine K.storeAll rfl rfl rfl rfl rfl rfl .plain ?_; refine kas rfl <| RunK.nil <| LWP.seq <| LWP.seq <| rgN <| kmv rfl <| K.not rfl rfl .plain <| RunK.nil <| LWP.condF rfl ?_; refine LWP.skip ?_; refine LWP.seq <| rgN <| K.loadAll rfl rfl rfl .plain ?_; refine K.storeAll rfl rfl rfl rfl rfl rfl .plain ?_; refine kas rfl <| RunK.nil <| LWP.ret ?_))
    exact ⟨[_, _], ⟨⟨_, _, rfl, rfl, rfl, .inl ⟨AggT.h, rfl⟩⟩, rfl, trivial⟩, rfl⟩
  · rw [toR_out hv' hr] at hT
    rw [addR_out hr]
    refine PSpec.intro Tryz.func100 rfl (by kernel_rfl) rfl rfl ?_
    intro C
    ((refine LWP.seq <| rgN <| K.box rfl rfl rfl .plain <| K.box rfl rfl rfl .plain <| K.alloc rfl .plain ?_; refine kas rfl <| RunK.nil <| LWP.seq <| LWP.seq <| rgN <| K.loadAll rfl rfl rfl .plain ?_; refine kca rfl rfl (hF1) <| K.not rfl rfl .plain <| kmv rfl <| K.loadAll rfl rfl rfl (.taken rfl rfl) ?_; refine gca rfl rfl (hF2) rfl rfl <| K.not rfl rfl (.taken rfl rfl) ?_; refine kpf rfl rfl <| kmv rfl <| gmv rfl rfl rfl <| K.gtr rfl rfl (decide_eq_false (by omega)) (.taken rfl rfl) ?_; refine gmv rfl rfl rfl <| RunK.passed rfl rfl rfl <| RunK.passed rfl rfl rfl <| RunK.passed rfl rfl rfl <| K.pickF rfl rfl (.taken rfl rfl) ?_; refine gmv rfl rfl rfl <| RunK.passed rfl rfl rfl <| RunK.passed rfl rfl rfl <| RunK.passed rfl rfl rfl <| K.pickF rfl rfl (.taken rfl rfl) ?_; refine kpf rfl rfl <| RunK.nil <| LWP.condF rfl ?_; refine LWP.skip ?_; refine LWP.seq <| rgN <| K.loadAll rfl rfl rfl .plain ?_; refine kca rfl rfl (f1) <| K.alloc rfl .plain ?_; refine K.storeAll rfl rfl rfl rfl rfl rfl .plain ?_); (refine RunK.nil <| LWP.seq <| rgN <| K.loadAll rfl rfl rfl .plain ?_; refine kca rfl rfl (f2) <| K.alloc rfl .plain ?_; refine K.storeAll rfl rfl rfl rfl rfl rfl .plain ?_; refine RunK.nil <| LWP.seq <| rgN <| K.build rfl rfl (by exact rfl) (by exact rfl) .plain ?_; refine K.alloc rfl .plain ?_; refine K.storeAll rfl rfl rfl rfl rfl rfl .plain ?_; refine RunK.nil <| LWP.seq <| LWP.seq <| rgN <| kmv rfl <| RunK.nil <| LWP.block <| LWP.seq <| rgN <| keq rfl rfl (beq_iff_eq.2 (by omega)) <| kas rfl <| RunK.nil <| LWP.condT rfl ?_; refine rgN <| K.loadAll rfl rfl rfl .plain ?_; refine K.loadAll rfl rfl rfl .plain ?_; refine kca rfl rfl (hA) <| K.storeAll rfl rfl rfl rfl rfl rfl .plain ?_; refine RunK.nil <| LWP.seq <| rgN <| K.loadAll rfl rfl rfl .plain ?_; refine kca rfl rfl (hT) <| kmv rfl <| kex rfl rfl <| kex rfl rfl <| K.alloc rfl .plain ?_); (refine K.storeAll rfl rfl rfl rfl rfl rfl .plain ?_; refine kas rfl <| RunK.nil <| LWP.seq <| LWP.seq <| rgN <| kmv rfl <| K.not rfl rfl .plain <| RunK.nil <| LWP.condT rfl ?_; refine LWP.seq <| rgN <| K.build rfl rfl (by exact rfl) (by exact nl3 rfl rfl rfl rfl) .plain ?_; refine K.storeAll rfl rfl rfl rfl rfl rfl .plain ?_; refine kas rfl <| RunK.nil <| LWP.ret ?_))
    exact ⟨[_, _], ⟨⟨_, _, rfl, rfl, rfl, .inl ⟨AggT.h, rfl⟩⟩, rfl, trivial⟩, rfl⟩
theorem Do_3 (x y : Int) (hx : R127 x) (hy : R127 y) : PSpec Tryz.prog X 100 [Ln .i64 3, LQ x, LQ y] (addR (x * y)) := by
  have hF1 := Good_spec X _ _ (mg_in2 hx) true (formB_q hx)
  have hF2 := Good_spec X _ _ (mg_in2 hy) true (formB_q hy)
  have f1 := From_q X x hx
  have f2 := From_q X y hy
  have e16 : (256 : Nat) ^ 16 = 340282366920938463463374607431768211456 := by decide
  have hA := Times_spec X (decide (x < 0)) (decide (y < 0)) _ rfl (mg x).toNat (mg y).toNat (by rw [e16]; exact mg_128 hx) (by rw [e16]; exact mg_128 hy)
  have hv : zv (decide (x < 0) != decide (y < 0)) (((mg x).toNat * (mg y).toNat : Nat) : Int) = x * y := by rw [zv_prod, zv_q, zv_q]
  have hn : (mg x).toNat * (mg y).toNat < T40 := by
    refine Nat.lt_of_lt_of_le (Nat.mul_lt_mul'' (mg_128 hx) (mg_128 hy)) ?_
    unfold T40
    decide
  have hT := To_spec X (decide (x < 0) != decide (y < 0)) _ hn
  by_cases hr : R127 (x * y)
  · rw [toR_in hv hr] at hT
    rw [addR_in hr]
    refine PSpec.intro Tryz.func100 rfl (by kernel_rfl) rfl rfl ?_
    intro C
    ((refine LWP.seq <| rgN <| K.box rfl rfl rfl .plain <| K.box rfl rfl rfl .plain <| K.alloc rfl .plain ?_; refine kas rfl <| RunK.nil <| LWP.seq <| LWP.seq <| rgN <| K.loadAll rfl rfl rfl .plain ?_; refine kca rfl rfl (hF1) <| K.not rfl rfl .plain <| kmv rfl <| K.loadAll rfl rfl rfl (.taken rfl rfl) ?_; refine gca rfl rfl (hF2) rfl rfl <| K.not rfl rfl (.taken rfl rfl) ?_; refine kpf rfl rfl <| kmv rfl <| gmv rfl rfl rfl <| K.gtr rfl rfl (decide_eq_false (by omega)) (.taken rfl rfl) ?_; refine gmv rfl rfl rfl <| RunK.passed rfl rfl rfl <| RunK.passed rfl rfl rfl <| RunK.passed rfl rfl rfl <| K.pickF rfl rfl (.taken rfl rfl) ?_; refine gmv rfl rfl rfl <| RunK.passed rfl rfl rfl <| RunK.passed rfl rfl rfl <| RunK.passed rfl rfl rfl <| K.pickF rfl rfl (.taken rfl rfl) ?_; refine kpf rfl rfl <| RunK.nil <| LWP.condF rfl ?_; refine LWP.skip ?_; refine LWP.seq <| rgN <| K.loadAll rfl rfl rfl .plain ?_; refine kca rfl rfl (f1) <| K.alloc rfl .plain ?_; refine K.storeAll rfl rfl rfl rfl rfl rfl .plain ?_); (refine RunK.nil <| LWP.seq <| rgN <| K.loadAll rfl rfl rfl .plain ?_; refine kca rfl rfl (f2) <| K.alloc rfl .plain ?_; refine K.storeAll rfl rfl rfl rfl rfl rfl .plain ?_; refine RunK.nil <| LWP.seq <| rgN <| K.build rfl rfl (by exact rfl) (by exact rfl) .plain ?_; refine K.alloc rfl .plain ?_; refine K.storeAll rfl rfl rfl rfl rfl rfl .plain ?_; refine RunK.nil <| LWP.seq <| LWP.seq <| rgN <| kmv rfl <| RunK.nil <| LWP.block <| LWP.seq <| rgN <| keq rfl rfl (beq_eq_false_iff_ne.2 (by omega)) <| kas rfl <| RunK.nil <| LWP.condF rfl ?_; refine LWP.seq <| rgN <| keq rfl rfl (beq_eq_false_iff_ne.2 (by omega)) <| kas rfl <| RunK.nil <| LWP.condF rfl ?_; refine LWP.seq <| rgN <| keq rfl rfl (beq_iff_eq.2 (by omega)) <| kas rfl <| RunK.nil <| LWP.condT rfl ?_; refine rgN <| K.loadAll rfl rfl rfl .plain ?_; refine K.loadAll rfl rfl rfl .plain ?_; refine kca rfl rfl (hA) <| K.storeAll rfl rfl rfl rfl rfl rfl .plain ?_); (refine RunK.nil <| LWP.seq <| rgN <| K.loadAll rfl rfl rfl .plain ?_; refine kca rfl rfl (hT) <| kmv rfl <| kex rfl rfl <| kex rfl rfl <| K.alloc rfl .plain ?_; refine K.storeAll rfl rfl rfl rfl rfl rfl .plain ?_; refine kas rfl <| RunK.nil <| LWP.seq <| LWP.seq <| rgN <| kmv rfl <| K.not rfl rfl .plain <| RunK.nil <| LWP.condF rfl ?_; refine LWP.skip ?_; refine LWP.seq <| rgN <| K.loadAll rfl rfl rfl .plain ?_; refine K.storeAll rfl rfl rfl rfl rfl rfl .plain ?_; refine kas rfl <| RunK.nil <| LWP.ret ?_))
    exact ⟨[_, _], ⟨⟨_, _, rfl, rfl, rfl, .inl ⟨AggT.h, rfl⟩⟩, rfl, trivial⟩, rfl⟩
  · rw [toR_out hv hr] at hT
    rw [addR_out hr]
    refine PSpec.intro Tryz.func100 rfl (by kernel_rfl) rfl rfl ?_
    intro C
    ((refine LWP.seq <| rgN <| K.box rfl rfl rfl .plain <| K.box rfl rfl rfl .plain <| K.alloc rfl .plain ?_; refine kas rfl <| RunK.nil <| LWP.seq <| LWP.seq <| rgN <| K.loadAll rfl rfl rfl .plain ?_; refine kca rfl rfl (hF1) <| K.not rfl rfl .plain <| kmv rfl <| K.loadAll rfl rfl rfl (.taken rfl rfl) ?_; refine gca rfl rfl (hF2) rfl rfl <| K.not rfl rfl (.taken rfl rfl) ?_; refine kpf rfl rfl <| kmv rfl <| gmv rfl rfl rfl <| K.gtr rfl rfl (decide_eq_false (by omega)) (.taken rfl rfl) ?_; refine gmv rfl rfl rfl <| RunK.passed rfl rfl rfl <| RunK.passed rfl rfl rfl <| RunK.passed rfl rfl rfl <| K.pickF rfl rfl (.taken rfl rfl) ?_; refine gmv rfl rfl rfl <| RunK.passed rfl rfl rfl <| RunK.passed rfl rfl rfl <| RunK.passed rfl rfl rfl <| K.pickF rfl rfl (.taken rfl rfl) ?_; refine kpf rfl rfl <| RunK.nil <| LWP.condF rfl ?_; refine LWP.skip ?_; refine LWP.seq <| rgN <| K.loadAll rfl rfl rfl .plain ?_; refine kca rfl rfl (f1) <| K.alloc rfl .plain ?_; refine K.storeAll rfl rfl rfl rfl rfl rfl .plain ?_); (refine RunK.nil <| LWP.seq <| rgN <| K.loadAll rfl rfl rfl .plain ?_; refine kca rfl rfl (f2) <| K.alloc rfl .plain ?_; refine K.storeAll rfl rfl rfl rfl rfl rfl .plain ?_; refine RunK.nil <| LWP.seq <| rgN <| K.build rfl rfl (by exact rfl) (by exact rfl) .plain ?_; refine K.alloc rfl .plain ?_; refine K.storeAll rfl rfl rfl rfl rfl rfl .plain ?_; refine RunK.nil <| LWP.seq <| LWP.seq <| rgN <| kmv rfl <| RunK.nil <| LWP.block <| LWP.seq <| rgN <| keq rfl rfl (beq_eq_false_iff_ne.2 (by omega)) <| kas rfl <| RunK.nil <| LWP.condF rfl ?_; refine LWP.seq <| rgN <| keq rfl rfl (beq_eq_false_iff_ne.2 (by omega)) <| kas rfl <| RunK.nil <| LWP.condF rfl ?_; refine LWP.seq <| rgN <| keq rfl rfl (beq_iff_eq.2 (by omega)) <| kas rfl <| RunK.nil <| LWP.condT rfl ?_; refine rgN <| K.loadAll rfl rfl rfl .plain ?_; refine K.loadAll rfl rfl rfl .plain ?_; refine kca rfl rfl (hA) <| K.storeAll rfl rfl rfl rfl rfl rfl .plain ?_); (refine RunK.nil <| LWP.seq <| rgN <| K.loadAll rfl rfl rfl .plain ?_; refine kca rfl rfl (hT) <| kmv rfl <| kex rfl rfl <| kex rfl rfl <| K.alloc rfl .plain ?_; refine K.storeAll rfl rfl rfl rfl rfl rfl .plain ?_; refine kas rfl <| RunK.nil <| LWP.seq <| LWP.seq <| rgN <| kmv rfl <| K.not rfl rfl .plain <| RunK.nil <| LWP.condT rfl ?_; refine LWP.seq <| rgN <| K.build rfl rfl (by exact rfl) (by exact nl3 rfl rfl rfl rfl) .plain ?_; refine K.storeAll rfl rfl rfl rfl rfl rfl .plain ?_; refine kas rfl <| RunK.nil <| LWP.ret ?_))
    exact ⟨[_, _], ⟨⟨_, _, rfl, rfl, rfl, .inl ⟨AggT.h, rfl⟩⟩, rfl, trivial⟩, rfl⟩
end Go.Proofs.YtimpjdbhalnofaaGreatDoor
end
section
namespace Go.Proofs.YtimpjdbhalnofaaGreatDoor
open Go Go.Lg Go.Lg.Arith Go.Lg.Dec Go.Lg.Dig Go.RowKit
variable (X : Nat → Option Obj)
theorem Do_bad (op : Int) (a b : Bool) (M N : Int) (hM : In2 M) (hN : In2 N) (hf : (formB a M && formB b N) = false) : PSpec Tryz.prog X 100 [Ln .i64 op, LI a M, LI b N] (.tup [S0, Sn .i64 1]) := by
  have hF1 := Good_spec X a M hM _ rfl
  have hF2 := Good_spec X b N hN _ rfl
  refine PSpec.intro Tryz.func100 rfl (by kernel_rfl) rfl rfl ?_
  intro C
  by_cases h1 : formB a M = true
  · have h2 : formB b N = false := by rw [h1] at hf; simpa using hf
    rw [h1] at hF1
    rw [h2] at hF2
    (refine LWP.seq <| rgN <| K.box rfl rfl rfl .plain <| K.box rfl rfl rfl .plain <| K.alloc rfl .plain ?_; refine kas rfl <| RunK.nil <| LWP.seq <| LWP.seq <| rgN <| K.loadAll rfl rfl rfl .plain ?_; refine kca rfl rfl (hF1) <| K.not rfl rfl .plain <| kmv rfl <| K.loadAll rfl rfl rfl (.taken rfl rfl) ?_; refine gca rfl rfl (hF2) rfl rfl <| K.not rfl rfl (.taken rfl rfl) ?_; refine kpf rfl rfl <| kmv rfl <| RunK.passed rfl rfl rfl <| RunK.passed rfl rfl rfl <| RunK.passed rfl rfl rfl <| RunK.passedU rfl rfl <| RunK.passedU rfl rfl <| RunK.passedU rfl rfl <| RunK.passed rfl rfl rfl <| RunK.passed rfl rfl rfl <| RunK.passedU rfl rfl <| RunK.passedU rfl rfl <| RunK.passedU rfl rfl <| RunK.passed rfl rfl rfl ?_; refine kpt rfl rfl <| RunK.nil <| LWP.condT rfl ?_; refine LWP.seq <| rgN <| K.build rfl rfl (by exact rfl) (by exact nl3 rfl rfl rfl rfl) .plain ?_; refine K.storeAll rfl rfl rfl rfl rfl rfl .plain ?_; refine kas rfl <| RunK.nil <| LWP.ret ?_)
    exact ⟨[_, _], ⟨⟨_, _, rfl, rfl, rfl, .inl ⟨AggT.h, rfl⟩⟩, rfl, trivial⟩, rfl⟩
  · have h1 : formB a M = false := by simpa using h1
    rw [h1] at hF1
    (refine LWP.seq <| rgN <| K.box rfl rfl rfl .plain <| K.box rfl rfl rfl .plain <| K.alloc rfl .plain ?_; refine kas rfl <| RunK.nil <| LWP.seq <| LWP.seq <| rgN <| K.loadAll rfl rfl rfl .plain ?_; refine kca rfl rfl (hF1) <| K.not rfl rfl .plain <| kmv rfl <| RunK.passed rfl rfl rfl <| RunK.passed rfl rfl rfl <| RunK.passed rfl rfl rfl <| kpt rfl rfl <| kmv rfl <| RunK.passed rfl rfl rfl <| RunK.passed rfl rfl rfl <| RunK.passed rfl rfl rfl <| RunK.passedU rfl rfl <| RunK.passedU rfl rfl <| RunK.passedU rfl rfl ?_; refine RunK.passed rfl rfl rfl <| RunK.passed rfl rfl rfl <| RunK.passedU rfl rfl <| RunK.passedU rfl rfl <| RunK.passedU rfl rfl <| RunK.passed rfl rfl rfl <| kpt rfl rfl <| RunK.nil <| LWP.condT rfl ?_; refine LWP.seq <| rgN <| K.build rfl rfl (by exact rfl) (by exact nl3 rfl rfl rfl rfl) .plain ?_; refine K.storeAll rfl rfl rfl rfl rfl rfl .plain ?_; refine kas rfl <| RunK.nil <| LWP.ret ?_)
    exact ⟨[_, _], ⟨⟨_, _, rfl, rfl, rfl, .inl ⟨AggT.h, rfl⟩⟩, rfl, trivial⟩, rfl⟩
theorem Do_2 (x y : Int) (hx : R127 x) (hy : R127 y) (z : Int) (hz : (if 2 = 1 then x + y else x - y) = z) : PSpec Tryz.prog X 100 [Ln .i64 2, LQ x, LQ y] (addR z) := by
  have hF1 := Good_spec X _ _ (mg_in2 hx) true (formB_q hx)
  have hF2 := Good_spec X _ _ (mg_in2 hy) true (formB_q hy)
  have f1 := From_q X x hx
  have f2 := From_q X y hy
  obtain ⟨s, n, hA, hv, hn⟩ := Sum_any X (decide (x < 0)) (if 2 = 1 then decide (y < 0) else !decide (y < 0)) (mg x).toNat (mg y).toNat (mg_128 hx) (mg_128 hy)
  have hv' : zv s (n : Nat) = z := by
    rw [hv, ← hz]
    first
      | (show zv (decide (x < 0)) _ + zv (decide (y < 0)) _ = x + y; rw [zv_q, zv_q])
      | (show zv (decide (x < 0)) _ + zv (!decide (y < 0)) _ = x - y; rw [zv_not, zv_q, zv_q]; omega)
  have hT := To_spec X s n hn
  by_cases hr : R127 z
  · rw [toR_in hv' hr] at hT
    rw [addR_in hr]
    refine PSpec.intro Tryz.func100 rfl (by kernel_rfl) rfl rfl ?_
    intro C
    ((refine LWP.seq <| rgN <| K.box rfl rfl rfl .plain <| K.box rfl rfl rfl .plain <| K.alloc rfl .plain ?_; refine kas rfl <| RunK.nil <| LWP.seq <| LWP.seq <| rgN <| K.loadAll rfl rfl rfl .plain ?_; refine kca rfl rfl (hF1) <| K.not rfl rfl .plain <| kmv rfl <| K.loadAll rfl rfl rfl (.taken rfl rfl) ?_; refine gca rfl rfl (hF2) rfl rfl <| K.not rfl rfl (.taken rfl rfl) ?_; refine kpf rfl rfl <| kmv rfl <| gmv rfl rfl rfl <| K.gtr rfl rfl (decide_eq_false (by omega)) (.taken rfl rfl) ?_; refine gmv rfl rfl rfl <| RunK.passed rfl rfl rfl <| RunK.passed rfl rfl rfl <| RunK.passed rfl rfl rfl <| K.pickF rfl rfl (.taken rfl rfl) ?_; refine gmv rfl rfl rfl <| RunK.passed rfl rfl rfl <| RunK.passed rfl rfl rfl <| RunK.passed rfl rfl rfl <| K.pickF rfl rfl (.taken rfl rfl) ?_; refine kpf rfl rfl <| RunK.nil <| LWP.condF rfl ?_; refine LWP.skip ?_; refine LWP.seq <| rgN <| K.loadAll rfl rfl rfl .plain ?_; refine kca rfl rfl (f1) <| K.alloc rfl .plain ?_; refine K.storeAll rfl rfl rfl rfl rfl rfl .plain ?_); (refine RunK.nil <| LWP.seq <| rgN <| K.loadAll rfl rfl rfl .plain ?_; refine kca rfl rfl (f2) <| K.alloc rfl .plain ?_; refine K.storeAll rfl rfl rfl rfl rfl rfl .plain ?_; refine RunK.nil <| LWP.seq <| rgN <| K.build rfl rfl (by exact rfl) (by exact rfl) .plain ?_; refine K.alloc rfl .plain ?_; refine K.storeAll rfl rfl rfl rfl rfl rfl .plain ?_; refine RunK.nil <| LWP.seq <| LWP.seq <| rgN <| kmv rfl <| RunK.nil <| LWP.block <| LWP.seq <| rgN <| keq rfl rfl (beq_eq_false_iff_ne.2 (by omega)) <| kas rfl <| RunK.nil <| LWP.condF rfl ?_; refine LWP.seq <| rgN <| keq rfl rfl (beq_iff_eq.2 (by omega)) <| kas rfl <| RunK.nil <| LWP.condT rfl ?_; refine LWP.seq <| rgN <| kfa rfl rfl ?_; refine kl1 rfl rfl rfl <| K.not rfl rfl .plain <| kfa rfl rfl ?_; refine K.storeOne rfl rfl rfl rfl num_blt0 num_sign .plain <| RunK.nil <| rgN <| K.loadAll rfl rfl rfl .plain ?_; refine K.loadAll rfl rfl rfl .plain ?_); (refine kca rfl rfl (hA) <| K.storeAll rfl rfl rfl rfl rfl rfl .plain ?_; refine RunK.nil <| LWP.seq <| rgN <| K.loadAll rfl rfl rfl .plain ?_; refine kca rfl rfl (hT) <| kmv rfl <| kex rfl rfl <| kex rfl rfl <| K.alloc rfl .plain ?_; refine K.storeAll rfl rfl rfl rfl rfl rfl .plain ?_; refine kas rfl <| RunK.nil <| LWP.seq <| LWP.seq <| rgN <| kmv rfl <| K.not rfl rfl .plain <| RunK.nil <| LWP.condF rfl ?_; refine LWP.skip ?_; refine LWP.seq <| rgN <| K.loadAll rfl rfl rfl .plain ?_; refine K.storeAll rfl rfl rfl rfl rfl rfl .plain ?_; refine kas rfl <| RunK.nil <| LWP.ret ?_))
    exact ⟨[_, _], ⟨⟨_, _, rfl, rfl, rfl, .inl ⟨AggT.h, rfl⟩⟩, rfl, trivial⟩, rfl⟩
  · rw [toR_out hv' hr] at hT
    rw [addR_out hr]
    refine PSpec.intro Tryz.func100 rfl (by kernel_rfl) rfl rfl ?_
    intro C
    ((refine LWP.seq <| rgN <| K.box rfl rfl rfl .plain <| K.box rfl rfl rfl .plain <| K.alloc rfl .plain ?_; refine kas rfl <| RunK.nil <| LWP.seq <| LWP.seq <| rgN <| K.loadAll rfl rfl rfl .plain ?_; refine kca rfl rfl (hF1) <| K.not rfl rfl .plain <| kmv rfl <| K.loadAll rfl rfl rfl (.taken rfl rfl) ?_; refine gca rfl rfl (hF2) rfl rfl <| K.not rfl rfl (.taken rfl rfl) ?_; refine kpf rfl rfl <| kmv rfl <| gmv rfl rfl rfl <| K.gtr rfl rfl (decide_eq_false (by omega)) (.taken rfl rfl) ?_; refine gmv rfl rfl rfl <| RunK.passed rfl rfl rfl <| RunK.passed rfl rfl rfl <| RunK.passed rfl rfl rfl <| K.pickF rfl rfl (.taken rfl rfl) ?_; refine gmv rfl rfl rfl <| RunK.passed rfl rfl rfl <| RunK.passed rfl rfl rfl <| RunK.passed rfl rfl rfl <| K.pickF rfl rfl (.taken rfl rfl) ?_; refine kpf rfl rfl <| RunK.nil <| LWP.condF rfl ?_; refine LWP.skip ?_; refine LWP.seq <| rgN <| K.loadAll rfl rfl rfl .plain ?_; refine kca rfl rfl (f1) <| K.alloc rfl .plain ?_; refine K.storeAll rfl rfl rfl rfl rfl rfl .plain ?_); (refine RunK.nil <| LWP.seq <| rgN <| K.loadAll rfl rfl rfl .plain ?_; refine kca rfl rfl (f2) <| K.alloc rfl .plain ?_; refine K.storeAll rfl rfl rfl rfl rfl rfl .plain ?_; refine RunK.nil <| LWP.seq <| rgN <| K.build rfl rfl (by exact rfl) (by exact rfl) .plain ?_; refine K.alloc rfl .plain ?_; refine K.storeAll rfl rfl rfl rfl rfl rfl .plain ?_; refine RunK.nil <| LWP.seq <| LWP.seq <| rgN <| kmv rfl <| RunK.nil <| LWP.block <| LWP.seq <| rgN <| keq rfl rfl (beq_eq_false_iff_ne.2 (by omega)) <| kas rfl <| RunK.nil <| LWP.condF rfl ?_; refine LWP.seq <| rgN <| keq rfl rfl (beq_iff_eq.2 (by omega)) <| kas rfl <| RunK.nil <| LWP.condT rfl ?_; refine LWP.seq <| rgN <| kfa rfl rfl ?_; refine kl1 rfl rfl rfl <| K.not rfl rfl .plain <| kfa rfl rfl ?_; refine K.storeOne rfl rfl rfl rfl num_blt0 num_sign .plain <| RunK.nil <| rgN <| K.loadAll rfl rfl rfl .plain ?_; refine K.loadAll rfl rfl rfl .plain ?_); (refine kca rfl rfl (hA) <| K.storeAll rfl rfl rfl rfl rfl rfl .plain ?_; refine RunK.nil <| LWP.seq <| rgN <| K.loadAll rfl rfl rfl .plain ?_; refine kca rfl rfl (hT) <| kmv rfl <| kex rfl rfl <| kex rfl rfl <| K.alloc rfl .plain ?_; refine K.storeAll rfl rfl rfl rfl rfl rfl .plain ?_; refine kas rfl <| RunK.nil <| LWP.seq <| LWP.seq <| rgN <| kmv rfl <| K.not rfl rfl .plain <| RunK.nil <| LWP.condT rfl ?_; refine LWP.seq <| rgN <| K.build rfl rfl (by exact rfl) (by exact nl3 rfl rfl rfl rfl) .plain ?_; refine K.storeAll rfl rfl rfl rfl rfl rfl .plain ?_; refine kas rfl <| RunK.nil <| LWP.ret ?_))
    exact ⟨[_, _], ⟨⟨_, _, rfl, rfl, rfl, .inl ⟨AggT.h, rfl⟩⟩, rfl, trivial⟩, rfl⟩
theorem Do_zero4 (x y : Int) (hx : R127 x) (hy : R127 y) (h0 : y = 0) : PSpec Tryz.prog X 100 [Ln .i64 4, LQ x, LQ y] (.tup [S0, Sn .i64 1]) := by
  have hF1 := Good_spec X _ _ (mg_in2 hx) true (formB_q hx)
  have hF2 := Good_spec X _ _ (mg_in2 hy) true (formB_q hy)
  have m0 : mg y = 0 := by subst h0; rfl
  refine PSpec.intro Tryz.func100 rfl (by kernel_rfl) rfl rfl ?_
  intro C
  (refine LWP.seq <| rgN <| K.box rfl rfl rfl .plain <| K.box rfl rfl rfl .plain <| K.alloc rfl .plain ?_; refine kas rfl <| RunK.nil <| LWP.seq <| LWP.seq <| rgN <| K.loadAll rfl rfl rfl .plain ?_; refine kca rfl rfl (hF1) <| K.not rfl rfl .plain <| kmv rfl <| K.loadAll rfl rfl rfl (.taken rfl rfl) ?_; refine gca rfl rfl (hF2) rfl rfl <| K.not rfl rfl (.taken rfl rfl) ?_; refine kpf rfl rfl <| kmv rfl <| gmv rfl rfl rfl <| K.gtr rfl rfl (decide_eq_true (by omega)) (.taken rfl rfl) ?_; refine gmv rfl rfl rfl <| K.fieldAddr rfl rfl (.taken rfl rfl) ?_; refine K.loadOne rfl rfl rfl (.taken rfl rfl) ?_; refine K.eql rfl rfl (beq_iff_eq.2 (by omega)) (.taken rfl rfl) ?_; refine K.pickT rfl rfl (.taken rfl rfl) ?_; refine gmv rfl rfl rfl <| K.fieldAddr rfl rfl (.taken rfl rfl) ?_; refine K.loadOne rfl rfl rfl (.taken rfl rfl) ?_; refine K.eql rfl rfl (beq_iff_eq.2 (by omega)) (.taken rfl rfl) ?_; refine K.pickT rfl rfl (.taken rfl rfl) ?_; refine kpf rfl rfl <| RunK.nil <| LWP.condT rfl ?_; refine LWP.seq <| rgN <| K.build rfl rfl (by exact rfl) (by exact nl3 rfl rfl rfl rfl) .plain ?_; refine K.storeAll rfl rfl rfl rfl rfl rfl .plain ?_; refine kas rfl <| RunK.nil <| LWP.ret ?_)
  exact ⟨[_, _], ⟨⟨_, _, rfl, rfl, rfl, .inl ⟨AggT.h, rfl⟩⟩, rfl, trivial⟩, rfl⟩
theorem Do_4 (x y : Int) (hx : R127 x) (hy : R127 y) (h0 : y ≠ 0) (z : Int) (hz : (if 4 = 4 then x.tdiv y else x.tmod y) = z) (hr : R127 z) : PSpec Tryz.prog X 100 [Ln .i64 4, LQ x, LQ y] (.tup [SQ z, Sn .i64 0]) := by
  have hF1 := Good_spec X _ _ (mg_in2 hx) true (formB_q hx)
  have hF2 := Good_spec X _ _ (mg_in2 hy) true (formB_q hy)
  have f1 := From_q X x hx
  have f2 := From_q X y hy
  have m0 := mg_zero h0
  have hx0 := mg_nonneg x
  have b1 := mg_128 hx
  have b2 := mg_128 hy
  obtain ⟨q1, q2⟩ := zv_quo x y h0
  have hA := Parted_spec X (decide (x < 0)) (decide (y < 0)) (mg x).toNat (mg y).toNat (lim40 b1) (by omega) b2
  have e1 : (((mg x).toNat / (mg y).toNat : Nat) : Int) = mg x / mg y := by rw [Int.natCast_ediv, mg_nat, mg_nat]
  have e2 : (((mg x).toNat % (mg y).toNat : Nat) : Int) = mg x % mg y := by rw [Int.natCast_emod, mg_nat, mg_nat]
  have l1 : (mg x).toNat / (mg y).toNat ≤ (mg x).toNat := Nat.div_le_self _ _
  have l2 : (mg x).toNat % (mg y).toNat < (mg y).toNat := Nat.mod_lt _ (by omega)
  have hT := To_spec X (if 4 = 4 then decide (x < 0) != decide (y < 0) else decide (x < 0)) (if 4 = 4 then (mg x).toNat / (mg y).toNat else (mg x).toNat % (mg y).toNat) (lim40 (by split <;> omega))
  have hv : zv (if 4 = 4 then decide (x < 0) != decide (y < 0) else decide (x < 0)) ((if 4 = 4 then (mg x).toNat / (mg y).toNat else (mg x).toNat % (mg y).toNat : Nat) : Int) = z := by
    rw [← hz]
    first
      | (show zv (decide (x < 0) != decide (y < 0)) (((mg x).toNat / (mg y).toNat : Nat) : Int) = x.tdiv y; rw [e1]; exact q1)
      | (show zv (decide (x < 0)) (((mg x).toNat % (mg y).toNat : Nat) : Int) = x.tmod y; rw [e2]; exact q2)
  rw [toR_in hv hr] at hT
  refine PSpec.intro Tryz.func100 rfl (by kernel_rfl) rfl rfl ?_
  intro C
  by_cases zh : mg y / 18446744073709551616 = 0
  · ((refine LWP.seq <| rgN <| K.box rfl rfl rfl .plain <| K.box rfl rfl rfl .plain <| K.alloc rfl .plain ?_; refine kas rfl <| RunK.nil <| LWP.seq <| LWP.seq <| rgN <| K.loadAll rfl rfl rfl .plain ?_; refine kca rfl rfl (hF1) <| K.not rfl rfl .plain <| kmv rfl <| K.loadAll rfl rfl rfl (.taken rfl rfl) ?_; refine gca rfl rfl (hF2) rfl rfl <| K.not rfl rfl (.taken rfl rfl) ?_; refine kpf rfl rfl <| kmv rfl <| gmv rfl rfl rfl <| K.gtr rfl rfl (decide_eq_true (by omega)) (.taken rfl rfl) ?_; refine gmv rfl rfl rfl <| K.fieldAddr rfl rfl (.taken rfl rfl) ?_; refine K.loadOne rfl rfl rfl (.taken rfl rfl) ?_; refine K.eql rfl rfl (beq_iff_eq.2 (by omega)) (.taken rfl rfl) ?_; refine K.pickT rfl rfl (.taken rfl rfl) ?_; refine gmv rfl rfl rfl <| K.fieldAddr rfl rfl (.taken rfl rfl) ?_; refine K.loadOne rfl rfl rfl (.taken rfl rfl) ?_; refine K.eql rfl rfl (beq_eq_false_iff_ne.2 (by omega)) (.taken rfl rfl) ?_); (refine K.pickT rfl rfl (.taken rfl rfl) ?_; refine kpf rfl rfl <| RunK.nil <| LWP.condF rfl ?_; refine LWP.skip ?_; refine LWP.seq <| rgN <| K.loadAll rfl rfl rfl .plain ?_; refine kca rfl rfl (f1) <| K.alloc rfl .plain ?_; refine K.storeAll rfl rfl rfl rfl rfl rfl .plain ?_; refine RunK.nil <| LWP.seq <| rgN <| K.loadAll rfl rfl rfl .plain ?_; refine kca rfl rfl (f2) <| K.alloc rfl .plain ?_; refine K.storeAll rfl rfl rfl rfl rfl rfl .plain ?_; refine RunK.nil <| LWP.seq <| rgN <| K.build rfl rfl (by exact rfl) (by exact rfl) .plain ?_; refine K.alloc rfl .plain ?_; refine K.storeAll rfl rfl rfl rfl rfl rfl .plain ?_); (refine RunK.nil <| LWP.seq <| LWP.seq <| rgN <| kmv rfl <| RunK.nil <| LWP.block <| LWP.seq <| rgN <| keq rfl rfl (beq_eq_false_iff_ne.2 (by omega)) <| kas rfl <| RunK.nil <| LWP.condF rfl ?_; refine LWP.seq <| rgN <| keq rfl rfl (beq_eq_false_iff_ne.2 (by omega)) <| kas rfl <| RunK.nil <| LWP.condF rfl ?_; refine LWP.seq <| rgN <| keq rfl rfl (beq_eq_false_iff_ne.2 (by omega)) <| kas rfl <| RunK.nil <| LWP.condF rfl ?_; refine LWP.seq <| rgN <| K.loadAll rfl rfl rfl .plain ?_; refine K.loadAll rfl rfl rfl .plain ?_; refine kca rfl rfl (hA) <| kmv rfl <| kex rfl rfl <| kex rfl rfl <| K.alloc rfl .plain ?_; refine K.alloc rfl .plain ?_; refine K.storeAll rfl rfl rfl rfl rfl rfl .plain ?_; refine K.storeAll rfl rfl rfl rfl rfl rfl .plain ?_; refine RunK.nil <| LWP.seq <| rgN <| K.loadAll rfl rfl rfl .plain ?_; refine K.storeAll rfl rfl rfl rfl rfl rfl .plain ?_; refine RunK.nil <| LWP.seq <| rgN <| kfa rfl rfl ?_); (refine kl1 rfl rfl rfl <| kfa rfl rfl ?_; refine kl1 rfl rfl rfl <| K.neqB rfl rfl rfl .plain <| kfa rfl rfl ?_; refine K.storeOne rfl rfl rfl rfl num_blt0 num_sign .plain <| RunK.nil <| LWP.seq <| rgN <| kmv rfl <| keq rfl rfl (beq_eq_false_iff_ne.2 (by omega)) <| RunK.nil <| LWP.condF rfl ?_; refine LWP.skip ?_; refine LWP.seq <| rgN <| K.loadAll rfl rfl rfl .plain ?_; refine kca rfl rfl (hT) <| kmv rfl <| kex rfl rfl <| kex rfl rfl <| K.alloc rfl .plain ?_; refine K.storeAll rfl rfl rfl rfl rfl rfl .plain ?_; refine kas rfl <| RunK.nil <| LWP.seq <| LWP.seq <| rgN <| kmv rfl <| K.not rfl rfl .plain <| RunK.nil <| LWP.condF rfl ?_; refine LWP.skip ?_; refine LWP.seq <| rgN <| K.loadAll rfl rfl rfl .plain ?_; refine K.storeAll rfl rfl rfl rfl rfl rfl .plain ?_; refine kas rfl <| RunK.nil <| LWP.ret ?_))
    exact ⟨[_, _], ⟨⟨_, _, rfl, rfl, rfl, .inl ⟨AggT.h, rfl⟩⟩, rfl, trivial⟩, rfl⟩
  · ((refine LWP.seq <| rgN <| K.box rfl rfl rfl .plain <| K.box rfl rfl rfl .plain <| K.alloc rfl .plain ?_; refine kas rfl <| RunK.nil <| LWP.seq <| LWP.seq <| rgN <| K.loadAll rfl rfl rfl .plain ?_; refine kca rfl rfl (hF1) <| K.not rfl rfl .plain <| kmv rfl <| K.loadAll rfl rfl rfl (.taken rfl rfl) ?_; refine gca rfl rfl (hF2) rfl rfl <| K.not rfl rfl (.taken rfl rfl) ?_; refine kpf rfl rfl <| kmv rfl <| gmv rfl rfl rfl <| K.gtr rfl rfl (decide_eq_true (by omega)) (.taken rfl rfl) ?_; refine gmv rfl rfl rfl <| K.fieldAddr rfl rfl (.taken rfl rfl) ?_; refine K.loadOne rfl rfl rfl (.taken rfl rfl) ?_; refine K.eql rfl rfl (beq_eq_false_iff_ne.2 (by omega)) (.taken rfl rfl) ?_; refine K.pickT rfl rfl (.taken rfl rfl) ?_; refine gmv rfl rfl rfl <| RunK.passed rfl rfl rfl <| RunK.passed rfl rfl rfl <| RunK.passed rfl rfl rfl <| K.pickF rfl rfl (.taken rfl rfl) ?_; refine kpf rfl rfl <| RunK.nil <| LWP.condF rfl ?_; refine LWP.skip ?_); (refine LWP.seq <| rgN <| K.loadAll rfl rfl rfl .plain ?_; refine kca rfl rfl (f1) <| K.alloc rfl .plain ?_; refine K.storeAll rfl rfl rfl rfl rfl rfl .plain ?_; refine RunK.nil <| LWP.seq <| rgN <| K.loadAll rfl rfl rfl .plain ?_; refine kca rfl rfl (f2) <| K.alloc rfl .plain ?_; refine K.storeAll rfl rfl rfl rfl rfl rfl .plain ?_; refine RunK.nil <| LWP.seq <| rgN <| K.build rfl rfl (by exact rfl) (by exact rfl) .plain ?_; refine K.alloc rfl .plain ?_; refine K.storeAll rfl rfl rfl rfl rfl rfl .plain ?_; refine RunK.nil <| LWP.seq <| LWP.seq <| rgN <| kmv rfl <| RunK.nil <| LWP.block <| LWP.seq <| rgN <| keq rfl rfl (beq_eq_false_iff_ne.2 (by omega)) <| kas rfl <| RunK.nil <| LWP.condF rfl ?_; refine LWP.seq <| rgN <| keq rfl rfl (beq_eq_false_iff_ne.2 (by omega)) <| kas rfl <| RunK.nil <| LWP.condF rfl ?_; refine LWP.seq <| rgN <| keq rfl rfl (beq_eq_false_iff_ne.2 (by omega)) <| kas rfl <| RunK.nil <| LWP.condF rfl ?_); (refine LWP.seq <| rgN <| K.loadAll rfl rfl rfl .plain ?_; refine K.loadAll rfl rfl rfl .plain ?_; refine kca rfl rfl (hA) <| kmv rfl <| kex rfl rfl <| kex rfl rfl <| K.alloc rfl .plain ?_; refine K.alloc rfl .plain ?_; refine K.storeAll rfl rfl rfl rfl rfl rfl .plain ?_; refine K.storeAll rfl rfl rfl rfl rfl rfl .plain ?_; refine RunK.nil <| LWP.seq <| rgN <| K.loadAll rfl rfl rfl .plain ?_; refine K.storeAll rfl rfl rfl rfl rfl rfl .plain ?_; refine RunK.nil <| LWP.seq <| rgN <| kfa rfl rfl ?_; refine kl1 rfl rfl rfl <| kfa rfl rfl ?_; refine kl1 rfl rfl rfl <| K.neqB rfl rfl rfl .plain <| kfa rfl rfl ?_; refine K.storeOne rfl rfl rfl rfl num_blt0 num_sign .plain <| RunK.nil <| LWP.seq <| rgN <| kmv rfl <| keq rfl rfl (beq_eq_false_iff_ne.2 (by omega)) <| RunK.nil <| LWP.condF rfl ?_); (refine LWP.skip ?_; refine LWP.seq <| rgN <| K.loadAll rfl rfl rfl .plain ?_; refine kca rfl rfl (hT) <| kmv rfl <| kex rfl rfl <| kex rfl rfl <| K.alloc rfl .plain ?_; refine K.storeAll rfl rfl rfl rfl rfl rfl .plain ?_; refine kas rfl <| RunK.nil <| LWP.seq <| LWP.seq <| rgN <| kmv rfl <| K.not rfl rfl .plain <| RunK.nil <| LWP.condF rfl ?_; refine LWP.skip ?_; refine LWP.seq <| rgN <| K.loadAll rfl rfl rfl .plain ?_; refine K.storeAll rfl rfl rfl rfl rfl rfl .plain ?_; refine kas rfl <| RunK.nil <| LWP.ret ?_))
    exact ⟨[_, _], ⟨⟨_, _, rfl, rfl, rfl, .inl ⟨AggT.h, rfl⟩⟩, rfl, trivial⟩, rfl⟩
theorem Do_zero5 (x y : Int) (hx : R127 x) (hy : R127 y) (h0 : y = 0) : PSpec Tryz.prog X 100 [Ln .i64 5, LQ x, LQ y] (.tup [S0, Sn .i64 1]) := by
  have hF1 := Good_spec X _ _ (mg_in2 hx) true (formB_q hx)
  have hF2 := Good_spec X _ _ (mg_in2 hy) true (formB_q hy)
  have m0 : mg y = 0 := by subst h0; rfl
  refine PSpec.intro Tryz.func100 rfl (by kernel_rfl) rfl rfl ?_
  intro C
  (refine LWP.seq <| rgN <| K.box rfl rfl rfl .plain <| K.box rfl rfl rfl .plain <| K.alloc rfl .plain ?_; refine kas rfl <| RunK.nil <| LWP.seq <| LWP.seq <| rgN <| K.loadAll rfl rfl rfl .plain ?_; refine kca rfl rfl (hF1) <| K.not rfl rfl .plain <| kmv rfl <| K.loadAll rfl rfl rfl (.taken rfl rfl) ?_; refine gca rfl rfl (hF2) rfl rfl <| K.not rfl rfl (.taken rfl rfl) ?_; refine kpf rfl rfl <| kmv rfl <| gmv rfl rfl rfl <| K.gtr rfl rfl (decide_eq_true (by omega)) (.taken rfl rfl) ?_; refine gmv rfl rfl rfl <| K.fieldAddr rfl rfl (.taken rfl rfl) ?_; refine K.loadOne rfl rfl rfl (.taken rfl rfl) ?_; refine K.eql rfl rfl (beq_iff_eq.2 (by omega)) (.taken rfl rfl) ?_; refine K.pickT rfl rfl (.taken rfl rfl) ?_; refine gmv rfl rfl rfl <| K.fieldAddr rfl rfl (.taken rfl rfl) ?_; refine K.loadOne rfl rfl rfl (.taken rfl rfl) ?_; refine K.eql rfl rfl (beq_iff_eq.2 (by omega)) (.taken rfl rfl) ?_; refine K.pickT rfl rfl (.taken rfl rfl) ?_; refine kpf rfl rfl <| RunK.nil <| LWP.condT rfl ?_; refine LWP.seq <| rgN <| K.build rfl rfl (by exact rfl) (by exact nl3 rfl rfl rfl rfl) .plain ?_; refine K.storeAll rfl rfl rfl rfl rfl rfl .plain ?_; refine kas rfl <| RunK.nil <| LWP.ret ?_)
  exact ⟨[_, _], ⟨⟨_, _, rfl, rfl, rfl, .inl ⟨AggT.h, rfl⟩⟩, rfl, trivial⟩, rfl⟩
theorem Do_5 (x y : Int) (hx : R127 x) (hy : R127 y) (h0 : y ≠ 0) (z : Int) (hz : (if 5 = 4 then x.tdiv y else x.tmod y) = z) (hr : R127 z) : PSpec Tryz.prog X 100 [Ln .i64 5, LQ x, LQ y] (.tup [SQ z, Sn .i64 0]) := by
  have hF1 := Good_spec X _ _ (mg_in2 hx) true (formB_q hx)
  have hF2 := Good_spec X _ _ (mg_in2 hy) true (formB_q hy)
  have f1 := From_q X x hx
  have f2 := From_q X y hy
  have m0 := mg_zero h0
  have hx0 := mg_nonneg x
  have b1 := mg_128 hx
  have b2 := mg_128 hy
  obtain ⟨q1, q2⟩ := zv_quo x y h0
  have hA := Parted_spec X (decide (x < 0)) (decide (y < 0)) (mg x).toNat (mg y).toNat (lim40 b1) (by omega) b2
  have e1 : (((mg x).toNat / (mg y).toNat : Nat) : Int) = mg x / mg y := by rw [Int.natCast_ediv, mg_nat, mg_nat]
  have e2 : (((mg x).toNat % (mg y).toNat : Nat) : Int) = mg x % mg y := by rw [Int.natCast_emod, mg_nat, mg_nat]
  have l1 : (mg x).toNat / (mg y).toNat ≤ (mg x).toNat := Nat.div_le_self _ _
  have l2 : (mg x).toNat % (mg y).toNat < (mg y).toNat := Nat.mod_lt _ (by omega)
  have hT := To_spec X (if 5 = 4 then decide (x < 0) != decide (y < 0) else decide (x < 0)) (if 5 = 4 then (mg x).toNat / (mg y).toNat else (mg x).toNat % (mg y).toNat) (lim40 (by split <;> omega))
  have hv : zv (if 5 = 4 then decide (x < 0) != decide (y < 0) else decide (x < 0)) ((if 5 = 4 then (mg x).toNat / (mg y).toNat else (mg x).toNat % (mg y).toNat : Nat) : Int) = z := by
    rw [← hz]
    first
      | (show zv (decide (x < 0) != decide (y < 0)) (((mg x).toNat / (mg y).toNat : Nat) : Int) = x.tdiv y; rw [e1]; exact q1)
      | (show zv (decide (x < 0)) (((mg x).toNat % (mg y).toNat : Nat) : Int) = x.tmod y; rw [e2]; exact q2)
  rw [toR_in hv hr] at hT
  refine PSpec.intro Tryz.func100 rfl (by kernel_rfl) rfl rfl ?_
  intro C
  by_cases zh : mg y / 18446744073709551616 = 0
  · ((refine LWP.seq <| rgN <| K.box rfl rfl rfl .plain <| K.box rfl rfl rfl .plain <| K.alloc rfl .plain ?_; refine kas rfl <| RunK.nil <| LWP.seq <| LWP.seq <| rgN <| K.loadAll rfl rfl rfl .plain ?_; refine kca rfl rfl (hF1) <| K.not rfl rfl .plain <| kmv rfl <| K.loadAll rfl rfl rfl (.taken rfl rfl) ?_; refine gca rfl rfl (hF2) rfl rfl <| K.not rfl rfl (.taken rfl rfl) ?_; refine kpf rfl rfl <| kmv rfl <| gmv rfl rfl rfl <| K.gtr rfl rfl (decide_eq_true (by omega)) (.taken rfl rfl) ?_; refine gmv rfl rfl rfl <| K.fieldAddr rfl rfl (.taken rfl rfl) ?_; refine K.loadOne rfl rfl rfl (.taken rfl rfl) ?_; refine K.eql rfl rfl (beq_iff_eq.2 (by omega)) (.taken rfl rfl) ?_; refine K.pickT rfl rfl (.taken rfl rfl) ?_; refine gmv rfl rfl rfl <| K.fieldAddr rfl rfl (.taken rfl rfl) ?_; refine K.loadOne rfl rfl rfl (.taken rfl rfl) ?_; refine K.eql rfl rfl (beq_eq_false_iff_ne.2 (by omega)) (.taken rfl rfl) ?_); (refine K.pickT rfl rfl (.taken rfl rfl) ?_; refine kpf rfl rfl <| RunK.nil <| LWP.condF rfl ?_; refine LWP.skip ?_; refine LWP.seq <| rgN <| K.loadAll rfl rfl rfl .plain ?_; refine kca rfl rfl (f1) <| K.alloc rfl .plain ?_; refine K.storeAll rfl rfl rfl rfl rfl rfl .plain ?_; refine RunK.nil <| LWP.seq <| rgN <| K.loadAll rfl rfl rfl .plain ?_; refine kca rfl rfl (f2) <| K.alloc rfl .plain ?_; refine K.storeAll rfl rfl rfl rfl rfl rfl .plain ?_; refine RunK.nil <| LWP.seq <| rgN <| K.build rfl rfl (by exact rfl) (by exact rfl) .plain ?_; refine K.alloc rfl .plain ?_; refine K.storeAll rfl rfl rfl rfl rfl rfl .plain ?_); (refine RunK.nil <| LWP.seq <| LWP.seq <| rgN <| kmv rfl <| RunK.nil <| LWP.block <| LWP.seq <| rgN <| keq rfl rfl (beq_eq_false_iff_ne.2 (by omega)) <| kas rfl <| RunK.nil <| LWP.condF rfl ?_; refine LWP.seq <| rgN <| keq rfl rfl (beq_eq_false_iff_ne.2 (by omega)) <| kas rfl <| RunK.nil <| LWP.condF rfl ?_; refine LWP.seq <| rgN <| keq rfl rfl (beq_eq_false_iff_ne.2 (by omega)) <| kas rfl <| RunK.nil <| LWP.condF rfl ?_; refine LWP.seq <| rgN <| K.loadAll rfl rfl rfl .plain ?_; refine K.loadAll rfl rfl rfl .plain ?_; refine kca rfl rfl (hA) <| kmv rfl <| kex rfl rfl <| kex rfl rfl <| K.alloc rfl .plain ?_; refine K.alloc rfl .plain ?_; refine K.storeAll rfl rfl rfl rfl rfl rfl .plain ?_; refine K.storeAll rfl rfl rfl rfl rfl rfl .plain ?_; refine RunK.nil <| LWP.seq <| rgN <| K.loadAll rfl rfl rfl .plain ?_; refine K.storeAll rfl rfl rfl rfl rfl rfl .plain ?_; refine RunK.nil <| LWP.seq <| rgN <| kfa rfl rfl ?_); (refine kl1 rfl rfl rfl <| kfa rfl rfl ?_; refine kl1 rfl rfl rfl <| K.neqB rfl rfl rfl .plain <| kfa rfl rfl ?_; refine K.storeOne rfl rfl rfl rfl num_blt0 num_sign .plain <| RunK.nil <| LWP.seq <| rgN <| kmv rfl <| keq rfl rfl (beq_iff_eq.2 (by omega)) <| RunK.nil <| LWP.condT rfl ?_; refine LWP.seq <| rgN <| K.loadAll rfl rfl rfl .plain ?_; refine K.storeAll rfl rfl rfl rfl rfl rfl .plain ?_; refine RunK.nil <| rgN <| kfa rfl rfl ?_; refine kl1 rfl rfl rfl <| kfa rfl rfl ?_; refine K.storeOne rfl rfl rfl rfl num_blt0 num_sign .plain <| RunK.nil <| LWP.seq <| rgN <| K.loadAll rfl rfl rfl .plain ?_; refine kca rfl rfl (hT) <| kmv rfl <| kex rfl rfl <| kex rfl rfl <| K.alloc rfl .plain ?_; refine K.storeAll rfl rfl rfl rfl rfl rfl .plain ?_; refine kas rfl <| RunK.nil <| LWP.seq <| LWP.seq <| rgN <| kmv rfl <| K.not rfl rfl .plain <| RunK.nil <| LWP.condF rfl ?_; refine LWP.skip ?_); (refine LWP.seq <| rgN <| K.loadAll rfl rfl rfl .plain ?_; refine K.storeAll rfl rfl rfl rfl rfl rfl .plain ?_; refine kas rfl <| RunK.nil <| LWP.ret ?_))
    exact ⟨[_, _], ⟨⟨_, _, rfl, rfl, rfl, .inl ⟨AggT.h, rfl⟩⟩, rfl, trivial⟩, rfl⟩
  · ((refine LWP.seq <| rgN <| K.box rfl rfl rfl .plain <| K.box rfl rfl rfl .plain <| K.alloc rfl .plain ?_; refine kas rfl <| RunK.nil <| LWP.seq <| LWP.seq <| rgN <| K.loadAll rfl rfl rfl .plain ?_; refine kca rfl rfl (hF1) <| K.not rfl rfl .plain <| kmv rfl <| K.loadAll rfl rfl rfl (.taken rfl rfl) ?_; refine gca rfl rfl (hF2) rfl rfl <| K.not rfl rfl (.taken rfl rfl) ?_; refine kpf rfl rfl <| kmv rfl <| gmv rfl rfl rfl <| K.gtr rfl rfl (decide_eq_true (by omega)) (.taken rfl rfl) ?_; refine gmv rfl rfl rfl <| K.fieldAddr rfl rfl (.taken rfl rfl) ?_; refine K.loadOne rfl rfl rfl (.taken rfl rfl) ?_; refine K.eql rfl rfl (beq_eq_false_iff_ne.2 (by omega)) (.taken rfl rfl) ?_; refine K.pickT rfl rfl (.taken rfl rfl) ?_; refine gmv rfl rfl rfl <| RunK.passed rfl rfl rfl <| RunK.passed rfl rfl rfl <| RunK.passed rfl rfl rfl <| K.pickF rfl rfl (.taken rfl rfl) ?_; refine kpf rfl rfl <| RunK.nil <| LWP.condF rfl ?_; refine LWP.skip ?_); (refine LWP.seq <| rgN <| K.loadAll rfl rfl rfl .plain ?_; refine kca rfl rfl (f1) <| K.alloc rfl .plain ?_; refine K.storeAll rfl rfl rfl rfl rfl rfl .plain ?_; refine RunK.nil <| LWP.seq <| rgN <| K.loadAll rfl rfl rfl .plain ?_; refine kca rfl rfl (f2) <| K.alloc rfl .plain ?_; refine K.storeAll rfl rfl rfl rfl rfl rfl .plain ?_; refine RunK.nil <| LWP.seq <| rgN <| K.build rfl rfl (by exact rfl) (by exact rfl) .plain ?_; refine K.alloc rfl .plain ?_; refine K.storeAll rfl rfl rfl rfl rfl rfl .plain ?_; refine RunK.nil <| LWP.seq <| LWP.seq <| rgN <| kmv rfl <| RunK.nil <| LWP.block <| LWP.seq <| rgN <| keq rfl rfl (beq_eq_false_iff_ne.2 (by omega)) <| kas rfl <| RunK.nil <| LWP.condF rfl ?_; refine LWP.seq <| rgN <| keq rfl rfl (beq_eq_false_iff_ne.2 (by omega)) <| kas rfl <| RunK.nil <| LWP.condF rfl ?_; refine LWP.seq <| rgN <| keq rfl rfl (beq_eq_false_iff_ne.2 (by omega)) <| kas rfl <| RunK.nil <| LWP.condF rfl ?_); (refine LWP.seq <| rgN <| K.loadAll rfl rfl rfl .plain ?_; refine K.loadAll rfl rfl rfl .plain ?_; refine kca rfl rfl (hA) <| kmv rfl <| kex rfl rfl <| kex rfl rfl <| K.alloc rfl .plain ?_; refine K.alloc rfl .plain ?_; refine K.storeAll rfl rfl rfl rfl rfl rfl .plain ?_; refine K.storeAll rfl rfl rfl rfl rfl rfl .plain ?_; refine RunK.nil <| LWP.seq <| rgN <| K.loadAll rfl rfl rfl .plain ?_; refine K.storeAll rfl rfl rfl rfl rfl rfl .plain ?_; refine RunK.nil <| LWP.seq <| rgN <| kfa rfl rfl ?_; refine kl1 rfl rfl rfl <| kfa rfl rfl ?_; refine kl1 rfl rfl rfl <| K.neqB rfl rfl rfl .plain <| kfa rfl rfl ?_; refine K.storeOne rfl rfl rfl rfl num_blt0 num_sign .plain <| RunK.nil <| LWP.seq <| rgN <| kmv rfl <| keq rfl rfl (beq_iff_eq.2 (by omega)) <| RunK.nil <| LWP.condT rfl ?_); (refine LWP.seq <| rgN <| K.loadAll rfl rfl rfl .plain ?_; refine K.storeAll rfl rfl rfl rfl rfl rfl .plain ?_; refine RunK.nil <| rgN <| kfa rfl rfl ?_; refine kl1 rfl rfl rfl <| kfa rfl rfl ?_; refine K.storeOne rfl rfl rfl rfl num_blt0 num_sign .plain <| RunK.nil <| LWP.seq <| rgN <| K.loadAll rfl rfl rfl .plain ?_; refine kca rfl rfl (hT) <| kmv rfl <| kex rfl rfl <| kex rfl rfl <| K.alloc rfl .plain ?_; refine K.storeAll rfl rfl rfl rfl rfl rfl .plain ?_; refine kas rfl <| RunK.nil <| LWP.seq <| LWP.seq <| rgN <| kmv rfl <| K.not rfl rfl .plain <| RunK.nil <| LWP.condF rfl ?_; refine LWP.skip ?_; refine LWP.seq <| rgN <| K.loadAll rfl rfl rfl .plain ?_; refine K.storeAll rfl rfl rfl rfl rfl rfl .plain ?_; refine kas rfl <| RunK.nil <| LWP.ret ?_))
    exact ⟨[_, _], ⟨⟨_, _, rfl, rfl, rfl, .inl ⟨AggT.h, rfl⟩⟩, rfl, trivial⟩, rfl⟩
end Go.Proofs.YtimpjdbhalnofaaGreatDoor
end
section
namespace Go.Proofs.YtimpjdbhalnofaaGreatDoor
open Go Go.Lg Go.Lg.Arith Go.Lg.Dec Go.RowKit
theorem parts_facts {x y : Int} (hx : R127 x) (hy : R127 y) (h0 : y ≠ 0) :
    R127 (x.tdiv y) ∧ R127 (x.tmod y) ∧ R127 (x.tdiv y * y) ∧ x.tdiv y * y + x.tmod y = x ∧ mg (x.tmod y) < mg y ∧ (x.tmod y < 0 → x < 0) ∧ (0 < x.tmod y → 0 < x) := by
  obtain ⟨h1, h2⟩ := zv_quo x y h0
  have hB := mg_zero h0
  have hA0 := mg_nonneg x
  have hR0 := Int.emod_nonneg (mg x) (show mg y ≠ 0 by omega)
  have hR1 := Int.emod_lt_of_pos (mg x) hB
  have hQ0 := Int.ediv_nonneg hA0 (Int.le_of_lt hB)
  have hQ1 := Int.ediv_le_self (mg y) hA0
  have hE := Int.emod_add_mul_ediv (mg x) (mg y)
  have hT0 := Int.mul_nonneg hQ0 (Int.le_of_lt hB)
  rw [Int.mul_comm (mg y) (mg x / mg y)] at hE
  rw [← h1, ← h2]
  have key : zv (decide (x < 0) != decide (y < 0)) (mg x / mg y) * y = zv (decide (x < 0)) (mg x / mg y * mg y) := by
    by_cases cy : y < 0
    · have hy' : mg y = -y := mg_neg cy
      generalize mg x / mg y = Q
      by_cases cx : x < 0 <;> simp only [cx, cy, decide_true, decide_false, zv, bne_self_eq_false, Bool.false_bne, if_true, if_false, Bool.false_eq_true]
      · rw [hy', Int.mul_neg, Int.neg_neg]
      · rw [hy', Int.mul_neg, Int.neg_mul]
    · have hy' : mg y = y := mg_pos (by omega)
      generalize mg x / mg y = Q
      by_cases cx : x < 0 <;> simp only [cx, cy, decide_true, decide_false, zv, bne_self_eq_false, Bool.true_bne, Bool.not_false, if_true, if_false, Bool.false_eq_true]
      · rw [hy', Int.neg_mul]
      · rw [hy']
  have zR : ∀ (b : Bool) (n : Int), 0 ≤ n → n < 170141183460469231731687303715884105728 → R127 (zv b n) := by
    intro b n h1 h2
    unfold R127 zv
    cases b <;> simp only [if_true, if_false, Bool.false_eq_true] <;> omega
  have hlx := mg_lim hx
  have hly := mg_lim hy
  rw [key]
  generalize mg x / mg y * mg y = T at *
  generalize mg x / mg y = Q at *
  generalize mg x % mg y = R at *
  refine ⟨zR _ _ hQ0 (by omega), zR _ _ hR0 (by omega), zR _ _ hT0 (by omega), ?_, ?_, ?_, ?_⟩
  · by_cases cx : x < 0
    · rw [decide_eq_true cx]
      have := mg_neg cx
      show -T + -R = x
      omega
    · rw [decide_eq_false cx]
      have := mg_pos (Int.not_lt.1 cx)
      show T + R = x
      omega
  · by_cases cx : x < 0
    · rw [decide_eq_true cx]
      show mg (-R) < mg y
      by_cases c : R = 0
      · subst c; exact hB
      · rw [mg_neg (z := -R) (by omega)]; omega
    · rw [decide_eq_false cx]
      show mg R < mg y
      rw [mg_pos hR0]; exact hR1
  · intro h
    by_cases cx : x < 0
    · exact cx
    · rw [decide_eq_false cx] at h
      have h : R < 0 := h
      omega
  · intro h
    by_cases cx : x < 0
    · rw [decide_eq_true cx] at h
      have h : 0 < -R := h
      omega
    · rw [decide_eq_false cx] at h
      have h : 0 < R := h
      have := mg_pos (Int.not_lt.1 cx)
      omega
end Go.Proofs.YtimpjdbhalnofaaGreatDoor
end
section
namespace Go.Proofs.YtimpjdbhalnofaaGreatDoor
open Go Go.Lg Go.Lg.Fml Go.Lg.Fld Go.Lg.Arith
set_option maxRecDepth 100000
variable (X : Nat → Option Obj)
def exR : Except Int Nm → LV
  | .ok v => .tup [SI v.1 v.2, Sn .i64 0]
  | .error e => .tup [S0, Sn .i64 e]
theorem SI_small {b : Bool} {n : Int} (h : 0 ≤ n ∧ n < 18446744073709551616) : SI b n = .agg [.val (.bool b), .val (.int .u64 0), .val (.int .u64 n)] := by
  unfold SI
  rw [show n / 18446744073709551616 = 0 by omega, show n % 18446744073709551616 = n by omega]
theorem NumsIn.all {X : Nat → Option Obj} {ad : Option Addr} {ns : List Nm} (h : NumsIn X ad ns) (hpos : 0 < ns.length) :
    ∃ (blk off : Nat) (arr : Array Value) (el : TypeId) (fr : Nat × Nat), ad = some ⟨blk, off, none⟩ ∧ X blk = some (.cells arr el fr) ∧ ∀ i b N, ns[i]? = some (b, N) → In2 N ∧ off + i * 3 + 3 ≤ arr.size ∧ ((arr.toList.drop (off + i * 3)).take 3).map CV.val = cI b N := by
  obtain ⟨_, blk, off, arr, el, fr, rfl, hX, _, _⟩ := h.at (i := 0) (b := (ns[0]'hpos).1) (N := (ns[0]'hpos).2) (List.getElem?_eq_getElem hpos)
  refine ⟨blk, off, arr, el, fr, rfl, hX, fun i b N hi => ?_⟩
  obtain ⟨h1, blk', off', arr', el', fr', h2, h3, h4, h5⟩ := h.at hi
  simp only [Option.some.injEq, Addr.mk.injEq] at h2
  obtain ⟨rfl, rfl, _⟩ := h2
  rw [hX] at h3
  simp only [Option.some.injEq, Obj.cells.injEq] at h3
  obtain ⟨rfl, _, _⟩ := h3
  exact ⟨h1, h4, h5⟩
theorem rTruth_spec (b : Bool) : PSpec Tryz.prog X 102 [Lb b] (exR (.ok (truth b))) := by
  cases b with
  | true =>
    refine PSpec.intro Tryz.func102 rfl (by kernel_rfl) rfl rfl ?_
    intro C
    (refine LWP.seq <| rgN <| K.alloc rfl .plain ?_; refine kas rfl <| RunK.nil <| LWP.seq <| LWP.seq <| rgN <| kmv rfl <| RunK.nil <| LWP.condT rfl ?_; refine LWP.seq <| rgN <| K.build rfl rfl (by exact rfl) (by exact nl3 rfl rfl rfl rfl) .plain ?_; refine K.storeAll rfl rfl rfl rfl rfl rfl .plain ?_; refine kas rfl <| RunK.nil <| LWP.ret ?_)
    exact ⟨[_, _], ⟨⟨_, _, rfl, rfl, rfl, .inl ⟨AggT.h, rfl⟩⟩, rfl, trivial⟩, rfl⟩
  | false =>
    refine PSpec.intro Tryz.func102 rfl (by kernel_rfl) rfl rfl ?_
    intro C
    (refine LWP.seq <| rgN <| K.alloc rfl .plain ?_; refine kas rfl <| RunK.nil <| LWP.seq <| LWP.seq <| rgN <| kmv rfl <| RunK.nil <| LWP.condF rfl ?_; refine LWP.skip ?_; refine LWP.seq <| rgN <| K.build rfl rfl (by exact rfl) (by exact nl3 rfl rfl rfl rfl) .plain ?_; refine K.storeAll rfl rfl rfl rfl rfl rfl .plain ?_; refine kas rfl <| RunK.nil <| LWP.ret ?_)
    exact ⟨[_, _], ⟨⟨_, _, rfl, rfl, rfl, .inl ⟨AggT.h, rfl⟩⟩, rfl, trivial⟩, rfl⟩
theorem gd_q {u : Nm} (h : gd u = true) (hu : In2 u.2) : LI u.1 u.2 = LQ (zz u) ∧ R127 (zz u) := ⟨LI_q hu h, (zv_in hu h).1⟩
theorem rDo_spec (op : Int) (ho : 5 ≤ op ∧ op ≤ 9) (k : Int) (hk : op - 4 = k) (u v : Nm) (hu : In2 u.2) (hv : In2 v.2) : PSpec Tryz.prog X 100 [Ln .i64 k, LI u.1 u.2, LI v.1 v.2] (exR (doX op u v)) := by
  cases hg : (gd u && gd v) with
  | false =>
    rw [doX_bad hg]
    exact Do_bad X k u.1 v.1 u.2 v.2 hu hv hg
  | true =>
    obtain ⟨gu, gv⟩ := Bool.and_eq_true_iff.1 hg
    obtain ⟨e1, r1⟩ := gd_q gu hu
    obtain ⟨e2, r2⟩ := gd_q gv hv
    rw [e1, e2]
    unfold doX
    rw [hg, if_neg (by decide)]
    generalize zz u = x at *
    generalize zz v = y at *
    have fin : ∀ z, R127 z → (if R127 z then Except.ok (qn z) else Except.error 3 : Except Int Nm) = .ok (qn z) := fun z h => if_pos h
    have fadd : ∀ z, addR z = exR (if R127 z then Except.ok (qn z) else Except.error 3 : Except Int Nm) := fun z => by
      by_cases h : R127 z
      · rw [addR_in h, if_pos h]; rfl
      · rw [addR_out h, if_neg h]; rfl
    rcases (show op = 5 ∨ op = 6 ∨ op = 7 ∨ op = 8 ∨ op = 9 by omega) with rfl | rfl | rfl | rfl | rfl <;> subst hk
    · rw [if_neg (by omega)]
      have := Do_1 X x y r1 r2 (x + y) rfl
      rw [fadd] at this
      exact this
    · rw [if_neg (by omega)]
      have := Do_2 X x y r1 r2 (x - y) rfl
      rw [fadd] at this
      exact this
    · rw [if_neg (by omega)]
      have := Do_3 X x y r1 r2
      rw [fadd] at this
      exact this
    · by_cases h0 : y = 0
      · rw [if_pos ⟨by decide, h0⟩]
        exact Do_zero4 X x y r1 r2 h0
      · rw [if_neg (fun h => h0 h.2)]
        have hq := (parts_facts r1 r2 h0).1
        rw [show arith 8 x y = x.tdiv y from rfl, fin _ hq]
        exact Do_4 X x y r1 r2 h0 _ rfl hq
    · by_cases h0 : y = 0
      · rw [if_pos ⟨by decide, h0⟩]
        exact Do_zero5 X x y r1 r2 h0
      · rw [if_neg (fun h => h0 h.2)]
        have hq := (parts_facts r1 r2 h0).2.1
        rw [show arith 9 x y = x.tmod y from rfl, fin _ hq]
        exact Do_5 X x y r1 r2 h0 _ rfl hq
set_option maxHeartbeats 6400000 in
theorem rLeaf_spec (x : Ins) (hx : smallI x) (hok : okI x = true) (ht : takes x.op = 0) (fad : Option Addr) (fcap : Nat) (fs : List (List Nm)) (hfs : FssIn X fad fs) (hfl : fs.length < 4611686018427387904) (hrl : ∀ r ∈ fs, r.length < 4611686018427387904) (at_ : Int) (hat : -9223372036854775808 ≤ at_ ∧ at_ < 9223372036854775808) :
    PSpec Tryz.prog X 65 [LIn x, Lx fad fs.length fcap, Ln .i64 at_] (exR (leafX fs at_ x)) := by
  obtain ⟨h17, hgk, ha7, hb7⟩ := okI_facts hok
  obtain ⟨op, a, b, k⟩ := x
  simp only at h17 hgk ha7 hb7 ht hx
  have h4 : op = 1 ∨ op = 2 ∨ op = 3 ∨ op = 4 := by
    unfold takes at ht
    split at ht
    · omega
    · split at ht
      · omega
      · split at ht <;> omega
  rcases h4 with rfl | rfl | rfl | rfl
  · show PSpec _ _ _ _ (exR (.ok k))
    refine PSpec.intro Tryz.func65 rfl (by kernel_rfl) rfl rfl ?_
    intro C
    (refine LWP.seq <| rgN <| K.box rfl rfl rfl .plain <| K.alloc rfl .plain ?_; refine kas rfl <| RunK.nil <| LWP.seq <| LWP.seq <| rgN <| kfa rfl rfl ?_; refine kl1 rfl rfl rfl <| keq rfl rfl (r := true) rfl <| RunK.nil <| LWP.condT rfl ?_; refine LWP.seq <| rgN <| kfa rfl rfl ?_; refine K.loadPart rfl rfl rfl (by exact nl3 rfl rfl rfl rfl) .plain ?_; refine K.storeAll rfl rfl rfl rfl rfl rfl .plain ?_; refine kas rfl <| RunK.nil <| LWP.ret ?_)
    exact ⟨[_, _], ⟨⟨_, _, rfl, rfl, rfl, .inl ⟨AggT.h, rfl⟩⟩, rfl, trivial⟩, rfl⟩
  · show PSpec _ _ _ _ (exR (elemX fs a b))
    by_cases c1 : fs.length ≤ a
    · have e : elemX fs a b = .error 3 := by
        unfold elemX
        split
        · rfl
        · rw [List.getElem?_eq_none (by omega)]
      rw [e]
      refine PSpec.intro Tryz.func65 rfl (by kernel_rfl) rfl rfl ?_
      intro C
      (refine LWP.seq <| rgN <| K.box rfl rfl rfl .plain <| K.alloc rfl .plain ?_; refine kas rfl <| RunK.nil <| LWP.seq <| LWP.seq <| rgN <| kfa rfl rfl ?_; refine kl1 rfl rfl rfl <| keq rfl rfl (r := false) rfl <| RunK.nil <| LWP.condF rfl ?_; refine LWP.skip ?_; refine LWP.seq <| LWP.seq <| rgN <| kfa rfl rfl ?_; refine kl1 rfl rfl rfl <| keq rfl rfl (r := false) rfl <| RunK.nil <| LWP.condF rfl ?_; refine LWP.skip ?_; refine LWP.seq <| rgN <| kfa rfl rfl ?_; refine kl1 rfl rfl rfl <| kas rfl <| RunK.nil <| LWP.seq <| LWP.seq <| rgN <| kfa rfl rfl ?_; refine kl1 rfl rfl rfl <| keq rfl rfl (r := false) rfl <| RunK.nil <| LWP.condF rfl ?_; refine LWP.skip ?_; refine LWP.seq <| LWP.seq <| rgN <| kfa rfl rfl ?_; refine kl1 rfl rfl rfl <| kmv rfl <| K.lenX rfl SliceT.h rfl .plain ?_; refine K.geq rfl rfl (decide_eq_true c1) .plain <| kmv rfl <| RunK.passed rfl rfl rfl <| RunK.passed rfl rfl rfl <| kpt rfl rfl <| kmv rfl <| RunK.passed rfl rfl rfl <| RunK.passed rfl rfl rfl <| RunK.passed rfl rfl rfl <| RunK.passed rfl rfl rfl <| RunK.passed rfl rfl rfl <| RunK.passed rfl rfl rfl <| RunK.passed rfl rfl rfl <| RunK.passed rfl rfl rfl ?_; refine kpt rfl rfl <| RunK.nil <| LWP.condT rfl ?_; refine LWP.seq <| rgN <| K.build rfl rfl (by exact rfl) (by exact nl3 rfl rfl rfl rfl) .plain ?_; refine K.storeAll rfl rfl rfl rfl rfl rfl .plain ?_; refine kas rfl <| RunK.nil <| LWP.ret ?_)
      exact ⟨[_, _], ⟨⟨_, _, rfl, rfl, rfl, .inl ⟨AggT.h, rfl⟩⟩, rfl, trivial⟩, rfl⟩
    by_cases c2 : b < 0
    · have e : elemX fs a b = .error 3 := by unfold elemX; rw [if_pos (.inr c2)]
      rw [e]
      refine PSpec.intro Tryz.func65 rfl (by kernel_rfl) rfl rfl ?_
      intro C
      (refine LWP.seq <| rgN <| K.box rfl rfl rfl .plain <| K.alloc rfl .plain ?_; refine kas rfl <| RunK.nil <| LWP.seq <| LWP.seq <| rgN <| kfa rfl rfl ?_; refine kl1 rfl rfl rfl <| keq rfl rfl (r := false) rfl <| RunK.nil <| LWP.condF rfl ?_; refine LWP.skip ?_; refine LWP.seq <| LWP.seq <| rgN <| kfa rfl rfl ?_; refine kl1 rfl rfl rfl <| keq rfl rfl (r := false) rfl <| RunK.nil <| LWP.condF rfl ?_; refine LWP.skip ?_; refine LWP.seq <| rgN <| kfa rfl rfl ?_; refine kl1 rfl rfl rfl <| kas rfl <| RunK.nil <| LWP.seq <| LWP.seq <| rgN <| kfa rfl rfl ?_; refine kl1 rfl rfl rfl <| keq rfl rfl (r := false) rfl <| RunK.nil <| LWP.condF rfl ?_; refine LWP.skip ?_; refine LWP.seq <| LWP.seq <| rgN <| kfa rfl rfl ?_; refine kl1 rfl rfl rfl <| kmv rfl <| K.lenX rfl SliceT.h rfl .plain ?_; refine K.geq rfl rfl (decide_eq_false c1) .plain <| kmv rfl <| gmv rfl rfl rfl <| K.lss rfl rfl (decide_eq_true c2) (.taken rfl rfl) ?_; refine kpf rfl rfl <| kmv rfl <| RunK.passed rfl rfl rfl <| RunK.passed rfl rfl rfl <| RunK.passed rfl rfl rfl <| RunK.passed rfl rfl rfl <| RunK.passed rfl rfl rfl <| RunK.passed rfl rfl rfl <| RunK.passed rfl rfl rfl <| RunK.passed rfl rfl rfl <| kpt rfl rfl <| RunK.nil <| LWP.condT rfl ?_; refine LWP.seq <| rgN <| K.build rfl rfl (by exact rfl) (by exact nl3 rfl rfl rfl rfl) .plain ?_; refine K.storeAll rfl rfl rfl rfl rfl rfl .plain ?_; refine kas rfl <| RunK.nil <| LWP.ret ?_)
      exact ⟨[_, _], ⟨⟨_, _, rfl, rfl, rfl, .inl ⟨AggT.h, rfl⟩⟩, rfl, trivial⟩, rfl⟩
    obtain ⟨r, hr⟩ : ∃ r, fs[a.toNat]? = some r := ⟨_, List.getElem?_eq_getElem (by omega)⟩
    have hrl := hrl r (List.mem_of_getElem? hr)
    obtain ⟨blk, off, arr, el, fr, vad, vcap, rfl, hX, hsz, hc, hN⟩ := hfs.at_ _ r hr
    have hio : off + Int.toNat a * 1 = off + a.toNat := by omega
    have hia : 0 ≤ a ∧ a < (fs.length : Nat) := by omega
    have he : elemX fs a b = match r[(b).toNat]? with | none => .error 3 | some v => .ok v := by
      simp only [elemX, if_neg (show ¬ (a < 0 ∨ b < 0) by omega), hr]
      cases r[(b).toNat]? <;> rfl
    by_cases c3 : r.length ≤ b
    · rw [he, List.getElem?_eq_none (by omega)]
      refine PSpec.intro Tryz.func65 rfl (by kernel_rfl) rfl rfl ?_
      intro C
      ((refine LWP.seq <| rgN <| K.box rfl rfl rfl .plain <| K.alloc rfl .plain ?_; refine kas rfl <| RunK.nil <| LWP.seq <| LWP.seq <| rgN <| kfa rfl rfl ?_; refine kl1 rfl rfl rfl <| keq rfl rfl (r := false) rfl <| RunK.nil <| LWP.condF rfl ?_; refine LWP.skip ?_; refine LWP.seq <| LWP.seq <| rgN <| kfa rfl rfl ?_; refine kl1 rfl rfl rfl <| keq rfl rfl (r := false) rfl <| RunK.nil <| LWP.condF rfl ?_; refine LWP.skip ?_; refine LWP.seq <| rgN <| kfa rfl rfl ?_; refine kl1 rfl rfl rfl <| kas rfl <| RunK.nil <| LWP.seq <| LWP.seq <| rgN <| kfa rfl rfl ?_; refine kl1 rfl rfl rfl <| keq rfl rfl (r := false) rfl <| RunK.nil <| LWP.condF rfl ?_; refine LWP.skip ?_; refine LWP.seq <| LWP.seq <| rgN <| kfa rfl rfl ?_); (refine kl1 rfl rfl rfl <| kmv rfl <| K.lenX rfl SliceT.h rfl .plain ?_; refine K.geq rfl rfl (decide_eq_false c1) .plain <| kmv rfl <| gmv rfl rfl rfl <| K.lss rfl rfl (decide_eq_false c2) (.taken rfl rfl) ?_; refine kpf rfl rfl <| kmv rfl <| gmv rfl rfl rfl <| gmv rfl rfl rfl <| K.fieldAddr rfl rfl (.taken rfl rfl) ?_; refine K.loadOne rfl rfl rfl (.taken rfl rfl) ?_; refine K.indexX rfl rfl SliceT.h hia hio (.taken rfl rfl) ?_; refine K.loadX rfl hX rfl hc (.taken rfl rfl) ?_; refine K.lenX rfl SliceT.h rfl (.taken rfl rfl) ?_; refine K.geq rfl rfl (decide_eq_true c3) (.taken rfl rfl) ?_; refine kpf rfl rfl <| RunK.nil <| LWP.condT rfl ?_; refine LWP.seq <| rgN <| K.build rfl rfl (by exact rfl) (by exact nl3 rfl rfl rfl rfl) .plain ?_; refine K.storeAll rfl rfl rfl rfl rfl rfl .plain ?_; refine kas rfl <| RunK.nil <| LWP.ret ?_))
      exact ⟨[_, _], ⟨⟨_, _, rfl, rfl, rfl, .inl ⟨AggT.h, rfl⟩⟩, rfl, trivial⟩, rfl⟩
    obtain ⟨v, hv⟩ : ∃ v, r[(b).toNat]? = some v := ⟨_, List.getElem?_eq_getElem (by omega)⟩
    obtain ⟨vb, vN⟩ := v
    obtain ⟨_, blk2, off2, arr2, el2, fr2, rfl, hX2, hsz2, hcs2⟩ := hN.at hv
    have hib : 0 ≤ b ∧ b < (r.length : Nat) := by omega
    have hio2 : off2 + Int.toNat (b) * 3 = off2 + (b).toNat * 3 := rfl
    rw [he, hv]
    refine PSpec.intro Tryz.func65 rfl (by kernel_rfl) rfl rfl ?_
    intro C
    ((refine LWP.seq <| rgN <| K.box rfl rfl rfl .plain <| K.alloc rfl .plain ?_; refine kas rfl <| RunK.nil <| LWP.seq <| LWP.seq <| rgN <| kfa rfl rfl ?_; refine kl1 rfl rfl rfl <| keq rfl rfl (r := false) rfl <| RunK.nil <| LWP.condF rfl ?_; refine LWP.skip ?_; refine LWP.seq <| LWP.seq <| rgN <| kfa rfl rfl ?_; refine kl1 rfl rfl rfl <| keq rfl rfl (r := false) rfl <| RunK.nil <| LWP.condF rfl ?_; refine LWP.skip ?_; refine LWP.seq <| rgN <| kfa rfl rfl ?_; refine kl1 rfl rfl rfl <| kas rfl <| RunK.nil <| LWP.seq <| LWP.seq <| rgN <| kfa rfl rfl ?_; refine kl1 rfl rfl rfl <| keq rfl rfl (r := false) rfl <| RunK.nil <| LWP.condF rfl ?_; refine LWP.skip ?_; refine LWP.seq <| LWP.seq <| rgN <| kfa rfl rfl ?_); (refine kl1 rfl rfl rfl <| kmv rfl <| K.lenX rfl SliceT.h rfl .plain ?_; refine K.geq rfl rfl (decide_eq_false c1) .plain <| kmv rfl <| gmv rfl rfl rfl <| K.lss rfl rfl (decide_eq_false c2) (.taken rfl rfl) ?_; refine kpf rfl rfl <| kmv rfl <| gmv rfl rfl rfl <| gmv rfl rfl rfl <| K.fieldAddr rfl rfl (.taken rfl rfl) ?_; refine K.loadOne rfl rfl rfl (.taken rfl rfl) ?_; refine K.indexX rfl rfl SliceT.h hia hio (.taken rfl rfl) ?_; refine K.loadX rfl hX rfl hc (.taken rfl rfl) ?_; refine K.lenX rfl SliceT.h rfl (.taken rfl rfl) ?_; refine K.geq rfl rfl (decide_eq_false c3) (.taken rfl rfl) ?_; refine kpf rfl rfl <| RunK.nil <| LWP.condF rfl ?_; refine LWP.skip ?_; refine LWP.seq <| rgN <| kmv rfl <| kfa rfl rfl ?_; refine kl1 rfl rfl rfl <| K.indexX rfl rfl SliceT.h hia hio .plain <| K.loadX rfl hX rfl hc .plain <| kmv rfl <| K.indexX rfl rfl SliceT.h hib hio2 .plain <| K.loadXagg rfl hX2 (by kernel_rfl) hsz2 hcs2 .plain <| K.storeAll rfl rfl rfl rfl rfl rfl .plain ?_); (refine kas rfl <| RunK.nil <| LWP.ret ?_))
    exact ⟨[_, _], ⟨⟨_, _, rfl, rfl, rfl, .inl ⟨AggT.h, rfl⟩⟩, rfl, trivial⟩, rfl⟩
  · show PSpec _ _ _ _ (exR (elemX fs a at_))
    by_cases c1 : fs.length ≤ a
    · have e : elemX fs a at_ = .error 3 := by
        unfold elemX
        split
        · rfl
        · rw [List.getElem?_eq_none (by omega)]
      rw [e]
      refine PSpec.intro Tryz.func65 rfl (by kernel_rfl) rfl rfl ?_
      intro C
      (refine LWP.seq <| rgN <| K.box rfl rfl rfl .plain <| K.alloc rfl .plain ?_; refine kas rfl <| RunK.nil <| LWP.seq <| LWP.seq <| rgN <| kfa rfl rfl ?_; refine kl1 rfl rfl rfl <| keq rfl rfl (r := false) rfl <| RunK.nil <| LWP.condF rfl ?_; refine LWP.skip ?_; refine LWP.seq <| LWP.seq <| rgN <| kfa rfl rfl ?_; refine kl1 rfl rfl rfl <| keq rfl rfl (r := false) rfl <| RunK.nil <| LWP.condF rfl ?_; refine LWP.skip ?_; refine LWP.seq <| rgN <| kfa rfl rfl ?_; refine kl1 rfl rfl rfl <| kas rfl <| RunK.nil <| LWP.seq <| LWP.seq <| rgN <| kfa rfl rfl ?_; refine kl1 rfl rfl rfl <| keq rfl rfl (r := true) rfl <| RunK.nil <| LWP.condT rfl ?_; refine rgN <| kmv rfl <| kas rfl <| RunK.nil <| LWP.seq <| LWP.seq <| rgN <| kfa rfl rfl ?_; refine kl1 rfl rfl rfl <| kmv rfl <| K.lenX rfl SliceT.h rfl .plain ?_; refine K.geq rfl rfl (decide_eq_true c1) .plain <| kmv rfl <| RunK.passed rfl rfl rfl <| RunK.passed rfl rfl rfl <| kpt rfl rfl <| kmv rfl <| RunK.passed rfl rfl rfl <| RunK.passed rfl rfl rfl <| RunK.passed rfl rfl rfl <| RunK.passed rfl rfl rfl <| RunK.passed rfl rfl rfl <| RunK.passed rfl rfl rfl <| RunK.passed rfl rfl rfl <| RunK.passed rfl rfl rfl ?_; refine kpt rfl rfl <| RunK.nil <| LWP.condT rfl ?_; refine LWP.seq <| rgN <| K.build rfl rfl (by exact rfl) (by exact nl3 rfl rfl rfl rfl) .plain ?_; refine K.storeAll rfl rfl rfl rfl rfl rfl .plain ?_; refine kas rfl <| RunK.nil <| LWP.ret ?_)
      exact ⟨[_, _], ⟨⟨_, _, rfl, rfl, rfl, .inl ⟨AggT.h, rfl⟩⟩, rfl, trivial⟩, rfl⟩
    by_cases c2 : at_ < 0
    · have e : elemX fs a at_ = .error 3 := by unfold elemX; rw [if_pos (.inr c2)]
      rw [e]
      refine PSpec.intro Tryz.func65 rfl (by kernel_rfl) rfl rfl ?_
      intro C
      (refine LWP.seq <| rgN <| K.box rfl rfl rfl .plain <| K.alloc rfl .plain ?_; refine kas rfl <| RunK.nil <| LWP.seq <| LWP.seq <| rgN <| kfa rfl rfl ?_; refine kl1 rfl rfl rfl <| keq rfl rfl (r := false) rfl <| RunK.nil <| LWP.condF rfl ?_; refine LWP.skip ?_; refine LWP.seq <| LWP.seq <| rgN <| kfa rfl rfl ?_; refine kl1 rfl rfl rfl <| keq rfl rfl (r := false) rfl <| RunK.nil <| LWP.condF rfl ?_; refine LWP.skip ?_; refine LWP.seq <| rgN <| kfa rfl rfl ?_; refine kl1 rfl rfl rfl <| kas rfl <| RunK.nil <| LWP.seq <| LWP.seq <| rgN <| kfa rfl rfl ?_; refine kl1 rfl rfl rfl <| keq rfl rfl (r := true) rfl <| RunK.nil <| LWP.condT rfl ?_; refine rgN <| kmv rfl <| kas rfl <| RunK.nil <| LWP.seq <| LWP.seq <| rgN <| kfa rfl rfl ?_; refine kl1 rfl rfl rfl <| kmv rfl <| K.lenX rfl SliceT.h rfl .plain ?_; refine K.geq rfl rfl (decide_eq_false c1) .plain <| kmv rfl <| gmv rfl rfl rfl <| K.lss rfl rfl (decide_eq_true c2) (.taken rfl rfl) ?_; refine kpf rfl rfl <| kmv rfl <| RunK.passed rfl rfl rfl <| RunK.passed rfl rfl rfl <| RunK.passed rfl rfl rfl <| RunK.passed rfl rfl rfl <| RunK.passed rfl rfl rfl <| RunK.passed rfl rfl rfl <| RunK.passed rfl rfl rfl <| RunK.passed rfl rfl rfl <| kpt rfl rfl <| RunK.nil <| LWP.condT rfl ?_; refine LWP.seq <| rgN <| K.build rfl rfl (by exact rfl) (by exact nl3 rfl rfl rfl rfl) .plain ?_; refine K.storeAll rfl rfl rfl rfl rfl rfl .plain ?_; refine kas rfl <| RunK.nil <| LWP.ret ?_)
      exact ⟨[_, _], ⟨⟨_, _, rfl, rfl, rfl, .inl ⟨AggT.h, rfl⟩⟩, rfl, trivial⟩, rfl⟩
    obtain ⟨r, hr⟩ : ∃ r, fs[a.toNat]? = some r := ⟨_, List.getElem?_eq_getElem (by omega)⟩
    have hrl := hrl r (List.mem_of_getElem? hr)
    obtain ⟨blk, off, arr, el, fr, vad, vcap, rfl, hX, hsz, hc, hN⟩ := hfs.at_ _ r hr
    have hio : off + Int.toNat a * 1 = off + a.toNat := by omega
    have hia : 0 ≤ a ∧ a < (fs.length : Nat) := by omega
    have he : elemX fs a at_ = match r[(at_).toNat]? with | none => .error 3 | some v => .ok v := by
      simp only [elemX, if_neg (show ¬ (a < 0 ∨ at_ < 0) by omega), hr]
      cases r[(at_).toNat]? <;> rfl
    by_cases c3 : r.length ≤ at_
    · rw [he, List.getElem?_eq_none (by omega)]
      refine PSpec.intro Tryz.func65 rfl (by kernel_rfl) rfl rfl ?_
      intro C
      ((refine LWP.seq <| rgN <| K.box rfl rfl rfl .plain <| K.alloc rfl .plain ?_; refine kas rfl <| RunK.nil <| LWP.seq <| LWP.seq <| rgN <| kfa rfl rfl ?_; refine kl1 rfl rfl rfl <| keq rfl rfl (r := false) rfl <| RunK.nil <| LWP.condF rfl ?_; refine LWP.skip ?_; refine LWP.seq <| LWP.seq <| rgN <| kfa rfl rfl ?_; refine kl1 rfl rfl rfl <| keq rfl rfl (r := false) rfl <| RunK.nil <| LWP.condF rfl ?_; refine LWP.skip ?_; refine LWP.seq <| rgN <| kfa rfl rfl ?_; refine kl1 rfl rfl rfl <| kas rfl <| RunK.nil <| LWP.seq <| LWP.seq <| rgN <| kfa rfl rfl ?_; refine kl1 rfl rfl rfl <| keq rfl rfl (r := true) rfl <| RunK.nil <| LWP.condT rfl ?_; refine rgN <| kmv rfl <| kas rfl <| RunK.nil <| LWP.seq <| LWP.seq <| rgN <| kfa rfl rfl ?_; refine kl1 rfl rfl rfl <| kmv rfl <| K.lenX rfl SliceT.h rfl .plain ?_); (refine K.geq rfl rfl (decide_eq_false c1) .plain <| kmv rfl <| gmv rfl rfl rfl <| K.lss rfl rfl (decide_eq_false c2) (.taken rfl rfl) ?_; refine kpf rfl rfl <| kmv rfl <| gmv rfl rfl rfl <| gmv rfl rfl rfl <| K.fieldAddr rfl rfl (.taken rfl rfl) ?_; refine K.loadOne rfl rfl rfl (.taken rfl rfl) ?_; refine K.indexX rfl rfl SliceT.h hia hio (.taken rfl rfl) ?_; refine K.loadX rfl hX rfl hc (.taken rfl rfl) ?_; refine K.lenX rfl SliceT.h rfl (.taken rfl rfl) ?_; refine K.geq rfl rfl (decide_eq_true c3) (.taken rfl rfl) ?_; refine kpf rfl rfl <| RunK.nil <| LWP.condT rfl ?_; refine LWP.seq <| rgN <| K.build rfl rfl (by exact rfl) (by exact nl3 rfl rfl rfl rfl) .plain ?_; refine K.storeAll rfl rfl rfl rfl rfl rfl .plain ?_; refine kas rfl <| RunK.nil <| LWP.ret ?_))
      exact ⟨[_, _], ⟨⟨_, _, rfl, rfl, rfl, .inl ⟨AggT.h, rfl⟩⟩, rfl, trivial⟩, rfl⟩
    obtain ⟨v, hv⟩ : ∃ v, r[(at_).toNat]? = some v := ⟨_, List.getElem?_eq_getElem (by omega)⟩
    obtain ⟨vb, vN⟩ := v
    obtain ⟨_, blk2, off2, arr2, el2, fr2, rfl, hX2, hsz2, hcs2⟩ := hN.at hv
    have hib : 0 ≤ at_ ∧ at_ < (r.length : Nat) := by omega
    have hio2 : off2 + Int.toNat (at_) * 3 = off2 + (at_).toNat * 3 := rfl
    rw [he, hv]
    refine PSpec.intro Tryz.func65 rfl (by kernel_rfl) rfl rfl ?_
    intro C
    ((refine LWP.seq <| rgN <| K.box rfl rfl rfl .plain <| K.alloc rfl .plain ?_; refine kas rfl <| RunK.nil <| LWP.seq <| LWP.seq <| rgN <| kfa rfl rfl ?_; refine kl1 rfl rfl rfl <| keq rfl rfl (r := false) rfl <| RunK.nil <| LWP.condF rfl ?_; refine LWP.skip ?_; refine LWP.seq <| LWP.seq <| rgN <| kfa rfl rfl ?_; refine kl1 rfl rfl rfl <| keq rfl rfl (r := false) rfl <| RunK.nil <| LWP.condF rfl ?_; refine LWP.skip ?_; refine LWP.seq <| rgN <| kfa rfl rfl ?_; refine kl1 rfl rfl rfl <| kas rfl <| RunK.nil <| LWP.seq <| LWP.seq <| rgN <| kfa rfl rfl ?_; refine kl1 rfl rfl rfl <| keq rfl rfl (r := true) rfl <| RunK.nil <| LWP.condT rfl ?_; refine rgN <| kmv rfl <| kas rfl <| RunK.nil <| LWP.seq <| LWP.seq <| rgN <| kfa rfl rfl ?_; refine kl1 rfl rfl rfl <| kmv rfl <| K.lenX rfl SliceT.h rfl .plain ?_); (refine K.geq rfl rfl (decide_eq_false c1) .plain <| kmv rfl <| gmv rfl rfl rfl <| K.lss rfl rfl (decide_eq_false c2) (.taken rfl rfl) ?_; refine kpf rfl rfl <| kmv rfl <| gmv rfl rfl rfl <| gmv rfl rfl rfl <| K.fieldAddr rfl rfl (.taken rfl rfl) ?_; refine K.loadOne rfl rfl rfl (.taken rfl rfl) ?_; refine K.indexX rfl rfl SliceT.h hia hio (.taken rfl rfl) ?_; refine K.loadX rfl hX rfl hc (.taken rfl rfl) ?_; refine K.lenX rfl SliceT.h rfl (.taken rfl rfl) ?_; refine K.geq rfl rfl (decide_eq_false c3) (.taken rfl rfl) ?_; refine kpf rfl rfl <| RunK.nil <| LWP.condF rfl ?_; refine LWP.skip ?_; refine LWP.seq <| rgN <| kmv rfl <| kfa rfl rfl ?_; refine kl1 rfl rfl rfl <| K.indexX rfl rfl SliceT.h hia hio .plain <| K.loadX rfl hX rfl hc .plain <| kmv rfl <| K.indexX rfl rfl SliceT.h hib hio2 .plain <| K.loadXagg rfl hX2 (by kernel_rfl) hsz2 hcs2 .plain <| K.storeAll rfl rfl rfl rfl rfl rfl .plain ?_; refine kas rfl <| RunK.nil <| LWP.ret ?_))
    exact ⟨[_, _], ⟨⟨_, _, rfl, rfl, rfl, .inl ⟨AggT.h, rfl⟩⟩, rfl, trivial⟩, rfl⟩
  · by_cases c : at_ < 0
    · show PSpec _ _ _ _ (exR (if at_ < 0 then .error 3 else .ok (false, at_)))
      rw [if_pos c]
      refine PSpec.intro Tryz.func65 rfl (by kernel_rfl) rfl rfl ?_
      intro C
      (refine LWP.seq <| rgN <| K.box rfl rfl rfl .plain <| K.alloc rfl .plain ?_; refine kas rfl <| RunK.nil <| LWP.seq <| LWP.seq <| rgN <| kfa rfl rfl ?_; refine kl1 rfl rfl rfl <| keq rfl rfl (r := false) rfl <| RunK.nil <| LWP.condF rfl ?_; refine LWP.skip ?_; refine LWP.seq <| LWP.seq <| rgN <| kfa rfl rfl ?_; refine kl1 rfl rfl rfl <| keq rfl rfl (r := true) rfl <| RunK.nil <| LWP.condT rfl ?_; refine LWP.seq <| LWP.seq <| rgN <| kmv rfl <| klt rfl rfl (decide_eq_true c) <| RunK.nil <| LWP.condT rfl ?_; refine LWP.seq <| rgN <| K.build rfl rfl (by exact rfl) (by exact nl3 rfl rfl rfl rfl) .plain ?_; refine K.storeAll rfl rfl rfl rfl rfl rfl .plain ?_; refine kas rfl <| RunK.nil <| LWP.ret ?_)
      exact ⟨[_, _], ⟨⟨_, _, rfl, rfl, rfl, .inl ⟨AggT.h, rfl⟩⟩, rfl, trivial⟩, rfl⟩
    · show PSpec _ _ _ _ (exR (if at_ < 0 then .error 3 else .ok (false, at_)))
      rw [if_neg c]
      show PSpec _ _ _ _ (.tup [SI false at_, Sn .i64 0])
      rw [SI_small (by omega)]
      have hcv : IntKind.u64.wrap at_ = at_ := by rw [IntKind.wrap_u64]; omega
      refine PSpec.intro Tryz.func65 rfl (by kernel_rfl) rfl rfl ?_
      intro C
      (refine LWP.seq <| rgN <| K.box rfl rfl rfl .plain <| K.alloc rfl .plain ?_; refine kas rfl <| RunK.nil <| LWP.seq <| LWP.seq <| rgN <| kfa rfl rfl ?_; refine kl1 rfl rfl rfl <| keq rfl rfl (r := false) rfl <| RunK.nil <| LWP.condF rfl ?_; refine LWP.skip ?_; refine LWP.seq <| LWP.seq <| rgN <| kfa rfl rfl ?_; refine kl1 rfl rfl rfl <| keq rfl rfl (r := true) rfl <| RunK.nil <| LWP.condT rfl ?_; refine LWP.seq <| LWP.seq <| rgN <| kmv rfl <| klt rfl rfl (decide_eq_false c) <| RunK.nil <| LWP.condF rfl ?_; refine LWP.skip ?_; refine LWP.seq <| rgN <| kmv rfl <| kcv rfl hcv ?_; refine K.build rfl rfl (by exact rfl) (by exact nl3 rfl rfl rfl rfl) .plain ?_; refine K.storeAll rfl rfl rfl rfl rfl rfl .plain ?_; refine kas rfl <| RunK.nil <| LWP.ret ?_)
      exact ⟨[_, _], ⟨⟨_, _, rfl, rfl, rfl, .inl ⟨AggT.h, rfl⟩⟩, rfl, trivial⟩, rfl⟩
end Go.Proofs.YtimpjdbhalnofaaGreatDoor
end
