/- A piece of a proof over this program: contracts of its functions, and a logic to prove them by. -/
import Derived.Test.YtimpjdbhalnofaaGreatDoorP2
import Derived.Test.YtimpjdbhalnofaaGreatDoorP3
import Derived.Test.YtimpjdbhalnofaaGreatDoorP4
import Derived.Test.YtimpjdbhalnofaaGreatDoorShelf
import Derived.Lib.Walk
import Derived.Lib.ItoaMem
import Derived.Lib.AppendIntMem
import Derived.WalkKit
import Derived.BigCall
import Derived.BigGuard
import Derived.ChangeKeysEq
section
namespace Go.Proofs.YtimpjdbhalnofaaGreatDoor
open Go Go.Lg Go.Lg.Arith
variable (X : Nat → Option Obj)
def lzOf (y : Int) : Nat := 64 - Lib.bitLen y.toNat
theorem lzOf_spec {y : Int} (hy : 0 < y ∧ y < 18446744073709551616) : lzOf y ≤ 63 ∧ 9223372036854775808 ≤ y * 2 ^ lzOf y ∧ y * 2 ^ lzOf y < 18446744073709551616 := by
  obtain ⟨n, rfl⟩ := Int.eq_ofNat_of_zero_le (Int.le_of_lt hy.1)
  have hb := Lib.bitLenAux_bounds 64 n (by have := hy.2; omega) (by have := hy.1; omega)
  have hle : Lib.bitLen n ≤ 64 := Lib.bitLen_le n 64 (by decide) (by have := hy.2; omega)
  change 1 ≤ Lib.bitLen n ∧ 2 ^ (Lib.bitLen n - 1) ≤ n ∧ n < 2 ^ Lib.bitLen n at hb
  have e : lzOf (n : Int) = 64 - Lib.bitLen n := by simp [lzOf]
  rw [e]
  generalize Lib.bitLen n = k at *
  obtain ⟨h1, h2, h3⟩ := hb
  have m1 := Nat.mul_le_mul_right (2 ^ (64 - k)) h2
  have m2 := Nat.mul_lt_mul_of_pos_right h3 (Nat.two_pow_pos (64 - k))
  rw [← Nat.pow_add, show k - 1 + (64 - k) = 63 by omega] at m1
  rw [← Nat.pow_add, show k + (64 - k) = 64 by omega] at m2
  have ec : ((n : Int) * 2 ^ (64 - k)) = ((n * 2 ^ (64 - k) : Nat) : Int) := by rw [Int.natCast_mul, Int.natCast_pow]; rfl
  rw [ec]
  exact ⟨by omega, by omega, by omega⟩
theorem lz_spec (y : Int) (hy : 0 ≤ y ∧ y < 18446744073709551616) : PSpec Tryz.prog X 118 [Ln .u64 y] (Ln .i64 (lzOf y : Nat)) := by
  refine PSpec.ofCalls (vals := [.int .u64 y]) (v := .int .i64 (lzOf y : Nat)) (by kernel_rfl) rfl rfl (fun w _ => ?_)
  refine (Tryz.bits_LeadingZeros64 y w hy.1 (by omega)).mono ?_
  rintro e w' ⟨rfl, rfl⟩
  refine ⟨?_, rfl⟩
  have hle : Lib.bitLen y.toNat ≤ 64 := Lib.bitLen_le _ 64 (by decide) (by have := hy.2; omega)
  have : ((lzOf y : Nat) : Int) = 64 - (Lib.bitLen y.toNat : Int) := by unfold lzOf; omega
  rw [this]
set_option maxHeartbeats 1000000 in
theorem Div64_spec (hi lo y : Int) (hh : 0 ≤ hi ∧ hi < y) (hl : 0 ≤ lo ∧ lo < 18446744073709551616) (hy : y < 18446744073709551616) :
    PSpec Tryz.prog X 83 [Ln .u64 hi, Ln .u64 lo, Ln .u64 y] (.tup [Sn .u64 ((hi * 18446744073709551616 + lo) / y), Sn .u64 ((hi * 18446744073709551616 + lo) % y)]) := by
  have hlz := lz_spec X y (by omega)
  obtain ⟨hs, hY1, hY2⟩ := lzOf_spec (y := y) (by omega)
  generalize lzOf y = s at hlz hs hY1 hY2
  have hE : (0 : Int) < 2 ^ s := Int.pow_pos (by decide)
  have hF : (0 : Int) < 2 ^ (64 - s) := Int.pow_pos (by decide)
  have hEF := pow_split (s := s) (by omega)
  have hsh := shift2 (hi := hi) (lo := lo) hE hF hEF hl.1
  have hsc := scale (N := hi * 18446744073709551616 + lo) (y := y) hE (by omega)
  have hlo2 : 0 ≤ lo / 2 ^ (64 - s) ∧ lo / 2 ^ (64 - s) < 2 ^ s := by
    refine ⟨Int.ediv_nonneg hl.1 (Int.le_of_lt hF), ?_⟩
    rw [Int.ediv_lt_iff_lt_mul hF, hEF]; exact hl.2
  have hhi2 : 0 ≤ hi ∧ hi * 2 ^ s < 18446744073709551616 := by
    refine ⟨hh.1, ?_⟩
    have := Int.mul_le_mul_of_nonneg_right (Int.le_of_lt hh.2) (Int.le_of_lt hE)
    omega
  have hhi3 : 0 ≤ hi * 2 ^ s := Int.mul_nonneg hh.1 (Int.le_of_lt hE)
  obtain ⟨Y, hY⟩ : ∃ Y, y * 2 ^ s = Y := ⟨_, rfl⟩
  obtain ⟨U, hU⟩ : ∃ U, hi * 2 ^ s + lo / 2 ^ (64 - s) = U := ⟨_, rfl⟩
  obtain ⟨V, hV⟩ : ∃ V, lo * 2 ^ s % 18446744073709551616 = V := ⟨_, rfl⟩
  have hV0 : 0 ≤ V ∧ V < 18446744073709551616 := by omega
  have hUY : U < Y := by
    have h1 : (hi * 18446744073709551616 + lo) * 2 ^ s < (y * 18446744073709551616) * 2 ^ s := Int.mul_lt_mul_of_pos_right (by omega) hE
    rw [Int.mul_right_comm] at h1
    rw [hY] at h1
    rw [hsh, hU, hV] at h1
    omega
  have hU0 : 0 ≤ U := by omega
  rw [hsh, hU, hV, hY] at hsc
  rw [hY] at hY1 hY2
  have ka1 : KArg (Y / 4294967296) (Y % 4294967296) U (V / 4294967296) := ⟨by omega, by omega, by omega, by omega⟩
  have eY : Y / 4294967296 * 4294967296 + Y % 4294967296 = Y := by omega
  have ks1 := k_start ka1
  have kq1 : ∀ q r, KInv (Y / 4294967296) (Y % 4294967296) U (V / 4294967296) q r → q * Y ≤ U * 4294967296 + V / 4294967296 → q = (U * 4294967296 + V / 4294967296) / Y ∧ U * 4294967296 + V / 4294967296 - q * Y = (U * 4294967296 + V / 4294967296) % Y := by
    intro q r k he
    have := k_quo ka1 k (by rw [eY]; exact he)
    rw [eY] at this
    exact this
  refine PSpec.intro Tryz.func83 rfl (by kernel_rfl) rfl rfl ?_
  intro C
  by_cases hz : hi = 0
  · subst hz
    (refine LWP.seq <| LWP.region (by kernel_rfl) <| kas rfl <| kas rfl <| RunK.nil <| LWP.seq <| LWP.seq <| LWP.region (by kernel_rfl) <| kmv rfl <| keq rfl rfl (beq_eq_false_iff_ne.2 (by omega)) <| RunK.nil <| LWP.condF rfl ?_; refine LWP.skip ?_; refine LWP.seq <| LWP.seq <| LWP.region (by kernel_rfl) <| kmv rfl <| kmv rfl <| K.leq rfl rfl (decide_eq_false (by omega)) .plain <| RunK.nil <| LWP.condF rfl ?_; refine LWP.skip ?_; refine LWP.seq <| LWP.seq <| LWP.region (by kernel_rfl) <| kmv rfl <| keq rfl rfl (beq_iff_eq.2 (by omega)) <| RunK.nil <| LWP.condT rfl ?_; refine LWP.seq <| LWP.draws mixed (by kernel_rfl) <| kmv rfl <| kmv rfl <| K.quo rfl rfl (by omega) (quo_u64 (by omega) (by omega)) .plain <| kmv rfl <| kmv rfl <| K.rem rfl rfl (by omega) (rem_pos (by omega)) .plain <| kas rfl <| kas rfl <| RunK.nil <| And.intro (by kernel_rfl) ?_; refine LWP.ret ?_)
    exact ⟨[_, _], ⟨rfl, rfl, trivial⟩, by simp [resOf]⟩
  · have hm1 : 0 ≤ U / (Y / 4294967296) * (Y / 4294967296) ∧ U / (Y / 4294967296) * (Y / 4294967296) ≤ U := by have := ks1.r0; have := ks1.eq; exact ⟨Int.mul_nonneg ks1.q0 (by omega), by omega⟩
    (refine LWP.seq <| LWP.region (by kernel_rfl) <| kas rfl <| kas rfl <| RunK.nil <| LWP.seq <| LWP.seq <| LWP.region (by kernel_rfl) <| kmv rfl <| keq rfl rfl (beq_eq_false_iff_ne.2 (by omega)) <| RunK.nil <| LWP.condF rfl ?_; refine LWP.skip ?_; refine LWP.seq <| LWP.seq <| LWP.region (by kernel_rfl) <| kmv rfl <| kmv rfl <| K.leq rfl rfl (decide_eq_false (by omega)) .plain <| RunK.nil <| LWP.condF rfl ?_; refine LWP.skip ?_; refine LWP.seq <| LWP.seq <| LWP.region (by kernel_rfl) <| kmv rfl <| keq rfl rfl (beq_eq_false_iff_ne.2 (by omega)) <| RunK.nil <| LWP.condF rfl ?_; refine LWP.skip ?_; refine LWP.seq <| LWP.region (by kernel_rfl) <| kmv rfl <| kca rfl rfl (hlz) <| kcv rfl (by exact wrap_u64 (by omega)) ?_; refine kas rfl <| RunK.nil <| LWP.seq <| LWP.region (by kernel_rfl) <| kmv rfl <| kmv rfl <| K.shl rfl rfl (by omega) (shl_s (by omega) hY (by omega)) .plain <| kas rfl <| RunK.nil <| LWP.seq <| LWP.region (by kernel_rfl) <| kmv rfl <| K.shr rfl rfl (by omega) (shr_32 _) .plain <| kas rfl ?_; refine RunK.nil <| LWP.seq <| LWP.region (by kernel_rfl) <| kmv rfl <| K.bitop (by simp) rfl rfl (and_32 (by omega)) .plain <| kas rfl <| RunK.nil <| LWP.seq <| LWP.region (by kernel_rfl) <| kmv rfl <| kmv rfl <| K.shl rfl rfl (by omega) (shl_s (by omega) rfl ⟨hhi3, hhi2.2⟩) .plain <| kmv rfl <| kmv rfl ?_; refine K.sub rfl rfl (wrap_u64 (by omega)) .plain <| K.shr rfl rfl (by omega) (shr_64s (by omega)) .plain <| K.bitop (by simp) rfl rfl (or_apart' (by omega) hhi2 hlo2 hU) .plain <| kas rfl <| RunK.nil <| LWP.seq <| LWP.region (by kernel_rfl) <| kmv rfl <| kmv rfl <| K.shl rfl rfl (by omega) ((shl_mod (by omega)).trans hV) .plain <| kas rfl <| RunK.nil <| LWP.seq <| LWP.region (by kernel_rfl) ?_; refine kmv rfl <| K.shr rfl rfl (by omega) (shr_32 _) .plain <| kas rfl <| RunK.nil <| LWP.seq <| LWP.region (by kernel_rfl) <| kmv rfl <| K.bitop (by simp) rfl rfl (and_32 (by omega)) .plain <| kas rfl <| RunK.nil <| LWP.seq <| LWP.region (by kernel_rfl) <| kmv rfl <| kmv rfl ?_; refine K.quo rfl rfl (by omega) (quo_u64 (by omega) (by omega)) .plain <| kas rfl <| RunK.nil <| LWP.seq <| LWP.region (by kernel_rfl) <| kmv rfl <| kmv rfl <| kmv rfl <| K.mul rfl rfl (wrap_u64 (by omega)) .plain <| K.sub rfl rfl (wrap_u64 (by omega)) .plain <| kas rfl <| RunK.nil <| LWP.seq <| LWP.block ?_)
    have hy1 : U - U / (Y / 4294967296) * (Y / 4294967296) < Y / 4294967296 := by
      have h2 := Int.emod_add_mul_ediv U (Y / 4294967296)
      have h3 := Int.emod_lt_of_pos U (show 0 < Y / 4294967296 by omega)
      rw [Int.mul_comm] at h2
      omega
    refine LWP.meet (fun σ => ∃ q r : Int, q = (U * 4294967296 + V / 4294967296) / Y ∧ σ = ⟨[(2, Ln .u64 Y), (8, Ln .u64 s), (9, Ln .u64 (Y / 4294967296)), (10, Ln .u64 (Y % 4294967296)), (11, Ln .u64 U), (13, Ln .u64 (V / 4294967296)), (14, Ln .u64 (V % 4294967296)), (15, Ln .u64 q), (16, Ln .u64 r)], [], X⟩) ?_ ?_
    · refine LWP.loop (fun m σ => ∃ q r : Int, KInv (Y / 4294967296) (Y % 4294967296) U (V / 4294967296) q r ∧ r < 4294967296 ∧ m = q.toNat ∧ σ = ⟨[(2, Ln .u64 Y), (8, Ln .u64 s), (9, Ln .u64 (Y / 4294967296)), (10, Ln .u64 (Y % 4294967296)), (11, Ln .u64 U), (13, Ln .u64 (V / 4294967296)), (14, Ln .u64 (V % 4294967296)), (15, Ln .u64 q), (16, Ln .u64 r)], [], X⟩) (U / (Y / 4294967296)).toNat
        ⟨_, Le.of (by exact ⟨rfl, rfl, rfl, rfl, rfl, rfl, rfl, rfl, rfl, trivial⟩) (by exact trivial) (by exact rfl) (by exact rfl) (by exact rfl), _, _, ks1, by omega, rfl, rfl⟩ ?_
      rintro m σ ⟨q, r, k, hr, rfl, rfl⟩
      have hq0 := k.q0
      have hr0 := k.r0
      have hqU : q ≤ U := by
        have := k.eq
        have := Int.mul_le_mul_of_nonneg_left (show (1 : Int) ≤ Y / 4294967296 by omega) hq0
        omega
      have next : ∀ q' r', KInv (Y / 4294967296) (Y % 4294967296) U (V / 4294967296) q' r' → 4294967296 ≤ r' → q' = (U * 4294967296 + V / 4294967296) / Y := fun q' r' k' h' => (kq1 q' r' k' (by have := k_break ka1 k' h'; rwa [eY] at this)).1
      by_cases hq : 4294967296 ≤ q
      · have k' := k_big ka1 k hq
        have hrn := next _ _ k'
        by_cases hr2 : 4294967296 ≤ r + Y / 4294967296
        · (refine LWP.seq <| LWP.seq <| LWP.region (by kernel_rfl) <| kmv rfl <| K.geq rfl rfl (decide_eq_true (by omega)) .plain <| kmv rfl <| RunK.passed rfl rfl rfl <| RunK.passed rfl rfl rfl <| RunK.passed rfl rfl rfl <| RunK.passed rfl rfl rfl <| RunK.passed rfl rfl rfl <| RunK.passed rfl rfl rfl <| RunK.passed rfl rfl rfl <| RunK.passed rfl rfl rfl ?_; refine kpt rfl rfl <| RunK.nil <| LWP.condT rfl ?_; refine LWP.skip ?_; refine LWP.block <| LWP.seq <| LWP.region (by kernel_rfl) <| kmv rfl <| K.sub rfl rfl (wrap_u64 (by omega)) .plain <| kas rfl <| RunK.nil <| LWP.seq <| LWP.region (by kernel_rfl) <| kmv rfl <| kmv rfl <| kad rfl rfl (wrap_u64 (by omega)) <| kas rfl <| RunK.nil ?_; refine LWP.seq <| LWP.region (by kernel_rfl) <| kmv rfl <| K.geq rfl rfl (decide_eq_true (by omega)) .plain <| RunK.nil <| LWP.condT rfl ?_; refine LWP.exit ?_)
          exact ⟨_, Le.of (by exact ⟨rfl, rfl, rfl, rfl, rfl, rfl, rfl, rfl, rfl, trivial⟩) (by exact trivial) (by exact rfl) (by exact rfl) (by exact rfl), _, _, hrn hr2, rfl⟩
        · (refine LWP.seq <| LWP.seq <| LWP.region (by kernel_rfl) <| kmv rfl <| K.geq rfl rfl (decide_eq_true (by omega)) .plain <| kmv rfl <| RunK.passed rfl rfl rfl <| RunK.passed rfl rfl rfl <| RunK.passed rfl rfl rfl <| RunK.passed rfl rfl rfl <| RunK.passed rfl rfl rfl <| RunK.passed rfl rfl rfl <| RunK.passed rfl rfl rfl <| RunK.passed rfl rfl rfl ?_; refine kpt rfl rfl <| RunK.nil <| LWP.condT rfl ?_; refine LWP.skip ?_; refine LWP.block <| LWP.seq <| LWP.region (by kernel_rfl) <| kmv rfl <| K.sub rfl rfl (wrap_u64 (by omega)) .plain <| kas rfl <| RunK.nil <| LWP.seq <| LWP.region (by kernel_rfl) <| kmv rfl <| kmv rfl <| kad rfl rfl (wrap_u64 (by omega)) <| kas rfl <| RunK.nil ?_; refine LWP.seq <| LWP.region (by kernel_rfl) <| kmv rfl <| K.geq rfl rfl (decide_eq_false (by omega)) .plain <| RunK.nil <| LWP.condF rfl ?_; refine LWP.skip ?_)
          exact ⟨_, _, by omega, Le.of (by exact ⟨rfl, rfl, rfl, rfl, rfl, rfl, rfl, rfl, rfl, trivial⟩) (by exact trivial) (by exact rfl) (by exact rfl) (by exact rfl), _, _, k', by omega, rfl, rfl⟩
      · have hqy := mul_bound (a := q) (b := Y % 4294967296) (A := 4294967295) (B := 4294967295) ⟨hq0, by omega⟩ ⟨by omega, by omega⟩
        by_cases hb : 4294967296 * r + V / 4294967296 < q * (Y % 4294967296)
        · have k' := k_high ka1 k hb
          have hrn := next _ _ k'
          have hq1 : 1 ≤ q := by have := k'.q0; omega
          by_cases hr2 : 4294967296 ≤ r + Y / 4294967296
          · (refine LWP.seq <| LWP.seq <| LWP.region (by kernel_rfl) <| kmv rfl <| K.geq rfl rfl (decide_eq_false (by omega)) .plain <| kmv rfl <| gmv rfl rfl rfl <| gmv rfl rfl rfl <| K.mul rfl rfl (wrap_u64 (by omega)) (.taken rfl rfl) ?_; refine gmv rfl rfl rfl <| K.mul rfl rfl (wrap_u64 (by omega)) (.taken rfl rfl) ?_; refine gmv rfl rfl rfl <| K.add rfl rfl (wrap_u64 (by omega)) (.taken rfl rfl) ?_; refine K.gtr rfl rfl (decide_eq_true (by omega)) (.taken rfl rfl) ?_; refine kpf rfl rfl <| RunK.nil <| LWP.condT rfl ?_; refine LWP.skip ?_; refine LWP.block <| LWP.seq <| LWP.region (by kernel_rfl) <| kmv rfl <| K.sub rfl rfl (wrap_u64 (by omega)) .plain <| kas rfl <| RunK.nil <| LWP.seq <| LWP.region (by kernel_rfl) <| kmv rfl <| kmv rfl <| kad rfl rfl (wrap_u64 (by omega)) <| kas rfl <| RunK.nil ?_; refine LWP.seq <| LWP.region (by kernel_rfl) <| kmv rfl <| K.geq rfl rfl (decide_eq_true (by omega)) .plain <| RunK.nil <| LWP.condT rfl ?_; refine LWP.exit ?_)
            exact ⟨_, Le.of (by exact ⟨rfl, rfl, rfl, rfl, rfl, rfl, rfl, rfl, rfl, trivial⟩) (by exact trivial) (by exact rfl) (by exact rfl) (by exact rfl), _, _, hrn hr2, rfl⟩
          · (refine LWP.seq <| LWP.seq <| LWP.region (by kernel_rfl) <| kmv rfl <| K.geq rfl rfl (decide_eq_false (by omega)) .plain <| kmv rfl <| gmv rfl rfl rfl <| gmv rfl rfl rfl <| K.mul rfl rfl (wrap_u64 (by omega)) (.taken rfl rfl) ?_; refine gmv rfl rfl rfl <| K.mul rfl rfl (wrap_u64 (by omega)) (.taken rfl rfl) ?_; refine gmv rfl rfl rfl <| K.add rfl rfl (wrap_u64 (by omega)) (.taken rfl rfl) ?_; refine K.gtr rfl rfl (decide_eq_true (by omega)) (.taken rfl rfl) ?_; refine kpf rfl rfl <| RunK.nil <| LWP.condT rfl ?_; refine LWP.skip ?_; refine LWP.block <| LWP.seq <| LWP.region (by kernel_rfl) <| kmv rfl <| K.sub rfl rfl (wrap_u64 (by omega)) .plain <| kas rfl <| RunK.nil <| LWP.seq <| LWP.region (by kernel_rfl) <| kmv rfl <| kmv rfl <| kad rfl rfl (wrap_u64 (by omega)) <| kas rfl <| RunK.nil ?_; refine LWP.seq <| LWP.region (by kernel_rfl) <| kmv rfl <| K.geq rfl rfl (decide_eq_false (by omega)) .plain <| RunK.nil <| LWP.condF rfl ?_; refine LWP.skip ?_)
            exact ⟨_, _, by omega, Le.of (by exact ⟨rfl, rfl, rfl, rfl, rfl, rfl, rfl, rfl, rfl, trivial⟩) (by exact trivial) (by exact rfl) (by exact rfl) (by exact rfl), _, _, k', by omega, rfl, rfl⟩
        · (refine LWP.seq <| LWP.seq <| LWP.region (by kernel_rfl) <| kmv rfl <| K.geq rfl rfl (decide_eq_false (by omega)) .plain <| kmv rfl <| gmv rfl rfl rfl <| gmv rfl rfl rfl <| K.mul rfl rfl (wrap_u64 (by omega)) (.taken rfl rfl) ?_; refine gmv rfl rfl rfl <| K.mul rfl rfl (wrap_u64 (by omega)) (.taken rfl rfl) ?_; refine gmv rfl rfl rfl <| K.add rfl rfl (wrap_u64 (by omega)) (.taken rfl rfl) ?_; refine K.gtr rfl rfl (decide_eq_false (by omega)) (.taken rfl rfl) ?_; refine kpf rfl rfl <| RunK.nil <| LWP.condF rfl ?_; refine LWP.exit ?_)
          exact ⟨_, Le.of (by exact ⟨rfl, rfl, rfl, rfl, rfl, rfl, rfl, rfl, rfl, trivial⟩) (by exact trivial) (by exact rfl) (by exact rfl) (by exact rfl), _, _, (kq1 q r k (by have := k_end k (by omega); rwa [eY] at this)).1, rfl⟩
    · rintro σ ⟨q1, r1, hq1, rfl⟩
      have hYp : 0 < Y := by omega
      have hq1B := digit_lt hYp hUY (show V / 4294967296 < 4294967296 by omega) hq1
      obtain ⟨R, hR⟩ : ∃ R, (U * 4294967296 + V / 4294967296) % Y = R := ⟨_, rfl⟩
      have hR0 := Int.emod_nonneg (U * 4294967296 + V / 4294967296) (show Y ≠ 0 by omega)
      have hR1 := Int.emod_lt_of_pos (U * 4294967296 + V / 4294967296) hYp
      have hRe := Int.emod_add_mul_ediv (U * 4294967296 + V / 4294967296) Y
      rw [← hq1, Int.mul_comm Y q1] at hRe
      rw [hR] at hR0 hR1 hRe
      have hq10 : 0 ≤ q1 := by rw [hq1]; exact Int.ediv_nonneg (by omega) (by omega)
      have hsub1 : IntKind.u64.wrap (IntKind.u64.wrap (IntKind.u64.wrap (U * 4294967296) + V / 4294967296) - IntKind.u64.wrap (q1 * Y)) = R := by rw [wrap3 (by omega)]; omega
      have ka2 : KArg (Y / 4294967296) (Y % 4294967296) R (V % 4294967296) := ⟨by omega, by omega, by omega, by omega⟩
      have ks2 := k_start ka2
      have kq2 : ∀ q r, KInv (Y / 4294967296) (Y % 4294967296) R (V % 4294967296) q r → q * Y ≤ R * 4294967296 + V % 4294967296 → q = (R * 4294967296 + V % 4294967296) / Y ∧ R * 4294967296 + V % 4294967296 - q * Y = (R * 4294967296 + V % 4294967296) % Y := by
        intro q r k he
        have := k_quo ka2 k (by rw [eY]; exact he)
        rw [eY] at this
        exact this
      have hm2 : 0 ≤ R / (Y / 4294967296) * (Y / 4294967296) ∧ R / (Y / 4294967296) * (Y / 4294967296) ≤ R := by have := ks2.r0; have := ks2.eq; exact ⟨Int.mul_nonneg ks2.q0 (by omega), by omega⟩
      have hy2 : R - R / (Y / 4294967296) * (Y / 4294967296) < Y / 4294967296 := by
        have h2 := Int.emod_add_mul_ediv R (Y / 4294967296)
        have h3 := Int.emod_lt_of_pos R (show 0 < Y / 4294967296 by omega)
        rw [Int.mul_comm] at h2
        omega
      (refine LWP.seq <| LWP.region (by kernel_rfl) <| kmv rfl <| K.mul rfl rfl rfl .plain <| kmv rfl <| kad rfl rfl rfl <| kmv rfl <| kmv rfl <| K.mul rfl rfl rfl .plain <| K.sub rfl rfl hsub1 .plain <| kas rfl <| RunK.nil <| LWP.seq <| LWP.region (by kernel_rfl) ?_; refine kmv rfl <| kmv rfl <| K.quo rfl rfl (by omega) (quo_u64 (by omega) (by omega)) .plain <| kas rfl <| RunK.nil <| LWP.seq <| LWP.region (by kernel_rfl) <| kmv rfl <| kmv rfl <| kmv rfl <| K.mul rfl rfl (wrap_u64 (by omega)) .plain <| K.sub rfl rfl (wrap_u64 (by omega)) .plain <| kas rfl <| RunK.nil ?_; refine LWP.seq <| LWP.block ?_)
      refine LWP.meet (fun σ => ∃ q r : Int, q = (R * 4294967296 + V % 4294967296) / Y ∧ σ = ⟨[(2, Ln .u64 Y), (8, Ln .u64 s), (14, Ln .u64 (V % 4294967296)), (15, Ln .u64 q1), (17, Ln .u64 R), (18, Ln .u64 q), (16, Ln .u64 r)], [], X⟩) ?_ ?_
      · refine LWP.loop (fun m σ => ∃ q r : Int, KInv (Y / 4294967296) (Y % 4294967296) R (V % 4294967296) q r ∧ r < 4294967296 ∧ m = q.toNat ∧ σ = ⟨[(2, Ln .u64 Y), (8, Ln .u64 s), (9, Ln .u64 (Y / 4294967296)), (10, Ln .u64 (Y % 4294967296)), (14, Ln .u64 (V % 4294967296)), (15, Ln .u64 q1), (17, Ln .u64 R), (18, Ln .u64 q), (16, Ln .u64 r)], [], X⟩) (R / (Y / 4294967296)).toNat
          ⟨_, Le.of (by exact ⟨rfl, rfl, rfl, rfl, rfl, rfl, rfl, rfl, rfl, trivial⟩) (by exact trivial) (by exact rfl) (by exact rfl) (by exact rfl), _, _, ks2, by omega, rfl, rfl⟩ ?_
        rintro m σ ⟨q, r, k, hr, rfl, rfl⟩
        have hq0 := k.q0
        have hr0 := k.r0
        have hqU : q ≤ R := by
          have := k.eq
          have := Int.mul_le_mul_of_nonneg_left (show (1 : Int) ≤ Y / 4294967296 by omega) hq0
          omega
        have next : ∀ q' r', KInv (Y / 4294967296) (Y % 4294967296) R (V % 4294967296) q' r' → 4294967296 ≤ r' → q' = (R * 4294967296 + V % 4294967296) / Y := fun q' r' k' h' => (kq2 q' r' k' (by have := k_break ka2 k' h'; rwa [eY] at this)).1
        by_cases hq : 4294967296 ≤ q
        · have k' := k_big ka2 k hq
          have hrn := next _ _ k'
          by_cases hr2 : 4294967296 ≤ r + Y / 4294967296
          · (refine LWP.seq <| LWP.seq <| LWP.region (by kernel_rfl) <| kmv rfl <| K.geq rfl rfl (decide_eq_true (by omega)) .plain <| kmv rfl <| RunK.passed rfl rfl rfl <| RunK.passed rfl rfl rfl <| RunK.passed rfl rfl rfl <| RunK.passed rfl rfl rfl <| RunK.passed rfl rfl rfl <| RunK.passed rfl rfl rfl <| RunK.passed rfl rfl rfl <| RunK.passed rfl rfl rfl ?_; refine kpt rfl rfl <| RunK.nil <| LWP.condT rfl ?_; refine LWP.skip ?_; refine LWP.block <| LWP.seq <| LWP.region (by kernel_rfl) <| kmv rfl <| K.sub rfl rfl (wrap_u64 (by omega)) .plain <| kas rfl <| RunK.nil <| LWP.seq <| LWP.region (by kernel_rfl) <| kmv rfl <| kmv rfl <| kad rfl rfl (wrap_u64 (by omega)) <| kas rfl <| RunK.nil ?_; refine LWP.seq <| LWP.region (by kernel_rfl) <| kmv rfl <| K.geq rfl rfl (decide_eq_true (by omega)) .plain <| RunK.nil <| LWP.condT rfl ?_; refine LWP.exit ?_)
            exact ⟨_, Le.of (by exact ⟨rfl, rfl, rfl, rfl, rfl, rfl, rfl, trivial⟩) (by exact trivial) (by exact rfl) (by exact rfl) (by exact rfl), _, _, hrn hr2, rfl⟩
          · (refine LWP.seq <| LWP.seq <| LWP.region (by kernel_rfl) <| kmv rfl <| K.geq rfl rfl (decide_eq_true (by omega)) .plain <| kmv rfl <| RunK.passed rfl rfl rfl <| RunK.passed rfl rfl rfl <| RunK.passed rfl rfl rfl <| RunK.passed rfl rfl rfl <| RunK.passed rfl rfl rfl <| RunK.passed rfl rfl rfl <| RunK.passed rfl rfl rfl <| RunK.passed rfl rfl rfl ?_; refine kpt rfl rfl <| RunK.nil <| LWP.condT rfl ?_; refine LWP.skip ?_; refine LWP.block <| LWP.seq <| LWP.region (by kernel_rfl) <| kmv rfl <| K.sub rfl rfl (wrap_u64 (by omega)) .plain <| kas rfl <| RunK.nil <| LWP.seq <| LWP.region (by kernel_rfl) <| kmv rfl <| kmv rfl <| kad rfl rfl (wrap_u64 (by omega)) <| kas rfl <| RunK.nil ?_; refine LWP.seq <| LWP.region (by kernel_rfl) <| kmv rfl <| K.geq rfl rfl (decide_eq_false (by omega)) .plain <| RunK.nil <| LWP.condF rfl ?_; refine LWP.skip ?_)
            exact ⟨_, _, by omega, Le.of (by exact ⟨rfl, rfl, rfl, rfl, rfl, rfl, rfl, rfl, rfl, trivial⟩) (by exact trivial) (by exact rfl) (by exact rfl) (by exact rfl), _, _, k', by omega, rfl, rfl⟩
        · have hqy := mul_bound (a := q) (b := Y % 4294967296) (A := 4294967295) (B := 4294967295) ⟨hq0, by omega⟩ ⟨by omega, by omega⟩
          by_cases hb : 4294967296 * r + V % 4294967296 < q * (Y % 4294967296)
          · have k' := k_high ka2 k hb
            have hrn := next _ _ k'
            have hq1 : 1 ≤ q := by have := k'.q0; omega
            by_cases hr2 : 4294967296 ≤ r + Y / 4294967296
            · (refine LWP.seq <| LWP.seq <| LWP.region (by kernel_rfl) <| kmv rfl <| K.geq rfl rfl (decide_eq_false (by omega)) .plain <| kmv rfl <| gmv rfl rfl rfl <| gmv rfl rfl rfl <| K.mul rfl rfl (wrap_u64 (by omega)) (.taken rfl rfl) ?_; refine gmv rfl rfl rfl <| K.mul rfl rfl (wrap_u64 (by omega)) (.taken rfl rfl) ?_; refine gmv rfl rfl rfl <| K.add rfl rfl (wrap_u64 (by omega)) (.taken rfl rfl) ?_; refine K.gtr rfl rfl (decide_eq_true (by omega)) (.taken rfl rfl) ?_; refine kpf rfl rfl <| RunK.nil <| LWP.condT rfl ?_; refine LWP.skip ?_; refine LWP.block <| LWP.seq <| LWP.region (by kernel_rfl) <| kmv rfl <| K.sub rfl rfl (wrap_u64 (by omega)) .plain <| kas rfl <| RunK.nil <| LWP.seq <| LWP.region (by kernel_rfl) <| kmv rfl <| kmv rfl <| kad rfl rfl (wrap_u64 (by omega)) <| kas rfl <| RunK.nil ?_; refine LWP.seq <| LWP.region (by kernel_rfl) <| kmv rfl <| K.geq rfl rfl (decide_eq_true (by omega)) .plain <| RunK.nil <| LWP.condT rfl ?_; refine LWP.exit ?_)
              exact ⟨_, Le.of (by exact ⟨rfl, rfl, rfl, rfl, rfl, rfl, rfl, trivial⟩) (by exact trivial) (by exact rfl) (by exact rfl) (by exact rfl), _, _, hrn hr2, rfl⟩
            · (refine LWP.seq <| LWP.seq <| LWP.region (by kernel_rfl) <| kmv rfl <| K.geq rfl rfl (decide_eq_false (by omega)) .plain <| kmv rfl <| gmv rfl rfl rfl <| gmv rfl rfl rfl <| K.mul rfl rfl (wrap_u64 (by omega)) (.taken rfl rfl) ?_; refine gmv rfl rfl rfl <| K.mul rfl rfl (wrap_u64 (by omega)) (.taken rfl rfl) ?_; refine gmv rfl rfl rfl <| K.add rfl rfl (wrap_u64 (by omega)) (.taken rfl rfl) ?_; refine K.gtr rfl rfl (decide_eq_true (by omega)) (.taken rfl rfl) ?_; refine kpf rfl rfl <| RunK.nil <| LWP.condT rfl ?_; refine LWP.skip ?_; refine LWP.block <| LWP.seq <| LWP.region (by kernel_rfl) <| kmv rfl <| K.sub rfl rfl (wrap_u64 (by omega)) .plain <| kas rfl <| RunK.nil <| LWP.seq <| LWP.region (by kernel_rfl) <| kmv rfl <| kmv rfl <| kad rfl rfl (wrap_u64 (by omega)) <| kas rfl <| RunK.nil ?_; refine LWP.seq <| LWP.region (by kernel_rfl) <| kmv rfl <| K.geq rfl rfl (decide_eq_false (by omega)) .plain <| RunK.nil <| LWP.condF rfl ?_; refine LWP.skip ?_)
              exact ⟨_, _, by omega, Le.of (by exact ⟨rfl, rfl, rfl, rfl, rfl, rfl, rfl, rfl, rfl, trivial⟩) (by exact trivial) (by exact rfl) (by exact rfl) (by exact rfl), _, _, k', by omega, rfl, rfl⟩
          · (refine LWP.seq <| LWP.seq <| LWP.region (by kernel_rfl) <| kmv rfl <| K.geq rfl rfl (decide_eq_false (by omega)) .plain <| kmv rfl <| gmv rfl rfl rfl <| gmv rfl rfl rfl <| K.mul rfl rfl (wrap_u64 (by omega)) (.taken rfl rfl) ?_; refine gmv rfl rfl rfl <| K.mul rfl rfl (wrap_u64 (by omega)) (.taken rfl rfl) ?_; refine gmv rfl rfl rfl <| K.add rfl rfl (wrap_u64 (by omega)) (.taken rfl rfl) ?_; refine K.gtr rfl rfl (decide_eq_false (by omega)) (.taken rfl rfl) ?_; refine kpf rfl rfl <| RunK.nil <| LWP.condF rfl ?_; refine LWP.exit ?_)
            exact ⟨_, Le.of (by exact ⟨rfl, rfl, rfl, rfl, rfl, rfl, rfl, trivial⟩) (by exact trivial) (by exact rfl) (by exact rfl) (by exact rfl), _, _, (kq2 q r k (by have := k_end k (by omega); rwa [eY] at this)).1, rfl⟩
      · rintro σ ⟨q2, r2, hq2, rfl⟩
        have hend := quo_end hYp hq1 hR.symm hq2
        have hq2B := digit_lt hYp hR1 (show V % 4294967296 < 4294967296 by omega) hq2
        have hq20 : 0 ≤ q2 := by rw [hq2]; exact Int.ediv_nonneg (by omega) (by omega)
        obtain ⟨T, hT⟩ : ∃ T, (R * 4294967296 + V % 4294967296) % Y = T := ⟨_, rfl⟩
        have hT0 := Int.emod_nonneg (R * 4294967296 + V % 4294967296) (show Y ≠ 0 by omega)
        have hT1 := Int.emod_lt_of_pos (R * 4294967296 + V % 4294967296) hYp
        have hTe := Int.emod_add_mul_ediv (R * 4294967296 + V % 4294967296) Y
        rw [← hq2, Int.mul_comm Y q2] at hTe
        rw [hT] at hT0 hT1 hTe hend
        have hsub2 : IntKind.u64.wrap (IntKind.u64.wrap (IntKind.u64.wrap (R * 4294967296) + V % 4294967296) - IntKind.u64.wrap (q2 * Y)) = T := by rw [wrap3 (by omega)]; omega
        (refine LWP.seq <| LWP.region (by kernel_rfl) <| kmv rfl <| K.mul rfl rfl (wrap_u64 (by omega)) .plain <| kmv rfl <| kad rfl rfl (wrap_u64 (by omega)) <| kmv rfl <| K.mul rfl rfl rfl .plain <| kmv rfl <| kad rfl rfl rfl <| kmv rfl <| kmv rfl <| K.mul rfl rfl rfl .plain <| K.sub rfl rfl hsub2 .plain ?_; refine kmv rfl <| K.shr rfl rfl (by omega) (shr_s (by omega)) .plain <| kas rfl <| kas rfl <| RunK.nil <| LWP.ret ?_)
        rw [← hsc.1, ← hsc.2, ← hend.1, ← hend.2]
        exact ⟨[_, _], ⟨rfl, rfl, trivial⟩, rfl⟩
end Go.Proofs.YtimpjdbhalnofaaGreatDoor
end
section
namespace Go.Proofs.YtimpjdbhalnofaaGreatDoor
open Go Go.Lg Go.Lg.Arith
variable (X : Nat → Option Obj)
theorem LZ_word {g : Int} (h : 0 ≤ g ∧ g < 18446744073709551616) : LZ g = Lz 0 g := by
  unfold LZ
  rw [show g / 18446744073709551616 = 0 by omega, show g % 18446744073709551616 = g by omega]
set_option maxHeartbeats 1000000 in
theorem divideLong_spec (M N : Int) (hM : Lim M) (hN : 18446744073709551616 ≤ N ∧ N < 170141183460469231731687303715884105728) :
    PSpec Tryz.prog X 82 [LZ M, LZ N] (.tup [SZ (M / N), SZ (M % N)]) := by
  obtain ⟨hM0, hM1⟩ := hM
  obtain ⟨H, hH⟩ : ∃ H, N / 18446744073709551616 = H := ⟨_, rfl⟩
  obtain ⟨l, hl⟩ : ∃ l, N % 18446744073709551616 = l := ⟨_, rfl⟩
  have hH1 : 0 < H ∧ H < 9223372036854775808 := by omega
  have hl1 : 0 ≤ l ∧ l < 18446744073709551616 := by omega
  have hlz := lz_spec X H (by omega)
  obtain ⟨hs, hY1, hY2⟩ := lzOf_spec (y := H) (by omega)
  generalize lzOf H = s at hlz hs hY1 hY2
  have hs1 : 1 ≤ s := by
    rcases Nat.eq_zero_or_pos s with h | h
    · subst h; simp at hY1; omega
    · exact h
  have hE : (0 : Int) < 2 ^ s := Int.pow_pos (by decide)
  have hF : (0 : Int) < 2 ^ (64 - s) := Int.pow_pos (by decide)
  have hEF := pow_split (s := s) (by omega)
  have hF2 : (2 : Int) ≤ 2 ^ (64 - s) := by
    rw [show 64 - s = (63 - s) + 1 by omega, Int.pow_succ]
    have : (0 : Int) < 2 ^ (63 - s) := Int.pow_pos (by decide)
    omega
  have hlo2 : 0 ≤ l / 2 ^ (64 - s) ∧ l / 2 ^ (64 - s) < 2 ^ s := by
    refine ⟨Int.ediv_nonneg hl1.1 (Int.le_of_lt hF), ?_⟩
    rw [Int.ediv_lt_iff_lt_mul hF, hEF]; exact hl1.2
  have hH2 : 0 ≤ H * 2 ^ s := Int.mul_nonneg (by omega) (Int.le_of_lt hE)
  obtain ⟨L, hL⟩ : ∃ L, H * 2 ^ s + l / 2 ^ (64 - s) = L := ⟨_, rfl⟩
  have hLW : L < 18446744073709551616 := by
    have h1 : H < 2 ^ (64 - s) := by
      rcases Int.lt_or_le H (2 ^ (64 - s)) with h | h
      · exact h
      · have := Int.mul_le_mul_of_nonneg_right h (Int.le_of_lt hE)
        rw [Int.mul_comm ((2 : Int) ^ (64 - s)), hEF] at this
        omega
    have h2 := Int.mul_le_mul_of_nonneg_right (show H ≤ 2 ^ (64 - s) - 1 by omega) (Int.le_of_lt hE)
    rw [Int.sub_mul, Int.one_mul, Int.mul_comm ((2 : Int) ^ (64 - s)), hEF] at h2
    omega
  have hNL : ∃ r0, N = L * 2 ^ (64 - s) + r0 ∧ 0 ≤ r0 ∧ r0 < 2 ^ (64 - s) := by
    have h1 := Int.emod_add_mul_ediv l (2 ^ (64 - s))
    have h2 := Int.emod_nonneg l (show (2 : Int) ^ (64 - s) ≠ 0 by omega)
    have h3 := Int.emod_lt_of_pos l hF
    refine ⟨l % 2 ^ (64 - s), ?_, h2, h3⟩
    have h4 : H * 2 ^ s * 2 ^ (64 - s) = H * 18446744073709551616 := by rw [Int.mul_assoc, hEF]
    rw [← hL, Int.add_mul, h4, Int.mul_comm (l / 2 ^ (64 - s))]
    omega
  obtain ⟨r0, hNL, hr0⟩ := hNL
  obtain ⟨g, hg⟩ : ∃ g, M / (L * 2 ^ (64 - s)) = g := ⟨_, rfl⟩
  obtain ⟨hg0, hgz, hgp⟩ := long_guess (M := M) (N := N) ⟨hM0, hM1⟩ (show 9223372036854775808 ≤ L by omega) hF2 hNL hr0 hg.symm
  have hd3 := div3 (M := M) (L := L) (P := 2 ^ (64 - s)) (s := s) hs rfl (by omega)
  rw [hg] at hd3
  have hNne : 0 < N := by omega
  have hq0 := Int.emod_nonneg M (show N ≠ 0 by omega)
  have hq1 := Int.emod_lt_of_pos M hNne
  have hq2 := Int.emod_add_mul_ediv M N
  have hqq : 0 ≤ M / N := Int.ediv_nonneg hM0 (by omega)
  have hqW : M / N < 18446744073709551616 := by
    rw [Int.ediv_lt_iff_lt_mul hNne]; omega
  have hgW : g < 18446744073709551617 := by
    rcases Int.lt_or_le g 18446744073709551617 with h | h
    · exact h
    · have h1 := (hgp (by omega)).1
      have := Int.mul_le_mul (show (18446744073709551616 : Int) ≤ g - 1 by omega) hN.1 (by decide) (by omega)
      omega
  have hLZl : LZ N = Lz H l := by unfold LZ; rw [hH, hl]
  have hor2 : M / 18446744073709551616 % 2 * 2 ^ 63 + M % 18446744073709551616 / 2 = M / 2 % 18446744073709551616 := by
    show M / 18446744073709551616 % 2 * 9223372036854775808 + M % 18446744073709551616 / 2 = _
    omega
  have hdiv := Div64_spec X (M / 18446744073709551616 / 2) (M / 2 % 18446744073709551616) L (by omega) (by omega) hLW
  rw [show M / 18446744073709551616 / 2 * 18446744073709551616 + M / 2 % 18446744073709551616 = M / 2 by omega] at hdiv
  have hMz : 0 ≤ M / 2 / L := Int.ediv_nonneg (by omega) (by omega)
  have hcall := compare_spec X
  rw [hLZl]
  refine PSpec.intro Tryz.func82 rfl (by kernel_rfl) rfl rfl ?_
  intro C
  by_cases hg00 : g = 0
  · have hMN := hgz hg00
    subst hg00
    have e1 : M / N = 0 := Int.ediv_eq_zero_of_lt hM0 hMN
    have e2 : M % N = M := Int.emod_eq_of_lt hM0 hMN
    rw [e1, e2]
    have ht := times_spec X N 0 ⟨by omega, by omega⟩ ⟨by omega, by omega⟩ (by omega) true (by simp)
    rw [LZ_word (g := 0) (by omega), Int.mul_zero, hLZl] at ht
    have hmi := minus_spec X M 0 ⟨by omega, by omega⟩ ⟨by omega, by omega⟩ hM0
    rw [Int.sub_zero] at hmi
    have hcm := compare_spec X M N (-1) (by simp [cmpI, hMN])
    rw [hLZl] at hcm
    ((refine LWP.seq <| LWP.region (by kernel_rfl) <| K.box rfl rfl rfl .plain <| K.box rfl rfl rfl .plain <| K.alloc rfl .plain ?_; refine K.alloc rfl .plain ?_; refine RunK.nil <| LWP.seq <| LWP.region (by kernel_rfl) <| kfa rfl rfl ?_; refine kl1 rfl rfl rfl <| kca rfl rfl (hlz) <| kcv rfl (by exact wrap_u64 (by omega)) ?_; refine kas rfl <| RunK.nil <| LWP.seq <| LWP.region (by kernel_rfl) <| kfa rfl rfl ?_; refine kl1 rfl rfl rfl <| kmv rfl <| K.shl rfl rfl (by omega) (shl_s (by omega) rfl ⟨hH2, hY2⟩) .plain <| kfa rfl rfl ?_; refine kl1 rfl rfl rfl <| kmv rfl <| K.sub rfl rfl (wrap_u64 (by omega)) .plain <| K.shr rfl rfl (by omega) (shr_64s (by omega)) .plain <| K.bitop (by simp) rfl rfl (or_apart' (by omega) ⟨by omega, hY2⟩ hlo2 hL) .plain <| kas rfl <| RunK.nil <| LWP.seq <| LWP.region (by kernel_rfl) <| kfa rfl rfl ?_; refine kl1 rfl rfl rfl <| K.shr rfl rfl (by omega) (shr_1 _) .plain <| kfa rfl rfl ?_; refine kl1 rfl rfl rfl <| K.shl rfl rfl (by omega) (shl_63 _) .plain <| kfa rfl rfl ?_; refine kl1 rfl rfl rfl <| K.shr rfl rfl (by omega) (shr_1 _) .plain <| K.bitop (by simp) rfl rfl (or_apart' (by decide) (by omega) (by omega) hor2) .plain <| kmv rfl <| kca rfl rfl (hdiv) <| kmv rfl <| kex rfl rfl <| kex rfl rfl <| kas rfl <| kas rfl <| RunK.nil <| LWP.seq <| LWP.region (by kernel_rfl) <| kmv rfl ?_; refine kmv rfl <| K.sub rfl rfl (wrap_u64 (by omega)) .plain <| K.shr rfl rfl (by omega) ((shr_63s hs).trans hd3) .plain <| kas rfl <| RunK.nil <| LWP.seq <| LWP.seq <| LWP.region (by kernel_rfl) <| kmv rfl <| kne rfl rfl ((bne_eq_false_iff_eq.2 (by omega))) <| RunK.nil <| LWP.condF rfl ?_; refine LWP.skip ?_); (refine LWP.seq <| LWP.region (by kernel_rfl) <| K.loadAll rfl rfl rfl .plain ?_; refine kmv rfl <| K.build rfl rfl (by exact rfl) (by exact nl2 rfl rfl rfl) .plain ?_; refine kca rfl rfl (ht) <| kmv rfl <| kex rfl rfl <| kex rfl rfl <| K.alloc rfl .plain ?_; refine K.storeAll rfl rfl rfl rfl rfl rfl .plain ?_; refine kas rfl <| RunK.nil <| LWP.seq <| LWP.region (by kernel_rfl) <| K.loadAll rfl rfl rfl .plain ?_; refine K.loadAll rfl rfl rfl .plain ?_; refine kca rfl rfl (hmi) <| K.alloc rfl .plain ?_; refine K.storeAll rfl rfl rfl rfl rfl rfl .plain ?_; refine RunK.nil <| LWP.seq <| LWP.seq <| LWP.region (by kernel_rfl) <| K.loadAll rfl rfl rfl .plain ?_; refine K.loadAll rfl rfl rfl .plain ?_; refine kca rfl rfl (hcm) <| K.geq rfl rfl (decide_eq_false (by omega)) .plain <| RunK.nil <| LWP.condF rfl ?_; refine LWP.skip ?_); (refine LWP.seq <| LWP.draws mixed (by kernel_rfl) <| kmv rfl <| K.build rfl rfl (by exact rfl) (by exact nl2 rfl rfl rfl) .plain ?_; refine K.loadAll rfl rfl rfl .plain ?_; refine K.storeAll rfl rfl rfl rfl rfl rfl .plain ?_; refine K.storeAll rfl rfl rfl rfl rfl rfl .plain ?_; refine RunK.nil <| And.intro (by kernel_rfl) ?_; refine LWP.ret ?_))
    exact ⟨[_, _], ⟨⟨_, _, rfl, rfl, rfl, .inl ⟨AggT.h, rfl⟩⟩, ⟨_, _, rfl, rfl, rfl, .inl ⟨AggT.h, rfl⟩⟩, trivial⟩, rfl⟩
  · obtain ⟨h1, h2⟩ := hgp hg00
    obtain ⟨G, hG⟩ : ∃ G, g - 1 = G := ⟨_, rfl⟩
    rw [hG] at h1 h2
    have hGN : 0 ≤ G * N := Int.mul_nonneg (by omega) (by omega)
    have ht := times_spec X N G ⟨by omega, by omega⟩ ⟨by omega, by omega⟩ (by omega) true (decide_eq_true (by rw [Int.mul_comm]; omega))
    rw [LZ_word (g := G) (by omega), Int.mul_comm N G, show G * N % 340282366920938463463374607431768211456 = G * N by omega, hLZl] at ht
    have hmi := minus_spec X M (G * N) ⟨by omega, by omega⟩ ⟨by omega, by omega⟩ h1
    have huse : ∀ q : Int, q * N ≤ M → M < q * N + N → M / N = q ∧ M % N = M - q * N := by
      intro q a b
      have e : M / N = q := by rw [Int.ediv_eq_iff_of_pos hNne]; exact ⟨a, b⟩
      rw [e, Int.mul_comm] at hq2
      exact ⟨e, by omega⟩
    by_cases hlt : M - G * N < N
    · obtain ⟨e1, e2⟩ := huse G h1 (by omega)
      rw [e1, e2]
      have hcm := compare_spec X (M - G * N) N (-1) (by simp [cmpI, hlt])
      rw [hLZl] at hcm
      ((refine LWP.seq <| LWP.region (by kernel_rfl) <| K.box rfl rfl rfl .plain <| K.box rfl rfl rfl .plain <| K.alloc rfl .plain ?_; refine K.alloc rfl .plain ?_; refine RunK.nil <| LWP.seq <| LWP.region (by kernel_rfl) <| kfa rfl rfl ?_; refine kl1 rfl rfl rfl <| kca rfl rfl (hlz) <| kcv rfl (by exact wrap_u64 (by omega)) ?_; refine kas rfl <| RunK.nil <| LWP.seq <| LWP.region (by kernel_rfl) <| kfa rfl rfl ?_; refine kl1 rfl rfl rfl <| kmv rfl <| K.shl rfl rfl (by omega) (shl_s (by omega) rfl ⟨hH2, hY2⟩) .plain <| kfa rfl rfl ?_; refine kl1 rfl rfl rfl <| kmv rfl <| K.sub rfl rfl (wrap_u64 (by omega)) .plain <| K.shr rfl rfl (by omega) (shr_64s (by omega)) .plain <| K.bitop (by simp) rfl rfl (or_apart' (by omega) ⟨by omega, hY2⟩ hlo2 hL) .plain <| kas rfl <| RunK.nil <| LWP.seq <| LWP.region (by kernel_rfl) <| kfa rfl rfl ?_; refine kl1 rfl rfl rfl <| K.shr rfl rfl (by omega) (shr_1 _) .plain <| kfa rfl rfl ?_; refine kl1 rfl rfl rfl <| K.shl rfl rfl (by omega) (shl_63 _) .plain <| kfa rfl rfl ?_; refine kl1 rfl rfl rfl <| K.shr rfl rfl (by omega) (shr_1 _) .plain <| K.bitop (by simp) rfl rfl (or_apart' (by decide) (by omega) (by omega) hor2) .plain <| kmv rfl <| kca rfl rfl (hdiv) <| kmv rfl <| kex rfl rfl <| kex rfl rfl <| kas rfl <| kas rfl <| RunK.nil <| LWP.seq <| LWP.region (by kernel_rfl) <| kmv rfl ?_; refine kmv rfl <| K.sub rfl rfl (wrap_u64 (by omega)) .plain <| K.shr rfl rfl (by omega) ((shr_63s hs).trans hd3) .plain <| kas rfl <| RunK.nil <| LWP.seq <| LWP.seq <| LWP.region (by kernel_rfl) <| kmv rfl <| kne rfl rfl (bne_iff_ne.2 (by omega)) <| RunK.nil <| LWP.condT rfl ?_; refine LWP.region (by kernel_rfl) <| kmv rfl <| K.sub rfl rfl ((wrap_u64 (by omega)).trans hG) .plain <| kas rfl <| RunK.nil <| LWP.seq <| LWP.region (by kernel_rfl) <| K.loadAll rfl rfl rfl .plain ?_); (refine kmv rfl <| K.build rfl rfl (by exact rfl) (by exact nl2 rfl rfl rfl) .plain ?_; refine kca rfl rfl (ht) <| kmv rfl <| kex rfl rfl <| kex rfl rfl <| K.alloc rfl .plain ?_; refine K.storeAll rfl rfl rfl rfl rfl rfl .plain ?_; refine kas rfl <| RunK.nil <| LWP.seq <| LWP.region (by kernel_rfl) <| K.loadAll rfl rfl rfl .plain ?_; refine K.loadAll rfl rfl rfl .plain ?_; refine kca rfl rfl (hmi) <| K.alloc rfl .plain ?_; refine K.storeAll rfl rfl rfl rfl rfl rfl .plain ?_; refine RunK.nil <| LWP.seq <| LWP.seq <| LWP.region (by kernel_rfl) <| K.loadAll rfl rfl rfl .plain ?_; refine K.loadAll rfl rfl rfl .plain ?_; refine kca rfl rfl (hcm) <| K.geq rfl rfl (decide_eq_false (by omega)) .plain <| RunK.nil <| LWP.condF rfl ?_; refine LWP.skip ?_; refine LWP.seq <| LWP.draws mixed (by kernel_rfl) <| kmv rfl <| K.build rfl rfl (by exact rfl) (by exact nl2 rfl rfl rfl) .plain ?_); (refine K.loadAll rfl rfl rfl .plain ?_; refine K.storeAll rfl rfl rfl rfl rfl rfl .plain ?_; refine K.storeAll rfl rfl rfl rfl rfl rfl .plain ?_; refine RunK.nil <| And.intro (by kernel_rfl) ?_; refine LWP.ret ?_))
      rw [show SZ G = .agg [.val (.int .u64 0), .val (.int .u64 G)] by unfold SZ; rw [show G / 18446744073709551616 = 0 by omega, show G % 18446744073709551616 = G by omega]]
      exact ⟨[_, _], ⟨⟨_, _, rfl, rfl, rfl, .inl ⟨AggT.h, rfl⟩⟩, ⟨_, _, rfl, rfl, rfl, .inl ⟨AggT.h, rfl⟩⟩, trivial⟩, rfl⟩
    · have hG1 : (G + 1) * N = G * N + N := by rw [Int.add_mul, Int.one_mul]
      obtain ⟨e1, e2⟩ := huse (G + 1) (by omega) (by omega)
      rw [e1] at hqW
      rw [e1, e2, hG1, show M - (G * N + N) = M - G * N - N by omega]
      have hcm : ∃ r, (r = 0 ∨ r = 1) ∧ cmpI (M - G * N) N = r := ⟨_, by unfold cmpI; (repeat' split) <;> omega, rfl⟩
      obtain ⟨r, hr, hcm⟩ := hcm
      have hcm := compare_spec X (M - G * N) N r hcm
      have hmi2 := minus_spec X (M - G * N) N ⟨by omega, by omega⟩ ⟨by omega, by omega⟩ (by omega)
      rw [hLZl] at hcm hmi2
      ((refine LWP.seq <| LWP.region (by kernel_rfl) <| K.box rfl rfl rfl .plain <| K.box rfl rfl rfl .plain <| K.alloc rfl .plain ?_; refine K.alloc rfl .plain ?_; refine RunK.nil <| LWP.seq <| LWP.region (by kernel_rfl) <| kfa rfl rfl ?_; refine kl1 rfl rfl rfl <| kca rfl rfl (hlz) <| kcv rfl (by exact wrap_u64 (by omega)) ?_; refine kas rfl <| RunK.nil <| LWP.seq <| LWP.region (by kernel_rfl) <| kfa rfl rfl ?_; refine kl1 rfl rfl rfl <| kmv rfl <| K.shl rfl rfl (by omega) (shl_s (by omega) rfl ⟨hH2, hY2⟩) .plain <| kfa rfl rfl ?_; refine kl1 rfl rfl rfl <| kmv rfl <| K.sub rfl rfl (wrap_u64 (by omega)) .plain <| K.shr rfl rfl (by omega) (shr_64s (by omega)) .plain <| K.bitop (by simp) rfl rfl (or_apart' (by omega) ⟨by omega, hY2⟩ hlo2 hL) .plain <| kas rfl <| RunK.nil <| LWP.seq <| LWP.region (by kernel_rfl) <| kfa rfl rfl ?_; refine kl1 rfl rfl rfl <| K.shr rfl rfl (by omega) (shr_1 _) .plain <| kfa rfl rfl ?_; refine kl1 rfl rfl rfl <| K.shl rfl rfl (by omega) (shl_63 _) .plain <| kfa rfl rfl ?_; refine kl1 rfl rfl rfl <| K.shr rfl rfl (by omega) (shr_1 _) .plain <| K.bitop (by simp) rfl rfl (or_apart' (by decide) (by omega) (by omega) hor2) .plain <| kmv rfl <| kca rfl rfl (hdiv) <| kmv rfl <| kex rfl rfl <| kex rfl rfl <| kas rfl <| kas rfl <| RunK.nil <| LWP.seq <| LWP.region (by kernel_rfl) <| kmv rfl ?_; refine kmv rfl <| K.sub rfl rfl (wrap_u64 (by omega)) .plain <| K.shr rfl rfl (by omega) ((shr_63s hs).trans hd3) .plain <| kas rfl <| RunK.nil <| LWP.seq <| LWP.seq <| LWP.region (by kernel_rfl) <| kmv rfl <| kne rfl rfl (bne_iff_ne.2 (by omega)) <| RunK.nil <| LWP.condT rfl ?_; refine LWP.region (by kernel_rfl) <| kmv rfl <| K.sub rfl rfl ((wrap_u64 (by omega)).trans hG) .plain <| kas rfl <| RunK.nil <| LWP.seq <| LWP.region (by kernel_rfl) <| K.loadAll rfl rfl rfl .plain ?_); (refine kmv rfl <| K.build rfl rfl (by exact rfl) (by exact nl2 rfl rfl rfl) .plain ?_; refine kca rfl rfl (ht) <| kmv rfl <| kex rfl rfl <| kex rfl rfl <| K.alloc rfl .plain ?_; refine K.storeAll rfl rfl rfl rfl rfl rfl .plain ?_; refine kas rfl <| RunK.nil <| LWP.seq <| LWP.region (by kernel_rfl) <| K.loadAll rfl rfl rfl .plain ?_; refine K.loadAll rfl rfl rfl .plain ?_; refine kca rfl rfl (hmi) <| K.alloc rfl .plain ?_; refine K.storeAll rfl rfl rfl rfl rfl rfl .plain ?_; refine RunK.nil <| LWP.seq <| LWP.seq <| LWP.region (by kernel_rfl) <| K.loadAll rfl rfl rfl .plain ?_; refine K.loadAll rfl rfl rfl .plain ?_; refine kca rfl rfl (hcm) <| K.geq rfl rfl (decide_eq_true (by omega)) .plain <| RunK.nil <| LWP.condT rfl ?_; refine LWP.seq <| LWP.region (by kernel_rfl) <| kmv rfl <| kad rfl rfl (wrap_u64 (by omega)) <| kas rfl <| RunK.nil <| LWP.region (by kernel_rfl) <| K.loadAll rfl rfl rfl .plain ?_; refine K.loadAll rfl rfl rfl .plain ?_); (refine kca rfl rfl (hmi2) <| K.storeAll rfl rfl rfl rfl rfl rfl .plain ?_; refine RunK.nil <| LWP.seq <| LWP.draws mixed (by kernel_rfl) <| kmv rfl <| K.build rfl rfl (by exact rfl) (by exact nl2 rfl rfl rfl) .plain ?_; refine K.loadAll rfl rfl rfl .plain ?_; refine K.storeAll rfl rfl rfl rfl rfl rfl .plain ?_; refine K.storeAll rfl rfl rfl rfl rfl rfl .plain ?_; refine RunK.nil <| And.intro (by kernel_rfl) ?_; refine LWP.ret ?_))
      rw [show SZ (G + 1) = .agg [.val (.int .u64 0), .val (.int .u64 (G + 1))] by unfold SZ; rw [show (G + 1) / 18446744073709551616 = 0 by omega, show (G + 1) % 18446744073709551616 = G + 1 by omega]]
      exact ⟨[_, _], ⟨⟨_, _, rfl, rfl, rfl, .inl ⟨AggT.h, rfl⟩⟩, ⟨_, _, rfl, rfl, rfl, .inl ⟨AggT.h, rfl⟩⟩, trivial⟩, rfl⟩
end Go.Proofs.YtimpjdbhalnofaaGreatDoor
end
section
namespace Go.Proofs.YtimpjdbhalnofaaGreatDoor
open Go Go.Lg Go.Lg.Arith
variable (X : Nat → Option Obj)
theorem two_word {T d Y : Int} (hY : 0 < Y) (hd : 0 ≤ d ∧ d < 18446744073709551616) (hT : 0 ≤ T) :
    (T * 18446744073709551616 + d) / Y = T / Y * 18446744073709551616 + (T % Y * 18446744073709551616 + d) / Y ∧ (T * 18446744073709551616 + d) % Y = (T % Y * 18446744073709551616 + d) % Y ∧
    0 ≤ (T % Y * 18446744073709551616 + d) / Y ∧ (T % Y * 18446744073709551616 + d) / Y < 18446744073709551616 ∧ 0 ≤ T % Y ∧ T % Y < Y ∧ 0 ≤ T / Y := by
  have h := Int.emod_add_mul_ediv T Y
  have h0 := Int.emod_nonneg T (show Y ≠ 0 by omega)
  have h1 := Int.emod_lt_of_pos T hY
  have e : T * 18446744073709551616 + d = (T % Y * 18446744073709551616 + d) + Y * (T / Y * 18446744073709551616) := by
    rw [← Int.mul_assoc]
    generalize Y * (T / Y) = a at *
    omega
  have hq0 : 0 ≤ (T % Y * 18446744073709551616 + d) / Y := Int.ediv_nonneg (by omega) (by omega)
  have hq1 : (T % Y * 18446744073709551616 + d) / Y < 18446744073709551616 := by rw [Int.ediv_lt_iff_lt_mul hY]; omega
  refine ⟨?_, ?_, hq0, hq1, h0, h1, Int.ediv_nonneg hT (by omega)⟩
  · rw [e, Int.add_mul_ediv_left _ _ (by omega)]; omega
  · rw [e, Int.add_mul_emod_self_left]
theorem divide_spec (M N : Int) (hM : Lim M) (hN : 0 < N ∧ N < 170141183460469231731687303715884105728) :
    PSpec Tryz.prog X 59 [LZ M, LZ N] (.tup [SZ (M / N), SZ (M % N)]) := by
  obtain ⟨hM0, hM1⟩ := hM
  refine PSpec.intro Tryz.func59 rfl (by kernel_rfl) rfl rfl ?_
  intro C
  by_cases hl : 18446744073709551616 ≤ N
  · (refine LWP.seq <| LWP.region (by kernel_rfl) <| K.box rfl rfl rfl .plain <| K.box rfl rfl rfl .plain <| K.alloc rfl .plain ?_; refine K.alloc rfl .plain ?_; refine RunK.nil <| LWP.seq <| LWP.seq <| LWP.region (by kernel_rfl) <| kfa rfl rfl ?_; refine kl1 rfl rfl rfl <| kne rfl rfl (bne_iff_ne.2 (by omega)) <| RunK.nil <| LWP.condT rfl ?_; refine LWP.seq <| LWP.region (by kernel_rfl) <| K.loadAll rfl rfl rfl .plain ?_; refine K.loadAll rfl rfl rfl .plain ?_; refine kca rfl rfl (divideLong_spec _ _ _ ⟨hM0, hM1⟩ ⟨hl, hN.2⟩) <| kex rfl rfl <| kex rfl rfl <| K.storeAll rfl rfl rfl rfl rfl rfl .plain ?_; refine K.storeAll rfl rfl rfl rfl rfl rfl .plain ?_; refine RunK.nil <| LWP.ret ?_)
    exact ⟨[_, _], ⟨⟨_, _, rfl, rfl, rfl, .inl ⟨AggT.h, rfl⟩⟩, ⟨_, _, rfl, rfl, rfl, .inl ⟨AggT.h, rfl⟩⟩, trivial⟩, rfl⟩
  · obtain ⟨t1, t2, t3, t4, t5, t6, t7⟩ := two_word (T := M / 18446744073709551616) (d := M % 18446744073709551616) (Y := N) hN.1 (by omega) (by omega)
    rw [show M / 18446744073709551616 * 18446744073709551616 + M % 18446744073709551616 = M by omega] at t1 t2
    have eN : N % 18446744073709551616 = N := by omega
    have hd := Div64_spec X (M / 18446744073709551616 % N) (M % 18446744073709551616) N ⟨t5, t6⟩ (by omega) (by omega)
    have hr0 := Int.emod_nonneg M (show N ≠ 0 by omega)
    have hr1 := Int.emod_lt_of_pos M hN.1
    rw [← t2] at hd
    rw [← eN] at hd
    rw [LZ_word (g := N) (by omega)]
    rw [eN] at hd
    have hq : M / 18446744073709551616 / N < 18446744073709551616 := by
      have := Int.ediv_le_self N (show 0 ≤ M / 18446744073709551616 by omega); omega
    (refine LWP.seq <| LWP.region (by kernel_rfl) <| K.box rfl rfl rfl .plain <| K.box rfl rfl rfl .plain <| K.alloc rfl .plain ?_; refine K.alloc rfl .plain ?_; refine RunK.nil <| LWP.seq <| LWP.seq <| LWP.region (by kernel_rfl) <| kfa rfl rfl ?_; refine kl1 rfl rfl rfl <| kne rfl rfl ((bne_eq_false_iff_eq.2 (by omega))) <| RunK.nil <| LWP.condF rfl ?_; refine LWP.skip ?_; refine LWP.seq <| LWP.draws mixed (by kernel_rfl) <| kfa rfl rfl ?_; refine kl1 rfl rfl rfl <| kfa rfl rfl ?_; refine kl1 rfl rfl rfl <| K.quo rfl rfl (by omega) (quo_u64 (by omega) (by omega)) .plain <| kfa rfl rfl ?_; refine kl1 rfl rfl rfl <| kfa rfl rfl ?_; refine kl1 rfl rfl rfl <| K.rem rfl rfl (by omega) (rem_pos (by omega)) .plain <| kas rfl <| kas rfl <| RunK.nil <| And.intro (by kernel_rfl) ?_; refine LWP.seq <| LWP.region (by kernel_rfl) <| kmv rfl <| kfa rfl rfl ?_; refine kl1 rfl rfl rfl <| kfa rfl rfl ?_; refine kl1 rfl rfl rfl <| kca rfl rfl (hd) <| kmv rfl <| kex rfl rfl <| kex rfl rfl <| kas rfl <| kas rfl <| RunK.nil <| LWP.seq <| LWP.region (by kernel_rfl) <| kmv rfl <| kmv rfl <| K.build rfl rfl (by exact rfl) (by exact nl2 rfl rfl rfl) .plain ?_; refine kmv rfl <| K.build rfl rfl (by exact rfl) (by exact nl2 rfl rfl rfl) .plain ?_; refine K.storeAll rfl rfl rfl rfl rfl rfl .plain ?_; refine K.storeAll rfl rfl rfl rfl rfl rfl .plain ?_; refine RunK.nil <| LWP.ret ?_)
    rw [show SZ (M / N) = .agg [.val (.int .u64 (M / 18446744073709551616 / N)), .val (.int .u64 ((M / 18446744073709551616 % N * 18446744073709551616 + M % 18446744073709551616) / N))] by
        unfold SZ; rw [show M / N / 18446744073709551616 = M / 18446744073709551616 / N by omega, show M / N % 18446744073709551616 = (M / 18446744073709551616 % N * 18446744073709551616 + M % 18446744073709551616) / N by omega],
      show SZ (M % N) = .agg [.val (.int .u64 0), .val (.int .u64 (M % N))] by unfold SZ; rw [show M % N / 18446744073709551616 = 0 by omega, show M % N % 18446744073709551616 = M % N by omega]]
    exact ⟨[_, _], ⟨⟨_, _, rfl, rfl, rfl, .inl ⟨AggT.h, rfl⟩⟩, ⟨_, _, rfl, rfl, rfl, .inl ⟨AggT.h, rfl⟩⟩, trivial⟩, rfl⟩
theorem divisible_spec (b c : Bool) (M N : Int) (hM : In2 M) (hN : In2 N) (r : Bool) (hr : ((formB b M && formB c N) && !(N == 0)) = r) : PSpec Tryz.prog X 58 [LI b M, LI c N] (Lb r) := by
  subst hr
  refine PSpec.intro Tryz.func58 rfl (by kernel_rfl) rfl rfl ?_
  intro C
  cases hf : (formB b M && formB c N)
  · (refine LWP.seq <| LWP.region (by kernel_rfl) <| K.box rfl rfl rfl .plain <| K.box rfl rfl rfl .plain <| kas rfl <| RunK.nil <| LWP.seq <| LWP.region (by kernel_rfl) <| K.loadAll rfl rfl rfl .plain ?_; refine K.loadAll rfl rfl rfl .plain ?_; refine kca rfl rfl (bothForm_spec _ _ _ _ _ hM hN _ hf) <| kmv rfl <| RunK.passed rfl rfl rfl <| RunK.passed rfl rfl rfl <| RunK.passed rfl rfl rfl <| RunK.passed rfl rfl rfl <| kpf rfl rfl <| kas rfl <| RunK.nil <| LWP.ret ?_)
    exact ⟨[_], ⟨rfl, trivial⟩, by simp [resOf]⟩
  · (refine LWP.seq <| LWP.region (by kernel_rfl) <| K.box rfl rfl rfl .plain <| K.box rfl rfl rfl .plain <| kas rfl <| RunK.nil <| LWP.seq <| LWP.region (by kernel_rfl) <| K.loadAll rfl rfl rfl .plain ?_; refine K.loadAll rfl rfl rfl .plain ?_; refine kca rfl rfl (bothForm_spec _ _ _ _ _ hM hN _ hf) <| kmv rfl <| K.loadAll rfl rfl rfl (.taken rfl rfl) ?_; refine gca rfl rfl (sizeOf_spec _ _ _ _) rfl rfl <| gca rfl rfl (zero_spec _ _ hN _ rfl) rfl rfl <| K.not rfl rfl (.taken rfl rfl) ?_; refine kpt rfl rfl <| kas rfl <| RunK.nil <| LWP.ret ?_)
    exact ⟨[_], ⟨rfl, trivial⟩, by simp [resOf]⟩
theorem Quo_arg (b c : Bool) (M N : Int) (hM : In2 M) (hN : In2 N) (hf : ((formB b M && formB c N) && !(N == 0)) = false) : PSpec Tryz.prog X 25 [LI b M, LI c N] (.tup [S0, Sn .i64 1]) := by
  refine PSpec.intro Tryz.func25 rfl (by kernel_rfl) rfl rfl ?_
  intro C
  (refine LWP.seq <| LWP.region (by kernel_rfl) <| K.box rfl rfl rfl .plain <| K.box rfl rfl rfl .plain <| K.alloc rfl .plain ?_; refine kas rfl <| RunK.nil <| LWP.seq <| LWP.seq <| LWP.region (by kernel_rfl) <| K.loadAll rfl rfl rfl .plain ?_; refine K.loadAll rfl rfl rfl .plain ?_; refine kca rfl rfl (divisible_spec _ _ _ _ _ hM hN _ hf) <| K.not rfl rfl .plain <| RunK.nil <| LWP.condT rfl ?_; refine LWP.seq <| LWP.region (by kernel_rfl) <| K.build rfl rfl (by exact rfl) (by exact nl3 rfl rfl rfl rfl) .plain ?_; refine K.storeAll rfl rfl rfl rfl rfl rfl .plain ?_; refine kas rfl <| RunK.nil <| LWP.ret ?_)
  exact ⟨[_, _], ⟨⟨_, _, rfl, rfl, rfl, .inl ⟨AggT.h, rfl⟩⟩, rfl, trivial⟩, rfl⟩
theorem Rem_arg (b c : Bool) (M N : Int) (hM : In2 M) (hN : In2 N) (hf : ((formB b M && formB c N) && !(N == 0)) = false) : PSpec Tryz.prog X 26 [LI b M, LI c N] (.tup [S0, Sn .i64 1]) := by
  refine PSpec.intro Tryz.func26 rfl (by kernel_rfl) rfl rfl ?_
  intro C
  (refine LWP.seq <| LWP.region (by kernel_rfl) <| K.box rfl rfl rfl .plain <| K.box rfl rfl rfl .plain <| K.alloc rfl .plain ?_; refine kas rfl <| RunK.nil <| LWP.seq <| LWP.seq <| LWP.region (by kernel_rfl) <| K.loadAll rfl rfl rfl .plain ?_; refine K.loadAll rfl rfl rfl .plain ?_; refine kca rfl rfl (divisible_spec _ _ _ _ _ hM hN _ hf) <| K.not rfl rfl .plain <| RunK.nil <| LWP.condT rfl ?_; refine LWP.seq <| LWP.region (by kernel_rfl) <| K.build rfl rfl (by exact rfl) (by exact nl3 rfl rfl rfl rfl) .plain ?_; refine K.storeAll rfl rfl rfl rfl rfl rfl .plain ?_; refine kas rfl <| RunK.nil <| LWP.ret ?_)
  exact ⟨[_, _], ⟨⟨_, _, rfl, rfl, rfl, .inl ⟨AggT.h, rfl⟩⟩, rfl, trivial⟩, rfl⟩
theorem mg_zero {y : Int} (hy : y ≠ 0) : 0 < mg y := by unfold mg; split <;> omega
theorem zv_quo (x y : Int) (hy : y ≠ 0) : zv (decide (x < 0) != decide (y < 0)) (mg x / mg y) = x.tdiv y ∧ zv (decide (x < 0)) (mg x % mg y) = x.tmod y := by
  unfold zv mg
  by_cases cx : x < 0 <;> by_cases cy : y < 0
  all_goals simp only [cx, cy, decide_true, decide_false, if_true, if_false, bne_self_eq_false, Bool.false_eq_true, Bool.true_bne, Bool.false_bne, Bool.not_false]
  · obtain ⟨a, rfl⟩ : ∃ a, x = -a := ⟨-x, by omega⟩
    obtain ⟨b, rfl⟩ : ∃ b, y = -b := ⟨-y, by omega⟩
    simp only [Int.neg_neg, Int.neg_tdiv, Int.tdiv_neg, Int.neg_tmod, Int.tmod_neg]
    rw [Int.tdiv_eq_ediv_of_nonneg (by omega), Int.tmod_eq_emod_of_nonneg (by omega)]
    exact ⟨rfl, rfl⟩
  · obtain ⟨a, rfl⟩ : ∃ a, x = -a := ⟨-x, by omega⟩
    simp only [Int.neg_neg, Int.neg_tdiv, Int.neg_tmod]
    rw [Int.tdiv_eq_ediv_of_nonneg (by omega), Int.tmod_eq_emod_of_nonneg (by omega)]
    exact ⟨rfl, rfl⟩
  · obtain ⟨b, rfl⟩ : ∃ b, y = -b := ⟨-y, by omega⟩
    simp only [Int.neg_neg, Int.tdiv_neg, Int.tmod_neg]
    rw [Int.tdiv_eq_ediv_of_nonneg (by omega), Int.tmod_eq_emod_of_nonneg (by omega)]
    exact ⟨rfl, rfl⟩
  · rw [Int.tdiv_eq_ediv_of_nonneg (by omega), Int.tmod_eq_emod_of_nonneg (by omega)]
    exact ⟨rfl, rfl⟩
theorem mg_zero' {y : Int} (hy : y ≠ 0) : (mg y == 0) = false := by
  have := mg_zero hy
  exact beq_eq_false_iff_ne.2 (by omega)
theorem Quo_q (x y : Int) (hx : R127 x) (hy : R127 y) (h0 : y ≠ 0) : PSpec Tryz.prog X 25 [LQ x, LQ y] (.tup [SQ (x.tdiv y), Sn .i64 0]) := by
  have hB := divisible_spec X _ _ _ _ (mg_in2 hx) (mg_in2 hy) true (by rw [both_q hx hy, mg_zero' h0]; rfl)
  have hd := divide_spec X (mg x) (mg y) ⟨mg_nonneg x, mg_lim hx⟩ ⟨mg_zero h0, mg_lim hy⟩
  have hq0 : 0 ≤ mg x / mg y := Int.ediv_nonneg (mg_nonneg x) (mg_nonneg y)
  have hq1 := Int.ediv_le_self (mg y) (mg_nonneg x)
  have hl := mg_lim hx
  have hn := number_spec X (decide (x < 0) != decide (y < 0)) (mg x / mg y) ⟨hq0, by omega⟩ _ rfl
  rw [← tup_q hq0 (zv_quo x y h0).1]
  refine PSpec.intro Tryz.func25 rfl (by kernel_rfl) rfl rfl ?_
  intro C
  (refine LWP.seq <| LWP.region (by kernel_rfl) <| K.box rfl rfl rfl .plain <| K.box rfl rfl rfl .plain <| K.alloc rfl .plain ?_; refine kas rfl <| RunK.nil <| LWP.seq <| LWP.seq <| LWP.region (by kernel_rfl) <| K.loadAll rfl rfl rfl .plain ?_; refine K.loadAll rfl rfl rfl .plain ?_; refine kca rfl rfl (hB) <| K.not rfl rfl .plain <| RunK.nil <| LWP.condF rfl ?_; refine LWP.skip ?_; refine LWP.seq <| LWP.draws mixed (by kernel_rfl) <| K.loadAll rfl rfl rfl .plain ?_; refine kca rfl rfl (sizeOf_spec _ _ _ _) <| K.loadAll rfl rfl rfl .plain ?_; refine kca rfl rfl (sizeOf_spec _ _ _ _) <| kca rfl rfl (hd) <| kmv rfl <| kex rfl rfl <| kex rfl rfl <| K.alloc rfl .plain ?_; refine K.alloc rfl .plain ?_; refine K.storeAll rfl rfl rfl rfl rfl rfl .plain ?_; refine K.storeAll rfl rfl rfl rfl rfl rfl .plain ?_; refine RunK.nil <| And.intro (by kernel_rfl) ?_; refine LWP.seq <| LWP.region (by kernel_rfl) <| kfa rfl rfl ?_; refine kl1 rfl rfl rfl <| kfa rfl rfl ?_; refine kl1 rfl rfl rfl <| K.neqB rfl rfl rfl .plain <| K.loadAll rfl rfl rfl .plain ?_; refine kca rfl rfl (hn) <| K.storeAll rfl rfl rfl rfl rfl rfl .plain ?_; refine kas rfl <| RunK.nil <| LWP.ret ?_)
  exact ⟨[_, _], ⟨⟨_, _, rfl, rfl, rfl, .inl ⟨AggT.h, rfl⟩⟩, rfl, trivial⟩, rfl⟩
theorem Rem_q (x y : Int) (hx : R127 x) (hy : R127 y) (h0 : y ≠ 0) : PSpec Tryz.prog X 26 [LQ x, LQ y] (.tup [SQ (x.tmod y), Sn .i64 0]) := by
  have hB := divisible_spec X _ _ _ _ (mg_in2 hx) (mg_in2 hy) true (by rw [both_q hx hy, mg_zero' h0]; rfl)
  have hd := divide_spec X (mg x) (mg y) ⟨mg_nonneg x, mg_lim hx⟩ ⟨mg_zero h0, mg_lim hy⟩
  have hq0 : 0 ≤ mg x % mg y := Int.emod_nonneg _ (by have := mg_zero h0; omega)
  have hq1 := Int.emod_lt_of_pos (mg x) (mg_zero h0)
  have hl := mg_lim hy
  have hn := number_spec X (decide (x < 0)) (mg x % mg y) ⟨hq0, by omega⟩ _ rfl
  rw [← tup_q hq0 (zv_quo x y h0).2]
  refine PSpec.intro Tryz.func26 rfl (by kernel_rfl) rfl rfl ?_
  intro C
  (refine LWP.seq <| LWP.region (by kernel_rfl) <| K.box rfl rfl rfl .plain <| K.box rfl rfl rfl .plain <| K.alloc rfl .plain ?_; refine kas rfl <| RunK.nil <| LWP.seq <| LWP.seq <| LWP.region (by kernel_rfl) <| K.loadAll rfl rfl rfl .plain ?_; refine K.loadAll rfl rfl rfl .plain ?_; refine kca rfl rfl (hB) <| K.not rfl rfl .plain <| RunK.nil <| LWP.condF rfl ?_; refine LWP.skip ?_; refine LWP.seq <| LWP.draws mixed (by kernel_rfl) <| K.loadAll rfl rfl rfl .plain ?_; refine kca rfl rfl (sizeOf_spec _ _ _ _) <| K.loadAll rfl rfl rfl .plain ?_; refine kca rfl rfl (sizeOf_spec _ _ _ _) <| kca rfl rfl (hd) <| kmv rfl <| kex rfl rfl <| kex rfl rfl <| K.alloc rfl .plain ?_; refine K.alloc rfl .plain ?_; refine K.storeAll rfl rfl rfl rfl rfl rfl .plain ?_; refine K.storeAll rfl rfl rfl rfl rfl rfl .plain ?_; refine RunK.nil <| And.intro (by kernel_rfl) ?_; refine LWP.seq <| LWP.region (by kernel_rfl) <| kfa rfl rfl ?_; refine kl1 rfl rfl rfl <| K.loadAll rfl rfl rfl .plain ?_; refine kca rfl rfl (hn) <| K.storeAll rfl rfl rfl rfl rfl rfl .plain ?_; refine kas rfl <| RunK.nil <| LWP.ret ?_)
  exact ⟨[_, _], ⟨⟨_, _, rfl, rfl, rfl, .inl ⟨AggT.h, rfl⟩⟩, rfl, trivial⟩, rfl⟩
end Go.Proofs.YtimpjdbhalnofaaGreatDoor
end
section
namespace Go.Proofs.YtimpjdbhalnofaaGreatDoor
open Go Go.Proofs Go.Shelf Go.RowKit Go.Sort Go.Lib
set_option maxHeartbeats 6400000 in
set_option maxRecDepth 100000 in
theorem inner_format (u : Nat) (hu64 : u < 18446744073709551616) (w : World) (htab : Lib.TabIs Tryz.prog w "internal/strconv.uint64pow10" .u64 Lib.pow10Tab) :
    Calls Tryz.prog 141 #[.int .u64 u, .int .i64 10] w fun e w' => e = .returned (.string ⟨(Lib.decDigits u).toArray⟩) ∧ Below w.heap.size w w' := by
  have mixed := Tryz.lays99.mixed
  have e74 : ∀ args w, (callFunc 145 args).run Tryz.prog w = .ok (.enter 145 args) w := enters_of Tryz.func145 (by kernel_rfl) rfl
  have e75 : ∀ args w, (callFunc 146 args).run Tryz.prog w = .ok (.enter 146 args) w := enters_of Tryz.func146 (by kernel_rfl) rfl
  have e76 : ∀ args w, (callFunc 147 args).run Tryz.prog w = .ok (.enter 147 args) w := enters_of Tryz.func147 (by kernel_rfl) rfl
  by_cases hs : u < 100
  · go_enter Tryz.func141, Tryz.ntmps141
    go_wp2_with (go_at_fn 145; refine (Tryz.internal_strconv_small u hs _).mono ?_; rintro e w' ⟨rfl, rfl⟩)
    go_ret
    exact ⟨rfl, Below.refl _ _⟩
  · have hu1 : 1 ≤ u := by omega
    have hnd20 : Lib.nDigits u ≤ 20 := by have := Lib.numDigits_eq u hu1 hu64; split at this <;> omega
    have hal : Tryz.prog.arrayLen 184 = 24 := by kernel_rfl
    have hsl1 : ∀ W, (Instr.sliceAt 184 (.pointer (some ⟨w.heap.size, 0, none⟩)) none (some (.int .i64 (Lib.nDigits u : Int))) none).run Tryz.prog W = .ok (.slice (some ⟨w.heap.size, 0, none⟩) (Lib.nDigits u) 24) W := fun W => by
      rw [run_sliceAt_array_h W 184 ⟨w.heap.size, 0, none⟩ (by kernel_rfl) .i64 (Lib.nDigits u : Int) (by omega) (by rw [hal]; omega)]
      go_simp
    have hH0 : Holds (fun (b : UInt8) => Value.int .u8 (b.toNat : Int)) (w.alloc (.cells Lib.zeros24 184)) w.heap.size 0 (Array.replicate (Lib.nDigits u) (0 : UInt8)) := fun j hj => by
      have hj' : j < Lib.nDigits u := by simpa using hj
      refine ⟨?_, World.frozen?_alloc_new _ _ _ _⟩
      rw [World.cell?_alloc_new, zeros24_at _ (by omega), getElem!_pos _ j hj]
      simp
    have hfmt := Tryz.internal_strconv_formatBase10 w.heap.size 0 24 u (Array.replicate (Lib.nDigits u) 0) (w.alloc (.cells Lib.zeros24 184)) hH0 (by rw [Array.size_replicate]; exact Lib.lt_pow_nDigits u) hu64 (by rw [Array.size_replicate]; omega)
    rw [Array.size_replicate] at hfmt
    have HH0 := Lib.hid hH0
    clear hH0 hal
    go_enter Tryz.func141, Tryz.ntmps141
    go_wp2_with (first
      | (go_at_fn 146; refine (Tryz.internal_strconv_numDigits u hu1 hu64 _ (Lib.tabIs_alloc htab _)).mono ?_; rintro e w' ⟨rfl, rfl⟩))
    go_at_fn 147
    refine hfmt.mono ?_
    rintro e w' ⟨rfl, k, v', dk, rfl, hF⟩
    have hcv : (convert 56 9 (.slice (some ⟨w.heap.size, 0, none⟩) (Lib.nDigits u) 24)).run Tryz.prog ((putRow (fun (b : UInt8) => Value.int .u8 (b.toNat : Int)) (w.alloc (.cells Lib.zeros24 184)) w.heap.size 0 dk).drewN k) = .ok (.string ⟨(Lib.decDigits u).toArray⟩) ((putRow (fun (b : UInt8) => Value.int .u8 (b.toNat : Int)) (w.alloc (.cells Lib.zeros24 184)) w.heap.size 0 dk).drewN k) := by
      have h := run_convert_bytes_back (P := Tryz.prog) ((putRow (fun (b : UInt8) => Value.int .u8 (b.toNat : Int)) (w.alloc (.cells Lib.zeros24 184)) w.heap.size 0 dk).drewN k) 56 9 5 ⟨w.heap.size, 0, none⟩ 24 (Lib.decDigits u) Tryz.underlying56 Tryz.underlying5 Tryz.underlying9 (fun j hj => by
        rw [Lib.row_is_numeral hF j hj, Lib.add_plain, World.cell?_drewN]
        exact cell?_putRow (fun (b : UInt8) => Value.int .u8 (b.toNat : Int)) _ w.heap.size 0 _ dk HH0.out (by rw [hF.size, Array.size_replicate]) j (by rw [hF.size]; rw [Lib.decDigits_length] at hj; exact hj))
      rw [Lib.decDigits_length] at h
      exact h
    go_wp2
    go_ret
    refine ⟨rfl, ?_⟩
    have e : ∃ os, (putRow (fun (b : UInt8) => Value.int .u8 (b.toNat : Int)) (w.alloc (.cells Lib.zeros24 184)) w.heap.size 0 dk).drewN k = grow (w.drewN k) os := by
      rw [alloc_eq_grow]
      obtain ⟨os', _, e⟩ := putRow_grow_new (fun (b : UInt8) => Value.int .u8 (b.toNat : Int)) w #[.cells Lib.zeros24 184] w.heap.size 0 dk (Nat.le_refl _)
      exact ⟨os', by rw [e]; rfl⟩
    obtain ⟨os, e⟩ := e
    rw [e]
    exact below_grow _ _ (Nat.le_refl _) k os
end Go.Proofs.YtimpjdbhalnofaaGreatDoor
end
section
namespace Go.Proofs.YtimpjdbhalnofaaGreatDoor
open Go Go.Lg Go.Lg.Arith
variable (X : Nat → Option Obj)
end Go.Proofs.YtimpjdbhalnofaaGreatDoor
end
section
namespace Go.Proofs.YtimpjdbhalnofaaGreatDoor
open Go Go.Lg Go.Lg.Arith
variable (X : Nat → Option Obj)
end Go.Proofs.YtimpjdbhalnofaaGreatDoor
end
section
namespace Go.Lg.Dec
open Go Go.Lib
def pad : Nat → Nat → List UInt8
  | 0, _ => []
  | k + 1, u => pad k (u / 10) ++ [UInt8.ofNat (48 + u % 10)]
theorem dec_pad : ∀ (k U L : Nat), 0 < U → L < 10 ^ k → decDigits (U * 10 ^ k + L) = decDigits U ++ pad k L
  | 0, U, L, _, hL => by
    have : L = 0 := by simpa using hL
    subst this
    simp [pad]
  | k + 1, U, L, hU, hL => by
    have hp : 0 < 10 ^ k := Nat.pow_pos (by decide)
    have h1 : U * 10 ^ (k + 1) + L = (U * 10 ^ k + L / 10) * 10 + L % 10 := by rw [Nat.pow_succ, ← Nat.mul_assoc, Nat.add_mul]; omega
    have hb : ¬ U * 10 ^ (k + 1) + L < 10 := by
      have : 1 * 10 ^ k ≤ U * 10 ^ k := Nat.mul_le_mul_right _ hU
      omega
    rw [decDigits, dif_neg hb, h1, show ((U * 10 ^ k + L / 10) * 10 + L % 10) / 10 = U * 10 ^ k + L / 10 by omega, show ((U * 10 ^ k + L / 10) * 10 + L % 10) % 10 = L % 10 by omega,
      dec_pad k U (L / 10) hU (by rw [Nat.pow_succ] at hL; omega), List.append_assoc]
    rfl
theorem rep_snoc (k : Nat) : repeatL [48] k ++ [48] = repeatL [48] (k + 1) := by rw [repeatL_add, repeatL_one]
theorem pad_rep : ∀ (k L : Nat), L < 10 ^ (k + 1) → pad (k + 1) L = repeatL [48] (k + 1 - nDigits L) ++ decDigits L
  | 0, L, hL => by
    have h : L < 10 := by simpa using hL
    rw [nDigits_small h, decDigits_one h]
    simp [pad, repeatL, Nat.mod_eq_of_lt h]
  | k + 1, L, hL => by
    have hL' : L / 10 < 10 ^ (k + 1) := by rw [Nat.pow_succ] at hL; omega
    have ih := pad_rep k (L / 10) hL'
    show pad (k + 1) (L / 10) ++ [UInt8.ofNat (48 + L % 10)] = _
    rw [ih]
    by_cases h : L < 10
    · rw [nDigits_small h, show L / 10 = 0 by omega, nDigits_small (show 0 < 10 by decide), decDigits_one (show 0 < 10 by decide), decDigits_one h, Nat.mod_eq_of_lt h]
      show repeatL [48] (k + 1 - 1) ++ [48] ++ _ = _
      rw [rep_snoc]
      rfl
    · rw [nDigits_big h, show k + 1 + 1 - (nDigits (L / 10) + 1) = k + 1 - nDigits (L / 10) by omega, List.append_assoc]
      congr 1
      conv => rhs; rw [decDigits, dif_neg h]
theorem nDigits_le : ∀ (k u : Nat), u < 10 ^ (k + 1) → nDigits u ≤ k + 1
  | 0, u, h => by rw [nDigits_small (by simpa using h)]; omega
  | k + 1, u, h => by
    by_cases c : u < 10
    · rw [nDigits_small c]; omega
    · rw [nDigits_big c]
      have := nDigits_le k (u / 10) (by rw [Nat.pow_succ] at h; omega)
      omega
end Go.Lg.Dec
namespace Go.Proofs.YtimpjdbhalnofaaGreatDoor
open Go Go.Lg Go.Lg.Arith Go.Lg.Dec Go.RowKit
variable (X : Nat → Option Obj)
def XTab : Prop := ∀ w : World, (∀ b o, X b = some o → w.heap[b]? = some o) → Lib.TabIs Tryz.prog w "internal/strconv.uint64pow10" .u64 Lib.pow10Tab
theorem format_inner (hT : XTab X) (u : Nat) (hu : u < 18446744073709551616) : PSpec Tryz.prog X 141 [Ln .u64 (u : Nat), Ln .i64 10] (Ls (Lib.decDigits u)) :=
  PSpec.ofBelow (vals := [.int .u64 (u : Nat), .int .i64 10]) (v := .string ⟨(Lib.decDigits u).toArray⟩) (by kernel_rfl) rfl rfl (fun w hX => inner_format u hu w (hT w hX))
theorem format_spec (hT : XTab X) (u : Nat) (hu : u < 18446744073709551616) : PSpec Tryz.prog X 133 [Ln .u64 (u : Nat), Ln .i64 10] (Ls (Lib.decDigits u)) := by
  refine PSpec.intro Tryz.func133 rfl (by kernel_rfl) rfl rfl ?_
  intro C
  (refine LWP.seq <| LWP.region (by kernel_rfl) <| kas rfl <| RunK.nil <| LWP.seq <| LWP.region (by kernel_rfl) <| kmv rfl <| kmv rfl <| kca rfl rfl (format_inner _ hT u hu) <| kas rfl <| RunK.nil <| LWP.ret ?_)
  exact ⟨[_], ⟨rfl, trivial⟩, rfl⟩
theorem repeat_spec (c : Nat) (hc : c ≤ 1000) : PSpec Tryz.prog X 134 [Ls [48], Ln .i64 (c : Nat)] (Ls (Lib.repeatL [48] c)) :=
  PSpec.ofBelow (vals := [.string ⟨[48].toArray⟩, .int .i64 (c : Nat)]) (v := .string ⟨(Lib.repeatL [48] c).toArray⟩) (by kernel_rfl) rfl rfl (fun w _ => Tryz.strings_Repeat ⟨[48].toArray⟩ c w (by omega) (by show 1 * c ≤ _; omega))
theorem digits_spec (hT : XTab X) (M : Nat) (hM : M < 170141183460469231731687303715884105728) : PSpec Tryz.prog X 103 [LZ (M : Nat)] (Ls (Lib.decDigits M)) := by
  have hdv := Div64_spec X ((M : Int) / 18446744073709551616) ((M : Int) % 18446744073709551616) 10000000000000000000 (by omega) (by omega) (by omega)
  rw [show (M : Int) / 18446744073709551616 * 18446744073709551616 + (M : Int) % 18446744073709551616 = (M : Int) by omega] at hdv
  rw [show (M : Int) / 10000000000000000000 = ((M / 10000000000000000000 : Nat) : Int) by omega, show (M : Int) % 10000000000000000000 = ((M % 10000000000000000000 : Nat) : Int) by omega] at hdv
  have hL : M % 10000000000000000000 < 10000000000000000000 := Nat.mod_lt _ (by decide)
  have hU : M / 10000000000000000000 < 18446744073709551616 := by omega
  have hsum : M = M / 10000000000000000000 * 10 ^ 19 + M % 10000000000000000000 := by omega
  generalize M / 10000000000000000000 = U at *
  generalize M % 10000000000000000000 = L at *
  have hf1 := format_spec X hT L (by omega)
  have hf2 := format_spec X hT U hU
  have hn := nDigits_le 18 L hL
  have hp := Lib.nDigits_pos L
  have hu := nDigits_le 19 U (by omega)
  have hs1 : (⟨(Lib.decDigits L).toArray⟩ : ByteArray).size = Lib.nDigits L := Lib.decDigits_length L
  have hs2 : (⟨(Lib.decDigits U).toArray⟩ : ByteArray).size = Lib.nDigits U := Lib.decDigits_length U
  have hs3 : (⟨(Lib.repeatL [48] (19 - Lib.nDigits L)).toArray⟩ : ByteArray).size = (19 - Lib.nDigits L) * 1 := Lib.repeatL_length _ _
  have hs4 : (⟨(Lib.decDigits U ++ Lib.repeatL [48] (19 - Lib.nDigits L)).toArray⟩ : ByteArray).size = Lib.nDigits U + (19 - Lib.nDigits L) * 1 := by
    show (Lib.decDigits U ++ Lib.repeatL [48] (19 - Lib.nDigits L)).length = _
    rw [List.length_append, Lib.decDigits_length, Lib.repeatL_length]
    rfl
  have hsub : IntKind.i64.wrap (19 - ((⟨(Lib.decDigits L).toArray⟩ : ByteArray).size : Nat)) = ((19 - Lib.nDigits L : Nat) : Int) := by
    rw [hs1, wrap_i64 (by omega)]; omega
  refine PSpec.intro Tryz.func103 rfl (by kernel_rfl) rfl rfl ?_
  intro C
  by_cases h0 : U = 0
  · subst h0
    rw [Nat.zero_mul, Nat.zero_add] at hsum
    subst hsum
    (refine LWP.seq <| LWP.region (by kernel_rfl) <| K.box rfl rfl rfl .plain <| kas rfl <| RunK.nil <| LWP.seq <| LWP.region (by kernel_rfl) <| kfa rfl rfl ?_; refine kl1 rfl rfl rfl <| kfa rfl rfl ?_; refine kl1 rfl rfl rfl <| kca rfl rfl (hdv) <| kmv rfl <| kex rfl rfl <| kex rfl rfl <| kas rfl <| kas rfl <| RunK.nil <| LWP.seq <| LWP.region (by kernel_rfl) <| kmv rfl <| kca rfl rfl (hf1) <| kas rfl <| RunK.nil ?_; refine LWP.seq <| LWP.seq <| LWP.region (by kernel_rfl) <| kmv rfl <| keq rfl rfl (beq_iff_eq.2 (by omega)) <| RunK.nil <| LWP.condT rfl ?_; refine LWP.seq <| LWP.region (by kernel_rfl) <| kmv rfl <| kas rfl <| RunK.nil <| LWP.ret ?_)
    exact ⟨[_], ⟨rfl, trivial⟩, rfl⟩
  · have e : Lib.decDigits M = Lib.decDigits U ++ Lib.repeatL [48] (19 - Lib.nDigits L) ++ Lib.decDigits L := by
      rw [hsum, dec_pad 19 U L (by omega) hL, pad_rep 18 L hL, List.append_assoc]
    rw [e]
    (refine LWP.seq <| LWP.region (by kernel_rfl) <| K.box rfl rfl rfl .plain <| kas rfl <| RunK.nil <| LWP.seq <| LWP.region (by kernel_rfl) <| kfa rfl rfl ?_; refine kl1 rfl rfl rfl <| kfa rfl rfl ?_; refine kl1 rfl rfl rfl <| kca rfl rfl (hdv) <| kmv rfl <| kex rfl rfl <| kex rfl rfl <| kas rfl <| kas rfl <| RunK.nil <| LWP.seq <| LWP.region (by kernel_rfl) <| kmv rfl <| kca rfl rfl (hf1) <| kas rfl <| RunK.nil ?_; refine LWP.seq <| LWP.seq <| LWP.region (by kernel_rfl) <| kmv rfl <| keq rfl rfl (beq_eq_false_iff_ne.2 (by omega)) <| RunK.nil <| LWP.condF rfl ?_; refine LWP.skip ?_; refine LWP.seq <| LWP.region (by kernel_rfl) <| kmv rfl <| kln rfl <| K.sub rfl rfl hsub .plain <| kca rfl rfl (repeat_spec _ (19 - Lib.nDigits L) (by omega)) <| kas rfl <| RunK.nil <| LWP.seq <| LWP.region (by kernel_rfl) <| kmv rfl <| kca rfl rfl (hf2) <| kmv rfl <| K.strAdd rfl rfl (by omega) (str_add _ _) .plain ?_; refine kmv rfl <| K.strAdd rfl rfl (by omega) (str_add _ _) .plain <| kas rfl <| RunK.nil <| LWP.ret ?_)
    exact ⟨[_], ⟨rfl, trivial⟩, rfl⟩
theorem Text_spec (hT : XTab X) (x : Int) (hx : R127 x) : PSpec Tryz.prog X 68 [LQ x] (Ls (textQ x)) := by
  have hF := Form_spec X _ _ (mg_in2 hx) true (formB_q hx)
  have hm := mg_nonneg x
  have hl := mg_lim hx
  have hd := digits_spec X hT (mg x).toNat (by omega)
  rw [show (((mg x).toNat : Nat) : Int) = mg x by omega] at hd
  have hlen : (⟨(Lib.decDigits (mg x).toNat).toArray⟩ : ByteArray).size ≤ 39 := by
    show (Lib.decDigits (mg x).toNat).length ≤ 39
    rw [Lib.decDigits_length]
    exact nDigits_le 38 _ (by omega)
  refine PSpec.intro Tryz.func68 rfl (by kernel_rfl) rfl rfl ?_
  intro C
  by_cases c : x < 0
  · have e : textQ x = [45] ++ Lib.decDigits (mg x).toNat := if_pos c
    rw [e]
    unfold LQ at hF ⊢
    simp only [c, decide_true] at hF ⊢
    (refine LWP.seq <| LWP.region (by kernel_rfl) <| K.box rfl rfl rfl .plain <| kas rfl <| RunK.nil <| LWP.seq <| LWP.seq <| LWP.region (by kernel_rfl) <| K.loadAll rfl rfl rfl .plain ?_; refine kca rfl rfl (hF) <| K.not rfl rfl .plain <| RunK.nil <| LWP.condF rfl ?_; refine LWP.skip ?_; refine LWP.seq <| LWP.region (by kernel_rfl) <| K.loadAll rfl rfl rfl .plain ?_; refine kca rfl rfl (sizeOf_spec _ _ _ _) <| kca rfl rfl (hd) <| kas rfl <| RunK.nil <| LWP.seq <| LWP.seq <| LWP.region (by kernel_rfl) <| kfa rfl rfl ?_; refine kl1 rfl rfl rfl <| RunK.nil <| LWP.condT rfl ?_; refine LWP.seq <| LWP.region (by kernel_rfl) <| kmv rfl <| K.strAdd rfl rfl (Nat.le_trans (Nat.add_le_add_left hlen _) (by decide)) (str_add [45] _) .plain <| kas rfl <| RunK.nil <| LWP.ret ?_)
    exact ⟨[_], ⟨rfl, trivial⟩, rfl⟩
  · have e : textQ x = Lib.decDigits (mg x).toNat := if_neg c
    rw [e]
    unfold LQ at hF ⊢
    simp only [c, decide_false] at hF ⊢
    (refine LWP.seq <| LWP.region (by kernel_rfl) <| K.box rfl rfl rfl .plain <| kas rfl <| RunK.nil <| LWP.seq <| LWP.seq <| LWP.region (by kernel_rfl) <| K.loadAll rfl rfl rfl .plain ?_; refine kca rfl rfl (hF) <| K.not rfl rfl .plain <| RunK.nil <| LWP.condF rfl ?_; refine LWP.skip ?_; refine LWP.seq <| LWP.region (by kernel_rfl) <| K.loadAll rfl rfl rfl .plain ?_; refine kca rfl rfl (sizeOf_spec _ _ _ _) <| kca rfl rfl (hd) <| kas rfl <| RunK.nil <| LWP.seq <| LWP.seq <| LWP.region (by kernel_rfl) <| kfa rfl rfl ?_; refine kl1 rfl rfl rfl <| RunK.nil <| LWP.condF rfl ?_; refine LWP.skip ?_; refine LWP.seq <| LWP.region (by kernel_rfl) <| kmv rfl <| kas rfl <| RunK.nil <| LWP.ret ?_)
    exact ⟨[_], ⟨rfl, trivial⟩, rfl⟩
end Go.Proofs.YtimpjdbhalnofaaGreatDoor
end
section
namespace Go.Proofs.YtimpjdbhalnofaaGreatDoor
open Go Go.Lg Go.Lg.Arith Go.Lg.Dec Go.RowKit
variable (X : Nat → Option Obj)
end Go.Proofs.YtimpjdbhalnofaaGreatDoor
end
section
namespace Go.Proofs.YtimpjdbhalnofaaGreatDoor
open Go Go.Lg Go.Lg.Arith Go.Lg.Dec Go.Lg.Dig Go.RowKit
variable (X : Nat → Option Obj)
end Go.Proofs.YtimpjdbhalnofaaGreatDoor
end
section
namespace Go.Proofs.YtimpjdbhalnofaaGreatDoor
open Go Go.Lg Go.Lg.Arith Go.Lg.Dec Go.Lg.Dig Go.RowKit
variable (X : Nat → Option Obj)
def part (M N i j : Nat) : Nat := M % 256 ^ i * N + dg M i * (N % 256 ^ j) * 256 ^ i
end Go.Proofs.YtimpjdbhalnofaaGreatDoor
end
section
namespace Go.Proofs.YtimpjdbhalnofaaGreatDoor
open Go Go.Lg Go.Lg.Arith Go.Lg.Dec Go.Lg.Dig Go.RowKit
variable (X : Nat → Option Obj)
end Go.Proofs.YtimpjdbhalnofaaGreatDoor
end
section
namespace Go.Proofs.YtimpjdbhalnofaaGreatDoor
open Go Go.Lg Go.Lg.Arith Go.Lg.Dec Go.Lg.Dig Go.RowKit
variable (X : Nat → Option Obj)
end Go.Proofs.YtimpjdbhalnofaaGreatDoor
end
section
namespace Go.Proofs.YtimpjdbhalnofaaGreatDoor
open Go Go.Lg Go.Lg.Arith Go.Lg.Dec Go.Lg.Dig Go.RowKit
variable (X : Nat → Option Obj)
end Go.Proofs.YtimpjdbhalnofaaGreatDoor
end
section
namespace Go.Proofs.YtimpjdbhalnofaaGreatDoor
open Go Go.Lg Go.Lg.Arith Go.Lg.Dec Go.RowKit
theorem parts_facts {x y : Int} (hx : R127 x) (hy : R127 y) (h0 : y ≠ 0) :
    R127 (x.tdiv y) ∧ R127 (x.tmod y) ∧ R127 (x.tdiv y * y) ∧ x.tdiv y * y + x.tmod y = x ∧ mg (x.tmod y) < mg y ∧ (x.tmod y < 0 → x < 0) ∧ (0 < x.tmod y → 0 < x) := by
  obtain ⟨h1, h2⟩ := zv_quo x y h0
  have hB := mg_zero h0
  have hA0 := mg_nonneg x
  have hR0 := Int.emod_nonneg (mg x) (show mg y ≠ 0 by omega)
  have hR1 := Int.emod_lt_of_pos (mg x) hB
  have hQ0 := Int.ediv_nonneg hA0 (Int.le_of_lt hB)
  have hQ1 := Int.ediv_le_self (mg y) hA0
  have hE := Int.emod_add_mul_ediv (mg x) (mg y)
  have hT0 := Int.mul_nonneg hQ0 (Int.le_of_lt hB)
  rw [Int.mul_comm (mg y) (mg x / mg y)] at hE
  rw [← h1, ← h2]
  have key : zv (decide (x < 0) != decide (y < 0)) (mg x / mg y) * y = zv (decide (x < 0)) (mg x / mg y * mg y) := by
    by_cases cy : y < 0
    · have hy' : mg y = -y := mg_neg cy
      generalize mg x / mg y = Q
      by_cases cx : x < 0 <;> simp only [cx, cy, decide_true, decide_false, zv, bne_self_eq_false, Bool.false_bne, if_true, if_false, Bool.false_eq_true]
      · rw [hy', Int.mul_neg, Int.neg_neg]
      · rw [hy', Int.mul_neg, Int.neg_mul]
    · have hy' : mg y = y := mg_pos (by omega)
      generalize mg x / mg y = Q
      by_cases cx : x < 0 <;> simp only [cx, cy, decide_true, decide_false, zv, bne_self_eq_false, Bool.true_bne, Bool.not_false, if_true, if_false, Bool.false_eq_true]
      · rw [hy', Int.neg_mul]
      · rw [hy']
  have zR : ∀ (b : Bool) (n : Int), 0 ≤ n → n < 170141183460469231731687303715884105728 → R127 (zv b n) := by
    intro b n h1 h2
    unfold R127 zv
    cases b <;> simp only [if_true, if_false, Bool.false_eq_true] <;> omega
  have hlx := mg_lim hx
  have hly := mg_lim hy
  rw [key]
  generalize mg x / mg y * mg y = T at *
  generalize mg x / mg y = Q at *
  generalize mg x % mg y = R at *
  refine ⟨zR _ _ hQ0 (by omega), zR _ _ hR0 (by omega), zR _ _ hT0 (by omega), ?_, ?_, ?_, ?_⟩
  · by_cases cx : x < 0
    · rw [decide_eq_true cx]
      have := mg_neg cx
      show -T + -R = x
      omega
    · rw [decide_eq_false cx]
      have := mg_pos (Int.not_lt.1 cx)
      show T + R = x
      omega
  · by_cases cx : x < 0
    · rw [decide_eq_true cx]
      show mg (-R) < mg y
      by_cases c : R = 0
      · subst c; exact hB
      · rw [mg_neg (z := -R) (by omega)]; omega
    · rw [decide_eq_false cx]
      show mg R < mg y
      rw [mg_pos hR0]; exact hR1
  · intro h
    by_cases cx : x < 0
    · exact cx
    · rw [decide_eq_false cx] at h
      have h : R < 0 := h
      omega
  · intro h
    by_cases cx : x < 0
    · rw [decide_eq_true cx] at h
      have h : 0 < -R := h
      omega
    · rw [decide_eq_false cx] at h
      have h : 0 < R := h
      have := mg_pos (Int.not_lt.1 cx)
      omega
end Go.Proofs.YtimpjdbhalnofaaGreatDoor
end
section
namespace Go.Proofs.YtimpjdbhalnofaaGreatDoor
open Go Go.Lg Go.Lg.Fml Go.Lg.Fld Go.Lg.Arith
set_option maxRecDepth 100000
variable (X : Nat → Option Obj)
def exR : Except Int Nm → LV
  | .ok v => .tup [SI v.1 v.2, Sn .i64 0]
  | .error e => .tup [S0, Sn .i64 e]
theorem NumsIn.all {X : Nat → Option Obj} {ad : Option Addr} {ns : List Nm} (h : NumsIn X ad ns) (hpos : 0 < ns.length) :
    ∃ (blk off : Nat) (arr : Array Value) (el : TypeId) (fr : Nat × Nat), ad = some ⟨blk, off, none⟩ ∧ X blk = some (.cells arr el fr) ∧ ∀ i b N, ns[i]? = some (b, N) → In2 N ∧ off + i * 3 + 3 ≤ arr.size ∧ ((arr.toList.drop (off + i * 3)).take 3).map CV.val = cI b N := by
  obtain ⟨_, blk, off, arr, el, fr, rfl, hX, _, _⟩ := h.at (i := 0) (b := (ns[0]'hpos).1) (N := (ns[0]'hpos).2) (List.getElem?_eq_getElem hpos)
  refine ⟨blk, off, arr, el, fr, rfl, hX, fun i b N hi => ?_⟩
  obtain ⟨h1, blk', off', arr', el', fr', h2, h3, h4, h5⟩ := h.at hi
  simp only [Option.some.injEq, Addr.mk.injEq] at h2
  obtain ⟨rfl, rfl, _⟩ := h2
  rw [hX] at h3
  simp only [Option.some.injEq, Obj.cells.injEq] at h3
  obtain ⟨rfl, _, _⟩ := h3
  exact ⟨h1, h4, h5⟩
theorem gd_q {u : Nm} (h : gd u = true) (hu : In2 u.2) : LI u.1 u.2 = LQ (zz u) ∧ R127 (zz u) := ⟨LI_q hu h, (zv_in hu h).1⟩
end Go.Proofs.YtimpjdbhalnofaaGreatDoor
end
section
namespace Go.Proofs.YtimpjdbhalnofaaGreatDoor
open Go Go.Lg Go.Lg.Fml Go.Lg.Fld Go.Lg.Arith
set_option maxRecDepth 100000
variable (X : Nat → Option Obj)
theorem eqN {b b' : Bool} {M N : Int} (hM : In2 M) (hN : In2 N) : (b == b' && (M / 18446744073709551616 == N / 18446744073709551616 && M % 18446744073709551616 == N % 18446744073709551616)) = decide (((b, M) : Nm) = (b', N)) := by
  by_cases h : b = b' ∧ M = N
  · obtain ⟨rfl, rfl⟩ := h
    simp
  · rw [decide_eq_false (fun e => h (by simpa using e))]
    cases hc : (b == b' && (M / 18446744073709551616 == N / 18446744073709551616 && M % 18446744073709551616 == N % 18446744073709551616)) with
    | false => rfl
    | true =>
      simp only [Bool.and_eq_true, beq_iff_eq] at hc
      exact absurd ⟨hc.1, by omega⟩ h
theorem eqZ {b : Bool} {M : Int} (hM : In2 M) : (b == false && (M / 18446744073709551616 == 0 && M % 18446744073709551616 == 0)) = decide (((b, M) : Nm) = (false, 0)) := by
  have := eqN (b := b) (b' := false) hM (N := 0) (by show 0 ≤ (0 : Int) ∧ (0 : Int) < _; omega)
  exact this
theorem cmp_lz {u v : Nm} : decide (cmpI (zz u) (zz v) < 0) = decide (zz u < zz v) ∧ decide (0 < cmpI (zz u) (zz v)) = decide (zz v < zz u) := by
  unfold cmpI
  by_cases h : zz u < zz v
  · rw [if_pos h, decide_eq_true h, decide_eq_false (show ¬ zz v < zz u by omega)]
    exact ⟨rfl, rfl⟩
  · rw [if_neg h, decide_eq_false h]
    by_cases h2 : zz v < zz u
    · rw [if_pos h2, decide_eq_true h2]; exact ⟨rfl, rfl⟩
    · rw [if_neg h2, decide_eq_false h2]; exact ⟨rfl, rfl⟩
end Go.Proofs.YtimpjdbhalnofaaGreatDoor
end
section
namespace Go.Proofs.YtimpjdbhalnofaaGreatDoor
open Go Go.Lg Go.Lg.Fml Go.Lg.Fld Go.Lg.Arith
set_option maxRecDepth 100000
variable (X : Nat → Option Obj)
theorem szle (a b : List UInt8) (h : a.length + b.length ≤ 9223372036854775807) : (⟨a.toArray⟩ : ByteArray).size + (⟨b.toArray⟩ : ByteArray).size ≤ 9223372036854775807 := h
theorem encErr_chk {l : List Ins} (h : chkX l ≠ 0) : encErr l = chkX l ∧ encTX l = [] := by
  have e : encErr l = chkX l := if_neg h
  exact ⟨e, by unfold encTX; rw [e, if_neg h]⟩
theorem encErr_bad {l : List Ins} {x : Ins} (hz : chkX l = 0) (hx : x ∈ l) (hp : plainI x = false) : encErr l = 1 ∧ encTX l = [] := by
  have e : encErr l = 1 := by
    unfold encErr
    rw [if_pos hz, if_neg]
    intro h
    rw [List.all_eq_true.1 h x hx] at hp
    cases hp
  exact ⟨e, by unfold encTX; rw [e]; rfl⟩
theorem encErr_ok {l : List Ins} (hz : chkX l = 0) (hp : l.all plainI = true) : encErr l = 0 ∧ encTX l = encX l := by
  have e : encErr l = 0 := by
    unfold encErr
    rw [if_pos hz, if_pos hp]
  exact ⟨e, by unfold encTX; rw [if_pos e]⟩
theorem encIs_snoc {l : List Ins} {i : Nat} {x : Ins} (h : l[i]? = some x) : encIs (l.take (i + 1)) = encIs (l.take i) ++ encI x := by
  rw [take_snoc h, encIs_app]
  simp [encIs]
set_option maxHeartbeats 12800000 in
theorem rEncode11 (l : List Ins) (ad : Option Addr) (cap : Nat) (hin : InsIn X ad l) (hbig : l.length < 1152921504606846976) : PSpec Tryz.prog X 19 [Lx ad l.length cap] (.tup [Ss (encTX l), Sn .i64 (encErr l)]) := by
  have hC := rCheck11 X l ad cap hin (by omega)
  by_cases hz : chkX l = 0
  case neg =>
    obtain ⟨e1, e2⟩ := encErr_chk hz
    rw [e1, e2]
    refine PSpec.intro Tryz.func19 rfl (by kernel_rfl) rfl rfl ?_
    intro C
    (refine LWP.seq <| LWP.region (by kernel_rfl) <| kas rfl <| kas rfl <| RunK.nil <| LWP.seq <| LWP.seq <| LWP.region (by kernel_rfl) <| kmv rfl <| kca rfl rfl (hC) <| kas rfl <| RunK.nil <| LWP.seq <| LWP.region (by kernel_rfl) ?_; refine kmv rfl <| kne rfl rfl (bne_iff_ne.2 hz) <| RunK.nil <| LWP.condT rfl ?_; refine LWP.seq <| LWP.region (by kernel_rfl) <| kmv rfl <| kas rfl <| kas rfl <| RunK.nil <| LWP.ret ?_)
    exact ⟨[_, _], ⟨rfl, rfl, trivial⟩, rfl⟩
  rw [hz] at hC
  have h64 := (chkX_zero hz).1
  have wl := wrap_o8 (l.length : Nat)
  refine PSpec.intro Tryz.func19 rfl (by kernel_rfl) rfl rfl ?_
  intro C
  (refine LWP.seq <| LWP.region (by kernel_rfl) <| kas rfl <| kas rfl <| RunK.nil <| LWP.seq <| LWP.seq <| LWP.region (by kernel_rfl) <| kmv rfl <| kca rfl rfl (hC) <| kas rfl <| RunK.nil <| LWP.seq <| LWP.region (by kernel_rfl) ?_; refine kmv rfl <| kne rfl rfl (r := false) rfl <| RunK.nil <| LWP.condF rfl ?_; refine LWP.skip ?_; refine LWP.seq <| LWP.region (by kernel_rfl) <| kmv rfl <| K.lenX rfl SliceT.h rfl .plain ?_; refine kcv rfl wl ?_; refine K.buildSlc (zs := [.int .u8 0]) (sz := 1) (e := 5) (cs' := [o8 (l.length : Nat)].map bc) (by kernel_rfl) rfl rfl rfl rfl rfl rfl .plain <| K.convStr (l := [o8 (l.length : Nat)]) rfl rfl (by kernel_rfl) StrT.u (Nat.le_refl _) rfl .plain <| kas rfl <| RunK.nil <| LWP.seq <| LWP.seq <| LWP.region (by kernel_rfl) <| kas rfl <| RunK.nil <| LWP.block ?_)
  refine LWP.loop (fun m σ => ∃ i : Nat, i ≤ l.length ∧ m = l.length - i ∧ (l.take i).all plainI = true ∧ σ = ⟨[(0, Lx ad l.length cap), (5, Ls (o8 (l.length : Nat) :: encIs (l.take i))), (6, Ln .i64 (i : Nat))], [], X⟩) l.length
    ⟨⟨[(0, Lx ad l.length cap), (5, Ls (o8 (l.length : Nat) :: encIs (l.take 0))), (6, Ln .i64 (0 : Nat))], [], X⟩, Le.of (by exact ⟨rfl, rfl, rfl, trivial⟩) (by exact trivial) (by exact rfl) (by exact rfl) (by exact rfl), 0, by omega, rfl, rfl, rfl⟩ ?_
  rintro m σ ⟨i, hi, rfl, hpl, rfl⟩
  have hSl : (o8 (l.length : Nat) :: encIs (l.take i)).length ≤ 1153 := by
    have := encIs_len (l.take i)
    rw [List.length_take] at this
    rw [List.length_cons]; omega
  by_cases hlt : i < l.length
  case neg =>
    have e : i = l.length := by omega
    subst e
    rw [List.take_length] at hpl hSl ⊢
    obtain ⟨e1, e2⟩ := encErr_ok hz hpl
    rw [e1, e2]
    unfold encX
    (refine LWP.seq <| LWP.seq <| LWP.region (by kernel_rfl) <| kmv rfl <| kmv rfl <| K.lenX rfl SliceT.h rfl .plain ?_; refine klt rfl rfl (decide_eq_false (by omega)) <| RunK.nil <| LWP.condF rfl ?_; refine LWP.exit <| LWP.seq <| LWP.region (by kernel_rfl) <| kmv rfl <| kas rfl <| kas rfl <| RunK.nil <| LWP.ret ?_)
    exact ⟨[_, _], ⟨rfl, rfl, trivial⟩, rfl⟩
  obtain ⟨x, hx⟩ : ∃ x, l[i]? = some x := ⟨_, List.getElem?_eq_getElem hlt⟩
  have hmem := List.mem_of_getElem? hx
  obtain ⟨blk, off, arr, el, fr, rfl, hX, hsz, hcs, _⟩ := hin.at hx
  have hio : off + Int.toNat (i : Int) * 6 = off + i * 6 := by simp
  obtain ⟨_, _, _, hk2⟩ := hin.small x hmem
  obtain ⟨h17, hgk, ha7, hb7⟩ := okI_facts (chkX_ok hz x hmem)
  have hbad := fun h => encErr_bad (x := x) hz hmem h
  have hgood := fun h : plainI x = true => show (l.take (i + 1)).all plainI = true by rw [take_snoc hx, List.all_append, hpl]; simp [h]
  have hnext : o8 (l.length : Nat) :: encIs (l.take (i + 1)) = (o8 (l.length : Nat) :: encIs (l.take i)) ++ encI x := by rw [encIs_snoc hx]; rfl
  obtain ⟨op, a, b, kb, kN⟩ := x
  simp only at h17 hgk ha7 hb7 hk2
  have q := eqI (b := kb) (b' := false) (h := kN / 18446744073709551616) (h' := 0) (l := kN % 18446744073709551616) (l' := 0) _ (eqZ hk2)
  have hW1 := rWord_spec X (loW kN) (by unfold loW; omega)
  have hW2 := rWord_spec X (hiW kN) (by unfold hiW In2 at *; omega)
  rw [show ((loW kN : Nat) : Int) = kN % 18446744073709551616 by unfold loW; omega] at hW1
  rw [show ((hiW kN : Nat) : Int) = kN / 18446744073709551616 by unfold hiW In2 at *; omega] at hW2
  have l8 := leB_length 8 (loW kN)
  have w0 := wrap_o8 op
  have wa := wrap_o8 a
  have wb := wrap_o8 b
  have hadd : IntKind.i64.wrap ((i : Int) + 1) = ((i + 1 : Nat) : Int) := by rw [wrap_i64 (by omega)]; omega
  generalize hS : o8 (l.length : Nat) :: encIs (l.take i) = S at *
  generalize hS' : o8 (l.length : Nat) :: encIs (l.take (i + 1)) = S' at *
  by_cases hc : op = 1
  case pos =>
    have heo1 : op = 1 := hc
    have hno2 : op ≠ 2 := by omega
    have hno3 : op ≠ 3 := by omega
    by_cases cB : b = 0
    case neg =>
      have hp : plainI ⟨op, a, b, (kb, kN)⟩ = false := by
        unfold plainI
        simp only
        rw [decide_eq_false (show ¬ op = 2 by omega), decide_eq_false cB]; simp
      obtain ⟨e1, e2⟩ := hbad hp
      rw [e1, e2]
      (refine LWP.seq <| LWP.seq <| LWP.region (by kernel_rfl) <| kmv rfl <| kmv rfl <| K.lenX rfl SliceT.h rfl .plain ?_; refine klt rfl rfl (decide_eq_true (by omega)) <| RunK.nil <| LWP.condT rfl ?_; refine LWP.skip ?_; refine LWP.seq <| LWP.block <| LWP.seq <| LWP.region (by kernel_rfl) <| kmv rfl <| kmv rfl <| K.indexX rfl rfl SliceT.h (by omega) hio .plain <| K.loadXagg rfl hX (by kernel_rfl) hsz hcs .plain <| K.alloc rfl .plain ?_; refine K.storeAll rfl rfl rfl rfl rfl rfl .plain ?_; refine RunK.nil <| LWP.seq <| LWP.seq <| LWP.region (by kernel_rfl) <| kfa rfl rfl ?_; refine kl1 rfl rfl rfl <| kne rfl rfl (bne_eq_false_iff_eq.2 heo1) <| kmv rfl <| RunK.passed rfl rfl rfl <| RunK.passed rfl rfl rfl <| RunK.passed rfl rfl rfl <| RunK.passed rfl rfl rfl <| kpf rfl rfl <| kmv rfl <| K.fieldAddr rfl rfl (.taken rfl rfl) ?_; refine K.loadOne rfl rfl rfl (.taken rfl rfl) ?_; refine K.neq rfl rfl (bne_iff_ne.2 hno2) (.taken rfl rfl) ?_; refine gmv rfl rfl rfl <| K.fieldAddr rfl rfl (.taken rfl rfl) ?_; refine K.loadOne rfl rfl rfl (.taken rfl rfl) ?_; refine K.neq rfl rfl (bne_iff_ne.2 cB) (.taken rfl rfl) ?_; refine K.pickT rfl rfl (.taken rfl rfl) ?_; refine kpf rfl rfl <| kmv rfl <| RunK.passed rfl rfl rfl <| RunK.passed rfl rfl rfl <| RunK.passed rfl rfl rfl <| RunK.passed rfl rfl rfl <| RunK.passedU rfl rfl <| RunK.passedU rfl rfl <| RunK.passedU rfl rfl <| RunK.passed rfl rfl rfl <| RunK.passed rfl rfl rfl <| RunK.passedU rfl rfl <| RunK.passedU rfl rfl <| RunK.passedU rfl rfl ?_; refine RunK.passed rfl rfl rfl <| kpt rfl rfl <| RunK.nil <| LWP.condT rfl ?_; refine LWP.seq <| LWP.region (by kernel_rfl) <| kas rfl <| kas rfl <| RunK.nil <| LWP.ret ?_)
      exact ⟨[_, _], ⟨rfl, rfl, trivial⟩, rfl⟩
    by_cases cA : a = 0
    case neg =>
      have hp : plainI ⟨op, a, b, (kb, kN)⟩ = false := by
        unfold plainI
        simp only
        rw [decide_eq_false (show ¬ op = 2 by omega), decide_eq_false (show ¬ op = 3 by omega), decide_eq_false cA]; simp
      obtain ⟨e1, e2⟩ := hbad hp
      rw [e1, e2]
      ((refine LWP.seq <| LWP.seq <| LWP.region (by kernel_rfl) <| kmv rfl <| kmv rfl <| K.lenX rfl SliceT.h rfl .plain ?_; refine klt rfl rfl (decide_eq_true (by omega)) <| RunK.nil <| LWP.condT rfl ?_; refine LWP.skip ?_; refine LWP.seq <| LWP.block <| LWP.seq <| LWP.region (by kernel_rfl) <| kmv rfl <| kmv rfl <| K.indexX rfl rfl SliceT.h (by omega) hio .plain <| K.loadXagg rfl hX (by kernel_rfl) hsz hcs .plain <| K.alloc rfl .plain ?_; refine K.storeAll rfl rfl rfl rfl rfl rfl .plain ?_; refine RunK.nil <| LWP.seq <| LWP.seq <| LWP.region (by kernel_rfl) <| kfa rfl rfl ?_; refine kl1 rfl rfl rfl <| kne rfl rfl (bne_eq_false_iff_eq.2 heo1) <| kmv rfl <| RunK.passed rfl rfl rfl <| RunK.passed rfl rfl rfl <| RunK.passed rfl rfl rfl <| RunK.passed rfl rfl rfl <| kpf rfl rfl <| kmv rfl <| K.fieldAddr rfl rfl (.taken rfl rfl) ?_; refine K.loadOne rfl rfl rfl (.taken rfl rfl) ?_; refine K.neq rfl rfl (bne_iff_ne.2 hno2) (.taken rfl rfl) ?_; refine gmv rfl rfl rfl <| K.fieldAddr rfl rfl (.taken rfl rfl) ?_; refine K.loadOne rfl rfl rfl (.taken rfl rfl) ?_; refine K.neq rfl rfl (bne_eq_false_iff_eq.2 cB) (.taken rfl rfl) ?_); (refine K.pickT rfl rfl (.taken rfl rfl) ?_; refine kpf rfl rfl <| kmv rfl <| K.fieldAddr rfl rfl (.taken rfl rfl) ?_; refine K.loadOne rfl rfl rfl (.taken rfl rfl) ?_; refine K.neq rfl rfl (bne_iff_ne.2 hno2) (.taken rfl rfl) ?_; refine gmv rfl rfl rfl <| K.fieldAddr rfl rfl (.taken rfl rfl) ?_; refine K.loadOne rfl rfl rfl (.taken rfl rfl) ?_; refine K.neq rfl rfl (bne_iff_ne.2 hno3) (.taken rfl rfl) ?_; refine K.pickT rfl rfl (.taken rfl rfl) ?_; refine gmv rfl rfl rfl <| K.fieldAddr rfl rfl (.taken rfl rfl) ?_; refine K.loadOne rfl rfl rfl (.taken rfl rfl) ?_; refine K.neq rfl rfl (bne_iff_ne.2 cA) (.taken rfl rfl) ?_; refine K.pickT rfl rfl (.taken rfl rfl) ?_); (refine kpf rfl rfl <| RunK.nil <| LWP.condT rfl ?_; refine LWP.seq <| LWP.region (by kernel_rfl) <| kas rfl <| kas rfl <| RunK.nil <| LWP.ret ?_))
      exact ⟨[_, _], ⟨rfl, rfl, trivial⟩, rfl⟩
    have hpn := hgood (by
      unfold plainI
      simp only
      rw [Bool.and_eq_true, Bool.and_eq_true, Bool.or_eq_true, Bool.or_eq_true, Bool.or_eq_true, Bool.or_eq_true]
      simp only [decide_eq_true_eq]
      exact ⟨.inl hc, .inr cB, .inr (.inr cA)⟩)
    have he : encI ⟨op, a, b, (kb, kN)⟩ = o8 op :: (sgB kb :: (leB 8 (loW kN) ++ leB 8 (hiW kN))) := by unfold encI; simp only; rw [if_pos hc]
    rw [he] at hnext
    generalize leB 8 (loW kN) = B1 at *
    have l82 := leB_length 8 (hiW kN)
    generalize leB 8 (hiW kN) = B2 at *
    cases kb with
    | false =>
      have hcat : (⟨((((S ++ [o8 op]) ++ [sgB false]) ++ B1)).toArray⟩ : ByteArray) ++ ⟨B2.toArray⟩ = ⟨S'.toArray⟩ := by rw [str_add, hnext]; simp only [List.append_assoc, List.cons_append, List.nil_append]
      ((refine LWP.seq <| LWP.seq <| LWP.region (by kernel_rfl) <| kmv rfl <| kmv rfl <| K.lenX rfl SliceT.h rfl .plain ?_; refine klt rfl rfl (decide_eq_true (by omega)) <| RunK.nil <| LWP.condT rfl ?_; refine LWP.skip ?_; refine LWP.seq <| LWP.block <| LWP.seq <| LWP.region (by kernel_rfl) <| kmv rfl <| kmv rfl <| K.indexX rfl rfl SliceT.h (by omega) hio .plain <| K.loadXagg rfl hX (by kernel_rfl) hsz hcs .plain <| K.alloc rfl .plain ?_; refine K.storeAll rfl rfl rfl rfl rfl rfl .plain ?_; refine RunK.nil <| LWP.seq <| LWP.seq <| LWP.region (by kernel_rfl) <| kfa rfl rfl ?_; refine kl1 rfl rfl rfl <| kne rfl rfl (bne_eq_false_iff_eq.2 heo1) <| kmv rfl <| RunK.passed rfl rfl rfl <| RunK.passed rfl rfl rfl <| RunK.passed rfl rfl rfl <| RunK.passed rfl rfl rfl <| kpf rfl rfl <| kmv rfl <| K.fieldAddr rfl rfl (.taken rfl rfl) ?_; refine K.loadOne rfl rfl rfl (.taken rfl rfl) ?_; refine K.neq rfl rfl (bne_iff_ne.2 hno2) (.taken rfl rfl) ?_; refine gmv rfl rfl rfl <| K.fieldAddr rfl rfl (.taken rfl rfl) ?_; refine K.loadOne rfl rfl rfl (.taken rfl rfl) ?_; refine K.neq rfl rfl (bne_eq_false_iff_eq.2 cB) (.taken rfl rfl) ?_); (refine K.pickT rfl rfl (.taken rfl rfl) ?_; refine kpf rfl rfl <| kmv rfl <| K.fieldAddr rfl rfl (.taken rfl rfl) ?_; refine K.loadOne rfl rfl rfl (.taken rfl rfl) ?_; refine K.neq rfl rfl (bne_iff_ne.2 hno2) (.taken rfl rfl) ?_; refine gmv rfl rfl rfl <| K.fieldAddr rfl rfl (.taken rfl rfl) ?_; refine K.loadOne rfl rfl rfl (.taken rfl rfl) ?_; refine K.neq rfl rfl (bne_iff_ne.2 hno3) (.taken rfl rfl) ?_; refine K.pickT rfl rfl (.taken rfl rfl) ?_; refine gmv rfl rfl rfl <| K.fieldAddr rfl rfl (.taken rfl rfl) ?_; refine K.loadOne rfl rfl rfl (.taken rfl rfl) ?_; refine K.neq rfl rfl (bne_eq_false_iff_eq.2 cA) (.taken rfl rfl) ?_; refine K.pickT rfl rfl (.taken rfl rfl) ?_); (refine kpf rfl rfl <| RunK.nil <| LWP.condF rfl ?_; refine LWP.skip ?_; refine LWP.seq <| LWP.region (by kernel_rfl) <| kmv rfl <| kfa rfl rfl ?_; refine kl1 rfl rfl rfl <| kcv rfl w0 ?_; refine K.buildSlc (zs := [.int .u8 0]) (sz := 1) (e := 5) (cs' := [o8 op].map bc) (by kernel_rfl) rfl rfl rfl rfl rfl rfl .plain <| K.convStr (l := [o8 op]) rfl rfl (by kernel_rfl) StrT.u (Nat.le_refl _) rfl .plain <| K.strAdd rfl rfl (szle S [o8 op] (by simp only [List.length_singleton]; omega)) (str_add S [o8 op]) .plain <| kas rfl <| RunK.nil <| LWP.seq <| LWP.region (by kernel_rfl) <| kfa rfl rfl ?_; refine kl1 rfl rfl rfl <| RunK.nil <| LWP.block <| LWP.seq <| LWP.region (by kernel_rfl) <| keq rfl rfl (r := true) (beq_iff_eq.2 hc) <| kas rfl <| RunK.nil <| LWP.condT rfl ?_; refine LWP.seq <| LWP.region (by kernel_rfl) <| kas rfl <| RunK.nil <| LWP.seq <| LWP.seq <| LWP.region (by kernel_rfl) <| kfa rfl rfl ?_; refine kfa rfl rfl ?_; refine kl1 rfl rfl rfl <| RunK.nil <| LWP.condF rfl ?_; refine LWP.skip ?_; refine LWP.draws mixed (by kernel_rfl) <| kmv rfl <| kmv rfl <| K.buildSlc (zs := [.int .u8 0]) (sz := 1) (e := 5) (cs' := [sgB false].map bc) (by kernel_rfl) rfl rfl rfl rfl rfl rfl .plain <| K.convStr (l := [sgB false]) rfl rfl (by kernel_rfl) StrT.u (Nat.le_refl _) rfl .plain <| K.strAdd rfl rfl (szle (S ++ [o8 op]) [sgB false] (by simp only [List.length_append, List.length_singleton]; omega)) (str_add (S ++ [o8 op]) [sgB false]) .plain <| kfa rfl rfl ?_; refine kfa rfl rfl ?_); (refine kl1 rfl rfl rfl <| kca rfl rfl hW1 <| K.strAdd rfl rfl (szle ((S ++ [o8 op]) ++ [sgB false]) B1 (by simp only [List.length_append, List.length_singleton]; omega)) (str_add ((S ++ [o8 op]) ++ [sgB false]) B1) .plain <| kfa rfl rfl ?_; refine kfa rfl rfl ?_; refine kl1 rfl rfl rfl <| kca rfl rfl hW2 <| K.strAdd rfl rfl (szle (((S ++ [o8 op]) ++ [sgB false]) ++ B1) B2 (by simp only [List.length_append, List.length_singleton]; omega)) hcat .plain <| kas rfl <| RunK.nil <| And.intro (by kernel_rfl) ?_; refine LWP.region (by kernel_rfl) <| kmv rfl <| kad rfl rfl hadd <| kas rfl <| RunK.nil ?_))
      exact ⟨_, ⟨[(0, Lx (some ⟨blk, off, none⟩) l.length cap), (5, Ls S'), (6, Ln .i64 (i + 1 : Nat))], [], X⟩, by omega, Le.of (by exact ⟨rfl, rfl, rfl, trivial⟩) (by exact trivial) (by exact rfl) (by exact rfl) (by exact rfl), i + 1, by omega, rfl, hpn, by rw [hS']⟩
    | true =>
      have hcat : (⟨((((S ++ [o8 op]) ++ [sgB true]) ++ B1)).toArray⟩ : ByteArray) ++ ⟨B2.toArray⟩ = ⟨S'.toArray⟩ := by rw [str_add, hnext]; simp only [List.append_assoc, List.cons_append, List.nil_append]
      ((refine LWP.seq <| LWP.seq <| LWP.region (by kernel_rfl) <| kmv rfl <| kmv rfl <| K.lenX rfl SliceT.h rfl .plain ?_; refine klt rfl rfl (decide_eq_true (by omega)) <| RunK.nil <| LWP.condT rfl ?_; refine LWP.skip ?_; refine LWP.seq <| LWP.block <| LWP.seq <| LWP.region (by kernel_rfl) <| kmv rfl <| kmv rfl <| K.indexX rfl rfl SliceT.h (by omega) hio .plain <| K.loadXagg rfl hX (by kernel_rfl) hsz hcs .plain <| K.alloc rfl .plain ?_; refine K.storeAll rfl rfl rfl rfl rfl rfl .plain ?_; refine RunK.nil <| LWP.seq <| LWP.seq <| LWP.region (by kernel_rfl) <| kfa rfl rfl ?_; refine kl1 rfl rfl rfl <| kne rfl rfl (bne_eq_false_iff_eq.2 heo1) <| kmv rfl <| RunK.passed rfl rfl rfl <| RunK.passed rfl rfl rfl <| RunK.passed rfl rfl rfl <| RunK.passed rfl rfl rfl <| kpf rfl rfl <| kmv rfl <| K.fieldAddr rfl rfl (.taken rfl rfl) ?_; refine K.loadOne rfl rfl rfl (.taken rfl rfl) ?_; refine K.neq rfl rfl (bne_iff_ne.2 hno2) (.taken rfl rfl) ?_; refine gmv rfl rfl rfl <| K.fieldAddr rfl rfl (.taken rfl rfl) ?_; refine K.loadOne rfl rfl rfl (.taken rfl rfl) ?_; refine K.neq rfl rfl (bne_eq_false_iff_eq.2 cB) (.taken rfl rfl) ?_); (refine K.pickT rfl rfl (.taken rfl rfl) ?_; refine kpf rfl rfl <| kmv rfl <| K.fieldAddr rfl rfl (.taken rfl rfl) ?_; refine K.loadOne rfl rfl rfl (.taken rfl rfl) ?_; refine K.neq rfl rfl (bne_iff_ne.2 hno2) (.taken rfl rfl) ?_; refine gmv rfl rfl rfl <| K.fieldAddr rfl rfl (.taken rfl rfl) ?_; refine K.loadOne rfl rfl rfl (.taken rfl rfl) ?_; refine K.neq rfl rfl (bne_iff_ne.2 hno3) (.taken rfl rfl) ?_; refine K.pickT rfl rfl (.taken rfl rfl) ?_; refine gmv rfl rfl rfl <| K.fieldAddr rfl rfl (.taken rfl rfl) ?_; refine K.loadOne rfl rfl rfl (.taken rfl rfl) ?_; refine K.neq rfl rfl (bne_eq_false_iff_eq.2 cA) (.taken rfl rfl) ?_; refine K.pickT rfl rfl (.taken rfl rfl) ?_); (refine kpf rfl rfl <| RunK.nil <| LWP.condF rfl ?_; refine LWP.skip ?_; refine LWP.seq <| LWP.region (by kernel_rfl) <| kmv rfl <| kfa rfl rfl ?_; refine kl1 rfl rfl rfl <| kcv rfl w0 ?_; refine K.buildSlc (zs := [.int .u8 0]) (sz := 1) (e := 5) (cs' := [o8 op].map bc) (by kernel_rfl) rfl rfl rfl rfl rfl rfl .plain <| K.convStr (l := [o8 op]) rfl rfl (by kernel_rfl) StrT.u (Nat.le_refl _) rfl .plain <| K.strAdd rfl rfl (szle S [o8 op] (by simp only [List.length_singleton]; omega)) (str_add S [o8 op]) .plain <| kas rfl <| RunK.nil <| LWP.seq <| LWP.region (by kernel_rfl) <| kfa rfl rfl ?_; refine kl1 rfl rfl rfl <| RunK.nil <| LWP.block <| LWP.seq <| LWP.region (by kernel_rfl) <| keq rfl rfl (r := true) (beq_iff_eq.2 hc) <| kas rfl <| RunK.nil <| LWP.condT rfl ?_; refine LWP.seq <| LWP.region (by kernel_rfl) <| kas rfl <| RunK.nil <| LWP.seq <| LWP.seq <| LWP.region (by kernel_rfl) <| kfa rfl rfl ?_; refine kfa rfl rfl ?_; refine kl1 rfl rfl rfl <| RunK.nil <| LWP.condT rfl ?_; refine LWP.region (by kernel_rfl) <| kas rfl <| RunK.nil <| LWP.draws mixed (by kernel_rfl) <| kmv rfl <| kmv rfl <| K.buildSlc (zs := [.int .u8 0]) (sz := 1) (e := 5) (cs' := [sgB true].map bc) (by kernel_rfl) rfl rfl rfl rfl rfl rfl .plain <| K.convStr (l := [sgB true]) rfl rfl (by kernel_rfl) StrT.u (Nat.le_refl _) rfl .plain <| K.strAdd rfl rfl (szle (S ++ [o8 op]) [sgB true] (by simp only [List.length_append, List.length_singleton]; omega)) (str_add (S ++ [o8 op]) [sgB true]) .plain <| kfa rfl rfl ?_; refine kfa rfl rfl ?_; refine kl1 rfl rfl rfl <| kca rfl rfl hW1 <| K.strAdd rfl rfl (szle ((S ++ [o8 op]) ++ [sgB true]) B1 (by simp only [List.length_append, List.length_singleton]; omega)) (str_add ((S ++ [o8 op]) ++ [sgB true]) B1) .plain <| kfa rfl rfl ?_); (refine kfa rfl rfl ?_; refine kl1 rfl rfl rfl <| kca rfl rfl hW2 <| K.strAdd rfl rfl (szle (((S ++ [o8 op]) ++ [sgB true]) ++ B1) B2 (by simp only [List.length_append, List.length_singleton]; omega)) hcat .plain <| kas rfl <| RunK.nil <| And.intro (by kernel_rfl) ?_; refine LWP.region (by kernel_rfl) <| kmv rfl <| kad rfl rfl hadd <| kas rfl <| RunK.nil ?_))
      exact ⟨_, ⟨[(0, Lx (some ⟨blk, off, none⟩) l.length cap), (5, Ls S'), (6, Ln .i64 (i + 1 : Nat))], [], X⟩, by omega, Le.of (by exact ⟨rfl, rfl, rfl, trivial⟩) (by exact trivial) (by exact rfl) (by exact rfl) (by exact rfl), i + 1, by omega, rfl, hpn, by rw [hS']⟩
  by_cases hc2 : op = 2
  case pos =>
    have hc := hc2
    have hno1 : op ≠ 1 := by omega
    have heo2 : op = 2 := hc
    have hno3 : op ≠ 3 := by omega
    by_cases cK : ((kb, kN) : Nm) = (false, 0)
    case neg =>
      have hp : plainI ⟨op, a, b, (kb, kN)⟩ = false := by
        unfold plainI
        simp only
        rw [decide_eq_false (show ¬ op = 1 by omega), decide_eq_false cK]; rfl
      obtain ⟨e1, e2⟩ := hbad hp
      rw [e1, e2]
      rw [decide_eq_false cK] at q
      (refine LWP.seq <| LWP.seq <| LWP.region (by kernel_rfl) <| kmv rfl <| kmv rfl <| K.lenX rfl SliceT.h rfl .plain ?_; refine klt rfl rfl (decide_eq_true (by omega)) <| RunK.nil <| LWP.condT rfl ?_; refine LWP.skip ?_; refine LWP.seq <| LWP.block <| LWP.seq <| LWP.region (by kernel_rfl) <| kmv rfl <| kmv rfl <| K.indexX rfl rfl SliceT.h (by omega) hio .plain <| K.loadXagg rfl hX (by kernel_rfl) hsz hcs .plain <| K.alloc rfl .plain ?_; refine K.storeAll rfl rfl rfl rfl rfl rfl .plain ?_; refine RunK.nil <| LWP.seq <| LWP.seq <| LWP.region (by kernel_rfl) <| kfa rfl rfl ?_; refine kl1 rfl rfl rfl <| kne rfl rfl (bne_iff_ne.2 hno1) <| kmv rfl <| K.fieldAddr rfl rfl (.taken rfl rfl) ?_; refine K.loadPart rfl rfl rfl (by exact nl3 rfl rfl rfl rfl) (.taken rfl rfl) ?_; refine K.build rfl rfl (by exact rfl) (by exact nl3 rfl rfl rfl rfl) (.taken rfl rfl) ?_; refine K.aggEq (c := true) rfl rfl rfl rfl (by kernel_rfl) q (.inr ⟨rfl, rfl⟩) (.taken rfl rfl) ?_; refine kpt rfl rfl <| kmv rfl <| RunK.passed rfl rfl rfl <| RunK.passed rfl rfl rfl <| RunK.passed rfl rfl rfl <| RunK.passed rfl rfl rfl <| RunK.passedU rfl rfl <| RunK.passedU rfl rfl <| RunK.passedU rfl rfl <| RunK.passed rfl rfl rfl <| kpt rfl rfl <| kmv rfl <| RunK.passed rfl rfl rfl <| RunK.passed rfl rfl rfl ?_; refine RunK.passed rfl rfl rfl <| RunK.passed rfl rfl rfl <| RunK.passedU rfl rfl <| RunK.passedU rfl rfl <| RunK.passedU rfl rfl <| RunK.passed rfl rfl rfl <| RunK.passed rfl rfl rfl <| RunK.passedU rfl rfl <| RunK.passedU rfl rfl <| RunK.passedU rfl rfl <| RunK.passed rfl rfl rfl <| kpt rfl rfl <| RunK.nil <| LWP.condT rfl ?_; refine LWP.seq <| LWP.region (by kernel_rfl) <| kas rfl <| kas rfl <| RunK.nil <| LWP.ret ?_)
      exact ⟨[_, _], ⟨rfl, rfl, trivial⟩, rfl⟩
    rw [decide_eq_true cK] at q
    have hpn := hgood (by
      unfold plainI
      simp only
      rw [Bool.and_eq_true, Bool.and_eq_true, Bool.or_eq_true, Bool.or_eq_true, Bool.or_eq_true, Bool.or_eq_true]
      simp only [decide_eq_true_eq]
      exact ⟨.inr cK, .inl hc, .inl hc⟩)
    have he : encI ⟨op, a, b, (kb, kN)⟩ = o8 op :: [o8 a, o8 b] := by unfold encI; simp only; rw [if_neg (show ¬ op = 1 by omega), if_pos hc]
    rw [he] at hnext
    have hcat : (⟨(S ++ [o8 op]).toArray⟩ : ByteArray) ++ ⟨([o8 a, o8 b] : List UInt8).toArray⟩ = ⟨S'.toArray⟩ := by rw [str_add, hnext]; simp only [List.append_assoc, List.cons_append, List.nil_append]
    ((refine LWP.seq <| LWP.seq <| LWP.region (by kernel_rfl) <| kmv rfl <| kmv rfl <| K.lenX rfl SliceT.h rfl .plain ?_; refine klt rfl rfl (decide_eq_true (by omega)) <| RunK.nil <| LWP.condT rfl ?_; refine LWP.skip ?_; refine LWP.seq <| LWP.block <| LWP.seq <| LWP.region (by kernel_rfl) <| kmv rfl <| kmv rfl <| K.indexX rfl rfl SliceT.h (by omega) hio .plain <| K.loadXagg rfl hX (by kernel_rfl) hsz hcs .plain <| K.alloc rfl .plain ?_; refine K.storeAll rfl rfl rfl rfl rfl rfl .plain ?_; refine RunK.nil <| LWP.seq <| LWP.seq <| LWP.region (by kernel_rfl) <| kfa rfl rfl ?_; refine kl1 rfl rfl rfl <| kne rfl rfl (bne_iff_ne.2 hno1) <| kmv rfl <| K.fieldAddr rfl rfl (.taken rfl rfl) ?_; refine K.loadPart rfl rfl rfl (by exact nl3 rfl rfl rfl rfl) (.taken rfl rfl) ?_; refine K.build rfl rfl (by exact rfl) (by exact nl3 rfl rfl rfl rfl) (.taken rfl rfl) ?_; refine K.aggEq (c := false) rfl rfl rfl rfl (by kernel_rfl) q (.inr ⟨rfl, rfl⟩) (.taken rfl rfl) ?_; refine kpt rfl rfl <| kmv rfl <| K.fieldAddr rfl rfl (.taken rfl rfl) ?_; refine K.loadOne rfl rfl rfl (.taken rfl rfl) ?_); (refine K.neq rfl rfl (bne_eq_false_iff_eq.2 heo2) (.taken rfl rfl) ?_; refine gmv rfl rfl rfl <| RunK.passed rfl rfl rfl <| RunK.passed rfl rfl rfl <| RunK.passed rfl rfl rfl <| K.pickF rfl rfl (.taken rfl rfl) ?_; refine kpf rfl rfl <| kmv rfl <| K.fieldAddr rfl rfl (.taken rfl rfl) ?_; refine K.loadOne rfl rfl rfl (.taken rfl rfl) ?_; refine K.neq rfl rfl (bne_eq_false_iff_eq.2 heo2) (.taken rfl rfl) ?_; refine gmv rfl rfl rfl <| RunK.passed rfl rfl rfl <| RunK.passed rfl rfl rfl <| RunK.passed rfl rfl rfl <| K.pickF rfl rfl (.taken rfl rfl) ?_; refine gmv rfl rfl rfl <| RunK.passed rfl rfl rfl <| RunK.passed rfl rfl rfl <| RunK.passed rfl rfl rfl <| K.pickF rfl rfl (.taken rfl rfl) ?_; refine kpf rfl rfl <| RunK.nil <| LWP.condF rfl ?_; refine LWP.skip ?_; refine LWP.seq <| LWP.region (by kernel_rfl) <| kmv rfl <| kfa rfl rfl ?_; refine kl1 rfl rfl rfl <| kcv rfl w0 ?_; refine K.buildSlc (zs := [.int .u8 0]) (sz := 1) (e := 5) (cs' := [o8 op].map bc) (by kernel_rfl) rfl rfl rfl rfl rfl rfl .plain <| K.convStr (l := [o8 op]) rfl rfl (by kernel_rfl) StrT.u (Nat.le_refl _) rfl .plain <| K.strAdd rfl rfl (szle S [o8 op] (by simp only [List.length_singleton]; omega)) (str_add S [o8 op]) .plain <| kas rfl <| RunK.nil <| LWP.seq <| LWP.region (by kernel_rfl) <| kfa rfl rfl ?_); (refine kl1 rfl rfl rfl <| RunK.nil <| LWP.block <| LWP.seq <| LWP.region (by kernel_rfl) <| keq rfl rfl (r := false) (beq_eq_false_iff_ne.2 (by omega)) <| kas rfl <| RunK.nil <| LWP.condF rfl ?_; refine LWP.seq <| LWP.region (by kernel_rfl) <| keq rfl rfl (r := true) (beq_iff_eq.2 hc) <| kas rfl <| RunK.nil <| LWP.condT rfl ?_; refine LWP.region (by kernel_rfl) <| kmv rfl <| kfa rfl rfl ?_; refine kl1 rfl rfl rfl <| kcv rfl wa ?_; refine kfa rfl rfl ?_; refine kl1 rfl rfl rfl <| kcv rfl wb ?_; refine K.buildSlc (zs := [.int .u8 0, .int .u8 0]) (sz := 1) (e := 5) (cs' := [o8 a, o8 b].map bc) (by kernel_rfl) rfl rfl rfl rfl rfl rfl .plain <| K.convStr (l := [o8 a, o8 b]) rfl rfl (by kernel_rfl) StrT.u (Nat.le_refl _) rfl .plain <| K.strAdd rfl rfl (szle (S ++ [o8 op]) [o8 a, o8 b] (by simp only [List.length_append, List.length_singleton, List.length_cons, List.length_nil]; omega)) hcat .plain <| kas rfl <| RunK.nil <| LWP.region (by kernel_rfl) <| kmv rfl <| kad rfl rfl hadd <| kas rfl <| RunK.nil ?_))
    exact ⟨_, ⟨[(0, Lx (some ⟨blk, off, none⟩) l.length cap), (5, Ls S'), (6, Ln .i64 (i + 1 : Nat))], [], X⟩, by omega, Le.of (by exact ⟨rfl, rfl, rfl, trivial⟩) (by exact trivial) (by exact rfl) (by exact rfl) (by exact rfl), i + 1, by omega, rfl, hpn, by rw [hS']⟩
  by_cases hc3 : op = 3
  case pos =>
    have hc := hc3
    have hno1 : op ≠ 1 := by omega
    have hno2 : op ≠ 2 := by omega
    have heo3 : op = 3 := hc
    by_cases cK : ((kb, kN) : Nm) = (false, 0)
    case neg =>
      have hp : plainI ⟨op, a, b, (kb, kN)⟩ = false := by
        unfold plainI
        simp only
        rw [decide_eq_false (show ¬ op = 1 by omega), decide_eq_false cK]; rfl
      obtain ⟨e1, e2⟩ := hbad hp
      rw [e1, e2]
      rw [decide_eq_false cK] at q
      (refine LWP.seq <| LWP.seq <| LWP.region (by kernel_rfl) <| kmv rfl <| kmv rfl <| K.lenX rfl SliceT.h rfl .plain ?_; refine klt rfl rfl (decide_eq_true (by omega)) <| RunK.nil <| LWP.condT rfl ?_; refine LWP.skip ?_; refine LWP.seq <| LWP.block <| LWP.seq <| LWP.region (by kernel_rfl) <| kmv rfl <| kmv rfl <| K.indexX rfl rfl SliceT.h (by omega) hio .plain <| K.loadXagg rfl hX (by kernel_rfl) hsz hcs .plain <| K.alloc rfl .plain ?_; refine K.storeAll rfl rfl rfl rfl rfl rfl .plain ?_; refine RunK.nil <| LWP.seq <| LWP.seq <| LWP.region (by kernel_rfl) <| kfa rfl rfl ?_; refine kl1 rfl rfl rfl <| kne rfl rfl (bne_iff_ne.2 hno1) <| kmv rfl <| K.fieldAddr rfl rfl (.taken rfl rfl) ?_; refine K.loadPart rfl rfl rfl (by exact nl3 rfl rfl rfl rfl) (.taken rfl rfl) ?_; refine K.build rfl rfl (by exact rfl) (by exact nl3 rfl rfl rfl rfl) (.taken rfl rfl) ?_; refine K.aggEq (c := true) rfl rfl rfl rfl (by kernel_rfl) q (.inr ⟨rfl, rfl⟩) (.taken rfl rfl) ?_; refine kpt rfl rfl <| kmv rfl <| RunK.passed rfl rfl rfl <| RunK.passed rfl rfl rfl <| RunK.passed rfl rfl rfl <| RunK.passed rfl rfl rfl <| RunK.passedU rfl rfl <| RunK.passedU rfl rfl <| RunK.passedU rfl rfl <| RunK.passed rfl rfl rfl <| kpt rfl rfl <| kmv rfl <| RunK.passed rfl rfl rfl <| RunK.passed rfl rfl rfl ?_; refine RunK.passed rfl rfl rfl <| RunK.passed rfl rfl rfl <| RunK.passedU rfl rfl <| RunK.passedU rfl rfl <| RunK.passedU rfl rfl <| RunK.passed rfl rfl rfl <| RunK.passed rfl rfl rfl <| RunK.passedU rfl rfl <| RunK.passedU rfl rfl <| RunK.passedU rfl rfl <| RunK.passed rfl rfl rfl <| kpt rfl rfl <| RunK.nil <| LWP.condT rfl ?_; refine LWP.seq <| LWP.region (by kernel_rfl) <| kas rfl <| kas rfl <| RunK.nil <| LWP.ret ?_)
      exact ⟨[_, _], ⟨rfl, rfl, trivial⟩, rfl⟩
    rw [decide_eq_true cK] at q
    by_cases cB : b = 0
    case neg =>
      have hp : plainI ⟨op, a, b, (kb, kN)⟩ = false := by
        unfold plainI
        simp only
        rw [decide_eq_false (show ¬ op = 2 by omega), decide_eq_false cB]; simp
      obtain ⟨e1, e2⟩ := hbad hp
      rw [e1, e2]
      (refine LWP.seq <| LWP.seq <| LWP.region (by kernel_rfl) <| kmv rfl <| kmv rfl <| K.lenX rfl SliceT.h rfl .plain ?_; refine klt rfl rfl (decide_eq_true (by omega)) <| RunK.nil <| LWP.condT rfl ?_; refine LWP.skip ?_; refine LWP.seq <| LWP.block <| LWP.seq <| LWP.region (by kernel_rfl) <| kmv rfl <| kmv rfl <| K.indexX rfl rfl SliceT.h (by omega) hio .plain <| K.loadXagg rfl hX (by kernel_rfl) hsz hcs .plain <| K.alloc rfl .plain ?_; refine K.storeAll rfl rfl rfl rfl rfl rfl .plain ?_; refine RunK.nil <| LWP.seq <| LWP.seq <| LWP.region (by kernel_rfl) <| kfa rfl rfl ?_; refine kl1 rfl rfl rfl <| kne rfl rfl (bne_iff_ne.2 hno1) <| kmv rfl <| K.fieldAddr rfl rfl (.taken rfl rfl) ?_; refine K.loadPart rfl rfl rfl (by exact nl3 rfl rfl rfl rfl) (.taken rfl rfl) ?_; refine K.build rfl rfl (by exact rfl) (by exact nl3 rfl rfl rfl rfl) (.taken rfl rfl) ?_; refine K.aggEq (c := false) rfl rfl rfl rfl (by kernel_rfl) q (.inr ⟨rfl, rfl⟩) (.taken rfl rfl) ?_; refine kpt rfl rfl <| kmv rfl <| K.fieldAddr rfl rfl (.taken rfl rfl) ?_; refine K.loadOne rfl rfl rfl (.taken rfl rfl) ?_; refine K.neq rfl rfl (bne_iff_ne.2 hno2) (.taken rfl rfl) ?_; refine gmv rfl rfl rfl <| K.fieldAddr rfl rfl (.taken rfl rfl) ?_; refine K.loadOne rfl rfl rfl (.taken rfl rfl) ?_; refine K.neq rfl rfl (bne_iff_ne.2 cB) (.taken rfl rfl) ?_; refine K.pickT rfl rfl (.taken rfl rfl) ?_; refine kpf rfl rfl <| kmv rfl <| RunK.passed rfl rfl rfl <| RunK.passed rfl rfl rfl <| RunK.passed rfl rfl rfl <| RunK.passed rfl rfl rfl <| RunK.passedU rfl rfl <| RunK.passedU rfl rfl <| RunK.passedU rfl rfl <| RunK.passed rfl rfl rfl <| RunK.passed rfl rfl rfl <| RunK.passedU rfl rfl <| RunK.passedU rfl rfl <| RunK.passedU rfl rfl ?_; refine RunK.passed rfl rfl rfl <| kpt rfl rfl <| RunK.nil <| LWP.condT rfl ?_; refine LWP.seq <| LWP.region (by kernel_rfl) <| kas rfl <| kas rfl <| RunK.nil <| LWP.ret ?_)
      exact ⟨[_, _], ⟨rfl, rfl, trivial⟩, rfl⟩
    have hpn := hgood (by
      unfold plainI
      simp only
      rw [Bool.and_eq_true, Bool.and_eq_true, Bool.or_eq_true, Bool.or_eq_true, Bool.or_eq_true, Bool.or_eq_true]
      simp only [decide_eq_true_eq]
      exact ⟨.inr cK, .inr cB, .inr (.inl hc)⟩)
    have he : encI ⟨op, a, b, (kb, kN)⟩ = o8 op :: [o8 a] := by unfold encI; simp only; rw [if_neg (show ¬ op = 1 by omega), if_neg (show ¬ op = 2 by omega), if_pos hc]
    rw [he] at hnext
    have hcat : (⟨(S ++ [o8 op]).toArray⟩ : ByteArray) ++ ⟨([o8 a] : List UInt8).toArray⟩ = ⟨S'.toArray⟩ := by rw [str_add, hnext]; simp only [List.append_assoc, List.cons_append, List.nil_append]
    ((refine LWP.seq <| LWP.seq <| LWP.region (by kernel_rfl) <| kmv rfl <| kmv rfl <| K.lenX rfl SliceT.h rfl .plain ?_; refine klt rfl rfl (decide_eq_true (by omega)) <| RunK.nil <| LWP.condT rfl ?_; refine LWP.skip ?_; refine LWP.seq <| LWP.block <| LWP.seq <| LWP.region (by kernel_rfl) <| kmv rfl <| kmv rfl <| K.indexX rfl rfl SliceT.h (by omega) hio .plain <| K.loadXagg rfl hX (by kernel_rfl) hsz hcs .plain <| K.alloc rfl .plain ?_; refine K.storeAll rfl rfl rfl rfl rfl rfl .plain ?_; refine RunK.nil <| LWP.seq <| LWP.seq <| LWP.region (by kernel_rfl) <| kfa rfl rfl ?_; refine kl1 rfl rfl rfl <| kne rfl rfl (bne_iff_ne.2 hno1) <| kmv rfl <| K.fieldAddr rfl rfl (.taken rfl rfl) ?_; refine K.loadPart rfl rfl rfl (by exact nl3 rfl rfl rfl rfl) (.taken rfl rfl) ?_; refine K.build rfl rfl (by exact rfl) (by exact nl3 rfl rfl rfl rfl) (.taken rfl rfl) ?_; refine K.aggEq (c := false) rfl rfl rfl rfl (by kernel_rfl) q (.inr ⟨rfl, rfl⟩) (.taken rfl rfl) ?_; refine kpt rfl rfl <| kmv rfl <| K.fieldAddr rfl rfl (.taken rfl rfl) ?_; refine K.loadOne rfl rfl rfl (.taken rfl rfl) ?_); (refine K.neq rfl rfl (bne_iff_ne.2 hno2) (.taken rfl rfl) ?_; refine gmv rfl rfl rfl <| K.fieldAddr rfl rfl (.taken rfl rfl) ?_; refine K.loadOne rfl rfl rfl (.taken rfl rfl) ?_; refine K.neq rfl rfl (bne_eq_false_iff_eq.2 cB) (.taken rfl rfl) ?_; refine K.pickT rfl rfl (.taken rfl rfl) ?_; refine kpf rfl rfl <| kmv rfl <| K.fieldAddr rfl rfl (.taken rfl rfl) ?_; refine K.loadOne rfl rfl rfl (.taken rfl rfl) ?_; refine K.neq rfl rfl (bne_iff_ne.2 hno2) (.taken rfl rfl) ?_; refine gmv rfl rfl rfl <| K.fieldAddr rfl rfl (.taken rfl rfl) ?_; refine K.loadOne rfl rfl rfl (.taken rfl rfl) ?_; refine K.neq rfl rfl (bne_eq_false_iff_eq.2 heo3) (.taken rfl rfl) ?_; refine K.pickT rfl rfl (.taken rfl rfl) ?_); (refine gmv rfl rfl rfl <| RunK.passed rfl rfl rfl <| RunK.passed rfl rfl rfl <| RunK.passed rfl rfl rfl <| K.pickF rfl rfl (.taken rfl rfl) ?_; refine kpf rfl rfl <| RunK.nil <| LWP.condF rfl ?_; refine LWP.skip ?_; refine LWP.seq <| LWP.region (by kernel_rfl) <| kmv rfl <| kfa rfl rfl ?_; refine kl1 rfl rfl rfl <| kcv rfl w0 ?_; refine K.buildSlc (zs := [.int .u8 0]) (sz := 1) (e := 5) (cs' := [o8 op].map bc) (by kernel_rfl) rfl rfl rfl rfl rfl rfl .plain <| K.convStr (l := [o8 op]) rfl rfl (by kernel_rfl) StrT.u (Nat.le_refl _) rfl .plain <| K.strAdd rfl rfl (szle S [o8 op] (by simp only [List.length_singleton]; omega)) (str_add S [o8 op]) .plain <| kas rfl <| RunK.nil <| LWP.seq <| LWP.region (by kernel_rfl) <| kfa rfl rfl ?_; refine kl1 rfl rfl rfl <| RunK.nil <| LWP.block <| LWP.seq <| LWP.region (by kernel_rfl) <| keq rfl rfl (r := false) (beq_eq_false_iff_ne.2 (by omega)) <| kas rfl <| RunK.nil <| LWP.condF rfl ?_; refine LWP.seq <| LWP.region (by kernel_rfl) <| keq rfl rfl (r := false) (beq_eq_false_iff_ne.2 (by omega)) <| kas rfl <| RunK.nil <| LWP.condF rfl ?_; refine LWP.seq <| LWP.region (by kernel_rfl) <| keq rfl rfl (r := true) (beq_iff_eq.2 hc) <| kas rfl <| RunK.nil <| LWP.condT rfl ?_; refine LWP.region (by kernel_rfl) <| kmv rfl <| kfa rfl rfl ?_; refine kl1 rfl rfl rfl <| kcv rfl wa ?_; refine K.buildSlc (zs := [.int .u8 0]) (sz := 1) (e := 5) (cs' := [o8 a].map bc) (by kernel_rfl) rfl rfl rfl rfl rfl rfl .plain <| K.convStr (l := [o8 a]) rfl rfl (by kernel_rfl) StrT.u (Nat.le_refl _) rfl .plain <| K.strAdd rfl rfl (szle (S ++ [o8 op]) [o8 a] (by simp only [List.length_append, List.length_singleton, List.length_cons, List.length_nil]; omega)) hcat .plain <| kas rfl <| RunK.nil <| LWP.region (by kernel_rfl) <| kmv rfl <| kad rfl rfl hadd <| kas rfl <| RunK.nil ?_))
    exact ⟨_, ⟨[(0, Lx (some ⟨blk, off, none⟩) l.length cap), (5, Ls S'), (6, Ln .i64 (i + 1 : Nat))], [], X⟩, by omega, Le.of (by exact ⟨rfl, rfl, rfl, trivial⟩) (by exact trivial) (by exact rfl) (by exact rfl) (by exact rfl), i + 1, by omega, rfl, hpn, by rw [hS']⟩
  have hno1 : op ≠ 1 := by omega
  have hno2 : op ≠ 2 := by omega
  have hno3 : op ≠ 3 := by omega
  by_cases cK : ((kb, kN) : Nm) = (false, 0)
  case neg =>
    have hp : plainI ⟨op, a, b, (kb, kN)⟩ = false := by
      unfold plainI
      simp only
      rw [decide_eq_false (show ¬ op = 1 by omega), decide_eq_false cK]; rfl
    obtain ⟨e1, e2⟩ := hbad hp
    rw [e1, e2]
    rw [decide_eq_false cK] at q
    (refine LWP.seq <| LWP.seq <| LWP.region (by kernel_rfl) <| kmv rfl <| kmv rfl <| K.lenX rfl SliceT.h rfl .plain ?_; refine klt rfl rfl (decide_eq_true (by omega)) <| RunK.nil <| LWP.condT rfl ?_; refine LWP.skip ?_; refine LWP.seq <| LWP.block <| LWP.seq <| LWP.region (by kernel_rfl) <| kmv rfl <| kmv rfl <| K.indexX rfl rfl SliceT.h (by omega) hio .plain <| K.loadXagg rfl hX (by kernel_rfl) hsz hcs .plain <| K.alloc rfl .plain ?_; refine K.storeAll rfl rfl rfl rfl rfl rfl .plain ?_; refine RunK.nil <| LWP.seq <| LWP.seq <| LWP.region (by kernel_rfl) <| kfa rfl rfl ?_; refine kl1 rfl rfl rfl <| kne rfl rfl (bne_iff_ne.2 hno1) <| kmv rfl <| K.fieldAddr rfl rfl (.taken rfl rfl) ?_; refine K.loadPart rfl rfl rfl (by exact nl3 rfl rfl rfl rfl) (.taken rfl rfl) ?_; refine K.build rfl rfl (by exact rfl) (by exact nl3 rfl rfl rfl rfl) (.taken rfl rfl) ?_; refine K.aggEq (c := true) rfl rfl rfl rfl (by kernel_rfl) q (.inr ⟨rfl, rfl⟩) (.taken rfl rfl) ?_; refine kpt rfl rfl <| kmv rfl <| RunK.passed rfl rfl rfl <| RunK.passed rfl rfl rfl <| RunK.passed rfl rfl rfl <| RunK.passed rfl rfl rfl <| RunK.passedU rfl rfl <| RunK.passedU rfl rfl <| RunK.passedU rfl rfl <| RunK.passed rfl rfl rfl <| kpt rfl rfl <| kmv rfl <| RunK.passed rfl rfl rfl <| RunK.passed rfl rfl rfl ?_; refine RunK.passed rfl rfl rfl <| RunK.passed rfl rfl rfl <| RunK.passedU rfl rfl <| RunK.passedU rfl rfl <| RunK.passedU rfl rfl <| RunK.passed rfl rfl rfl <| RunK.passed rfl rfl rfl <| RunK.passedU rfl rfl <| RunK.passedU rfl rfl <| RunK.passedU rfl rfl <| RunK.passed rfl rfl rfl <| kpt rfl rfl <| RunK.nil <| LWP.condT rfl ?_; refine LWP.seq <| LWP.region (by kernel_rfl) <| kas rfl <| kas rfl <| RunK.nil <| LWP.ret ?_)
    exact ⟨[_, _], ⟨rfl, rfl, trivial⟩, rfl⟩
  rw [decide_eq_true cK] at q
  by_cases cB : b = 0
  case neg =>
    have hp : plainI ⟨op, a, b, (kb, kN)⟩ = false := by
      unfold plainI
      simp only
      rw [decide_eq_false (show ¬ op = 2 by omega), decide_eq_false cB]; simp
    obtain ⟨e1, e2⟩ := hbad hp
    rw [e1, e2]
    (refine LWP.seq <| LWP.seq <| LWP.region (by kernel_rfl) <| kmv rfl <| kmv rfl <| K.lenX rfl SliceT.h rfl .plain ?_; refine klt rfl rfl (decide_eq_true (by omega)) <| RunK.nil <| LWP.condT rfl ?_; refine LWP.skip ?_; refine LWP.seq <| LWP.block <| LWP.seq <| LWP.region (by kernel_rfl) <| kmv rfl <| kmv rfl <| K.indexX rfl rfl SliceT.h (by omega) hio .plain <| K.loadXagg rfl hX (by kernel_rfl) hsz hcs .plain <| K.alloc rfl .plain ?_; refine K.storeAll rfl rfl rfl rfl rfl rfl .plain ?_; refine RunK.nil <| LWP.seq <| LWP.seq <| LWP.region (by kernel_rfl) <| kfa rfl rfl ?_; refine kl1 rfl rfl rfl <| kne rfl rfl (bne_iff_ne.2 hno1) <| kmv rfl <| K.fieldAddr rfl rfl (.taken rfl rfl) ?_; refine K.loadPart rfl rfl rfl (by exact nl3 rfl rfl rfl rfl) (.taken rfl rfl) ?_; refine K.build rfl rfl (by exact rfl) (by exact nl3 rfl rfl rfl rfl) (.taken rfl rfl) ?_; refine K.aggEq (c := false) rfl rfl rfl rfl (by kernel_rfl) q (.inr ⟨rfl, rfl⟩) (.taken rfl rfl) ?_; refine kpt rfl rfl <| kmv rfl <| K.fieldAddr rfl rfl (.taken rfl rfl) ?_; refine K.loadOne rfl rfl rfl (.taken rfl rfl) ?_; refine K.neq rfl rfl (bne_iff_ne.2 hno2) (.taken rfl rfl) ?_; refine gmv rfl rfl rfl <| K.fieldAddr rfl rfl (.taken rfl rfl) ?_; refine K.loadOne rfl rfl rfl (.taken rfl rfl) ?_; refine K.neq rfl rfl (bne_iff_ne.2 cB) (.taken rfl rfl) ?_; refine K.pickT rfl rfl (.taken rfl rfl) ?_; refine kpf rfl rfl <| kmv rfl <| RunK.passed rfl rfl rfl <| RunK.passed rfl rfl rfl <| RunK.passed rfl rfl rfl <| RunK.passed rfl rfl rfl <| RunK.passedU rfl rfl <| RunK.passedU rfl rfl <| RunK.passedU rfl rfl <| RunK.passed rfl rfl rfl <| RunK.passed rfl rfl rfl <| RunK.passedU rfl rfl <| RunK.passedU rfl rfl <| RunK.passedU rfl rfl ?_; refine RunK.passed rfl rfl rfl <| kpt rfl rfl <| RunK.nil <| LWP.condT rfl ?_; refine LWP.seq <| LWP.region (by kernel_rfl) <| kas rfl <| kas rfl <| RunK.nil <| LWP.ret ?_)
    exact ⟨[_, _], ⟨rfl, rfl, trivial⟩, rfl⟩
  by_cases cA : a = 0
  case neg =>
    have hp : plainI ⟨op, a, b, (kb, kN)⟩ = false := by
      unfold plainI
      simp only
      rw [decide_eq_false (show ¬ op = 2 by omega), decide_eq_false (show ¬ op = 3 by omega), decide_eq_false cA]; simp
    obtain ⟨e1, e2⟩ := hbad hp
    rw [e1, e2]
    ((refine LWP.seq <| LWP.seq <| LWP.region (by kernel_rfl) <| kmv rfl <| kmv rfl <| K.lenX rfl SliceT.h rfl .plain ?_; refine klt rfl rfl (decide_eq_true (by omega)) <| RunK.nil <| LWP.condT rfl ?_; refine LWP.skip ?_; refine LWP.seq <| LWP.block <| LWP.seq <| LWP.region (by kernel_rfl) <| kmv rfl <| kmv rfl <| K.indexX rfl rfl SliceT.h (by omega) hio .plain <| K.loadXagg rfl hX (by kernel_rfl) hsz hcs .plain <| K.alloc rfl .plain ?_; refine K.storeAll rfl rfl rfl rfl rfl rfl .plain ?_; refine RunK.nil <| LWP.seq <| LWP.seq <| LWP.region (by kernel_rfl) <| kfa rfl rfl ?_; refine kl1 rfl rfl rfl <| kne rfl rfl (bne_iff_ne.2 hno1) <| kmv rfl <| K.fieldAddr rfl rfl (.taken rfl rfl) ?_; refine K.loadPart rfl rfl rfl (by exact nl3 rfl rfl rfl rfl) (.taken rfl rfl) ?_; refine K.build rfl rfl (by exact rfl) (by exact nl3 rfl rfl rfl rfl) (.taken rfl rfl) ?_; refine K.aggEq (c := false) rfl rfl rfl rfl (by kernel_rfl) q (.inr ⟨rfl, rfl⟩) (.taken rfl rfl) ?_; refine kpt rfl rfl <| kmv rfl <| K.fieldAddr rfl rfl (.taken rfl rfl) ?_; refine K.loadOne rfl rfl rfl (.taken rfl rfl) ?_); (refine K.neq rfl rfl (bne_iff_ne.2 hno2) (.taken rfl rfl) ?_; refine gmv rfl rfl rfl <| K.fieldAddr rfl rfl (.taken rfl rfl) ?_; refine K.loadOne rfl rfl rfl (.taken rfl rfl) ?_; refine K.neq rfl rfl (bne_eq_false_iff_eq.2 cB) (.taken rfl rfl) ?_; refine K.pickT rfl rfl (.taken rfl rfl) ?_; refine kpf rfl rfl <| kmv rfl <| K.fieldAddr rfl rfl (.taken rfl rfl) ?_; refine K.loadOne rfl rfl rfl (.taken rfl rfl) ?_; refine K.neq rfl rfl (bne_iff_ne.2 hno2) (.taken rfl rfl) ?_; refine gmv rfl rfl rfl <| K.fieldAddr rfl rfl (.taken rfl rfl) ?_; refine K.loadOne rfl rfl rfl (.taken rfl rfl) ?_; refine K.neq rfl rfl (bne_iff_ne.2 hno3) (.taken rfl rfl) ?_; refine K.pickT rfl rfl (.taken rfl rfl) ?_); (refine gmv rfl rfl rfl <| K.fieldAddr rfl rfl (.taken rfl rfl) ?_; refine K.loadOne rfl rfl rfl (.taken rfl rfl) ?_; refine K.neq rfl rfl (bne_iff_ne.2 cA) (.taken rfl rfl) ?_; refine K.pickT rfl rfl (.taken rfl rfl) ?_; refine kpf rfl rfl <| RunK.nil <| LWP.condT rfl ?_; refine LWP.seq <| LWP.region (by kernel_rfl) <| kas rfl <| kas rfl <| RunK.nil <| LWP.ret ?_))
    exact ⟨[_, _], ⟨rfl, rfl, trivial⟩, rfl⟩
  have hpn := hgood (by
    unfold plainI
    simp only
    rw [Bool.and_eq_true, Bool.and_eq_true, Bool.or_eq_true, Bool.or_eq_true, Bool.or_eq_true, Bool.or_eq_true]
    simp only [decide_eq_true_eq]
    exact ⟨.inr cK, .inr cB, .inr (.inr cA)⟩)
  have he : encI ⟨op, a, b, (kb, kN)⟩ = o8 op :: [] := by unfold encI; simp only; rw [if_neg (show ¬ op = 1 by omega), if_neg (show ¬ op = 2 by omega), if_neg (show ¬ op = 3 by omega)]
  rw [he] at hnext
  ((refine LWP.seq <| LWP.seq <| LWP.region (by kernel_rfl) <| kmv rfl <| kmv rfl <| K.lenX rfl SliceT.h rfl .plain ?_; refine klt rfl rfl (decide_eq_true (by omega)) <| RunK.nil <| LWP.condT rfl ?_; refine LWP.skip ?_; refine LWP.seq <| LWP.block <| LWP.seq <| LWP.region (by kernel_rfl) <| kmv rfl <| kmv rfl <| K.indexX rfl rfl SliceT.h (by omega) hio .plain <| K.loadXagg rfl hX (by kernel_rfl) hsz hcs .plain <| K.alloc rfl .plain ?_; refine K.storeAll rfl rfl rfl rfl rfl rfl .plain ?_; refine RunK.nil <| LWP.seq <| LWP.seq <| LWP.region (by kernel_rfl) <| kfa rfl rfl ?_; refine kl1 rfl rfl rfl <| kne rfl rfl (bne_iff_ne.2 hno1) <| kmv rfl <| K.fieldAddr rfl rfl (.taken rfl rfl) ?_; refine K.loadPart rfl rfl rfl (by exact nl3 rfl rfl rfl rfl) (.taken rfl rfl) ?_; refine K.build rfl rfl (by exact rfl) (by exact nl3 rfl rfl rfl rfl) (.taken rfl rfl) ?_; refine K.aggEq (c := false) rfl rfl rfl rfl (by kernel_rfl) q (.inr ⟨rfl, rfl⟩) (.taken rfl rfl) ?_; refine kpt rfl rfl <| kmv rfl <| K.fieldAddr rfl rfl (.taken rfl rfl) ?_; refine K.loadOne rfl rfl rfl (.taken rfl rfl) ?_); (refine K.neq rfl rfl (bne_iff_ne.2 hno2) (.taken rfl rfl) ?_; refine gmv rfl rfl rfl <| K.fieldAddr rfl rfl (.taken rfl rfl) ?_; refine K.loadOne rfl rfl rfl (.taken rfl rfl) ?_; refine K.neq rfl rfl (bne_eq_false_iff_eq.2 cB) (.taken rfl rfl) ?_; refine K.pickT rfl rfl (.taken rfl rfl) ?_; refine kpf rfl rfl <| kmv rfl <| K.fieldAddr rfl rfl (.taken rfl rfl) ?_; refine K.loadOne rfl rfl rfl (.taken rfl rfl) ?_; refine K.neq rfl rfl (bne_iff_ne.2 hno2) (.taken rfl rfl) ?_; refine gmv rfl rfl rfl <| K.fieldAddr rfl rfl (.taken rfl rfl) ?_; refine K.loadOne rfl rfl rfl (.taken rfl rfl) ?_; refine K.neq rfl rfl (bne_iff_ne.2 hno3) (.taken rfl rfl) ?_; refine K.pickT rfl rfl (.taken rfl rfl) ?_); (refine gmv rfl rfl rfl <| K.fieldAddr rfl rfl (.taken rfl rfl) ?_; refine K.loadOne rfl rfl rfl (.taken rfl rfl) ?_; refine K.neq rfl rfl (bne_eq_false_iff_eq.2 cA) (.taken rfl rfl) ?_; refine K.pickT rfl rfl (.taken rfl rfl) ?_; refine kpf rfl rfl <| RunK.nil <| LWP.condF rfl ?_; refine LWP.skip ?_; refine LWP.seq <| LWP.region (by kernel_rfl) <| kmv rfl <| kfa rfl rfl ?_; refine kl1 rfl rfl rfl <| kcv rfl w0 ?_; refine K.buildSlc (zs := [.int .u8 0]) (sz := 1) (e := 5) (cs' := [o8 op].map bc) (by kernel_rfl) rfl rfl rfl rfl rfl rfl .plain <| K.convStr (l := [o8 op]) rfl rfl (by kernel_rfl) StrT.u (Nat.le_refl _) rfl .plain <| K.strAdd rfl rfl (szle S [o8 op] (by simp only [List.length_singleton]; omega)) (str_add S [o8 op]) .plain <| kas rfl <| RunK.nil <| LWP.seq <| LWP.region (by kernel_rfl) <| kfa rfl rfl ?_; refine kl1 rfl rfl rfl <| RunK.nil <| LWP.block <| LWP.seq <| LWP.region (by kernel_rfl) <| keq rfl rfl (r := false) (beq_eq_false_iff_ne.2 (by omega)) <| kas rfl <| RunK.nil <| LWP.condF rfl ?_; refine LWP.seq <| LWP.region (by kernel_rfl) <| keq rfl rfl (r := false) (beq_eq_false_iff_ne.2 (by omega)) <| kas rfl <| RunK.nil <| LWP.condF rfl ?_; refine LWP.seq <| LWP.region (by kernel_rfl) <| keq rfl rfl (r := false) (beq_eq_false_iff_ne.2 (by omega)) <| kas rfl <| RunK.nil <| LWP.condF rfl ?_); (refine LWP.skip ?_; refine LWP.region (by kernel_rfl) <| kmv rfl <| kad rfl rfl hadd <| kas rfl <| RunK.nil ?_))
  exact ⟨_, ⟨[(0, Lx (some ⟨blk, off, none⟩) l.length cap), (5, Ls (S ++ [o8 op])), (6, Ln .i64 (i + 1 : Nat))], [], X⟩, by omega, Le.of (by exact ⟨rfl, rfl, rfl, trivial⟩) (by exact trivial) (by exact rfl) (by exact rfl) (by exact rfl), i + 1, by omega, rfl, hpn, by rw [hS', hnext]⟩
end Go.Proofs.YtimpjdbhalnofaaGreatDoor
end
section
namespace Go.Proofs.YtimpjdbhalnofaaGreatDoor
open Go Go.Lg Go.Lg.Fml Go.Lg.Fld Go.Lg.Arith
set_option maxRecDepth 100000
variable (X : Nat → Option Obj)
theorem getIs_snoc : ∀ {i : Nat} {b r : List UInt8} {l : List Ins}, getIs i b = some (l, r) → getIs (i + 1) b = match getI r with | some (x, r') => some (l ++ [x], r') | none => none
  | 0, b, r, l, h => by
    simp only [getIs, Option.some.injEq, Prod.mk.injEq] at h
    obtain ⟨rfl, rfl⟩ := h
    simp only [getIs]
    cases getI b with
    | none => rfl
    | some p => rfl
  | i + 1, b, r, l, h => by
    rw [getIs] at h ⊢
    cases hg : getI b with
    | none => rw [hg] at h; cases h
    | some p =>
      rw [hg] at h
      simp only at h ⊢
      cases hs : getIs i p.2 with
      | none => rw [hs] at h; cases h
      | some q =>
        rw [hs] at h
        simp only [Option.some.injEq, Prod.mk.injEq] at h
        obtain ⟨rfl, rfl⟩ := h
        rw [getIs_snoc hs]
        cases getI q.2 with
        | none => rfl
        | some u => rfl
theorem getIs_none : ∀ {i k : Nat} {b : List UInt8}, getIs i b = none → getIs (i + k) b = none
  | 0, k, b, h => by cases h
  | i + 1, k, b, h => by
    rw [Nat.add_right_comm, getIs] at *
    cases hg : getI b with
    | none => rfl
    | some p =>
      rw [hg] at h
      simp only at h ⊢
      cases hs : getIs i p.2 with
      | none => rw [getIs_none (k := k) hs]
      | some q => rw [hs] at h; cases h
theorem dec_fail {n : UInt8} {s r : List UInt8} {l : List Ins} {i : Nat} (h : getIs i s = some (l, r)) (hi : i < n.toNat) (hf : getI r = none) : decX (n :: s) = none := by
  have h1 := getIs_snoc h
  rw [hf] at h1
  have h2 := getIs_none (k := n.toNat - (i + 1)) h1
  rw [show i + 1 + (n.toNat - (i + 1)) = n.toNat by omega] at h2
  simp only [decX, h2]
theorem dec_end {n : UInt8} {s r : List UInt8} {l : List Ins} (h : getIs n.toNat s = some (l, r)) : decX (n :: s) = if r = [] ∧ chkX l = 0 then some l else none := by
  simp only [decX, h]
  cases r with
  | nil => simp
  | cons c r => simp
def decR (s : List UInt8) : LV := match decX s with | some l => .tup [.one (.slc 1000001 0 l.length 6), Sb true] | none => .tup [Vnil, Sb false]
def inssV (l : List Ins) : List Value := (l.map insV).flatten
def decBx (s : List UInt8) : List (Nat × Option Box) := match decX s with | some l => [(1000001, some ⟨54, (inssV l).map .val, true⟩)] | none => []
theorem decR_none {s : List UInt8} (h : decX s = none) : decR s = .tup [Vnil, Sb false] ∧ decBx s = [] := by unfold decR decBx; rw [h]; exact ⟨rfl, rfl⟩
theorem decR_some {s : List UInt8} {l : List Ins} (h : decX s = some l) : decR s = .tup [.one (.slc 1000001 0 l.length 6), Sb true] ∧ decBx s = [(1000001, some ⟨54, (inssV l).map .val, true⟩)] := by unfold decR decBx; rw [h]; exact ⟨rfl, rfl⟩
theorem vals_use {bx : List (Nat × Option Box)} : ∀ {l : List Value}, (l.map CV.val).all (CV.inUse bx) = true
  | [] => rfl
  | v :: l => by rw [List.map_cons, List.all_cons, vals_use (l := l)]; rfl
theorem decBx_use (s : List UInt8) : ((decBx s).all fun p => match p.2 with | some b => b.cells.all (CV.inUse (decBx s)) | none => true) = true := by
  cases h : decX s with
  | none => rw [(decR_none h).2]; rfl
  | some l => rw [(decR_some h).2]; simp only [List.all_cons, List.all_nil, vals_use, Bool.and_true]
theorem decR_use (s : List UInt8) : LV.inUse (decBx s) (decR s) = true := by
  cases h : decX s with
  | none => rw [(decR_none h).1, (decR_none h).2]; rfl
  | some l => rw [(decR_some h).1, (decR_some h).2]; rfl
theorem inssV_len (l : List Ins) : ((inssV l).map CV.val).length = l.length * 6 := by
  unfold inssV
  rw [List.length_map]
  induction l with
  | nil => rfl
  | cons x t ih => simp only [List.map_cons, List.flatten_cons, List.length_append, List.length_cons, ih, insV, List.length_nil]; omega
theorem inssV_snoc (l : List Ins) (x : Ins) {cs : List CV} (h : cs = (insV x).map CV.val) : (inssV l).map CV.val ++ cs = (inssV (l ++ [x])).map CV.val := by
  unfold inssV
  rw [h, List.map_append, List.flatten_append, List.map_append]
  simp
theorem ins_in {Y : Nat → Option Obj} {blk : Nat} {arr : Array Value} {el : TypeId} {fr : Nat × Nat} {l : List Ins} (hY : Y blk = some (.cells arr el fr)) (hi : ∀ x ∈ l, smallI x) (hsp : ∃ sp, arr.toList = inssV l ++ sp) : InsIn Y (some ⟨blk, 0, none⟩) l :=
  ⟨rows_in hY (fun r hr => by obtain ⟨x, _, rfl⟩ := List.mem_map.1 hr; rfl) hsp, hi⟩
theorem rcheck_lent {S : Nat → Option (Option Box)} {k : Nat} {l : List Ins} {el : TypeId} {row : Bool} (hl : l.length < 4611686018427387904) (hi : ∀ x ∈ l, smallI x) (hk : S k = some (some ⟨el, (inssV l).map .val, row⟩)) :
    ∀ (Y : Nat → Option Obj) (us : List Value), (∀ b o, X b = some o → Y b = some o) → Lent S Y [.sv (.one (.slc k 0 l.length 6))] us → PSpec Tryz.prog Y 14 (us.map toLV) (Ln .i64 (chkX l)) := by
  intro Y us hY hL
  obtain ⟨u2, us2, rfl, h2, rfl⟩ := hL
  obtain ⟨el', cells, row', hk', blk, cap2, arr, fr, us', sp, rfl, hYb, hc, hfit, harr, hv⟩ := h2
  rw [hk] at hk'
  simp only [Option.some.injEq, Box.mk.injEq] at hk'
  obtain ⟨rfl, rfl, rfl⟩ := hk'
  have := hv (inssV l) rfl
  subst this
  exact rCheck11 Y l (some ⟨blk, 0, none⟩) cap2 (ins_in hYb hi ⟨sp, harr⟩) hl
theorem small_got {i : Nat} {b r : List UInt8} {l : List Ins} (h : getIs i b = some (l, r)) : ∀ x ∈ l, smallI x := fun x hx => by
  obtain ⟨_, _, h3⟩ := getIs_back h
  obtain ⟨h4, h5, h6, h7, _⟩ := h3 x hx
  exact ⟨by omega, by omega, by omega, h7⟩
abbrev dcSt (s : List UInt8) (at_ i n : Nat) (bx : List (Nat × Option Box)) : St := ⟨[(0, Ls s), (4, .sv (.one (.slc 500 0 n 6))), (5, Ln .i64 (at_ : Nat)), (6, Ln .i64 (i : Nat))], bx, X⟩
theorem cells_long {l : List UInt8} {k : Nat} (h : k < l.length) : ∃ c t, l.drop k = c :: t ∧ l[k]? = some c ∧ t = l.drop (k + 1) := ⟨l[k]'h, l.drop (k + 1), by rw [List.drop_eq_getElem_cons h], List.getElem?_eq_getElem h, rfl⟩
set_option maxHeartbeats 12800000 in
theorem rDecode11 (s : List UInt8) (hb : s.length ≤ 4096) : MSpec Tryz.prog X 21 [Ls s] [] (decR s) (decBx s) := by
  refine MSpec.intro Tryz.func21 rfl (by kernel_rfl) rfl (decR_use s) (decBx_use s) rfl rfl ?_
  intro C
  refine LWP.ends ?_
  have hlen : (⟨s.toArray⟩ : ByteArray).size = s.length := rfl
  cases hl : s with
  | nil =>
    obtain ⟨q1, q2⟩ := decR_none (show decX [] = none from rfl)
    rw [q1, q2]
    (refine LWP.seq <| LWP.region (by kernel_rfl) <| kas rfl <| kas rfl <| RunK.nil <| LWP.seq <| LWP.seq <| LWP.region (by kernel_rfl) <| kmv rfl <| kln rfl <| keq rfl rfl (r := true) rfl <| RunK.nil <| LWP.condT rfl ?_; refine LWP.seq <| LWP.region (by kernel_rfl) <| kas rfl <| kas rfl <| RunK.nil <| LWP.ret ?_)
    exact Leads.done ⟨[], ⟨[_, _], ⟨rfl, rfl, trivial⟩, rfl⟩, (by repeat' (first | exact trivial | refine And.intro ⟨_, rfl, ?_⟩ ?_ | refine And.intro ⟨_, rfl⟩ ?_ | rfl | exact Box.ren_bytes _ _ _ _ | exact Box.ren_vals _ _ _ _ | exact Box.ren_mid rfl)), rfl, rfl⟩
  | cons nb s1 =>
  rw [← hl]
  have hne0 : (((⟨s.toArray⟩ : ByteArray).size : Int) == 0) = false := by rw [hlen, hl, beq_eq_false_iff_ne]; simp; omega
  have hg0 : (⟨s.toArray⟩ : ByteArray)[(0 : Int).toNat]? = some nb := str_at (by rw [hl]; rfl)
  have hd1 : s.drop 1 = s1 := by rw [hl]; rfl
  have hnb := nb.toNat_lt
  have wn : IntKind.i64.wrap ((nb.toNat : Nat) : Int) = ((nb.toNat : Nat) : Int) := wrap_i64 (by omega)
  have hll : 1 ≤ s.length := by rw [hl, List.length_cons]; omega
  (refine LWP.seq <| LWP.region (by kernel_rfl) <| kas rfl <| kas rfl <| RunK.nil <| LWP.seq <| LWP.seq <| LWP.region (by kernel_rfl) <| kmv rfl <| kln rfl <| keq rfl rfl hne0 <| RunK.nil <| LWP.condF rfl ?_; refine LWP.skip ?_; refine LWP.seq <| LWP.region (by kernel_rfl) <| K.buildSlc (zs := []) (sz := 6) (e := 54) (by kernel_rfl) rfl rfl rfl rfl rfl rfl .plain <| kas rfl <| RunK.nil <| LWP.seq <| LWP.region (by kernel_rfl) <| kas rfl <| RunK.nil <| LWP.seq <| LWP.seq <| LWP.region (by kernel_rfl) <| kas rfl <| RunK.nil ?_; refine LWP.block ?_)
  refine LWP.loopL (fun m σ => ∃ (i at_ : Nat) (ls : List Ins) (rw_ : Bool), i ≤ nb.toNat ∧ m = nb.toNat - i ∧ 1 ≤ at_ ∧ at_ ≤ s.length ∧ (ls ≠ [] → rw_ = true) ∧ getIs i s1 = some (ls, s.drop at_) ∧ σ = dcSt X s at_ i ls.length [(500, some ⟨54, (inssV ls).map .val, rw_⟩)]) nb.toNat
    (Leads.le (σ' := dcSt X s 1 0 0 [(500, some ⟨54, ([] : List Value).map .val, false⟩)]) (Le.ofR [(500, 12)] (by exact ⟨rfl, rfl, rfl, rfl, trivial⟩) (by repeat' (first | exact trivial | refine And.intro ⟨_, rfl, ?_⟩ ?_ | refine And.intro ⟨_, rfl⟩ ?_ | rfl | exact Box.ren_bytes _ _ _ _ | exact Box.ren_vals _ _ _ _ | exact Box.ren_mid rfl)) (by exact rfl) (by exact rfl) (by repeat' (first | refine all_cons_true ?_ ?_ | rfl | exact bytes_inUse | exact vals_inUse | exact mid_inUse rfl)) (by exact rfl) (by exact rfl)) (Leads.done ⟨0, 1, [], false, Nat.zero_le _, rfl, Nat.le_refl _, hll, fun h => absurd rfl h, by rw [hd1]; rfl, rfl⟩)) ?_
  rintro m σ ⟨i, at_, ls, rw_, hi, rfl, h1, hat, hrw, hgot, rfl⟩
  obtain ⟨hbk, hlsl, hok⟩ := getIs_back hgot
  have hsm := small_got hgot
  by_cases hlt : i < nb.toNat
  case neg =>
    have e : i = nb.toNat := by omega
    subst e
    have hend := dec_end hgot
    rw [← hl] at hend
    by_cases hat2 : at_ = s.length
    case neg =>
      obtain ⟨q1, q2⟩ := decR_none (hend.trans (if_neg (fun h => by have := congrArg List.length h.1; rw [List.length_drop, List.length_nil] at this; omega)))
      rw [q1, q2]
      (refine LWP.seq <| LWP.seq <| LWP.region (by kernel_rfl) <| kmv rfl <| kmv rfl <| K.indexStr rfl rfl (by decide) hg0 .plain <| kcv rfl wn ?_; refine klt rfl rfl (decide_eq_false (by omega)) <| RunK.nil <| LWP.condF rfl ?_; refine LWP.exit <| LWP.seq <| LWP.seq <| LWP.region (by kernel_rfl) <| kmv rfl <| kmv rfl <| kln rfl <| kne rfl rfl (bne_iff_ne.2 (by rw [hlen]; omega)) <| kmv rfl <| RunK.passed rfl rfl rfl <| RunK.passed rfl rfl rfl <| RunK.passed rfl rfl rfl <| kpt rfl rfl <| RunK.nil ?_; refine LWP.condT rfl ?_; refine LWP.seq <| LWP.region (by kernel_rfl) <| kas rfl <| kas rfl <| RunK.nil <| LWP.ret ?_)
      exact Leads.le (σ' := ⟨[(2, .sv Vnil), (3, Lb false)], [], X⟩) (Le.of (by exact ⟨rfl, rfl, trivial⟩) (by exact trivial) (by exact rfl) (by exact rfl) (by repeat' (first | refine all_cons_true ?_ ?_ | rfl | exact bytes_inUse | exact vals_inUse | exact mid_inUse rfl))) (Leads.done ⟨[], ⟨[_, _], ⟨rfl, rfl, trivial⟩, rfl⟩, (by repeat' (first | exact trivial | refine And.intro ⟨_, rfl, ?_⟩ ?_ | refine And.intro ⟨_, rfl⟩ ?_ | rfl | exact Box.ren_bytes _ _ _ _ | exact Box.ren_vals _ _ _ _ | exact Box.ren_mid rfl)), rfl, rfl⟩)
    have hC := fun S el row hk => rcheck_lent X (S := S) (k := 500) (l := ls) (el := el) (row := row) (by omega) hsm hk
    by_cases hz : chkX ls = 0
    case neg =>
      obtain ⟨q1, q2⟩ := decR_none (hend.trans (if_neg (fun h => hz h.2)))
      rw [q1, q2]
      (refine LWP.seq <| LWP.seq <| LWP.region (by kernel_rfl) <| kmv rfl <| kmv rfl <| K.indexStr rfl rfl (by decide) hg0 .plain <| kcv rfl wn ?_; refine klt rfl rfl (decide_eq_false (by omega)) <| RunK.nil <| LWP.condF rfl ?_; refine LWP.exit <| LWP.seq <| LWP.seq <| LWP.region (by kernel_rfl) <| kmv rfl <| kmv rfl <| kln rfl <| kne rfl rfl (bne_eq_false_iff_eq.2 (by rw [hlen]; omega)) <| kmv rfl <| gmv rfl rfl rfl <| K.callX [500] rfl rfl rfl (hC _ _ _ rfl) (.taken rfl rfl) ?_; refine K.neq rfl rfl (bne_iff_ne.2 hz) (.taken rfl rfl) ?_; refine kpf rfl rfl <| RunK.nil <| LWP.condT rfl ?_; refine LWP.seq <| LWP.region (by kernel_rfl) <| kas rfl <| kas rfl <| RunK.nil <| LWP.ret ?_)
      exact Leads.le (σ' := ⟨[(2, .sv Vnil), (3, Lb false)], [], X⟩) (Le.of (by exact ⟨rfl, rfl, trivial⟩) (by exact trivial) (by exact rfl) (by exact rfl) (by repeat' (first | refine all_cons_true ?_ ?_ | rfl | exact bytes_inUse | exact vals_inUse | exact mid_inUse rfl))) (Leads.done ⟨[], ⟨[_, _], ⟨rfl, rfl, trivial⟩, rfl⟩, (by repeat' (first | exact trivial | refine And.intro ⟨_, rfl, ?_⟩ ?_ | refine And.intro ⟨_, rfl⟩ ?_ | rfl | exact Box.ren_bytes _ _ _ _ | exact Box.ren_vals _ _ _ _ | exact Box.ren_mid rfl)), rfl, rfl⟩)
    have hne := chkX_ne hz
    obtain rfl : rw_ = true := hrw hne
    obtain ⟨q1, q2⟩ := decR_some (hend.trans (if_pos ⟨by rw [hat2, List.drop_length], hz⟩))
    rw [q1, q2]
    rw [hz] at hC
    (refine LWP.seq <| LWP.seq <| LWP.region (by kernel_rfl) <| kmv rfl <| kmv rfl <| K.indexStr rfl rfl (by decide) hg0 .plain <| kcv rfl wn ?_; refine klt rfl rfl (decide_eq_false (by omega)) <| RunK.nil <| LWP.condF rfl ?_; refine LWP.exit <| LWP.seq <| LWP.seq <| LWP.region (by kernel_rfl) <| kmv rfl <| kmv rfl <| kln rfl <| kne rfl rfl (bne_eq_false_iff_eq.2 (by rw [hlen]; omega)) <| kmv rfl <| gmv rfl rfl rfl <| K.callX [500] rfl rfl rfl (hC _ _ _ rfl) (.taken rfl rfl) ?_; refine K.neq rfl rfl (r := false) rfl (.taken rfl rfl) ?_; refine kpf rfl rfl <| RunK.nil <| LWP.condF rfl ?_; refine LWP.skip ?_; refine LWP.seq <| LWP.region (by kernel_rfl) <| kmv rfl <| kas rfl <| kas rfl <| RunK.nil <| LWP.ret ?_)
    refine Leads.le (σ' := ⟨[(2, .sv (.one (.slc 500 0 ls.length 6))), (3, Lb true)], [(500, some ⟨54, (inssV ls).map .val, true⟩)], X⟩) (Le.ofR [(500, 500)] (by exact ⟨rfl, rfl, trivial⟩) (by repeat' (first | exact trivial | refine And.intro ⟨_, rfl, ?_⟩ ?_ | refine And.intro ⟨_, rfl⟩ ?_ | rfl | exact Box.ren_bytes _ _ _ _ | exact Box.ren_vals _ _ _ _ | exact Box.ren_mid rfl)) (by exact rfl) (by exact rfl) (by repeat' (first | refine all_cons_true ?_ ?_ | rfl | exact bytes_inUse | exact vals_inUse | exact mid_inUse rfl)) (by exact rfl) (by exact rfl)) ?_
    refine Leads.le Le.loose (Leads.done ?_)
    exact ⟨[(1000001, 500)], ⟨[_, _], ⟨rfl, rfl, trivial⟩, rfl⟩, (by repeat' (first | exact trivial | refine And.intro ⟨_, rfl, ?_⟩ ?_ | refine And.intro ⟨_, rfl⟩ ?_ | rfl | exact Box.ren_bytes _ _ _ _ | exact Box.ren_vals _ _ _ _ | exact Box.ren_mid rfl)), rfl, rfl⟩
  have hfail := fun h => decR_none (s := s) (by rw [hl]; exact dec_fail hgot hlt h)
  by_cases ha : s.length ≤ at_
  case pos =>
    obtain ⟨q1, q2⟩ := hfail (by rw [List.drop_eq_nil_of_le ha]; rfl)
    rw [q1, q2]
    (refine LWP.seq <| LWP.seq <| LWP.region (by kernel_rfl) <| kmv rfl <| kmv rfl <| K.indexStr rfl rfl (by decide) hg0 .plain <| kcv rfl wn ?_; refine klt rfl rfl (decide_eq_true (by omega)) <| RunK.nil <| LWP.condT rfl ?_; refine LWP.skip ?_; refine LWP.seq <| LWP.block <| LWP.seq <| LWP.seq <| LWP.region (by kernel_rfl) <| kmv rfl <| kmv rfl <| kln rfl <| K.geq rfl rfl (decide_eq_true (by rw [hlen]; omega)) .plain <| RunK.nil <| LWP.condT rfl ?_; refine LWP.seq <| LWP.region (by kernel_rfl) <| kas rfl <| kas rfl <| RunK.nil <| LWP.ret ?_)
    exact Leads.le (σ' := ⟨[(2, .sv Vnil), (3, Lb false)], [], X⟩) (Le.of (by exact ⟨rfl, rfl, trivial⟩) (by exact trivial) (by exact rfl) (by exact rfl) (by repeat' (first | refine all_cons_true ?_ ?_ | rfl | exact bytes_inUse | exact vals_inUse | exact mid_inUse rfl))) (Leads.done ⟨[], ⟨[_, _], ⟨rfl, rfl, trivial⟩, rfl⟩, (by repeat' (first | exact trivial | refine And.intro ⟨_, rfl, ?_⟩ ?_ | refine And.intro ⟨_, rfl⟩ ?_ | rfl | exact Box.ren_bytes _ _ _ _ | exact Box.ren_vals _ _ _ _ | exact Box.ren_mid rfl)), rfl, rfl⟩)
  obtain ⟨o, t1, hd, ho, ht1⟩ := cells_long (l := s) (k := at_) (by omega)
  have hob := o.toNat_lt
  have hgo : (⟨s.toArray⟩ : ByteArray)[Int.toNat (at_ : Nat)]? = some o := str_at (by rw [Int.toNat_natCast]; exact ho)
  have wo : IntKind.i64.wrap ((o.toNat : Nat) : Int) = ((o.toNat : Nat) : Int) := wrap_i64 (by omega)
  have hadi : IntKind.i64.wrap ((i : Int) + 1) = ((i + 1 : Nat) : Int) := by rw [wrap_i64 (by omega)]; omega
  have p1 : IntKind.i64.wrap ((at_ : Int) + 1) = ((at_ + 1 : Nat) : Int) := by rw [wrap_i64 (by omega)]; omega
  have p2 : IntKind.i64.wrap ((at_ : Int) + 2) = ((at_ + 2 : Nat) : Int) := by rw [wrap_i64 (by omega)]; omega
  have p3 : IntKind.i64.wrap ((at_ : Int) + 3) = ((at_ + 3 : Nat) : Int) := by rw [wrap_i64 (by omega)]; omega
  have p10 : IntKind.i64.wrap ((at_ : Int) + 10) = ((at_ + 10 : Nat) : Int) := by rw [wrap_i64 (by omega)]; omega
  have p18 : IntKind.i64.wrap ((at_ : Int) + 18) = ((at_ + 18 : Nat) : Int) := by rw [wrap_i64 (by omega)]; omega
  have hl3 := inssV_len ls
  have hls8 : ls.length ≤ 255 := by omega
  have hgI : getI (s.drop at_) = getI (o :: t1) := by rw [hd]
  have hsn := getIs_snoc hgot
  rw [hgI] at hfail hsn
  by_cases hk1 : o.toNat = 1
  case pos =>
    have hgi := hgI
    have heo : ((o.toNat : Nat) : Int) = 1 := by omega
    have hno2 : ((o.toNat : Nat) : Int) ≠ 2 := by omega
    have hno3 : ((o.toNat : Nat) : Int) ≠ 3 := by omega
    by_cases hs : s.length < at_ + 18
    case pos =>
      obtain ⟨q1, q2⟩ := hfail (by
        unfold getI
        simp only
        rw [if_pos (by omega)]
        cases t1 with
        | nil => rfl
        | cons c t2 =>
          simp only
          rw [if_neg]
          intro h
          have := congrArg List.length ht1
          rw [List.length_cons, List.length_drop] at this
          omega)
      rw [q1, q2]
      (refine LWP.seq <| LWP.seq <| LWP.region (by kernel_rfl) <| kmv rfl <| kmv rfl <| K.indexStr rfl rfl (by decide) hg0 .plain <| kcv rfl wn ?_; refine klt rfl rfl (decide_eq_true (by omega)) <| RunK.nil <| LWP.condT rfl ?_; refine LWP.skip ?_; refine LWP.seq <| LWP.block <| LWP.seq <| LWP.seq <| LWP.region (by kernel_rfl) <| kmv rfl <| kmv rfl <| kln rfl <| K.geq rfl rfl (decide_eq_false (by rw [hlen]; omega)) .plain <| RunK.nil <| LWP.condF rfl ?_; refine LWP.skip ?_; refine LWP.seq <| LWP.region (by kernel_rfl) <| kmv rfl <| kmv rfl <| K.indexStr rfl rfl (by omega) hgo .plain <| kcv rfl wo ?_; refine K.build rfl rfl (by exact rfl) (by exact nl6 rfl rfl rfl rfl rfl rfl rfl) .plain ?_; refine K.alloc rfl .plain ?_; refine K.storeAll rfl rfl rfl rfl rfl rfl .plain ?_; refine RunK.nil <| LWP.seq <| LWP.region (by kernel_rfl) <| kas rfl <| RunK.nil <| LWP.seq <| LWP.seq <| LWP.region (by kernel_rfl) <| kfa rfl rfl ?_; refine kl1 rfl rfl rfl <| RunK.nil <| LWP.block <| LWP.seq <| LWP.region (by kernel_rfl) <| keq rfl rfl (r := true) (beq_iff_eq.2 heo) <| kas rfl <| RunK.nil <| LWP.condT rfl ?_; refine LWP.region (by kernel_rfl) <| kas rfl <| RunK.nil <| LWP.seq <| LWP.seq <| LWP.region (by kernel_rfl) <| kmv rfl <| kmv rfl <| kad rfl rfl p18 <| kmv rfl <| kln rfl <| K.gtr rfl rfl (decide_eq_true (by rw [hlen]; omega)) .plain <| RunK.nil <| LWP.condT rfl ?_; refine LWP.seq <| LWP.region (by kernel_rfl) <| kas rfl <| kas rfl <| RunK.nil <| LWP.ret ?_)
      exact Leads.le (σ' := ⟨[(2, .sv Vnil), (3, Lb false)], [], X⟩) (Le.of (by exact ⟨rfl, rfl, trivial⟩) (by exact trivial) (by exact rfl) (by exact rfl) (by repeat' (first | refine all_cons_true ?_ ?_ | rfl | exact bytes_inUse | exact vals_inUse | exact mid_inUse rfl))) (Leads.done ⟨[], ⟨[_, _], ⟨rfl, rfl, trivial⟩, rfl⟩, (by repeat' (first | exact trivial | refine And.intro ⟨_, rfl, ?_⟩ ?_ | refine And.intro ⟨_, rfl⟩ ?_ | rfl | exact Box.ren_bytes _ _ _ _ | exact Box.ren_vals _ _ _ _ | exact Box.ren_mid rfl)), rfl, rfl⟩)
    obtain ⟨a1, t2, hd2, ha1, ht2⟩ := cells_long (l := s) (k := at_ + 1) (by omega)
    rw [← ht1] at hd2
    have hg1 : (⟨s.toArray⟩ : ByteArray)[Int.toNat ((at_ + 1 : Nat) : Int)]? = some a1 := str_at (by rw [Int.toNat_natCast]; exact ha1)
    have ha1b := a1.toNat_lt
    have wa1 : IntKind.i64.wrap ((a1.toNat : Nat) : Int) = ((a1.toNat : Nat) : Int) := wrap_i64 (by omega)
    obtain ⟨a2, t3, hd3, ha2, ht3⟩ := cells_long (l := s) (k := at_ + 1 + 1) (by omega)
    by_cases hsg : 1 < a1.toNat
    case pos =>
      obtain ⟨q1, q2⟩ := hfail (by unfold getI; simp only; rw [if_pos (by omega), hd2]; simp only; rw [if_neg (by omega)])
      rw [q1, q2]
      (refine LWP.seq <| LWP.seq <| LWP.region (by kernel_rfl) <| kmv rfl <| kmv rfl <| K.indexStr rfl rfl (by decide) hg0 .plain <| kcv rfl wn ?_; refine klt rfl rfl (decide_eq_true (by omega)) <| RunK.nil <| LWP.condT rfl ?_; refine LWP.skip ?_; refine LWP.seq <| LWP.block <| LWP.seq <| LWP.seq <| LWP.region (by kernel_rfl) <| kmv rfl <| kmv rfl <| kln rfl <| K.geq rfl rfl (decide_eq_false (by rw [hlen]; omega)) .plain <| RunK.nil <| LWP.condF rfl ?_; refine LWP.skip ?_; refine LWP.seq <| LWP.region (by kernel_rfl) <| kmv rfl <| kmv rfl <| K.indexStr rfl rfl (by omega) hgo .plain <| kcv rfl wo ?_; refine K.build rfl rfl (by exact rfl) (by exact nl6 rfl rfl rfl rfl rfl rfl rfl) .plain ?_; refine K.alloc rfl .plain ?_; refine K.storeAll rfl rfl rfl rfl rfl rfl .plain ?_; refine RunK.nil <| LWP.seq <| LWP.region (by kernel_rfl) <| kas rfl <| RunK.nil <| LWP.seq <| LWP.seq <| LWP.region (by kernel_rfl) <| kfa rfl rfl ?_; refine kl1 rfl rfl rfl <| RunK.nil <| LWP.block <| LWP.seq <| LWP.region (by kernel_rfl) <| keq rfl rfl (r := true) (beq_iff_eq.2 heo) <| kas rfl <| RunK.nil <| LWP.condT rfl ?_; refine LWP.region (by kernel_rfl) <| kas rfl <| RunK.nil <| LWP.seq <| LWP.seq <| LWP.region (by kernel_rfl) <| kmv rfl <| kmv rfl <| kad rfl rfl p18 <| kmv rfl <| kln rfl <| K.gtr rfl rfl (decide_eq_false (by rw [hlen]; omega)) .plain <| RunK.nil <| LWP.condF rfl ?_; refine LWP.skip ?_; refine LWP.seq <| LWP.seq <| LWP.region (by kernel_rfl) <| kfa rfl rfl ?_; refine kl1 rfl rfl rfl <| RunK.nil <| LWP.block <| LWP.seq <| LWP.region (by kernel_rfl) <| keq rfl rfl (r := true) (beq_iff_eq.2 heo) <| kas rfl <| RunK.nil <| LWP.condT rfl ?_; refine LWP.seq <| LWP.seq <| LWP.region (by kernel_rfl) <| kmv rfl <| kmv rfl <| kad rfl rfl p1 <| K.indexStr rfl rfl (by omega) hg1 .plain <| K.gtr rfl rfl (decide_eq_true (by omega)) .plain <| RunK.nil <| LWP.condT rfl ?_; refine LWP.seq <| LWP.region (by kernel_rfl) <| kas rfl <| kas rfl <| RunK.nil <| LWP.ret ?_)
      exact Leads.le (σ' := ⟨[(2, .sv Vnil), (3, Lb false)], [], X⟩) (Le.of (by exact ⟨rfl, rfl, trivial⟩) (by exact trivial) (by exact rfl) (by exact rfl) (by repeat' (first | refine all_cons_true ?_ ?_ | rfl | exact bytes_inUse | exact vals_inUse | exact mid_inUse rfl))) (Leads.done ⟨[], ⟨[_, _], ⟨rfl, rfl, trivial⟩, rfl⟩, (by repeat' (first | exact trivial | refine And.intro ⟨_, rfl, ?_⟩ ?_ | refine And.intro ⟨_, rfl⟩ ?_ | rfl | exact Box.ren_bytes _ _ _ _ | exact Box.ren_vals _ _ _ _ | exact Box.ren_mid rfl)), rfl, rfl⟩)
    have hA8 : ((s.drop (at_ + 2)).take 8).length = 8 := by rw [List.length_take, List.length_drop]; omega
    have hB8 : ((s.drop (at_ + 10)).take 8).length = 8 := by rw [List.length_take, List.length_drop]; omega
    have hN1 := rNumber_spec X _ hA8
    have hN2 := rNumber_spec X _ hB8
    have h10 : at_ + 10 ≤ (⟨s.toArray⟩ : ByteArray).size := by rw [hlen]; omega
    have h18 : at_ + 18 ≤ (⟨s.toArray⟩ : ByteArray).size := by rw [hlen]; omega
    have hc1 : (⟨s.toArray⟩ : ByteArray).extract (at_ + 2) (at_ + 10) = ⟨((s.drop (at_ + 2)).take 8).toArray⟩ := by rw [str_cut, show at_ + 10 - (at_ + 2) = 8 by omega]
    have hc2 : (⟨s.toArray⟩ : ByteArray).extract (at_ + 10) (at_ + 18) = ⟨((s.drop (at_ + 10)).take 8).toArray⟩ := by rw [str_cut, show at_ + 18 - (at_ + 10) = 8 by omega]
    have hgot1 : getI (o :: t1) = some (Ins.mk 1 0 0 (decide (a1.toNat = 1), ((le ((s.drop (at_ + 2)).take 8) + 18446744073709551616 * le ((s.drop (at_ + 10)).take 8) : Nat) : Int)), s.drop (at_ + 18)) := by
      unfold getI
      simp only
      rw [if_pos (by omega), hd2]
      simp only
      rw [if_pos ⟨by omega, by rw [ht2, List.length_drop]; omega⟩, ht2, List.drop_drop, List.drop_drop, show at_ + 1 + 1 = at_ + 2 by omega, show at_ + 2 + 8 = at_ + 10 by omega, show at_ + 2 + 16 = at_ + 18 by omega]
    rw [hgot1] at hsn
    simp only at hsn
    have b1 := le_lt ((s.drop (at_ + 2)).take 8)
    have b2 := le_lt ((s.drop (at_ + 10)).take 8)
    rw [hA8, show (256 : Nat) ^ 8 = 18446744073709551616 by decide] at b1
    rw [hB8, show (256 : Nat) ^ 8 = 18446744073709551616 by decide] at b2
    generalize (s.drop (at_ + 2)).take 8 = A at *
    generalize (s.drop (at_ + 10)).take 8 = B at *
    generalize le A = n1 at *
    generalize le B = n2 at *
    have hbe : (((a1.toNat : Nat) : Int) == 1) = decide (a1.toNat = 1) := by
      by_cases h : a1.toNat = 1
      · rw [decide_eq_true h, h]; rfl
      · rw [decide_eq_false h]; exact beq_eq_false_iff_ne.2 (by omega)
    have hnc := inssV_snoc ls (Ins.mk 1 0 0 (decide (a1.toNat = 1), ((n1 + 18446744073709551616 * n2 : Nat) : Int))) (cs := [.val (.int .i64 ((o.toNat : Nat) : Int)), .val (.int .i64 0), .val (.int .i64 0), .val (.bool (decide (a1.toNat = 1))), .val (.int .u64 (n2 : Nat)), .val (.int .u64 (n1 : Nat))]) (by
      unfold insV
      simp only [List.map_cons, List.map_nil]
      rw [heo, show ((n1 + 18446744073709551616 * n2 : Nat) : Int) / 18446744073709551616 = (n2 : Nat) by omega, show ((n1 + 18446744073709551616 * n2 : Nat) : Int) % 18446744073709551616 = (n1 : Nat) by omega])
    have hnl : ls.length + 1 = (ls ++ [Ins.mk 1 0 0 (decide (a1.toNat = 1), ((n1 + 18446744073709551616 * n2 : Nat) : Int))]).length := by rw [List.length_append]; rfl
    generalize decide (a1.toNat = 1) = sb at *
    ((refine LWP.seq <| LWP.seq <| LWP.region (by kernel_rfl) <| kmv rfl <| kmv rfl <| K.indexStr rfl rfl (by decide) hg0 .plain <| kcv rfl wn ?_; refine klt rfl rfl (decide_eq_true (by omega)) <| RunK.nil <| LWP.condT rfl ?_; refine LWP.skip ?_; refine LWP.seq <| LWP.block <| LWP.seq <| LWP.seq <| LWP.region (by kernel_rfl) <| kmv rfl <| kmv rfl <| kln rfl <| K.geq rfl rfl (decide_eq_false (by rw [hlen]; omega)) .plain <| RunK.nil <| LWP.condF rfl ?_; refine LWP.skip ?_; refine LWP.seq <| LWP.region (by kernel_rfl) <| kmv rfl <| kmv rfl <| K.indexStr rfl rfl (by omega) hgo .plain <| kcv rfl wo ?_; refine K.build rfl rfl (by exact rfl) (by exact nl6 rfl rfl rfl rfl rfl rfl rfl) .plain ?_; refine K.alloc rfl .plain ?_; refine K.storeAll rfl rfl rfl rfl rfl rfl .plain ?_; refine RunK.nil <| LWP.seq <| LWP.region (by kernel_rfl) <| kas rfl <| RunK.nil <| LWP.seq <| LWP.seq <| LWP.region (by kernel_rfl) <| kfa rfl rfl ?_; refine kl1 rfl rfl rfl <| RunK.nil <| LWP.block <| LWP.seq <| LWP.region (by kernel_rfl) <| keq rfl rfl (r := true) (beq_iff_eq.2 heo) <| kas rfl <| RunK.nil <| LWP.condT rfl ?_; refine LWP.region (by kernel_rfl) <| kas rfl <| RunK.nil <| LWP.seq <| LWP.seq <| LWP.region (by kernel_rfl) <| kmv rfl <| kmv rfl <| kad rfl rfl p18 <| kmv rfl <| kln rfl <| K.gtr rfl rfl (decide_eq_false (by rw [hlen]; omega)) .plain <| RunK.nil <| LWP.condF rfl ?_); (refine LWP.skip ?_; refine LWP.seq <| LWP.seq <| LWP.region (by kernel_rfl) <| kfa rfl rfl ?_; refine kl1 rfl rfl rfl <| RunK.nil <| LWP.block <| LWP.seq <| LWP.region (by kernel_rfl) <| keq rfl rfl (r := true) (beq_iff_eq.2 heo) <| kas rfl <| RunK.nil <| LWP.condT rfl ?_; refine LWP.seq <| LWP.seq <| LWP.region (by kernel_rfl) <| kmv rfl <| kmv rfl <| kad rfl rfl p1 <| K.indexStr rfl rfl (by omega) hg1 .plain <| K.gtr rfl rfl (decide_eq_false (by omega)) .plain <| RunK.nil <| LWP.condF rfl ?_; refine LWP.skip ?_; refine LWP.draws mixed (by kernel_rfl) <| kmv rfl <| kmv rfl <| kad rfl rfl p1 <| K.indexStr rfl rfl (by omega) hg1 .plain <| keq rfl rfl hbe <| kmv rfl <| kmv rfl <| kad rfl rfl p2 <| kmv rfl <| kad rfl rfl p10 <| K.sliceStr (l := at_ + 2) (h := at_ + 10) (kl := .i64) (kh := .i64) rfl StrT.u rfl rfl ⟨(by omega), h10⟩ hc1 .plain <| kca rfl rfl hN1 <| kmv rfl ?_; refine kmv rfl <| kad rfl rfl p10 <| kmv rfl <| kad rfl rfl p18 <| K.sliceStr (l := at_ + 10) (h := at_ + 18) (kl := .i64) (kh := .i64) rfl StrT.u rfl rfl ⟨(by omega), h18⟩ hc2 .plain <| kca rfl rfl hN2 <| K.build rfl rfl (by exact rfl) (by exact nl3 rfl rfl rfl rfl) .plain ?_; refine kfa rfl rfl ?_; refine K.store rfl rfl rfl rfl (by kernel_rfl) (Nat.le_refl _) rfl .plain <| RunK.nil <| And.intro (by kernel_rfl) ?_; refine LWP.seq <| LWP.region (by kernel_rfl) <| kmv rfl <| K.loadAll rfl rfl rfl .plain ?_; refine K.buildSlc (zs := [.int .i64 0, .int .i64 0, .int .i64 0, .bool false, .int .u64 0, .int .u64 0]) (sz := 6) (e := 54) (cs' := [.val (.int .i64 ((o.toNat : Nat) : Int)), .val (.int .i64 0), .val (.int .i64 0), .val (.bool (sb)), .val (.int .u64 (n2 : Nat)), .val (.int .u64 (n1 : Nat))]) (by kernel_rfl) rfl rfl rfl rfl rfl rfl .plain <| K.appendSlc (by_ := 48) (e2 := 54) (l2 := [.val (.int .i64 ((o.toNat : Nat) : Int)), .val (.int .i64 0), .val (.int .i64 0), .val (.bool (sb)), .val (.int .u64 (n2 : Nat)), .val (.int .u64 (n1 : Nat))]) (nl := (ls ++ [Ins.mk 1 0 0 (sb, ((n1 + 18446744073709551616 * n2 : Nat) : Int))]).length) (nc := (inssV (ls ++ [Ins.mk 1 0 0 (sb, ((n1 + 18446744073709551616 * n2 : Nat) : Int))])).map .val) rfl rfl hl3 rfl rfl (Nat.le_refl _) rfl rfl (by kernel_rfl) (by kernel_rfl) (by omega) (by omega) rfl hnl hnc .plain <| kas rfl <| RunK.nil <| LWP.region (by kernel_rfl) <| kmv rfl <| kmv rfl <| kad rfl rfl p18 <| kas rfl <| RunK.nil <| LWP.region (by kernel_rfl) <| kmv rfl <| kad rfl rfl hadi <| kas rfl ?_; refine RunK.nil ?_))
    exact Leads.le (σ' := dcSt X s (at_ + 18) (i + 1) (ls ++ [Ins.mk 1 0 0 (sb, ((n1 + 18446744073709551616 * n2 : Nat) : Int))]).length [(500, some ⟨54, (inssV (ls ++ [Ins.mk 1 0 0 (sb, ((n1 + 18446744073709551616 * n2 : Nat) : Int))])).map .val, true⟩)]) (Le.ofR [(500, 98)] (by exact ⟨rfl, rfl, rfl, rfl, trivial⟩) (by repeat' (first | exact trivial | refine And.intro ⟨_, rfl, ?_⟩ ?_ | refine And.intro ⟨_, rfl⟩ ?_ | rfl | exact Box.ren_bytes _ _ _ _ | exact Box.ren_vals _ _ _ _ | exact Box.ren_mid rfl)) (by exact rfl) (by exact rfl) (by repeat' (first | refine all_cons_true ?_ ?_ | rfl | exact bytes_inUse | exact vals_inUse | exact mid_inUse rfl)) (by exact rfl) (by exact rfl)) (Leads.done ⟨nb.toNat - (i + 1), by omega, i + 1, at_ + 18, ls ++ [Ins.mk 1 0 0 (sb, ((n1 + 18446744073709551616 * n2 : Nat) : Int))], true, by omega, rfl, by omega, by omega, fun _ => rfl, hsn, rfl⟩)
  by_cases hk2 : o.toNat = 2
  case pos =>
    have hgi := hgI
    have hno1 : ((o.toNat : Nat) : Int) ≠ 1 := by omega
    have heo : ((o.toNat : Nat) : Int) = 2 := by omega
    have hno3 : ((o.toNat : Nat) : Int) ≠ 3 := by omega
    by_cases hs : s.length < at_ + 3
    case pos =>
      obtain ⟨q1, q2⟩ := hfail (by
        unfold getI
        simp only
        rw [if_neg (by omega), if_pos (by omega)]
        match t1, ht1 with
        | [], _ => rfl
        | [_], _ => rfl
        | _ :: _ :: _, ht1 =>
          have := congrArg List.length ht1
          simp only [List.length_cons, List.length_drop] at this
          omega)
      rw [q1, q2]
      (refine LWP.seq <| LWP.seq <| LWP.region (by kernel_rfl) <| kmv rfl <| kmv rfl <| K.indexStr rfl rfl (by decide) hg0 .plain <| kcv rfl wn ?_; refine klt rfl rfl (decide_eq_true (by omega)) <| RunK.nil <| LWP.condT rfl ?_; refine LWP.skip ?_; refine LWP.seq <| LWP.block <| LWP.seq <| LWP.seq <| LWP.region (by kernel_rfl) <| kmv rfl <| kmv rfl <| kln rfl <| K.geq rfl rfl (decide_eq_false (by rw [hlen]; omega)) .plain <| RunK.nil <| LWP.condF rfl ?_; refine LWP.skip ?_; refine LWP.seq <| LWP.region (by kernel_rfl) <| kmv rfl <| kmv rfl <| K.indexStr rfl rfl (by omega) hgo .plain <| kcv rfl wo ?_; refine K.build rfl rfl (by exact rfl) (by exact nl6 rfl rfl rfl rfl rfl rfl rfl) .plain ?_; refine K.alloc rfl .plain ?_; refine K.storeAll rfl rfl rfl rfl rfl rfl .plain ?_; refine RunK.nil <| LWP.seq <| LWP.region (by kernel_rfl) <| kas rfl <| RunK.nil <| LWP.seq <| LWP.seq <| LWP.region (by kernel_rfl) <| kfa rfl rfl ?_; refine kl1 rfl rfl rfl <| RunK.nil <| LWP.block <| LWP.seq <| LWP.region (by kernel_rfl) <| keq rfl rfl (r := false) (beq_eq_false_iff_ne.2 hno1) <| kas rfl <| RunK.nil <| LWP.condF rfl ?_; refine LWP.seq <| LWP.region (by kernel_rfl) <| keq rfl rfl (r := true) (beq_iff_eq.2 heo) <| kas rfl <| RunK.nil <| LWP.condT rfl ?_; refine LWP.region (by kernel_rfl) <| kas rfl <| RunK.nil <| LWP.seq <| LWP.seq <| LWP.region (by kernel_rfl) <| kmv rfl <| kmv rfl <| kad rfl rfl p3 <| kmv rfl <| kln rfl <| K.gtr rfl rfl (decide_eq_true (by rw [hlen]; omega)) .plain <| RunK.nil <| LWP.condT rfl ?_; refine LWP.seq <| LWP.region (by kernel_rfl) <| kas rfl <| kas rfl <| RunK.nil <| LWP.ret ?_)
      exact Leads.le (σ' := ⟨[(2, .sv Vnil), (3, Lb false)], [], X⟩) (Le.of (by exact ⟨rfl, rfl, trivial⟩) (by exact trivial) (by exact rfl) (by exact rfl) (by repeat' (first | refine all_cons_true ?_ ?_ | rfl | exact bytes_inUse | exact vals_inUse | exact mid_inUse rfl))) (Leads.done ⟨[], ⟨[_, _], ⟨rfl, rfl, trivial⟩, rfl⟩, (by repeat' (first | exact trivial | refine And.intro ⟨_, rfl, ?_⟩ ?_ | refine And.intro ⟨_, rfl⟩ ?_ | rfl | exact Box.ren_bytes _ _ _ _ | exact Box.ren_vals _ _ _ _ | exact Box.ren_mid rfl)), rfl, rfl⟩)
    obtain ⟨a1, t2, hd2, ha1, ht2⟩ := cells_long (l := s) (k := at_ + 1) (by omega)
    rw [← ht1] at hd2
    have hg1 : (⟨s.toArray⟩ : ByteArray)[Int.toNat ((at_ + 1 : Nat) : Int)]? = some a1 := str_at (by rw [Int.toNat_natCast]; exact ha1)
    have ha1b := a1.toNat_lt
    have wa1 : IntKind.i64.wrap ((a1.toNat : Nat) : Int) = ((a1.toNat : Nat) : Int) := wrap_i64 (by omega)
    obtain ⟨a2, t3, hd3, ha2, ht3⟩ := cells_long (l := s) (k := at_ + 1 + 1) (by omega)
    rw [← ht2] at hd3
    have hg2 : (⟨s.toArray⟩ : ByteArray)[Int.toNat ((at_ + 2 : Nat) : Int)]? = some a2 := str_at (by rw [Int.toNat_natCast]; exact ha2)
    have ha2b := a2.toNat_lt
    have wa2 : IntKind.i64.wrap ((a2.toNat : Nat) : Int) = ((a2.toNat : Nat) : Int) := wrap_i64 (by omega)
    rw [show getI (o :: t1) = some (Ins.mk 2 ((a1.toNat : Nat) : Int) ((a2.toNat : Nat) : Int) (false, 0), t3) by unfold getI; simp only; rw [if_neg (by omega), if_pos (by omega), hd2, hd3], ht3] at hsn
    simp only at hsn
    have hnc := inssV_snoc ls (Ins.mk 2 ((a1.toNat : Nat) : Int) ((a2.toNat : Nat) : Int) (false, 0)) (cs := [.val (.int .i64 ((o.toNat : Nat) : Int)), .val (.int .i64 ((a1.toNat : Nat) : Int)), .val (.int .i64 ((a2.toNat : Nat) : Int)), .val (.bool false), .val (.int .u64 0), .val (.int .u64 0)]) (by simp [insV]; omega)
    have hnl : ls.length + 1 = (ls ++ [Ins.mk 2 ((a1.toNat : Nat) : Int) ((a2.toNat : Nat) : Int) (false, 0)]).length := by rw [List.length_append]; rfl
    ((refine LWP.seq <| LWP.seq <| LWP.region (by kernel_rfl) <| kmv rfl <| kmv rfl <| K.indexStr rfl rfl (by decide) hg0 .plain <| kcv rfl wn ?_; refine klt rfl rfl (decide_eq_true (by omega)) <| RunK.nil <| LWP.condT rfl ?_; refine LWP.skip ?_; refine LWP.seq <| LWP.block <| LWP.seq <| LWP.seq <| LWP.region (by kernel_rfl) <| kmv rfl <| kmv rfl <| kln rfl <| K.geq rfl rfl (decide_eq_false (by rw [hlen]; omega)) .plain <| RunK.nil <| LWP.condF rfl ?_; refine LWP.skip ?_; refine LWP.seq <| LWP.region (by kernel_rfl) <| kmv rfl <| kmv rfl <| K.indexStr rfl rfl (by omega) hgo .plain <| kcv rfl wo ?_; refine K.build rfl rfl (by exact rfl) (by exact nl6 rfl rfl rfl rfl rfl rfl rfl) .plain ?_; refine K.alloc rfl .plain ?_; refine K.storeAll rfl rfl rfl rfl rfl rfl .plain ?_; refine RunK.nil <| LWP.seq <| LWP.region (by kernel_rfl) <| kas rfl <| RunK.nil <| LWP.seq <| LWP.seq <| LWP.region (by kernel_rfl) <| kfa rfl rfl ?_; refine kl1 rfl rfl rfl <| RunK.nil <| LWP.block <| LWP.seq <| LWP.region (by kernel_rfl) <| keq rfl rfl (r := false) (beq_eq_false_iff_ne.2 hno1) <| kas rfl <| RunK.nil <| LWP.condF rfl ?_; refine LWP.seq <| LWP.region (by kernel_rfl) <| keq rfl rfl (r := true) (beq_iff_eq.2 heo) <| kas rfl <| RunK.nil <| LWP.condT rfl ?_); (refine LWP.region (by kernel_rfl) <| kas rfl <| RunK.nil <| LWP.seq <| LWP.seq <| LWP.region (by kernel_rfl) <| kmv rfl <| kmv rfl <| kad rfl rfl p3 <| kmv rfl <| kln rfl <| K.gtr rfl rfl (decide_eq_false (by rw [hlen]; omega)) .plain <| RunK.nil <| LWP.condF rfl ?_; refine LWP.skip ?_; refine LWP.seq <| LWP.seq <| LWP.region (by kernel_rfl) <| kfa rfl rfl ?_; refine kl1 rfl rfl rfl <| RunK.nil <| LWP.block <| LWP.seq <| LWP.region (by kernel_rfl) <| keq rfl rfl (r := false) (beq_eq_false_iff_ne.2 hno1) <| kas rfl <| RunK.nil <| LWP.condF rfl ?_; refine LWP.seq <| LWP.region (by kernel_rfl) <| keq rfl rfl (r := true) (beq_iff_eq.2 heo) <| kas rfl <| RunK.nil <| LWP.condT rfl ?_; refine LWP.seq <| LWP.region (by kernel_rfl) <| kmv rfl <| kmv rfl <| kad rfl rfl p1 <| K.indexStr rfl rfl (by omega) hg1 .plain <| kcv rfl wa1 ?_; refine kfa rfl rfl ?_; refine K.storeOne rfl rfl rfl rfl rfl (nl6 rfl rfl rfl rfl rfl rfl rfl) .plain <| RunK.nil <| LWP.region (by kernel_rfl) <| kmv rfl <| kmv rfl <| kad rfl rfl p2 <| K.indexStr rfl rfl (by omega) hg2 .plain <| kcv rfl wa2 ?_; refine kfa rfl rfl ?_; refine K.storeOne rfl rfl rfl rfl rfl (nl6 rfl rfl rfl rfl rfl rfl rfl) .plain <| RunK.nil <| LWP.seq <| LWP.region (by kernel_rfl) <| kmv rfl <| K.loadAll rfl rfl rfl .plain ?_; refine K.buildSlc (zs := [.int .i64 0, .int .i64 0, .int .i64 0, .bool false, .int .u64 0, .int .u64 0]) (sz := 6) (e := 54) (cs' := [.val (.int .i64 ((o.toNat : Nat) : Int)), .val (.int .i64 ((a1.toNat : Nat) : Int)), .val (.int .i64 ((a2.toNat : Nat) : Int)), .val (.bool false), .val (.int .u64 0), .val (.int .u64 0)]) (by kernel_rfl) rfl rfl rfl rfl rfl rfl .plain <| K.appendSlc (by_ := 48) (e2 := 54) (l2 := [.val (.int .i64 ((o.toNat : Nat) : Int)), .val (.int .i64 ((a1.toNat : Nat) : Int)), .val (.int .i64 ((a2.toNat : Nat) : Int)), .val (.bool false), .val (.int .u64 0), .val (.int .u64 0)]) (nl := (ls ++ [Ins.mk 2 ((a1.toNat : Nat) : Int) ((a2.toNat : Nat) : Int) (false, 0)]).length) (nc := (inssV (ls ++ [Ins.mk 2 ((a1.toNat : Nat) : Int) ((a2.toNat : Nat) : Int) (false, 0)])).map .val) rfl rfl hl3 rfl rfl (Nat.le_refl _) rfl rfl (by kernel_rfl) (by kernel_rfl) (by omega) (by omega) rfl hnl hnc .plain <| kas rfl <| RunK.nil <| LWP.region (by kernel_rfl) <| kmv rfl <| kmv rfl <| kad rfl rfl p3 <| kas rfl <| RunK.nil <| LWP.region (by kernel_rfl) <| kmv rfl <| kad rfl rfl hadi <| kas rfl ?_; refine RunK.nil ?_))
    exact Leads.le (σ' := dcSt X s (at_ + 3) (i + 1) (ls ++ [Ins.mk 2 ((a1.toNat : Nat) : Int) ((a2.toNat : Nat) : Int) (false, 0)]).length [(500, some ⟨54, (inssV (ls ++ [Ins.mk 2 ((a1.toNat : Nat) : Int) ((a2.toNat : Nat) : Int) (false, 0)])).map .val, true⟩)]) (Le.ofR [(500, 98)] (by exact ⟨rfl, rfl, rfl, rfl, trivial⟩) (by repeat' (first | exact trivial | refine And.intro ⟨_, rfl, ?_⟩ ?_ | refine And.intro ⟨_, rfl⟩ ?_ | rfl | exact Box.ren_bytes _ _ _ _ | exact Box.ren_vals _ _ _ _ | exact Box.ren_mid rfl)) (by exact rfl) (by exact rfl) (by repeat' (first | refine all_cons_true ?_ ?_ | rfl | exact bytes_inUse | exact vals_inUse | exact mid_inUse rfl)) (by exact rfl) (by exact rfl)) (Leads.done ⟨nb.toNat - (i + 1), by omega, i + 1, at_ + 3, ls ++ [Ins.mk 2 ((a1.toNat : Nat) : Int) ((a2.toNat : Nat) : Int) (false, 0)], true, by omega, rfl, by omega, by omega, fun _ => rfl, hsn, rfl⟩)
  by_cases hk3 : o.toNat = 3
  case pos =>
    have hgi := hgI
    have hno1 : ((o.toNat : Nat) : Int) ≠ 1 := by omega
    have hno2 : ((o.toNat : Nat) : Int) ≠ 2 := by omega
    have heo : ((o.toNat : Nat) : Int) = 3 := by omega
    by_cases hs : s.length < at_ + 2
    case pos =>
      obtain ⟨q1, q2⟩ := hfail (by
        unfold getI
        simp only
        rw [if_neg (by omega), if_neg (by omega), if_pos (by omega)]
        match t1, ht1 with
        | [], _ => rfl
        | _ :: _, ht1 =>
          have := congrArg List.length ht1
          simp only [List.length_cons, List.length_drop] at this
          omega)
      rw [q1, q2]
      (refine LWP.seq <| LWP.seq <| LWP.region (by kernel_rfl) <| kmv rfl <| kmv rfl <| K.indexStr rfl rfl (by decide) hg0 .plain <| kcv rfl wn ?_; refine klt rfl rfl (decide_eq_true (by omega)) <| RunK.nil <| LWP.condT rfl ?_; refine LWP.skip ?_; refine LWP.seq <| LWP.block <| LWP.seq <| LWP.seq <| LWP.region (by kernel_rfl) <| kmv rfl <| kmv rfl <| kln rfl <| K.geq rfl rfl (decide_eq_false (by rw [hlen]; omega)) .plain <| RunK.nil <| LWP.condF rfl ?_; refine LWP.skip ?_; refine LWP.seq <| LWP.region (by kernel_rfl) <| kmv rfl <| kmv rfl <| K.indexStr rfl rfl (by omega) hgo .plain <| kcv rfl wo ?_; refine K.build rfl rfl (by exact rfl) (by exact nl6 rfl rfl rfl rfl rfl rfl rfl) .plain ?_; refine K.alloc rfl .plain ?_; refine K.storeAll rfl rfl rfl rfl rfl rfl .plain ?_; refine RunK.nil <| LWP.seq <| LWP.region (by kernel_rfl) <| kas rfl <| RunK.nil <| LWP.seq <| LWP.seq <| LWP.region (by kernel_rfl) <| kfa rfl rfl ?_; refine kl1 rfl rfl rfl <| RunK.nil <| LWP.block <| LWP.seq <| LWP.region (by kernel_rfl) <| keq rfl rfl (r := false) (beq_eq_false_iff_ne.2 hno1) <| kas rfl <| RunK.nil <| LWP.condF rfl ?_; refine LWP.seq <| LWP.region (by kernel_rfl) <| keq rfl rfl (r := false) (beq_eq_false_iff_ne.2 hno2) <| kas rfl <| RunK.nil <| LWP.condF rfl ?_; refine LWP.seq <| LWP.region (by kernel_rfl) <| keq rfl rfl (r := true) (beq_iff_eq.2 heo) <| kas rfl <| RunK.nil <| LWP.condT rfl ?_; refine LWP.region (by kernel_rfl) <| kas rfl <| RunK.nil <| LWP.seq <| LWP.seq <| LWP.region (by kernel_rfl) <| kmv rfl <| kmv rfl <| kad rfl rfl p2 <| kmv rfl <| kln rfl <| K.gtr rfl rfl (decide_eq_true (by rw [hlen]; omega)) .plain <| RunK.nil <| LWP.condT rfl ?_; refine LWP.seq <| LWP.region (by kernel_rfl) <| kas rfl <| kas rfl <| RunK.nil <| LWP.ret ?_)
      exact Leads.le (σ' := ⟨[(2, .sv Vnil), (3, Lb false)], [], X⟩) (Le.of (by exact ⟨rfl, rfl, trivial⟩) (by exact trivial) (by exact rfl) (by exact rfl) (by repeat' (first | refine all_cons_true ?_ ?_ | rfl | exact bytes_inUse | exact vals_inUse | exact mid_inUse rfl))) (Leads.done ⟨[], ⟨[_, _], ⟨rfl, rfl, trivial⟩, rfl⟩, (by repeat' (first | exact trivial | refine And.intro ⟨_, rfl, ?_⟩ ?_ | refine And.intro ⟨_, rfl⟩ ?_ | rfl | exact Box.ren_bytes _ _ _ _ | exact Box.ren_vals _ _ _ _ | exact Box.ren_mid rfl)), rfl, rfl⟩)
    obtain ⟨a1, t2, hd2, ha1, ht2⟩ := cells_long (l := s) (k := at_ + 1) (by omega)
    rw [← ht1] at hd2
    have hg1 : (⟨s.toArray⟩ : ByteArray)[Int.toNat ((at_ + 1 : Nat) : Int)]? = some a1 := str_at (by rw [Int.toNat_natCast]; exact ha1)
    have ha1b := a1.toNat_lt
    have wa1 : IntKind.i64.wrap ((a1.toNat : Nat) : Int) = ((a1.toNat : Nat) : Int) := wrap_i64 (by omega)
    rw [show getI (o :: t1) = some (Ins.mk 3 ((a1.toNat : Nat) : Int) 0 (false, 0), t2) by unfold getI; simp only; rw [if_neg (by omega), if_neg (by omega), if_pos (by omega), hd2], ht2] at hsn
    simp only at hsn
    have hnc := inssV_snoc ls (Ins.mk 3 ((a1.toNat : Nat) : Int) 0 (false, 0)) (cs := [.val (.int .i64 ((o.toNat : Nat) : Int)), .val (.int .i64 ((a1.toNat : Nat) : Int)), .val (.int .i64 0), .val (.bool false), .val (.int .u64 0), .val (.int .u64 0)]) (by simp [insV]; omega)
    have hnl : ls.length + 1 = (ls ++ [Ins.mk 3 ((a1.toNat : Nat) : Int) 0 (false, 0)]).length := by rw [List.length_append]; rfl
    ((refine LWP.seq <| LWP.seq <| LWP.region (by kernel_rfl) <| kmv rfl <| kmv rfl <| K.indexStr rfl rfl (by decide) hg0 .plain <| kcv rfl wn ?_; refine klt rfl rfl (decide_eq_true (by omega)) <| RunK.nil <| LWP.condT rfl ?_; refine LWP.skip ?_; refine LWP.seq <| LWP.block <| LWP.seq <| LWP.seq <| LWP.region (by kernel_rfl) <| kmv rfl <| kmv rfl <| kln rfl <| K.geq rfl rfl (decide_eq_false (by rw [hlen]; omega)) .plain <| RunK.nil <| LWP.condF rfl ?_; refine LWP.skip ?_; refine LWP.seq <| LWP.region (by kernel_rfl) <| kmv rfl <| kmv rfl <| K.indexStr rfl rfl (by omega) hgo .plain <| kcv rfl wo ?_; refine K.build rfl rfl (by exact rfl) (by exact nl6 rfl rfl rfl rfl rfl rfl rfl) .plain ?_; refine K.alloc rfl .plain ?_; refine K.storeAll rfl rfl rfl rfl rfl rfl .plain ?_; refine RunK.nil <| LWP.seq <| LWP.region (by kernel_rfl) <| kas rfl <| RunK.nil <| LWP.seq <| LWP.seq <| LWP.region (by kernel_rfl) <| kfa rfl rfl ?_; refine kl1 rfl rfl rfl <| RunK.nil <| LWP.block <| LWP.seq <| LWP.region (by kernel_rfl) <| keq rfl rfl (r := false) (beq_eq_false_iff_ne.2 hno1) <| kas rfl <| RunK.nil <| LWP.condF rfl ?_; refine LWP.seq <| LWP.region (by kernel_rfl) <| keq rfl rfl (r := false) (beq_eq_false_iff_ne.2 hno2) <| kas rfl <| RunK.nil <| LWP.condF rfl ?_); (refine LWP.seq <| LWP.region (by kernel_rfl) <| keq rfl rfl (r := true) (beq_iff_eq.2 heo) <| kas rfl <| RunK.nil <| LWP.condT rfl ?_; refine LWP.region (by kernel_rfl) <| kas rfl <| RunK.nil <| LWP.seq <| LWP.seq <| LWP.region (by kernel_rfl) <| kmv rfl <| kmv rfl <| kad rfl rfl p2 <| kmv rfl <| kln rfl <| K.gtr rfl rfl (decide_eq_false (by rw [hlen]; omega)) .plain <| RunK.nil <| LWP.condF rfl ?_; refine LWP.skip ?_; refine LWP.seq <| LWP.seq <| LWP.region (by kernel_rfl) <| kfa rfl rfl ?_; refine kl1 rfl rfl rfl <| RunK.nil <| LWP.block <| LWP.seq <| LWP.region (by kernel_rfl) <| keq rfl rfl (r := false) (beq_eq_false_iff_ne.2 hno1) <| kas rfl <| RunK.nil <| LWP.condF rfl ?_; refine LWP.seq <| LWP.region (by kernel_rfl) <| keq rfl rfl (r := false) (beq_eq_false_iff_ne.2 hno2) <| kas rfl <| RunK.nil <| LWP.condF rfl ?_; refine LWP.seq <| LWP.region (by kernel_rfl) <| keq rfl rfl (r := true) (beq_iff_eq.2 heo) <| kas rfl <| RunK.nil <| LWP.condT rfl ?_; refine LWP.region (by kernel_rfl) <| kmv rfl <| kmv rfl <| kad rfl rfl p1 <| K.indexStr rfl rfl (by omega) hg1 .plain <| kcv rfl wa1 ?_; refine kfa rfl rfl ?_; refine K.storeOne rfl rfl rfl rfl rfl (nl6 rfl rfl rfl rfl rfl rfl rfl) .plain <| RunK.nil <| LWP.seq <| LWP.region (by kernel_rfl) <| kmv rfl <| K.loadAll rfl rfl rfl .plain ?_; refine K.buildSlc (zs := [.int .i64 0, .int .i64 0, .int .i64 0, .bool false, .int .u64 0, .int .u64 0]) (sz := 6) (e := 54) (cs' := [.val (.int .i64 ((o.toNat : Nat) : Int)), .val (.int .i64 ((a1.toNat : Nat) : Int)), .val (.int .i64 0), .val (.bool false), .val (.int .u64 0), .val (.int .u64 0)]) (by kernel_rfl) rfl rfl rfl rfl rfl rfl .plain <| K.appendSlc (by_ := 48) (e2 := 54) (l2 := [.val (.int .i64 ((o.toNat : Nat) : Int)), .val (.int .i64 ((a1.toNat : Nat) : Int)), .val (.int .i64 0), .val (.bool false), .val (.int .u64 0), .val (.int .u64 0)]) (nl := (ls ++ [Ins.mk 3 ((a1.toNat : Nat) : Int) 0 (false, 0)]).length) (nc := (inssV (ls ++ [Ins.mk 3 ((a1.toNat : Nat) : Int) 0 (false, 0)])).map .val) rfl rfl hl3 rfl rfl (Nat.le_refl _) rfl rfl (by kernel_rfl) (by kernel_rfl) (by omega) (by omega) rfl hnl hnc .plain <| kas rfl <| RunK.nil <| LWP.region (by kernel_rfl) <| kmv rfl <| kmv rfl <| kad rfl rfl p2 <| kas rfl <| RunK.nil <| LWP.region (by kernel_rfl) <| kmv rfl <| kad rfl rfl hadi <| kas rfl ?_; refine RunK.nil ?_))
    exact Leads.le (σ' := dcSt X s (at_ + 2) (i + 1) (ls ++ [Ins.mk 3 ((a1.toNat : Nat) : Int) 0 (false, 0)]).length [(500, some ⟨54, (inssV (ls ++ [Ins.mk 3 ((a1.toNat : Nat) : Int) 0 (false, 0)])).map .val, true⟩)]) (Le.ofR [(500, 98)] (by exact ⟨rfl, rfl, rfl, rfl, trivial⟩) (by repeat' (first | exact trivial | refine And.intro ⟨_, rfl, ?_⟩ ?_ | refine And.intro ⟨_, rfl⟩ ?_ | rfl | exact Box.ren_bytes _ _ _ _ | exact Box.ren_vals _ _ _ _ | exact Box.ren_mid rfl)) (by exact rfl) (by exact rfl) (by repeat' (first | refine all_cons_true ?_ ?_ | rfl | exact bytes_inUse | exact vals_inUse | exact mid_inUse rfl)) (by exact rfl) (by exact rfl)) (Leads.done ⟨nb.toNat - (i + 1), by omega, i + 1, at_ + 2, ls ++ [Ins.mk 3 ((a1.toNat : Nat) : Int) 0 (false, 0)], true, by omega, rfl, by omega, by omega, fun _ => rfl, hsn, rfl⟩)
  have hgi := hgI
  have hno1 : ((o.toNat : Nat) : Int) ≠ 1 := by omega
  have hno2 : ((o.toNat : Nat) : Int) ≠ 2 := by omega
  have hno3 : ((o.toNat : Nat) : Int) ≠ 3 := by omega
  by_cases hs : s.length < at_ + 1
  case pos =>
    omega
  rw [show getI (o :: t1) = some (Ins.mk ((o.toNat : Nat) : Int) 0 0 (false, 0), t1) by unfold getI; simp only; rw [if_neg (by omega), if_neg (by omega), if_neg (by omega)], ht1] at hsn
  simp only at hsn
  have hnc := inssV_snoc ls (Ins.mk ((o.toNat : Nat) : Int) 0 0 (false, 0)) (cs := [.val (.int .i64 ((o.toNat : Nat) : Int)), .val (.int .i64 0), .val (.int .i64 0), .val (.bool false), .val (.int .u64 0), .val (.int .u64 0)]) (by simp [insV])
  have hnl : ls.length + 1 = (ls ++ [Ins.mk ((o.toNat : Nat) : Int) 0 0 (false, 0)]).length := by rw [List.length_append]; rfl
  ((refine LWP.seq <| LWP.seq <| LWP.region (by kernel_rfl) <| kmv rfl <| kmv rfl <| K.indexStr rfl rfl (by decide) hg0 .plain <| kcv rfl wn ?_; refine klt rfl rfl (decide_eq_true (by omega)) <| RunK.nil <| LWP.condT rfl ?_; refine LWP.skip ?_; refine LWP.seq <| LWP.block <| LWP.seq <| LWP.seq <| LWP.region (by kernel_rfl) <| kmv rfl <| kmv rfl <| kln rfl <| K.geq rfl rfl (decide_eq_false (by rw [hlen]; omega)) .plain <| RunK.nil <| LWP.condF rfl ?_; refine LWP.skip ?_; refine LWP.seq <| LWP.region (by kernel_rfl) <| kmv rfl <| kmv rfl <| K.indexStr rfl rfl (by omega) hgo .plain <| kcv rfl wo ?_; refine K.build rfl rfl (by exact rfl) (by exact nl6 rfl rfl rfl rfl rfl rfl rfl) .plain ?_; refine K.alloc rfl .plain ?_; refine K.storeAll rfl rfl rfl rfl rfl rfl .plain ?_; refine RunK.nil <| LWP.seq <| LWP.region (by kernel_rfl) <| kas rfl <| RunK.nil <| LWP.seq <| LWP.seq <| LWP.region (by kernel_rfl) <| kfa rfl rfl ?_; refine kl1 rfl rfl rfl <| RunK.nil <| LWP.block <| LWP.seq <| LWP.region (by kernel_rfl) <| keq rfl rfl (r := false) (beq_eq_false_iff_ne.2 hno1) <| kas rfl <| RunK.nil <| LWP.condF rfl ?_; refine LWP.seq <| LWP.region (by kernel_rfl) <| keq rfl rfl (r := false) (beq_eq_false_iff_ne.2 hno2) <| kas rfl <| RunK.nil <| LWP.condF rfl ?_); (refine LWP.seq <| LWP.region (by kernel_rfl) <| keq rfl rfl (r := false) (beq_eq_false_iff_ne.2 hno3) <| kas rfl <| RunK.nil <| LWP.condF rfl ?_; refine LWP.skip ?_; refine LWP.seq <| LWP.seq <| LWP.region (by kernel_rfl) <| kmv rfl <| kmv rfl <| kad rfl rfl p1 <| kmv rfl <| kln rfl <| K.gtr rfl rfl (decide_eq_false (by rw [hlen]; omega)) .plain <| RunK.nil <| LWP.condF rfl ?_; refine LWP.skip ?_; refine LWP.seq <| LWP.seq <| LWP.region (by kernel_rfl) <| kfa rfl rfl ?_; refine kl1 rfl rfl rfl <| RunK.nil <| LWP.block <| LWP.seq <| LWP.region (by kernel_rfl) <| keq rfl rfl (r := false) (beq_eq_false_iff_ne.2 hno1) <| kas rfl <| RunK.nil <| LWP.condF rfl ?_; refine LWP.seq <| LWP.region (by kernel_rfl) <| keq rfl rfl (r := false) (beq_eq_false_iff_ne.2 hno2) <| kas rfl <| RunK.nil <| LWP.condF rfl ?_; refine LWP.seq <| LWP.region (by kernel_rfl) <| keq rfl rfl (r := false) (beq_eq_false_iff_ne.2 hno3) <| kas rfl <| RunK.nil <| LWP.condF rfl ?_; refine LWP.skip ?_; refine LWP.seq <| LWP.region (by kernel_rfl) <| kmv rfl <| K.loadAll rfl rfl rfl .plain ?_; refine K.buildSlc (zs := [.int .i64 0, .int .i64 0, .int .i64 0, .bool false, .int .u64 0, .int .u64 0]) (sz := 6) (e := 54) (cs' := [.val (.int .i64 ((o.toNat : Nat) : Int)), .val (.int .i64 0), .val (.int .i64 0), .val (.bool false), .val (.int .u64 0), .val (.int .u64 0)]) (by kernel_rfl) rfl rfl rfl rfl rfl rfl .plain <| K.appendSlc (by_ := 48) (e2 := 54) (l2 := [.val (.int .i64 ((o.toNat : Nat) : Int)), .val (.int .i64 0), .val (.int .i64 0), .val (.bool false), .val (.int .u64 0), .val (.int .u64 0)]) (nl := (ls ++ [Ins.mk ((o.toNat : Nat) : Int) 0 0 (false, 0)]).length) (nc := (inssV (ls ++ [Ins.mk ((o.toNat : Nat) : Int) 0 0 (false, 0)])).map .val) rfl rfl hl3 rfl rfl (Nat.le_refl _) rfl rfl (by kernel_rfl) (by kernel_rfl) (by omega) (by omega) rfl hnl hnc .plain <| kas rfl <| RunK.nil <| LWP.region (by kernel_rfl) <| kmv rfl <| kmv rfl <| kad rfl rfl p1 <| kas rfl <| RunK.nil <| LWP.region (by kernel_rfl) <| kmv rfl <| kad rfl rfl hadi <| kas rfl ?_; refine RunK.nil ?_))
  exact Leads.le (σ' := dcSt X s (at_ + 1) (i + 1) (ls ++ [Ins.mk ((o.toNat : Nat) : Int) 0 0 (false, 0)]).length [(500, some ⟨54, (inssV (ls ++ [Ins.mk ((o.toNat : Nat) : Int) 0 0 (false, 0)])).map .val, true⟩)]) (Le.ofR [(500, 98)] (by exact ⟨rfl, rfl, rfl, rfl, trivial⟩) (by repeat' (first | exact trivial | refine And.intro ⟨_, rfl, ?_⟩ ?_ | refine And.intro ⟨_, rfl⟩ ?_ | rfl | exact Box.ren_bytes _ _ _ _ | exact Box.ren_vals _ _ _ _ | exact Box.ren_mid rfl)) (by exact rfl) (by exact rfl) (by repeat' (first | refine all_cons_true ?_ ?_ | rfl | exact bytes_inUse | exact vals_inUse | exact mid_inUse rfl)) (by exact rfl) (by exact rfl)) (Leads.done ⟨nb.toNat - (i + 1), by omega, i + 1, at_ + 1, ls ++ [Ins.mk ((o.toNat : Nat) : Int) 0 0 (false, 0)], true, by omega, rfl, by omega, by omega, fun _ => rfl, hsn, rfl⟩)
end Go.Proofs.YtimpjdbhalnofaaGreatDoor
end
section
namespace Go.Proofs.YtimpjdbhalnofaaGreatDoor
open Go Go.Lg Go.Lg.Fml Go.Lg.Fld Go.Lg.Arith Go.Lg.Sg
set_option maxRecDepth 100000
variable (X : Nat → Option Obj)
def nmsV (a : List Nm) : List Value := (a.map nmV).flatten
theorem nmsV_len (a : List Nm) : ((nmsV a).map CV.val).length = a.length * 3 := by
  unfold nmsV
  rw [List.length_map]
  induction a with
  | nil => rfl
  | cons x t ih => simp only [List.map_cons, List.flatten_cons, List.length_append, List.length_cons, ih, nmV, List.length_nil]; omega
theorem nmsV_snoc (a : List Nm) (u : Nm) : (nmsV a).map CV.val ++ [CV.val (.bool u.1), .val (.int .u64 (u.2 / 18446744073709551616)), .val (.int .u64 (u.2 % 18446744073709551616))] = (nmsV (a ++ [u])).map CV.val := by
  unfold nmsV
  rw [List.map_append, List.flatten_append, List.map_append]
  rfl
theorem nms_in {Y : Nat → Option Obj} {blk : Nat} {arr : Array Value} {el : TypeId} {fr : Nat × Nat} {a : List Nm} (hY : Y blk = some (.cells arr el fr)) (hi : ∀ u ∈ a, In2 u.2) (hsp : ∃ sp, arr.toList = nmsV a ++ sp) : NumsIn Y (some ⟨blk, 0, none⟩) a :=
  ⟨rows_in hY (fun r hr => by obtain ⟨x, _, rfl⟩ := List.mem_map.1 hr; rfl) hsp, hi⟩
theorem qn_in2 {z : Int} (h : R127 z) : In2 (qn z).2 := mg_in2 h
theorem elem_mem {fs : List (List Nm)} {a b : Int} {v : Nm} (h : elemX fs a b = .ok v) : ∃ r ∈ fs, v ∈ r := by
  unfold elemX at h
  by_cases h0 : a < 0 ∨ b < 0
  · rw [if_pos h0] at h; cases h
  · rw [if_neg h0] at h
    cases hr : fs[a.toNat]? with
    | none => rw [hr] at h; cases h
    | some r =>
      rw [hr] at h
      simp only at h
      cases hu : r[b.toNat]? with
      | none => rw [hu] at h; cases h
      | some u =>
        rw [hu] at h
        cases h
        exact ⟨r, List.mem_of_getElem? hr, List.mem_of_getElem? hu⟩
theorem leaf_in2 {fs : List (List Nm)} {at_ : Int} {x : Ins} {v : Nm} (hf : ∀ r ∈ fs, ∀ u ∈ r, In2 u.2) (hx : In2 x.k.2) (hat : at_ < 9223372036854775808) (h : leafX fs at_ x = .ok v) : In2 v.2 := by
  unfold leafX at h
  by_cases h1 : x.op = 1
  · rw [if_pos h1] at h; cases h; exact hx
  · rw [if_neg h1] at h
    by_cases h4 : x.op = 4
    · rw [if_pos h4] at h
      by_cases h0 : at_ < 0
      · rw [if_pos h0] at h; cases h
      · rw [if_neg h0] at h
        cases h
        show 0 ≤ at_ ∧ at_ < _
        omega
    · rw [if_neg h4] at h
      obtain ⟨r, hr, hv⟩ := elem_mem h
      exact hf r hr _ hv
theorem truth_in2 (b : Bool) : In2 (truth b).2 := by
  unfold truth In2
  cases b <;> decide
theorem do_in2 {op : Int} {x y v : Nm} (h : doX op x y = .ok v) : In2 v.2 := by
  unfold doX at h
  split at h
  · cases h
  · split at h
    · cases h
    · split at h
      · rename_i hr; cases h; exact qn_in2 hr
      · cases h
theorem node_in2 {op : Int} {a : List Nm} {v : Nm} (ha : ∀ u ∈ a, In2 u.2) (h : nodeX op a = .ok v) : In2 v.2 := by
  match a, ha with
  | [x], ha =>
    simp only [nodeX] at h
    split at h
    · cases h
    · split at h
      · rename_i hg _
        cases h
        have := (zv_in (ha x (by simp)) (by simpa [gd] using hg)).1
        exact qn_in2 (by unfold R127 at *; show -_ < -(zz x) ∧ -(zz x) < _; unfold zz; omega)
      · cases h; exact truth_in2 _
  | [x, y], ha =>
    simp only [nodeX] at h
    repeat' (split at h)
    all_goals first
      | (cases h; done)
      | exact do_in2 h
      | (cases h; first | exact truth_in2 _ | exact ha _ (by simp) | (split <;> exact ha _ (by simp)))
  | [x, y, z], ha =>
    simp only [nodeX] at h
    split at h
    · cases h
    · cases h; split <;> exact ha _ (by simp)
  | [], ha => cases h
  | _ :: _ :: _ :: _ :: _, ha => cases h
theorem one_in2 {fs : List (List Nm)} {at_ : Int} {x : Ins} {a : List Nm} {v : Nm} (hf : ∀ r ∈ fs, ∀ u ∈ r, In2 u.2) (hx : In2 x.k.2) (hat : at_ < 9223372036854775808) (ha : ∀ u ∈ a, In2 u.2) (h : oneX fs at_ x a = .ok v) : In2 v.2 := by
  unfold oneX at h
  split at h
  · exact leaf_in2 hf hx hat h
  · exact node_in2 ha h
theorem tree_in2 {fs : List (List Nm)} {at_ : Int} (hf : ∀ r ∈ fs, ∀ u ∈ r, In2 u.2) (hat : at_ < 9223372036854775808) : ∀ {t : Tr} {v : Nm}, (∀ x ∈ t.flat, In2 x.k.2) → t.ev (oneX fs at_) = .ok v → In2 v.2
  | .n0 x, v, hx, h => one_in2 hf (hx x (by simp [Tr.flat])) hat (a := []) (fun u hu => by cases hu) h
  | .n1 x a, v, hx, h => by
    simp only [Tr.ev] at h
    cases ha : a.ev (oneX fs at_) with
    | error e => rw [ha] at h; cases h
    | ok u =>
      rw [ha] at h
      have h1 := tree_in2 hf hat (fun y hy => hx y (by simp [Tr.flat, hy])) ha
      exact one_in2 hf (hx x (by simp [Tr.flat])) hat (a := [u]) (fun w hw => by rw [List.mem_singleton.1 hw]; exact h1) h
  | .n2 x a b, v, hx, h => by
    simp only [Tr.ev] at h
    cases ha : a.ev (oneX fs at_) with
    | error e => rw [ha] at h; cases h
    | ok u =>
      rw [ha] at h
      simp only at h
      have h1 := tree_in2 hf hat (fun y hy => hx y (by simp [Tr.flat, hy])) ha
      cases hb : b.ev (oneX fs at_) with
      | error e => rw [hb] at h; cases h
      | ok w =>
        rw [hb] at h
        have h2 := tree_in2 hf hat (fun y hy => hx y (by simp [Tr.flat, hy])) hb
        exact one_in2 hf (hx x (by simp [Tr.flat])) hat (a := [u, w]) (fun q hq => by
          simp only [List.mem_cons, List.not_mem_nil, or_false] at hq
          rcases hq with rfl | rfl
          · exact h1
          · exact h2) h
  | .n3 x a b c, v, hx, h => by
    simp only [Tr.ev] at h
    cases ha : a.ev (oneX fs at_) with
    | error e => rw [ha] at h; cases h
    | ok u =>
      rw [ha] at h
      simp only at h
      have h1 := tree_in2 hf hat (fun y hy => hx y (by simp [Tr.flat, hy])) ha
      cases hb : b.ev (oneX fs at_) with
      | error e => rw [hb] at h; cases h
      | ok w =>
        rw [hb] at h
        simp only at h
        have h2 := tree_in2 hf hat (fun y hy => hx y (by simp [Tr.flat, hy])) hb
        cases hc : c.ev (oneX fs at_) with
        | error e => rw [hc] at h; cases h
        | ok s =>
          rw [hc] at h
          have h3 := tree_in2 hf hat (fun y hy => hx y (by simp [Tr.flat, hy])) hc
          exact one_in2 hf (hx x (by simp [Tr.flat])) hat (a := [u, w, s]) (fun q hq => by
            simp only [List.mem_cons, List.not_mem_nil, or_false] at hq
            rcases hq with rfl | rfl | rfl
            · exact h1
            · exact h2
            · exact h3) h
end Go.Proofs.YtimpjdbhalnofaaGreatDoor
end
section
namespace Go.Proofs.YtimpjdbhalnofaaGreatDoor
open Go Go.Lg Go.Lg.Fml Go.Lg.Fld Go.Lg.Arith Go.Lg.Sg
set_option maxRecDepth 100000
variable (X : Nat → Option Obj)
end Go.Proofs.YtimpjdbhalnofaaGreatDoor
end
section
namespace Go.Proofs.YtimpjdbhalnofaaGreatDoor
open Go Go.Lg Go.Lg.Arith Go.Lg.Dec Go.Lg.Dig Go.RowKit
variable (X : Nat → Option Obj)
end Go.Proofs.YtimpjdbhalnofaaGreatDoor
end
section
namespace Go.Proofs.YtimpjdbhalnofaaGreatDoor
open Go Go.Lg Go.Lg.Arith Go.Lg.Dec Go.Lg.Dig Go.RowKit
variable (X : Nat → Option Obj)
end Go.Proofs.YtimpjdbhalnofaaGreatDoor
end
section
namespace Go.Lg
open Go Go.RowKit Go.Lg.Dig
end Go.Lg
namespace Go.Proofs.YtimpjdbhalnofaaGreatDoor
open Go Go.Lg Go.Lg.Arith Go.Lg.Dec Go.Lg.Dig Go.RowKit
variable (X : Nat → Option Obj)
instance : ArrB Tryz.prog 158 (List.replicate 40 (.int .i64 0)) 1 := ⟨by kernel_rfl⟩
end Go.Proofs.YtimpjdbhalnofaaGreatDoor
end
section
namespace Go.Proofs.YtimpjdbhalnofaaGreatDoor
open Go Go.Lg Go.Lg.Arith Go.Lg.Dec Go.Lg.Dig Go.RowKit
variable (X : Nat → Option Obj)
structure Half (M n : Nat) (s : List UInt8) : Prop where
  more : s = [] ∨ n ≠ 0 → Lib.decDigits M = Lib.decDigits n ++ s
  done : s ≠ [] → n = 0 → Lib.decDigits M = s
theorem Half.next {M n : Nat} {s : List UInt8} (h : Half M n s) (hc : s = [] ∨ n ≠ 0) : Half M (n / 10) (UInt8.ofNat (48 + n % 10) :: s) := by
  have hm := h.more hc
  by_cases h10 : n < 10
  · have e : Lib.decDigits n = [UInt8.ofNat (48 + n % 10)] := by rw [Lib.decDigits_one h10, Nat.mod_eq_of_lt h10]
    rw [e] at hm
    exact ⟨fun hq => by rcases hq with hq | hq; (cases hq); (exact absurd (show n / 10 = 0 by omega) hq), fun _ _ => hm⟩
  · have e : Lib.decDigits n = Lib.decDigits (n / 10) ++ [UInt8.ofNat (48 + n % 10)] := by
      conv => lhs; rw [Lib.decDigits, dif_neg h10]
    rw [e, List.append_assoc] at hm
    exact ⟨fun _ => hm, fun _ hq => by omega⟩
theorem Half.len {M n : Nat} {s : List UInt8} (h : Half M n s) : s.length ≤ (Lib.decDigits M).length := by
  by_cases hc : s = [] ∨ n ≠ 0
  · rw [h.more hc, List.length_append]; omega
  · rw [h.done (fun e => hc (.inl e)) (Classical.byContradiction fun e => hc (.inr e))]; exact Nat.le_refl _
end Go.Proofs.YtimpjdbhalnofaaGreatDoor
end
section
namespace Go.Lg.Fml
end Go.Lg.Fml
namespace Go.Proofs.YtimpjdbhalnofaaGreatDoor
open Go Go.Lg Go.Lg.Fml Go.Lg.Fld Go.Lg.Arith Go.Lg.Sg
set_option maxRecDepth 100000
variable (X : Nat → Option Obj)
instance : ArrB Tryz.prog 121 (List.replicate 18 (.string ⟨#[]⟩)) 1 := ⟨by kernel_rfl⟩
theorem word_len (op : Int) : (wordX op).length ≤ 5 := by
  have key : ∀ (c : Prop) [Decidable c] (a b : List UInt8), a.length ≤ 5 → b.length ≤ 5 → (if c then a else b).length ≤ 5 := fun c _ a b h1 h2 => by
    by_cases h : c
    · rw [if_pos h]; exact h1
    · rw [if_neg h]; exact h2
  unfold wordX
  repeat (refine key _ _ _ (by decide) ?_)
  decide
theorem joinS_len : ∀ {l : List (List UInt8)} {n : Nat}, l.length ≤ 3 → (l.map List.length).sum ≤ n → (joinS l).length ≤ n + 2
  | [], n, _, h => by simp [joinS]
  | [a], n, _, h => by simp [joinS] at h ⊢; omega
  | [a, b], n, _, h => by simp [joinS] at h ⊢; omega
  | [a, b, c], n, _, h => by simp [joinS] at h ⊢; omega
  | _ :: _ :: _ :: _ :: _, n, hl, h => by simp at hl
theorem textQ_len {z : Int} (h : R127 z) : (textQ z).length ≤ 40 := by
  have h1 : (Lib.decDigits (mg z).toNat).length ≤ 39 := by
    rw [Lib.decDigits_length]
    have := mg_lim h
    exact Dec.nDigits_le 38 _ (by omega)
  unfold textQ
  split
  · rw [List.length_cons]; omega
  · omega
theorem leafS_len {x : Ins} (hx : okI x = true) (h2 : In2 x.k.2) : (leafS x).length ≤ 50 := by
  obtain ⟨_, hg, ha, hb⟩ := okI_facts hx
  unfold leafS dg1
  have la := Lib.itoa_length_le x.a (by omega) (by omega)
  have lb := Lib.itoa_length_le x.b (by omega) (by omega)
  have hq := textQ_len (zv_in h2 hg).1
  split
  · exact Nat.le_trans hq (by decide)
  · split
    · simp only [List.length_append, List.length_singleton]; omega
    · split
      · simp only [List.length_append, List.length_singleton]; omega
      · simp
end Go.Proofs.YtimpjdbhalnofaaGreatDoor
end
section
namespace Go.Proofs.YtimpjdbhalnofaaGreatDoor
open Go Go.Lg Go.Lg.Fml Go.Lg.Fld Go.Lg.Arith Go.Lg.Sg
set_option maxRecDepth 100000
variable (X : Nat → Option Obj)
end Go.Proofs.YtimpjdbhalnofaaGreatDoor
end
