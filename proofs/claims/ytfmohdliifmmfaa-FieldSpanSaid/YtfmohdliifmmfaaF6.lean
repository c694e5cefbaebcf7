/- A piece of a proof over this program: contracts of its functions, and a logic to prove them by. -/
import Derived.Test.YtfmohdliifmmfaaF5
import Derived.Test.YtfmohdliifmmfaaW6
namespace Go.Lg.Fld
open Go Go.Lg
theorem span_all (k : Int) : k ≠ 1 → kA k - -kB k = ((256 ^ kW k : Nat) : Int) - 1 := by
  intro h1
  rcases kcases k with rfl | rfl | rfl | rfl | rfl | rfl | rfl | rfl | rfl | rfl | h
  · exact absurd rfl h1
  all_goals first | (rw [kW_no h, kB_no h, kA_no h]; decide) | decide
end Go.Lg.Fld
namespace Go.Proofs.Ytfmohdliifmmfaa
open Go Go.Lg Go.Lg.Fld
set_option maxRecDepth 100000
variable (X : Nat → Option Obj)
/-- the cells of a number that is in form -/
abbrev cQ (z : Int) : List CV := [.val (.bool (decide (z < 0))), .val (.int .u64 (mg z / 18446744073709551616)), .val (.int .u64 (mg z % 18446744073709551616))]
set_option maxHeartbeats 1600000 in
theorem span_law (k : Int) : PSpec Try.prog X 7 [Ln .i64 k] (Lb true) := by
  have hw := fawake_spec X
  have hk := kfacts k
  have hG := Greatest_spec X k
  have hL := Least_spec X k
  have hS := fSize_spec X k
  have hD := Sub_q X (kA k) (-kB k) (kA_R k) (kBn_R k)
  rw [addR_in (by unfold R127; omega)] at hD
  have o0 := Of_spec X 0 (by omega)
  have o1 := Of_spec X 1 (by omega)
  have o2 := Of_spec X 256 (by omega)
  have o3 := Of_spec X 255 (by omega)
  have hspan := span_all k
  have hone : k = 1 → kA k - -kB k = 1 := by rintro rfl; decide
  generalize kA k - -kB k = d at *
  refine PSpec.intro Try.func7 rfl (by kernel_rfl) rfl rfl ?_
  intro C
  (refine LWP.seq <| LWP.region (by kernel_rfl) <| kas rfl <| RunK.nil <| LWP.seq <| LWP.seq <| LWP.region (by kernel_rfl) <| kca rfl rfl (hw) <| K.not rfl rfl .plain <| RunK.nil <| LWP.condF rfl ?_; refine LWP.skip ?_; refine LWP.seq <| LWP.region (by kernel_rfl) <| kmv rfl <| kca rfl rfl (hG) <| kmv rfl <| kca rfl rfl (hL) <| kca rfl rfl (hD) <| kmv rfl <| kex rfl rfl <| kex rfl rfl <| K.alloc rfl .plain ?_; refine K.storeAll rfl rfl rfl rfl rfl rfl .plain ?_; refine kas rfl <| RunK.nil <| LWP.seq <| LWP.region (by kernel_rfl) <| kca rfl rfl (o0) <| K.alloc rfl .plain ?_; refine K.storeAll rfl rfl rfl rfl rfl rfl .plain ?_; refine RunK.nil <| LWP.seq <| LWP.seq <| LWP.region (by kernel_rfl) <| kas rfl <| RunK.nil <| LWP.block ?_)
  refine LWP.loop (fun m σ => ∃ (i : Nat) (z : Int), i ≤ kW k ∧ m = kW k - i ∧ z = ((256 ^ i : Nat) : Int) - 1 ∧ σ = ⟨[(0, Ln .i64 k), (3, .sv (.one (.ptr 3 0))), (4, Ln .i64 0), (5, .sv (.one (.ptr 5 0))), (6, Ln .i64 (i : Nat))], [(3, some { elem := 25, cells := cQ d }), (5, some { elem := 25, cells := cQ z })], X⟩) (kW k)
    ⟨_, Le.of (by exact ⟨rfl, rfl, rfl, rfl, rfl, trivial⟩) (by exact ⟨rfl, rfl, trivial⟩) (by exact rfl) (by exact rfl) (by exact rfl), 0, 0, by omega, by omega, by decide, rfl⟩ ?_
  rintro m σ ⟨i, z, hi, rfl, hz, rfl⟩
  by_cases h : i < kW k
  · have hp : 256 ^ i * 256 = 256 ^ (i + 1) := (Nat.pow_succ ..).symm
    have hle : 256 ^ (i + 1) ≤ 256 ^ 8 := Nat.pow_le_pow_right (by decide) (by omega)
    have hpos : 0 < 256 ^ i := Nat.pow_pos (by decide)
    rw [show (256 : Nat) ^ 8 = 18446744073709551616 by decide] at hle
    have hM := Mul_q X z 256 (by unfold R127; omega) (by unfold R127; omega)
    rw [addR_in (by unfold R127; omega)] at hM
    have hA := Add_q X (z * 256) 255 (by unfold R127; omega) (by unfold R127; omega)
    rw [addR_in (by unfold R127; omega)] at hA
    (refine LWP.seq <| LWP.seq <| LWP.region (by kernel_rfl) <| kmv rfl <| kmv rfl <| kca rfl rfl (hS) <| klt rfl rfl (decide_eq_true (by omega)) <| RunK.nil <| LWP.condT rfl ?_; refine LWP.skip ?_; refine LWP.seq <| LWP.block <| LWP.seq <| LWP.draws mixed (by kernel_rfl) <| K.loadAll rfl rfl rfl .plain ?_; refine kca rfl rfl o2 <| kca rfl rfl (hM) <| kmv rfl <| kex rfl rfl <| kex rfl rfl <| K.storeAll rfl rfl rfl rfl rfl rfl .plain ?_; refine RunK.nil <| And.intro (by kernel_rfl) ?_; refine LWP.draws mixed (by kernel_rfl) <| K.loadAll rfl rfl rfl .plain ?_; refine kca rfl rfl o3 <| kca rfl rfl (hA) <| kmv rfl <| kex rfl rfl <| kex rfl rfl <| K.storeAll rfl rfl rfl rfl rfl rfl .plain ?_; refine RunK.nil <| And.intro (by kernel_rfl) ?_; refine LWP.region (by kernel_rfl) <| kmv rfl <| kad rfl rfl (wrap_i64 (by omega)) <| kas rfl <| RunK.nil ?_)
    exact ⟨_, _, by omega, Le.of (by exact ⟨rfl, rfl, rfl, rfl, rfl, trivial⟩) (by exact ⟨rfl, rfl, trivial⟩) (by exact rfl) (by exact rfl) (by exact rfl), i + 1, z * 256 + 255, by omega, rfl, by omega, rfl⟩
  · have e : i = kW k := by omega
    subst e
    by_cases h1 : k = 1
    · have hd := hone h1
      subst hd h1
      (refine LWP.seq <| LWP.seq <| LWP.region (by kernel_rfl) <| kmv rfl <| kmv rfl <| kca rfl rfl (hS) <| klt rfl rfl (decide_eq_false (by omega)) <| RunK.nil <| LWP.condF rfl ?_; refine LWP.exit <| LWP.seq <| LWP.seq <| LWP.region (by kernel_rfl) <| kmv rfl <| keq rfl rfl (beq_iff_eq.2 (by omega)) <| RunK.nil <| LWP.condT rfl ?_; refine LWP.region (by kernel_rfl) <| kca rfl rfl (o1) <| K.storeAll rfl rfl rfl rfl rfl rfl .plain ?_; refine RunK.nil <| LWP.seq <| LWP.region (by kernel_rfl) <| kmv rfl <| keq rfl rfl (beq_iff_eq.2 (by omega)) <| kmv rfl <| K.loadAll rfl rfl rfl (.taken rfl rfl) ?_; refine K.loadAll rfl rfl rfl (.taken rfl rfl) ?_; refine K.aggEq rfl rfl rfl rfl (by kernel_rfl) (eqQ 1 1 true rfl) (.inl ⟨rfl, rfl⟩) (.taken rfl rfl) ?_; refine kpt rfl rfl <| kas rfl <| RunK.nil <| LWP.ret ?_)
      exact ⟨[_], ⟨rfl, trivial⟩, rfl⟩
    · have hd := hspan h1
      rw [← hz] at hd
      subst hd
      (refine LWP.seq <| LWP.seq <| LWP.region (by kernel_rfl) <| kmv rfl <| kmv rfl <| kca rfl rfl (hS) <| klt rfl rfl (decide_eq_false (by omega)) <| RunK.nil <| LWP.condF rfl ?_; refine LWP.exit <| LWP.seq <| LWP.seq <| LWP.region (by kernel_rfl) <| kmv rfl <| keq rfl rfl (beq_eq_false_iff_ne.2 (by omega)) <| RunK.nil <| LWP.condF rfl ?_; refine LWP.skip ?_; refine LWP.seq <| LWP.region (by kernel_rfl) <| kmv rfl <| keq rfl rfl (beq_iff_eq.2 (by omega)) <| kmv rfl <| K.loadAll rfl rfl rfl (.taken rfl rfl) ?_; refine K.loadAll rfl rfl rfl (.taken rfl rfl) ?_; refine K.aggEq rfl rfl rfl rfl (by kernel_rfl) (eqQ d d true (decide_eq_true rfl)) (.inl ⟨rfl, rfl⟩) (.taken rfl rfl) ?_; refine kpt rfl rfl <| kas rfl <| RunK.nil <| LWP.ret ?_)
      exact ⟨[_], ⟨rfl, trivial⟩, rfl⟩
end Go.Proofs.Ytfmohdliifmmfaa
