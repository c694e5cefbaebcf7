/- A piece of a proof over this program: contracts of its functions, and a logic to prove them by. -/
import Derived.Test.YtfmohdliifmmfaaW4b
import Derived.Test.YtfmohdliifmmfaaWD
namespace Go.Proofs.Ytfmohdliifmmfaa
open Go Go.Lg Go.Lg.Arith Go.Lg.Dig Go.RowKit
variable (X : Nat → Option Obj)
abbrev LN (b : Bool) (f : Nat → Nat) : LV := .sv (.agg (num b f))
abbrev SN (b : Bool) (f : Nat → Nat) : SV := .agg (num b f)
/-- the digits of two words -/
def two (l h i : Nat) (j : Nat) : Nat := if j < i then dg l j else if 8 ≤ j ∧ j < 8 + i then dg h (j - 8) else 0
theorem two_dg {l h : Nat} (hl : l < 18446744073709551616) (hh : h < 18446744073709551616) (j : Nat) : two l h 8 j = dg (h * 18446744073709551616 + l) j := by
  have e64 : 18446744073709551616 = 256 ^ 8 := by decide
  unfold two dg
  by_cases h1 : j < 8
  · rw [if_pos h1]
    obtain ⟨k, hk⟩ : ∃ k, 8 = j + 1 + k := ⟨7 - j, by omega⟩
    have hp := pow_pos j
    rw [e64, hk, Nat.pow_add, Nat.pow_succ]
    generalize 256 ^ k = q
    generalize 256 ^ j = p at *
    rw [show h * (p * 256 * q) + l = l + p * (256 * (q * h)) by rw [Nat.mul_comm h, Nat.mul_assoc, Nat.mul_assoc, Nat.add_comm], Nat.add_mul_div_left _ _ hp]
    omega
  · rw [if_neg h1]
    obtain ⟨k, rfl⟩ : ∃ k, j = 8 + k := ⟨j - 8, by omega⟩
    have e : (h * 18446744073709551616 + l) / 256 ^ (8 + k) = h / 256 ^ k := by
      rw [Nat.pow_add, ← e64, ← Nat.div_div_eq_div_mul]
      congr 1
      omega
    rw [e]
    by_cases h2 : 8 + k < 16
    · rw [if_pos ⟨by omega, by omega⟩, show 8 + k - 8 = k by omega]
    · rw [if_neg (by omega)]
      have : h < 256 ^ k := Nat.lt_of_lt_of_le hh (by rw [e64]; exact Nat.pow_le_pow_right (by decide) (by omega))
      rw [Nat.div_eq_of_lt this]
theorem From_raw (b : Bool) (h l : Nat) (hh : h < 18446744073709551616) (hl : l < 18446744073709551616) :
    PSpec Try.prog X 40 [Li b (h : Nat) (l : Nat)] (LN b (two l h 8)) := by
  refine PSpec.intro Try.func40 rfl (by kernel_rfl) rfl (by kernel_rfl) ?_
  intro C
  (refine LWP.seq <| LWP.region (by kernel_rfl) <| K.box rfl rfl rfl .plain <| K.alloc rfl .plain ?_; refine RunK.nil <| LWP.seq <| LWP.region (by kernel_rfl) <| kfa rfl rfl ?_; refine kl1 rfl rfl rfl <| K.build rfl rfl (by exact rfl) (by exact rfl) .plain ?_; refine K.alloc rfl .plain ?_; refine K.storeAll rfl rfl rfl rfl rfl rfl .plain ?_; refine RunK.nil <| LWP.seq <| LWP.region (by kernel_rfl) <| kfa rfl rfl ?_; refine kl1 rfl rfl rfl <| kas rfl <| RunK.nil <| LWP.seq <| LWP.region (by kernel_rfl) <| kfa rfl rfl ?_; refine kl1 rfl rfl rfl <| kas rfl <| RunK.nil <| LWP.seq <| LWP.seq <| LWP.region (by kernel_rfl) <| kas rfl <| RunK.nil <| LWP.block ?_)
  refine LWP.loop (fun m σ => ∃ i : Nat, i ≤ 8 ∧ m = 8 - i ∧ σ = ⟨[(2, .sv (.one (.ptr 2 0))), (3, .sv (.one (.ptr 3 0))), (4, Ln .u64 ((h / 256 ^ i : Nat) : Int)), (5, Ln .u64 ((l / 256 ^ i : Nat) : Int)), (6, Ln .i64 (i : Nat))], [(2, some { elem := 70, cells := num false (fun _ => 0) }), (3, some { elem := 70, cells := num b (two l h i) })], X⟩) 8
    ⟨_, Le.of (by exact ⟨rfl, rfl, by rw [Nat.pow_zero, Nat.div_one]; rfl, by rw [Nat.pow_zero, Nat.div_one]; rfl, rfl, trivial⟩) (by exact ⟨rfl, rfl, trivial⟩) (by exact rfl) (by exact rfl) (by exact rfl), 0, by omega, rfl, rfl⟩ ?_
  rintro m σ ⟨i, hi, rfl, rfl⟩
  by_cases h8 : i < 8
  · have bl : l / 256 ^ i ≤ l := Nat.div_le_self _ _
    have bh : h / 256 ^ i ≤ h := Nat.div_le_self _ _
    have el : dg l i = l / 256 ^ i % 256 := rfl
    have eh : dg h i = h / 256 ^ i % 256 := rfl
    have nl := div_div l i
    have nh := div_div h i
    have step : num b (fun j => if j = 8 + i then dg h i else if j = i then dg l i else two l h i j) = num b (two l h (i + 1)) := by
      refine num_congr fun j _ => ?_
      unfold two
      by_cases c1 : j = i
      · subst c1
        rw [if_neg (by omega), if_pos rfl, if_pos (by omega)]
      · by_cases c2 : j = 8 + i
        · subst c2
          rw [if_pos rfl, if_neg (by omega), if_pos ⟨by omega, by omega⟩, show 8 + i - 8 = i by omega]
        · rw [if_neg c2, if_neg c1]
          simp only [show (j < i + 1 ↔ j < i) by omega, show (8 ≤ j ∧ j < 8 + (i + 1) ↔ 8 ≤ j ∧ j < 8 + i) by omega]
    generalize hu' : l / 256 ^ (i + 1) = u' at *
    generalize hv' : h / 256 ^ (i + 1) = v' at *
    generalize l / 256 ^ i = u at *
    generalize h / 256 ^ i = v at *
    have wl : IntKind.i64.wrap ((u : Int) % 256) = ((dg l i : Nat) : Int) := by rw [wrap_i64 (by omega)]; omega
    have wh : IntKind.i64.wrap ((v : Int) % 256) = ((dg h i : Nat) : Int) := by rw [wrap_i64 (by omega)]; omega
    have ql : IntKind.u64.wrap ((u : Int).tdiv 256) = (u' : Int) := by rw [quo_u64 (by omega) (by omega)]; omega
    have qh : IntKind.u64.wrap ((v : Int).tdiv 256) = (v' : Int) := by rw [quo_u64 (by omega) (by omega)]; omega
    (refine LWP.seq <| LWP.seq <| LWP.region (by kernel_rfl) <| kmv rfl <| klt rfl rfl (decide_eq_true (by omega)) <| RunK.nil <| LWP.condT rfl ?_; refine LWP.skip ?_; refine LWP.seq <| LWP.block <| LWP.seq <| LWP.region (by kernel_rfl) <| kmv rfl <| kmv rfl <| K.rem rfl rfl (by omega) (rem_pos (by omega)) .plain <| kcv rfl wl ?_; refine kfa rfl rfl ?_; refine K.indexArr rfl rfl (by omega) rfl .plain ?_; refine K.storeOne rfl rfl rfl rfl (num_blt (i := i) (by omega)) (num_set (i := i) (d := dg l i) (by omega)) .plain <| RunK.nil <| LWP.seq <| LWP.region (by kernel_rfl) <| kmv rfl <| kad rfl rfl (wrap_i64 (by omega)) <| kmv rfl <| K.rem rfl rfl (by omega) (rem_pos (by omega)) .plain <| kcv rfl wh ?_; refine kfa rfl rfl ?_; refine K.indexArr rfl rfl (by omega) rfl .plain ?_; refine K.storeOne rfl rfl rfl rfl (num_blt (i := 8 + i) (by omega)) (num_set (i := 8 + i) (d := dg h i) (by omega)) .plain <| RunK.nil <| LWP.seq <| LWP.region (by kernel_rfl) <| kmv rfl <| K.quo rfl rfl (by omega) ql .plain <| kas rfl <| RunK.nil <| LWP.region (by kernel_rfl) <| kmv rfl <| K.quo rfl rfl (by omega) qh .plain <| kas rfl <| RunK.nil <| LWP.region (by kernel_rfl) ?_; refine kmv rfl <| kad rfl rfl (wrap_i64 (by omega)) <| kas rfl <| RunK.nil ?_)
    exact ⟨_, _, by omega, Le.of (by exact ⟨rfl, rfl, by rw [hv']; rfl, by rw [hu']; rfl, rfl, trivial⟩) (by exact ⟨rfl, by rw [← step]; rfl, trivial⟩) (by exact rfl) (by exact rfl) (by exact rfl), i + 1, by omega, rfl, rfl⟩
  · have e : i = 8 := by omega
    subst e
    (refine LWP.seq <| LWP.seq <| LWP.region (by kernel_rfl) <| kmv rfl <| klt rfl rfl (decide_eq_false (by omega)) <| RunK.nil <| LWP.condF rfl ?_; refine LWP.exit <| LWP.seq <| LWP.region (by kernel_rfl) <| K.loadAll rfl rfl rfl .plain ?_; refine K.storeAll rfl rfl rfl rfl rfl rfl .plain ?_; refine RunK.nil <| LWP.ret ?_)
    exact ⟨[_], ⟨⟨_, _, rfl, rfl, rfl, .inl ⟨AggT.h, rfl⟩⟩, trivial⟩, rfl⟩
end Go.Proofs.Ytfmohdliifmmfaa
