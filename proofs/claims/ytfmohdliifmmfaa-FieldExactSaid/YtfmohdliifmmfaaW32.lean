/- A piece of a proof over this program: contracts of its functions, and a logic to prove them by. -/
import Derived.Test.YtfmohdliifmmfaaW31
namespace Go.Proofs.Ytfmohdliifmmfaa
open Go Go.Lg Go.Lg.Arith Go.Lg.Dig Go.RowKit
variable (X : Nat → Option Obj)
theorem From_spec (b : Bool) (n : Nat) (hn : n < 340282366920938463463374607431768211456) : PSpec Try.prog X 40 [LI b (n : Nat)] (LN b (dg n)) := by
  have h := From_raw X b (n / 18446744073709551616) (n % 18446744073709551616) (by omega) (by omega)
  have e : num b (two (n % 18446744073709551616) (n / 18446744073709551616) 8) = num b (dg n) := num_congr fun j _ => by
    rw [two_dg (by omega) (by omega), show n / 18446744073709551616 * 18446744073709551616 + n % 18446744073709551616 = n by omega]
  unfold LN at h ⊢
  rw [e] at h
  exact h
abbrev T40 : Nat := 256 ^ 40
theorem cmp_facts_0 (x y : Int) : ∃ r, cmpI x y = r ∧ (x < y → r = -1) ∧ (x = y → r = 0) ∧ (y < x → r = 1) := by
  refine ⟨_, rfl, ?_, ?_, ?_⟩ <;> intro h <;> unfold cmpI
  · rw [if_pos h]
  · rw [if_neg (by omega), if_neg (by omega)]
  · rw [if_neg (by omega), if_pos h]
theorem Size_spec (a b : Bool) (M N : Nat) (hM : M < T40) (hN : N < T40) (r : Int) (hr : cmpI M N = r) :
    PSpec Try.prog X 39 [LN a (dg M), LN b (dg N)] (Ln .i64 r) := by
  refine PSpec.intro Try.func39 rfl (by kernel_rfl) rfl rfl ?_
  intro C
  (refine LWP.seq <| LWP.region (by kernel_rfl) <| K.box rfl rfl rfl .plain <| K.box rfl rfl rfl .plain <| kas rfl <| RunK.nil <| LWP.seq <| LWP.seq <| LWP.region (by kernel_rfl) <| kas rfl <| RunK.nil <| LWP.block ?_)
  refine LWP.loop (fun m σ => ∃ z : Int, m ≤ 40 ∧ z = (m : Int) - 1 ∧ M / 256 ^ m = N / 256 ^ m ∧ σ = ⟨[(2, .sv (.one (.ptr 2 0))), (3, .sv (.one (.ptr 3 0))), (5, Ln .i64 z)], [(2, some { elem := 70, cells := num a (dg M) }), (3, some { elem := 70, cells := num b (dg N) })], X⟩) 40
    ⟨_, Le.of (by exact ⟨rfl, rfl, rfl, trivial⟩) (by exact ⟨rfl, rfl, trivial⟩) (by exact rfl) (by exact rfl) (by exact rfl), 39, by omega, rfl, by rw [Nat.div_eq_of_lt hM, Nat.div_eq_of_lt hN], rfl⟩ ?_
  rintro m σ ⟨z, hm, rfl, hq, rfl⟩
  cases m with
  | zero =>
    have e : M = N := by simpa using hq
    have hr' : r = 0 := by rw [← hr, e]; unfold cmpI; rw [if_neg (by omega), if_neg (by omega)]
    (refine LWP.seq <| LWP.seq <| LWP.region (by kernel_rfl) <| kmv rfl <| K.geq rfl rfl (decide_eq_false (by omega)) .plain <| RunK.nil <| LWP.condF rfl ?_; refine LWP.exit <| LWP.seq <| LWP.region (by kernel_rfl) <| kas rfl <| RunK.nil <| LWP.ret ?_)
    exact ⟨[_], ⟨rfl, trivial⟩, by rw [hr']; rfl⟩
  | succ i =>
    rw [show (((i + 1 : Nat) : Int) - 1) = (i : Int) by omega]
    have hi : i < 40 := by omega
    rcases Nat.lt_trichotomy (dg M i) (dg N i) with h | h | h
    · have hlt := lt_digit hq h
      have hr' : r = -1 := by rw [← hr]; unfold cmpI; rw [if_pos (by omega)]
      (refine LWP.seq <| LWP.seq <| LWP.region (by kernel_rfl) <| kmv rfl <| K.geq rfl rfl (decide_eq_true (by omega)) .plain <| RunK.nil <| LWP.condT rfl ?_; refine LWP.skip ?_; refine LWP.seq <| LWP.block <| LWP.seq <| LWP.seq <| LWP.draws mixed (by kernel_rfl) <| kmv rfl <| kfa rfl rfl ?_; refine K.indexArr rfl rfl (by omega) rfl .plain ?_; refine kl1 rfl rfl (num_at (i := i) hi) <| kmv rfl <| kfa rfl rfl ?_; refine K.indexArr rfl rfl (by omega) rfl .plain ?_; refine kl1 rfl rfl (num_at (i := i) hi) <| K.gtr rfl rfl (decide_eq_false (by omega)) .plain <| RunK.nil <| And.intro (by kernel_rfl) ?_; refine LWP.condF rfl ?_; refine LWP.skip ?_; refine LWP.seq <| LWP.draws mixed (by kernel_rfl) <| kmv rfl <| kfa rfl rfl ?_; refine K.indexArr rfl rfl (by omega) rfl .plain ?_; refine kl1 rfl rfl (num_at (i := i) hi) <| kmv rfl <| kfa rfl rfl ?_; refine K.indexArr rfl rfl (by omega) rfl .plain ?_; refine kl1 rfl rfl (num_at (i := i) hi) <| klt rfl rfl (decide_eq_true (by omega)) <| RunK.nil <| And.intro (by kernel_rfl) ?_; refine LWP.condT rfl ?_; refine LWP.seq <| LWP.region (by kernel_rfl) <| kas rfl <| RunK.nil <| LWP.ret ?_)
      exact ⟨[_], ⟨rfl, trivial⟩, by rw [hr']; rfl⟩
    · have hq' : M / 256 ^ i = N / 256 ^ i := by rw [div_next M i, div_next N i, hq, h]
      (refine LWP.seq <| LWP.seq <| LWP.region (by kernel_rfl) <| kmv rfl <| K.geq rfl rfl (decide_eq_true (by omega)) .plain <| RunK.nil <| LWP.condT rfl ?_; refine LWP.skip ?_; refine LWP.seq <| LWP.block <| LWP.seq <| LWP.seq <| LWP.draws mixed (by kernel_rfl) <| kmv rfl <| kfa rfl rfl ?_; refine K.indexArr rfl rfl (by omega) rfl .plain ?_; refine kl1 rfl rfl (num_at (i := i) hi) <| kmv rfl <| kfa rfl rfl ?_; refine K.indexArr rfl rfl (by omega) rfl .plain ?_; refine kl1 rfl rfl (num_at (i := i) hi) <| K.gtr rfl rfl (decide_eq_false (by omega)) .plain <| RunK.nil <| And.intro (by kernel_rfl) ?_; refine LWP.condF rfl ?_; refine LWP.skip ?_; refine LWP.seq <| LWP.draws mixed (by kernel_rfl) <| kmv rfl <| kfa rfl rfl ?_; refine K.indexArr rfl rfl (by omega) rfl .plain ?_; refine kl1 rfl rfl (num_at (i := i) hi) <| kmv rfl <| kfa rfl rfl ?_; refine K.indexArr rfl rfl (by omega) rfl .plain ?_; refine kl1 rfl rfl (num_at (i := i) hi) <| klt rfl rfl (decide_eq_false (by omega)) <| RunK.nil <| And.intro (by kernel_rfl) ?_; refine LWP.condF rfl ?_; refine LWP.skip ?_; refine LWP.region (by kernel_rfl) <| kmv rfl <| K.sub rfl rfl (wrap_i64 (by omega)) .plain <| kas rfl <| RunK.nil ?_)
      exact ⟨i, _, by omega, Le.of (by exact ⟨rfl, rfl, rfl, trivial⟩) (by exact ⟨rfl, rfl, trivial⟩) (by exact rfl) (by exact rfl) (by exact rfl), _, by omega, rfl, hq', rfl⟩
    · have hlt := lt_digit hq.symm h
      have hr' : r = 1 := by rw [← hr]; unfold cmpI; rw [if_neg (by omega), if_pos (by omega)]
      (refine LWP.seq <| LWP.seq <| LWP.region (by kernel_rfl) <| kmv rfl <| K.geq rfl rfl (decide_eq_true (by omega)) .plain <| RunK.nil <| LWP.condT rfl ?_; refine LWP.skip ?_; refine LWP.seq <| LWP.block <| LWP.seq <| LWP.seq <| LWP.draws mixed (by kernel_rfl) <| kmv rfl <| kfa rfl rfl ?_; refine K.indexArr rfl rfl (by omega) rfl .plain ?_; refine kl1 rfl rfl (num_at (i := i) hi) <| kmv rfl <| kfa rfl rfl ?_; refine K.indexArr rfl rfl (by omega) rfl .plain ?_; refine kl1 rfl rfl (num_at (i := i) hi) <| K.gtr rfl rfl (decide_eq_true (by omega)) .plain <| RunK.nil <| And.intro (by kernel_rfl) ?_; refine LWP.condT rfl ?_; refine LWP.seq <| LWP.region (by kernel_rfl) <| kas rfl <| RunK.nil <| LWP.ret ?_)
      exact ⟨[_], ⟨rfl, trivial⟩, by rw [hr']; rfl⟩
/-- the lower digits -/
def low (n i j : Nat) : Nat := if j < i then dg n j else 0
theorem low_step (b : Bool) (n i : Nat) : num b (fun j => if j = i then dg n i else low n i j) = num b (low n (i + 1)) := num_congr fun j _ => by
  unfold low
  by_cases c : j = i
  · subst c; rw [if_pos rfl, if_pos (by omega)]
  · rw [if_neg c]
    simp only [show (j < i + 1 ↔ j < i) by omega]
theorem low_all (b : Bool) (n : Nat) : num b (low n 40) = num b (dg n) := num_congr fun j hj => by unfold low; rw [if_pos hj]
end Go.Proofs.Ytfmohdliifmmfaa
