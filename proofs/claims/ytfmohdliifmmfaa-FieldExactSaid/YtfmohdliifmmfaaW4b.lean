/- A piece of a proof over this program: contracts of its functions, and a logic to prove them by. -/
import Derived.Test.YtfmohdliifmmfaaW4
namespace Go.Proofs.Ytfmohdliifmmfaa
open Go Go.Lg Go.Lg.Arith Go.RowKit
variable (X : Nat → Option Obj)
theorem mg_nonneg (z : Int) : 0 ≤ mg z := by unfold mg; split <;> omega
theorem OfWord_spec (n : Int) : PSpec Try.prog X 34 [Ln .u64 n] (.sv (.agg [.val (.bool false), .val (.int .u64 0), .val (.int .u64 n)])) := by
  refine PSpec.intro Try.func34 rfl (by kernel_rfl) rfl rfl ?_
  intro C
  (refine LWP.seq <| LWP.region (by kernel_rfl) <| K.alloc rfl .plain ?_; refine RunK.nil <| LWP.seq <| LWP.region (by kernel_rfl) <| kmv rfl <| K.build rfl rfl (by exact rfl) (by exact nl3 rfl rfl rfl rfl) .plain ?_; refine K.storeAll rfl rfl rfl rfl rfl rfl .plain ?_; refine RunK.nil <| LWP.ret ?_)
  exact ⟨[_], ⟨⟨_, _, rfl, rfl, rfl, .inl ⟨AggT.h, rfl⟩⟩, trivial⟩, rfl⟩
theorem Of_spec (n : Int) (hn : -9223372036854775808 ≤ n ∧ n < 9223372036854775808) : PSpec Try.prog X 27 [Ln .i64 n] (LQ n) := by
  refine PSpec.intro Try.func27 rfl (by kernel_rfl) rfl rfl ?_
  intro C
  by_cases c : n < 0
  · have w1 : IntKind.u64.wrap n = n + 18446744073709551616 := by rw [IntKind.wrap_u64]; omega
    have w2 : IntKind.u64.wrap (0 - (n + 18446744073709551616)) = -n := by rw [IntKind.wrap_u64]; omega
    (refine LWP.seq <| LWP.region (by kernel_rfl) <| K.alloc rfl .plain ?_; refine RunK.nil <| LWP.seq <| LWP.seq <| LWP.region (by kernel_rfl) <| kmv rfl <| klt rfl rfl (decide_eq_true (by omega)) <| RunK.nil <| LWP.condT rfl ?_; refine LWP.seq <| LWP.region (by kernel_rfl) <| kmv rfl <| kcv rfl w1 ?_; refine K.neg rfl w2 .plain <| K.build rfl rfl (by exact rfl) (by exact nl3 rfl rfl rfl rfl) .plain ?_; refine K.storeAll rfl rfl rfl rfl rfl rfl .plain ?_; refine RunK.nil <| LWP.ret ?_)
    refine ⟨[_], ⟨⟨_, _, rfl, rfl, rfl, .inl ⟨AggT.h, rfl⟩⟩, trivial⟩, ?_⟩
    unfold LQ LI
    rw [mg_neg c, decide_eq_true c, show -n / 18446744073709551616 = 0 by omega, show -n % 18446744073709551616 = -n by omega]
    rfl
  · (refine LWP.seq <| LWP.region (by kernel_rfl) <| K.alloc rfl .plain ?_; refine RunK.nil <| LWP.seq <| LWP.seq <| LWP.region (by kernel_rfl) <| kmv rfl <| klt rfl rfl (decide_eq_false (by omega)) <| RunK.nil <| LWP.condF rfl ?_; refine LWP.skip ?_; refine LWP.seq <| LWP.region (by kernel_rfl) <| kmv rfl <| kcv rfl (by exact wrap_u64 (by omega)) ?_; refine kca rfl rfl (OfWord_spec _ _) <| K.storeAll rfl rfl rfl rfl rfl rfl .plain ?_; refine RunK.nil <| LWP.ret ?_)
    refine ⟨[_], ⟨⟨_, _, rfl, rfl, rfl, .inl ⟨AggT.h, rfl⟩⟩, trivial⟩, ?_⟩
    unfold LQ LI
    rw [mg_pos (by omega), decide_eq_false c, show n / 18446744073709551616 = 0 by omega, show n % 18446744073709551616 = n by omega]
    rfl
theorem eqI {b b' : Bool} {h l h' l' : Int} (r : Bool) (hr : (b == b' && (h == h' && l == l')) = r) (w : World) :
    (Op.equalIn 10000 25 (.agg [.bool b, .int .u64 h, .int .u64 l].toArray) (.agg [.bool b', .int .u64 h', .int .u64 l'].toArray)).run Try.prog w = .ok r w := by
  subst hr
  rw [show (10000 : Nat) = 9999 + 1 from rfl, run_equalIn_agg w 9999 25 _ _ (by kernel_rfl) (by kernel_rfl)]
  simp only [Program.fieldsOf, Try.underlying25]
  go_simp
  cases b <;> cases b' <;> by_cases h1 : h = h' <;> by_cases h2 : l = l' <;> simp [h1, h2]
theorem eqQ (x y : Int) (r : Bool) (hr : decide (x = y) = r) (w : World) :
    (Op.equalIn 10000 25 (.agg [.bool (decide (x < 0)), .int .u64 (mg x / 18446744073709551616), .int .u64 (mg x % 18446744073709551616)].toArray)
      (.agg [.bool (decide (y < 0)), .int .u64 (mg y / 18446744073709551616), .int .u64 (mg y % 18446744073709551616)].toArray)).run Try.prog w = .ok r w := by
  refine eqI r ?_ w
  rw [← hr]
  by_cases e : x = y
  · subst e; simp
  · rw [decide_eq_false e]
    have h : ¬ ((decide (x < 0) = decide (y < 0)) ∧ mg x / 18446744073709551616 = mg y / 18446744073709551616 ∧ mg x % 18446744073709551616 = mg y % 18446744073709551616) := by
      rintro ⟨h1, h2, h3⟩
      have : mg x = mg y := by omega
      unfold mg at this
      by_cases cx : x < 0 <;> by_cases cy : y < 0 <;> simp only [cx, cy, decide_true, decide_false, if_true, if_false] at h1 this <;> first | omega | cases h1
    cases hc : (decide (x < 0) == decide (y < 0) && (mg x / 18446744073709551616 == mg y / 18446744073709551616 && mg x % 18446744073709551616 == mg y % 18446744073709551616)) with
    | false => rfl
    | true =>
      simp only [Bool.and_eq_true, beq_iff_eq] at hc
      exact absurd hc h
end Go.Proofs.Ytfmohdliifmmfaa
