/- A piece of a proof over this program: contracts of its functions, and a logic to prove them by. -/
import Derived.Test.YtfmohdliifmmfaaC1
namespace Go.Proofs.Ytfmohdliifmmfaa
open Go Go.Lg
abbrev Li (b : Bool) (h l : Int) : LV := .sv (.agg [.val (.bool b), .val (.int .u64 h), .val (.int .u64 l)])
abbrev Lz (h l : Int) : LV := .sv (.agg [.val (.int .u64 h), .val (.int .u64 l)])
abbrev LI (b : Bool) (N : Int) : LV := Li b (N / 18446744073709551616) (N % 18446744073709551616)
abbrev LZ (N : Int) : LV := Lz (N / 18446744073709551616) (N % 18446744073709551616)
abbrev SZ (N : Int) : SV := .agg [.val (.int .u64 (N / 18446744073709551616)), .val (.int .u64 (N % 18446744073709551616))]
abbrev SI (b : Bool) (N : Int) : SV := .agg [.val (.bool b), .val (.int .u64 (N / 18446744073709551616)), .val (.int .u64 (N % 18446744073709551616))]
/-- below 2 to the 128, not below 0 -/
def In2 (N : Int) : Prop := 0 ≤ N ∧ N < 340282366920938463463374607431768211456
variable (X : Nat → Option Obj)
theorem sizeOf_spec (b : Bool) (h l : Int) : PSpec Try.prog X 46 [Li b h l] (Lz h l) := by
  refine PSpec.intro Try.func46 rfl (by kernel_rfl) rfl rfl ?_
  intro C
  (refine LWP.seq <| LWP.region (by kernel_rfl) <| K.box rfl rfl rfl .plain <| K.alloc rfl .plain ?_; refine RunK.nil <| LWP.seq <| LWP.region (by kernel_rfl) <| kfa rfl rfl ?_; refine kl1 rfl rfl rfl <| kfa rfl rfl ?_; refine kl1 rfl rfl rfl <| K.build rfl rfl (by exact rfl) (by exact nl2 rfl rfl rfl) .plain ?_; refine K.storeAll rfl rfl rfl rfl rfl rfl .plain ?_; refine RunK.nil <| LWP.ret ?_)
  exact ⟨[_], ⟨⟨_, _, rfl, rfl, rfl, .inl ⟨AggT.h, rfl⟩⟩, trivial⟩, rfl⟩
theorem zero_spec (N : Int) (hN : In2 N) (r : Bool) (hr : (N == 0) = r) : PSpec Try.prog X 53 [LZ N] (Lb r) := by
  subst hr
  obtain ⟨h0, h1⟩ := hN
  refine PSpec.intro Try.func53 rfl (by kernel_rfl) rfl rfl ?_
  intro C
  by_cases ha : N / 18446744073709551616 = 0
  · by_cases hb : N % 18446744073709551616 = 0
    · (refine LWP.seq <| LWP.region (by kernel_rfl) <| K.box rfl rfl rfl .plain <| kas rfl <| RunK.nil <| LWP.seq <| LWP.region (by kernel_rfl) <| kfa rfl rfl ?_; refine kl1 rfl rfl rfl <| keq rfl rfl (beq_iff_eq.2 (by omega)) <| kmv rfl <| K.fieldAddr rfl rfl (.taken rfl rfl) ?_; refine K.loadOne rfl rfl rfl (.taken rfl rfl) ?_; refine K.eql rfl rfl (beq_iff_eq.2 (by omega)) (.taken rfl rfl) ?_; refine kpt rfl rfl <| kas rfl <| RunK.nil <| LWP.ret ?_)
      exact ⟨[_], ⟨rfl, trivial⟩, by rw [show (N == 0) = true from beq_iff_eq.2 (by omega)]; rfl⟩
    · (refine LWP.seq <| LWP.region (by kernel_rfl) <| K.box rfl rfl rfl .plain <| kas rfl <| RunK.nil <| LWP.seq <| LWP.region (by kernel_rfl) <| kfa rfl rfl ?_; refine kl1 rfl rfl rfl <| keq rfl rfl (beq_iff_eq.2 (by omega)) <| kmv rfl <| K.fieldAddr rfl rfl (.taken rfl rfl) ?_; refine K.loadOne rfl rfl rfl (.taken rfl rfl) ?_; refine K.eql rfl rfl (beq_eq_false_iff_ne.2 (by omega)) (.taken rfl rfl) ?_; refine kpt rfl rfl <| kas rfl <| RunK.nil <| LWP.ret ?_)
      exact ⟨[_], ⟨rfl, trivial⟩, by rw [show (N == 0) = false from beq_eq_false_iff_ne.2 (by omega)]; rfl⟩
  · (refine LWP.seq <| LWP.region (by kernel_rfl) <| K.box rfl rfl rfl .plain <| kas rfl <| RunK.nil <| LWP.seq <| LWP.region (by kernel_rfl) <| kfa rfl rfl ?_; refine kl1 rfl rfl rfl <| keq rfl rfl (beq_eq_false_iff_ne.2 (by omega)) <| kmv rfl <| RunK.passed rfl rfl rfl <| RunK.passed rfl rfl rfl <| RunK.passed rfl rfl rfl <| kpf rfl rfl <| kas rfl <| RunK.nil <| LWP.ret ?_)
    exact ⟨[_], ⟨rfl, trivial⟩, by rw [show (N == 0) = false from beq_eq_false_iff_ne.2 (by omega)]; rfl⟩
theorem fits_spec (N : Int) (hN : In2 N) (r : Bool) (hr : decide (N < 170141183460469231731687303715884105728) = r) : PSpec Try.prog X 52 [LZ N] (Lb r) := by
  subst hr
  obtain ⟨h0, h1⟩ := hN
  refine PSpec.intro Try.func52 rfl (by kernel_rfl) rfl rfl ?_
  intro C
  (refine LWP.seq <| LWP.region (by kernel_rfl) <| K.box rfl rfl rfl .plain <| kas rfl <| RunK.nil <| LWP.seq <| LWP.region (by kernel_rfl) <| kfa rfl rfl ?_; refine kl1 rfl rfl rfl <| klt rfl rfl rfl <| kas rfl <| RunK.nil <| LWP.ret ?_)
  exact ⟨[_], ⟨rfl, trivial⟩, by rw [decide_eq_decide.2 (show (N / 18446744073709551616 < 9223372036854775808) ↔ N < 170141183460469231731687303715884105728 by omega)]; rfl⟩
/-- in form -/
def formB (b : Bool) (N : Int) : Bool := decide (N < 170141183460469231731687303715884105728) && !(b && N == 0)
theorem Form_spec (b : Bool) (N : Int) (hN : In2 N) (r : Bool) (hr : formB b N = r) : PSpec Try.prog X 29 [LI b N] (Lb r) := by
  subst hr
  refine PSpec.intro Try.func29 rfl (by kernel_rfl) rfl rfl ?_
  intro C
  cases b
  · (refine LWP.seq <| LWP.region (by kernel_rfl) <| K.box rfl rfl rfl .plain <| kas rfl <| RunK.nil <| LWP.seq <| LWP.seq <| LWP.region (by kernel_rfl) <| kfa rfl rfl ?_; refine kl1 rfl rfl rfl <| RunK.nil <| LWP.condF rfl ?_; refine LWP.skip ?_; refine LWP.seq <| LWP.region (by kernel_rfl) <| K.loadAll rfl rfl rfl .plain ?_; refine kca rfl rfl (sizeOf_spec _ _ _ _) <| kca rfl rfl (fits_spec _ _ hN _ rfl) <| kas rfl <| RunK.nil <| LWP.ret ?_)
    exact ⟨[_], ⟨rfl, trivial⟩, by simp [formB, resOf]⟩
  · by_cases hf : N < 170141183460469231731687303715884105728
    · (refine LWP.seq <| LWP.region (by kernel_rfl) <| K.box rfl rfl rfl .plain <| kas rfl <| RunK.nil <| LWP.seq <| LWP.seq <| LWP.region (by kernel_rfl) <| kfa rfl rfl ?_; refine kl1 rfl rfl rfl <| RunK.nil <| LWP.condT rfl ?_; refine LWP.seq <| LWP.region (by kernel_rfl) <| K.loadAll rfl rfl rfl .plain ?_; refine kca rfl rfl (sizeOf_spec _ _ _ _) <| kca rfl rfl (fits_spec _ _ hN true (decide_eq_true hf)) <| kmv rfl <| K.loadAll rfl rfl rfl (.taken rfl rfl) ?_; refine gca rfl rfl (sizeOf_spec _ _ _ _) rfl rfl <| gca rfl rfl (zero_spec _ _ hN _ rfl) rfl rfl <| K.not rfl rfl (.taken rfl rfl) ?_; refine kpt rfl rfl <| kas rfl <| RunK.nil <| LWP.ret ?_)
      exact ⟨[_], ⟨rfl, trivial⟩, by simp [formB, resOf, hf]⟩
    · (refine LWP.seq <| LWP.region (by kernel_rfl) <| K.box rfl rfl rfl .plain <| kas rfl <| RunK.nil <| LWP.seq <| LWP.seq <| LWP.region (by kernel_rfl) <| kfa rfl rfl ?_; refine kl1 rfl rfl rfl <| RunK.nil <| LWP.condT rfl ?_; refine LWP.seq <| LWP.region (by kernel_rfl) <| K.loadAll rfl rfl rfl .plain ?_; refine kca rfl rfl (sizeOf_spec _ _ _ _) <| kca rfl rfl (fits_spec _ _ hN false (decide_eq_false hf)) <| kmv rfl <| RunK.passed rfl rfl rfl <| RunK.passed rfl rfl rfl <| RunK.passed rfl rfl rfl <| RunK.passed rfl rfl rfl <| kpf rfl rfl <| kas rfl <| RunK.nil <| LWP.ret ?_)
      exact ⟨[_], ⟨rfl, trivial⟩, by simp [formB, resOf, hf]⟩
end Go.Proofs.Ytfmohdliifmmfaa
