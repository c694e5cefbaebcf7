/- A piece of a proof over this program: contracts of its functions, and a logic to prove them by. -/
import Derived.Test.YtfmohdliifmmfaaW2
namespace Go.Proofs.Ytfmohdliifmmfaa
open Go Go.Lg
variable (X : Nat → Option Obj)
theorem isNaN_spec (a : Int) : PSpec Try.prog X 68 [Ln .u64 a] (Lb false) := by
  refine PSpec.intro Try.func68 rfl (by kernel_rfl) rfl rfl ?_
  intro C
  (refine LWP.seq <| LWP.region (by kernel_rfl) <| kas rfl <| RunK.nil <| LWP.seq <| LWP.region (by kernel_rfl) <| kmv rfl <| kmv rfl <| kne rfl rfl ((bne_eq_false_iff_eq.2 (by omega))) <| kas rfl <| RunK.nil <| LWP.ret ?_)
  exact ⟨[_], ⟨rfl, trivial⟩, rfl⟩
def cmpI (a b : Int) : Int := if a < b then -1 else if b < a then 1 else 0
theorem Compare_spec (a b : Int) (r : Int) (hr : cmpI a b = r) : PSpec Try.prog X 64 [Ln .u64 a, Ln .u64 b] (Ln .i64 r) := by
  subst hr
  refine PSpec.intro Try.func64 rfl (by kernel_rfl) rfl rfl ?_
  intro C
  by_cases h : a < b
  · (refine LWP.seq <| LWP.region (by kernel_rfl) <| kas rfl <| RunK.nil <| LWP.seq <| LWP.region (by kernel_rfl) <| kmv rfl <| kca rfl rfl (isNaN_spec _ _) <| kas rfl <| RunK.nil <| LWP.seq <| LWP.region (by kernel_rfl) <| kmv rfl <| kca rfl rfl (isNaN_spec _ _) ?_; refine kas rfl <| RunK.nil <| LWP.seq <| LWP.seq <| LWP.region (by kernel_rfl) <| kmv rfl <| RunK.nil <| LWP.condF rfl ?_; refine LWP.skip ?_; refine LWP.seq <| LWP.seq <| LWP.region (by kernel_rfl) <| kmv rfl <| RunK.nil <| LWP.condF rfl ?_; refine LWP.skip ?_; refine LWP.seq <| LWP.seq <| LWP.region (by kernel_rfl) <| kmv rfl <| kmv rfl <| klt rfl rfl (decide_eq_true (by omega)) <| RunK.nil <| LWP.condT rfl ?_; refine LWP.seq <| LWP.region (by kernel_rfl) <| kas rfl <| RunK.nil <| LWP.ret ?_)
    exact ⟨[_], ⟨rfl, trivial⟩, by simp [cmpI, h, resOf]⟩
  · by_cases h' : b < a
    · (refine LWP.seq <| LWP.region (by kernel_rfl) <| kas rfl <| RunK.nil <| LWP.seq <| LWP.region (by kernel_rfl) <| kmv rfl <| kca rfl rfl (isNaN_spec _ _) <| kas rfl <| RunK.nil <| LWP.seq <| LWP.region (by kernel_rfl) <| kmv rfl <| kca rfl rfl (isNaN_spec _ _) ?_; refine kas rfl <| RunK.nil <| LWP.seq <| LWP.seq <| LWP.region (by kernel_rfl) <| kmv rfl <| RunK.nil <| LWP.condF rfl ?_; refine LWP.skip ?_; refine LWP.seq <| LWP.seq <| LWP.region (by kernel_rfl) <| kmv rfl <| RunK.nil <| LWP.condF rfl ?_; refine LWP.skip ?_; refine LWP.seq <| LWP.seq <| LWP.region (by kernel_rfl) <| kmv rfl <| kmv rfl <| klt rfl rfl (decide_eq_false (by omega)) <| RunK.nil <| LWP.condF rfl ?_; refine LWP.skip ?_; refine LWP.seq <| LWP.seq <| LWP.region (by kernel_rfl) <| kmv rfl <| kmv rfl <| K.gtr rfl rfl (decide_eq_true (by omega)) .plain <| RunK.nil <| LWP.condT rfl ?_; refine LWP.seq <| LWP.region (by kernel_rfl) <| kas rfl <| RunK.nil <| LWP.ret ?_)
      exact ⟨[_], ⟨rfl, trivial⟩, by simp [cmpI, h, h', resOf]⟩
    · (refine LWP.seq <| LWP.region (by kernel_rfl) <| kas rfl <| RunK.nil <| LWP.seq <| LWP.region (by kernel_rfl) <| kmv rfl <| kca rfl rfl (isNaN_spec _ _) <| kas rfl <| RunK.nil <| LWP.seq <| LWP.region (by kernel_rfl) <| kmv rfl <| kca rfl rfl (isNaN_spec _ _) ?_; refine kas rfl <| RunK.nil <| LWP.seq <| LWP.seq <| LWP.region (by kernel_rfl) <| kmv rfl <| RunK.nil <| LWP.condF rfl ?_; refine LWP.skip ?_; refine LWP.seq <| LWP.seq <| LWP.region (by kernel_rfl) <| kmv rfl <| RunK.nil <| LWP.condF rfl ?_; refine LWP.skip ?_; refine LWP.seq <| LWP.seq <| LWP.region (by kernel_rfl) <| kmv rfl <| kmv rfl <| klt rfl rfl (decide_eq_false (by omega)) <| RunK.nil <| LWP.condF rfl ?_; refine LWP.skip ?_; refine LWP.seq <| LWP.seq <| LWP.region (by kernel_rfl) <| kmv rfl <| kmv rfl <| K.gtr rfl rfl (decide_eq_false (by omega)) .plain <| RunK.nil <| LWP.condF rfl ?_; refine LWP.skip ?_; refine LWP.seq <| LWP.region (by kernel_rfl) <| kas rfl <| RunK.nil <| LWP.ret ?_)
      exact ⟨[_], ⟨rfl, trivial⟩, by simp [cmpI, h, h', resOf]⟩
theorem compare_spec (M N : Int) (r : Int) (hr : cmpI M N = r) : PSpec Try.prog X 49 [LZ M, LZ N] (Ln .i64 r) := by
  refine PSpec.intro Try.func49 rfl (by kernel_rfl) rfl rfl ?_
  intro C
  by_cases h : M / 18446744073709551616 = N / 18446744073709551616
  · (refine LWP.seq <| LWP.region (by kernel_rfl) <| K.box rfl rfl rfl .plain <| K.box rfl rfl rfl .plain <| kas rfl <| RunK.nil <| LWP.seq <| LWP.seq <| LWP.region (by kernel_rfl) <| kfa rfl rfl ?_; refine kl1 rfl rfl rfl <| kfa rfl rfl ?_; refine kl1 rfl rfl rfl <| kne rfl rfl ((bne_eq_false_iff_eq.2 (by omega))) <| RunK.nil <| LWP.condF rfl ?_; refine LWP.skip ?_; refine LWP.seq <| LWP.region (by kernel_rfl) <| kfa rfl rfl ?_; refine kl1 rfl rfl rfl <| kfa rfl rfl ?_; refine kl1 rfl rfl rfl <| kca rfl rfl (Compare_spec _ _ _ r (by subst hr; unfold cmpI; (repeat' split) <;> omega)) <| kas rfl <| RunK.nil <| LWP.ret ?_)
    exact ⟨[_], ⟨rfl, trivial⟩, rfl⟩
  · (refine LWP.seq <| LWP.region (by kernel_rfl) <| K.box rfl rfl rfl .plain <| K.box rfl rfl rfl .plain <| kas rfl <| RunK.nil <| LWP.seq <| LWP.seq <| LWP.region (by kernel_rfl) <| kfa rfl rfl ?_; refine kl1 rfl rfl rfl <| kfa rfl rfl ?_; refine kl1 rfl rfl rfl <| kne rfl rfl (bne_iff_ne.2 (by omega)) <| RunK.nil <| LWP.condT rfl ?_; refine LWP.seq <| LWP.region (by kernel_rfl) <| kfa rfl rfl ?_; refine kl1 rfl rfl rfl <| kfa rfl rfl ?_; refine kl1 rfl rfl rfl <| kca rfl rfl (Compare_spec _ _ _ r (by subst hr; unfold cmpI; (repeat' split) <;> omega)) <| kas rfl <| RunK.nil <| LWP.ret ?_)
    exact ⟨[_], ⟨rfl, trivial⟩, rfl⟩
abbrev S0 : SV := .agg [.val (.bool false), .val (.int .u64 0), .val (.int .u64 0)]
theorem bounded_ok (b : Bool) (S : Int) (hS : 0 ≤ S ∧ S < 170141183460469231731687303715884105728) (r : Bool) (hr : sg b S = r) : PSpec Try.prog X 47 [Lb b, LZ S] (.tup [SI r S, Sn .i64 0]) := by
  have h2 : In2 S := ⟨hS.1, by omega⟩
  refine PSpec.intro Try.func47 rfl (by kernel_rfl) rfl rfl ?_
  intro C
  (refine LWP.seq <| LWP.region (by kernel_rfl) <| K.box rfl rfl rfl .plain <| K.alloc rfl .plain ?_; refine kas rfl <| RunK.nil <| LWP.seq <| LWP.seq <| LWP.region (by kernel_rfl) <| K.loadAll rfl rfl rfl .plain ?_; refine kca rfl rfl (fits_spec _ _ h2 true (decide_eq_true (by omega))) <| K.not rfl rfl .plain <| RunK.nil <| LWP.condF rfl ?_; refine LWP.skip ?_; refine LWP.seq <| LWP.region (by kernel_rfl) <| kmv rfl <| K.loadAll rfl rfl rfl .plain ?_; refine kca rfl rfl (number_spec _ _ _ h2 _ hr) <| K.storeAll rfl rfl rfl rfl rfl rfl .plain ?_; refine kas rfl <| RunK.nil <| LWP.ret ?_)
  exact ⟨[_, _], ⟨⟨_, _, rfl, rfl, rfl, .inl ⟨AggT.h, rfl⟩⟩, rfl, trivial⟩, rfl⟩
theorem bounded_no (b : Bool) (S : Int) (hS : 170141183460469231731687303715884105728 ≤ S) (h2 : In2 S) : PSpec Try.prog X 47 [Lb b, LZ S] (.tup [S0, Sn .i64 3]) := by
  refine PSpec.intro Try.func47 rfl (by kernel_rfl) rfl rfl ?_
  intro C
  (refine LWP.seq <| LWP.region (by kernel_rfl) <| K.box rfl rfl rfl .plain <| K.alloc rfl .plain ?_; refine kas rfl <| RunK.nil <| LWP.seq <| LWP.seq <| LWP.region (by kernel_rfl) <| K.loadAll rfl rfl rfl .plain ?_; refine kca rfl rfl (fits_spec _ _ h2 false (decide_eq_false (by omega))) <| K.not rfl rfl .plain <| RunK.nil <| LWP.condT rfl ?_; refine LWP.seq <| LWP.region (by kernel_rfl) <| K.build rfl rfl (by exact rfl) (by exact nl3 rfl rfl rfl rfl) .plain ?_; refine K.storeAll rfl rfl rfl rfl rfl rfl .plain ?_; refine kas rfl <| RunK.nil <| LWP.ret ?_)
  exact ⟨[_, _], ⟨⟨_, _, rfl, rfl, rfl, .inl ⟨AggT.h, rfl⟩⟩, rfl, trivial⟩, rfl⟩
def Lim (N : Int) : Prop := 0 ≤ N ∧ N < 170141183460469231731687303715884105728
theorem Lim.in2 {N : Int} (h : Lim N) : In2 N := ⟨h.1, by have := h.2; omega⟩
theorem formB_lim {b : Bool} {N : Int} (hN : In2 N) (h : formB b N = true) : Lim N ∧ (b = true → N ≠ 0) := by
  simp only [formB, Bool.and_eq_true, decide_eq_true_eq, Bool.not_eq_true', Bool.and_eq_false_iff, beq_eq_false_iff_ne] at h
  refine ⟨⟨hN.1, h.1⟩, fun hb => ?_⟩
  rcases h.2 with h2 | h2
  · rw [hb] at h2; simp at h2
  · exact h2
theorem Add_arg (b c : Bool) (M N : Int) (hM : In2 M) (hN : In2 N) (hf : (formB b M && formB c N) = false) : PSpec Try.prog X 26 [LI b M, LI c N] (.tup [S0, Sn .i64 1]) := by
  refine PSpec.intro Try.func26 rfl (by kernel_rfl) rfl rfl ?_
  intro C
  (refine LWP.seq <| LWP.region (by kernel_rfl) <| K.box rfl rfl rfl .plain <| K.box rfl rfl rfl .plain <| K.alloc rfl .plain ?_; refine kas rfl <| RunK.nil <| LWP.seq <| LWP.seq <| LWP.region (by kernel_rfl) <| K.loadAll rfl rfl rfl .plain ?_; refine K.loadAll rfl rfl rfl .plain ?_; refine kca rfl rfl (bothForm_spec _ _ _ _ _ hM hN _ hf) <| K.not rfl rfl .plain <| RunK.nil <| LWP.condT rfl ?_; refine LWP.seq <| LWP.region (by kernel_rfl) <| K.build rfl rfl (by exact rfl) (by exact nl3 rfl rfl rfl rfl) .plain ?_; refine K.storeAll rfl rfl rfl rfl rfl rfl .plain ?_; refine kas rfl <| RunK.nil <| LWP.ret ?_)
  exact ⟨[_, _], ⟨⟨_, _, rfl, rfl, rfl, .inl ⟨AggT.h, rfl⟩⟩, rfl, trivial⟩, rfl⟩
theorem Add_same (b : Bool) (M N : Int) (hM : In2 M) (hN : In2 N) (hf : (formB b M && formB b N) = true) (hS : M + N < 170141183460469231731687303715884105728) (r : Bool) (hr : sg b (M + N) = r) :
    PSpec Try.prog X 26 [LI b M, LI b N] (.tup [SI r (M + N), Sn .i64 0]) := by
  have h3 : In2 (M + N) := by unfold In2 at *; omega
  refine PSpec.intro Try.func26 rfl (by kernel_rfl) rfl rfl ?_
  intro C
  have hp := plus_spec X M N hM hN h3
  have hb := bounded_ok X b (M + N) ⟨h3.1, hS⟩ r hr
  cases b
  all_goals
    ((refine LWP.seq <| LWP.region (by kernel_rfl) <| K.box rfl rfl rfl .plain <| K.box rfl rfl rfl .plain <| K.alloc rfl .plain ?_; refine kas rfl <| RunK.nil <| LWP.seq <| LWP.seq <| LWP.region (by kernel_rfl) <| K.loadAll rfl rfl rfl .plain ?_; refine K.loadAll rfl rfl rfl .plain ?_; refine kca rfl rfl (bothForm_spec _ _ _ _ _ hM hN _ hf) <| K.not rfl rfl .plain <| RunK.nil <| LWP.condF rfl ?_; refine LWP.skip ?_; refine LWP.seq <| LWP.draws mixed (by kernel_rfl) <| K.loadAll rfl rfl rfl .plain ?_; refine kca rfl rfl (sizeOf_spec _ _ _ _) <| K.loadAll rfl rfl rfl .plain ?_; refine kca rfl rfl (sizeOf_spec _ _ _ _) <| K.alloc rfl .plain ?_; refine K.alloc rfl .plain ?_; refine K.storeAll rfl rfl rfl rfl rfl rfl .plain ?_; refine K.storeAll rfl rfl rfl rfl rfl rfl .plain ?_; refine RunK.nil <| And.intro (by kernel_rfl) ?_); (refine LWP.seq <| LWP.block <| LWP.seq <| LWP.region (by kernel_rfl) <| kfa rfl rfl ?_; refine kl1 rfl rfl rfl <| kfa rfl rfl ?_; refine kl1 rfl rfl rfl <| K.eqlB rfl rfl rfl .plain <| kas rfl <| RunK.nil <| LWP.condT rfl ?_; refine LWP.seq <| LWP.draws mixed (by kernel_rfl) <| kfa rfl rfl ?_; refine kl1 rfl rfl rfl <| K.loadAll rfl rfl rfl .plain ?_; refine K.loadAll rfl rfl rfl .plain ?_; refine kca rfl rfl (hp) <| kca rfl rfl (hb) <| kex rfl rfl <| kex rfl rfl <| K.storeAll rfl rfl rfl rfl rfl rfl .plain ?_; refine kas rfl <| RunK.nil <| And.intro (by kernel_rfl) ?_; refine LWP.ret ?_))
    exact ⟨[_, _], ⟨⟨_, _, rfl, rfl, rfl, .inl ⟨AggT.h, rfl⟩⟩, rfl, trivial⟩, rfl⟩
theorem Add_over (b : Bool) (M N : Int) (hM : In2 M) (hN : In2 N) (hf : (formB b M && formB b N) = true) (hS : 170141183460469231731687303715884105728 ≤ M + N) :
    PSpec Try.prog X 26 [LI b M, LI b N] (.tup [S0, Sn .i64 3]) := by
  have hf1 := (formB_lim hM (by simp at hf; exact hf.1)).1
  have hf2 := (formB_lim hN (by simp at hf; exact hf.2)).1
  have h3 : In2 (M + N) := by unfold Lim In2 at *; omega
  refine PSpec.intro Try.func26 rfl (by kernel_rfl) rfl rfl ?_
  intro C
  have hp := plus_spec X M N hM hN h3
  have hb := bounded_no X b (M + N) hS h3
  cases b
  all_goals
    ((refine LWP.seq <| LWP.region (by kernel_rfl) <| K.box rfl rfl rfl .plain <| K.box rfl rfl rfl .plain <| K.alloc rfl .plain ?_; refine kas rfl <| RunK.nil <| LWP.seq <| LWP.seq <| LWP.region (by kernel_rfl) <| K.loadAll rfl rfl rfl .plain ?_; refine K.loadAll rfl rfl rfl .plain ?_; refine kca rfl rfl (bothForm_spec _ _ _ _ _ hM hN _ hf) <| K.not rfl rfl .plain <| RunK.nil <| LWP.condF rfl ?_; refine LWP.skip ?_; refine LWP.seq <| LWP.draws mixed (by kernel_rfl) <| K.loadAll rfl rfl rfl .plain ?_; refine kca rfl rfl (sizeOf_spec _ _ _ _) <| K.loadAll rfl rfl rfl .plain ?_; refine kca rfl rfl (sizeOf_spec _ _ _ _) <| K.alloc rfl .plain ?_; refine K.alloc rfl .plain ?_; refine K.storeAll rfl rfl rfl rfl rfl rfl .plain ?_; refine K.storeAll rfl rfl rfl rfl rfl rfl .plain ?_; refine RunK.nil <| And.intro (by kernel_rfl) ?_); (refine LWP.seq <| LWP.block <| LWP.seq <| LWP.region (by kernel_rfl) <| kfa rfl rfl ?_; refine kl1 rfl rfl rfl <| kfa rfl rfl ?_; refine kl1 rfl rfl rfl <| K.eqlB rfl rfl rfl .plain <| kas rfl <| RunK.nil <| LWP.condT rfl ?_; refine LWP.seq <| LWP.draws mixed (by kernel_rfl) <| kfa rfl rfl ?_; refine kl1 rfl rfl rfl <| K.loadAll rfl rfl rfl .plain ?_; refine K.loadAll rfl rfl rfl .plain ?_; refine kca rfl rfl (hp) <| kca rfl rfl (hb) <| kex rfl rfl <| kex rfl rfl <| K.storeAll rfl rfl rfl rfl rfl rfl .plain ?_; refine kas rfl <| RunK.nil <| And.intro (by kernel_rfl) ?_; refine LWP.ret ?_))
    exact ⟨[_, _], ⟨⟨_, _, rfl, rfl, rfl, .inl ⟨AggT.h, rfl⟩⟩, rfl, trivial⟩, rfl⟩
theorem Add_less (b : Bool) (M N : Int) (hM : In2 M) (hN : In2 N) (hf : (formB b M && formB (!b) N) = true) (hS : M < N) (r : Bool) (hr : sg (!b) (N - M) = r) :
    PSpec Try.prog X 26 [LI b M, LI (!b) N] (.tup [SI r (N - M), Sn .i64 0]) := by
  have h3 : In2 (N - M) := by unfold In2 at *; omega
  refine PSpec.intro Try.func26 rfl (by kernel_rfl) rfl rfl ?_
  intro C
  have hb := number_spec X (!b) (N - M) h3 r hr
  cases b
  all_goals
    ((refine LWP.seq <| LWP.region (by kernel_rfl) <| K.box rfl rfl rfl .plain <| K.box rfl rfl rfl .plain <| K.alloc rfl .plain ?_; refine kas rfl <| RunK.nil <| LWP.seq <| LWP.seq <| LWP.region (by kernel_rfl) <| K.loadAll rfl rfl rfl .plain ?_; refine K.loadAll rfl rfl rfl .plain ?_; refine kca rfl rfl (bothForm_spec _ _ _ _ _ hM hN _ hf) <| K.not rfl rfl .plain <| RunK.nil <| LWP.condF rfl ?_; refine LWP.skip ?_; refine LWP.seq <| LWP.draws mixed (by kernel_rfl) <| K.loadAll rfl rfl rfl .plain ?_; refine kca rfl rfl (sizeOf_spec _ _ _ _) <| K.loadAll rfl rfl rfl .plain ?_; refine kca rfl rfl (sizeOf_spec _ _ _ _) <| K.alloc rfl .plain ?_; refine K.alloc rfl .plain ?_; refine K.storeAll rfl rfl rfl rfl rfl rfl .plain ?_; refine K.storeAll rfl rfl rfl rfl rfl rfl .plain ?_; refine RunK.nil <| And.intro (by kernel_rfl) ?_); (refine LWP.seq <| LWP.block <| LWP.seq <| LWP.region (by kernel_rfl) <| kfa rfl rfl ?_; refine kl1 rfl rfl rfl <| kfa rfl rfl ?_; refine kl1 rfl rfl rfl <| K.eqlB rfl rfl rfl .plain <| kas rfl <| RunK.nil <| LWP.condF rfl ?_; refine LWP.seq <| LWP.region (by kernel_rfl) <| K.loadAll rfl rfl rfl .plain ?_; refine K.loadAll rfl rfl rfl .plain ?_; refine kca rfl rfl (compare_spec _ _ _ (-1) (by simp [cmpI, hS])) <| klt rfl rfl (decide_eq_true (by omega)) <| kas rfl <| RunK.nil <| LWP.condT rfl ?_; refine LWP.seq <| LWP.draws mixed (by kernel_rfl) <| kfa rfl rfl ?_; refine kl1 rfl rfl rfl <| K.loadAll rfl rfl rfl .plain ?_; refine K.loadAll rfl rfl rfl .plain ?_; refine kca rfl rfl (minus_spec _ _ _ hN hM (Int.le_of_lt hS)) <| kca rfl rfl (hb) <| K.storeAll rfl rfl rfl rfl rfl rfl .plain ?_; refine kas rfl <| RunK.nil <| And.intro (by kernel_rfl) ?_; refine LWP.ret ?_))
    exact ⟨[_, _], ⟨⟨_, _, rfl, rfl, rfl, .inl ⟨AggT.h, rfl⟩⟩, rfl, trivial⟩, rfl⟩
theorem Add_more (b : Bool) (M N : Int) (hM : In2 M) (hN : In2 N) (hf : (formB b M && formB (!b) N) = true) (hS : N ≤ M) (r : Bool) (hr : sg b (M - N) = r) :
    PSpec Try.prog X 26 [LI b M, LI (!b) N] (.tup [SI r (M - N), Sn .i64 0]) := by
  have h3 : In2 (M - N) := by unfold In2 at *; omega
  have h5 : cmpI M N = 0 ∨ cmpI M N = 1 := by unfold cmpI; (repeat' split) <;> omega
  refine PSpec.intro Try.func26 rfl (by kernel_rfl) rfl rfl ?_
  intro C
  have hb := number_spec X b (M - N) h3 r hr
  rcases h5 with h5 | h5 <;> cases b
  all_goals
    ((refine LWP.seq <| LWP.region (by kernel_rfl) <| K.box rfl rfl rfl .plain <| K.box rfl rfl rfl .plain <| K.alloc rfl .plain ?_; refine kas rfl <| RunK.nil <| LWP.seq <| LWP.seq <| LWP.region (by kernel_rfl) <| K.loadAll rfl rfl rfl .plain ?_; refine K.loadAll rfl rfl rfl .plain ?_; refine kca rfl rfl (bothForm_spec _ _ _ _ _ hM hN _ hf) <| K.not rfl rfl .plain <| RunK.nil <| LWP.condF rfl ?_; refine LWP.skip ?_; refine LWP.seq <| LWP.draws mixed (by kernel_rfl) <| K.loadAll rfl rfl rfl .plain ?_; refine kca rfl rfl (sizeOf_spec _ _ _ _) <| K.loadAll rfl rfl rfl .plain ?_; refine kca rfl rfl (sizeOf_spec _ _ _ _) <| K.alloc rfl .plain ?_; refine K.alloc rfl .plain ?_; refine K.storeAll rfl rfl rfl rfl rfl rfl .plain ?_; refine K.storeAll rfl rfl rfl rfl rfl rfl .plain ?_; refine RunK.nil <| And.intro (by kernel_rfl) ?_); (refine LWP.seq <| LWP.block <| LWP.seq <| LWP.region (by kernel_rfl) <| kfa rfl rfl ?_; refine kl1 rfl rfl rfl <| kfa rfl rfl ?_; refine kl1 rfl rfl rfl <| K.eqlB rfl rfl rfl .plain <| kas rfl <| RunK.nil <| LWP.condF rfl ?_; refine LWP.seq <| LWP.region (by kernel_rfl) <| K.loadAll rfl rfl rfl .plain ?_; refine K.loadAll rfl rfl rfl .plain ?_; refine kca rfl rfl (compare_spec _ _ _ _ h5) <| klt rfl rfl (decide_eq_false (by omega)) <| kas rfl <| RunK.nil <| LWP.condF rfl ?_; refine LWP.skip ?_; refine LWP.seq <| LWP.draws mixed (by kernel_rfl) <| kfa rfl rfl ?_; refine kl1 rfl rfl rfl <| K.loadAll rfl rfl rfl .plain ?_; refine K.loadAll rfl rfl rfl .plain ?_; refine kca rfl rfl (minus_spec _ _ _ hM hN hS) <| kca rfl rfl (hb) <| K.storeAll rfl rfl rfl rfl rfl rfl .plain ?_; refine kas rfl <| RunK.nil <| And.intro (by kernel_rfl) ?_); (refine LWP.ret ?_))
    exact ⟨[_, _], ⟨⟨_, _, rfl, rfl, rfl, .inl ⟨AggT.h, rfl⟩⟩, rfl, trivial⟩, rfl⟩
end Go.Proofs.Ytfmohdliifmmfaa
