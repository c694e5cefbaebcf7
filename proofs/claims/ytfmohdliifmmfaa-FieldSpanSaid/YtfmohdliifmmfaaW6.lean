/- A piece of a proof over this program: contracts of its functions, and a logic to prove them by. -/
import Derived.Test.YtfmohdliifmmfaaW5
namespace Go.Proofs.Ytfmohdliifmmfaa
open Go Go.Lg Go.Lg.Arith
variable (X : Nat → Option Obj)
theorem Mul_arg (b c : Bool) (M N : Int) (hM : In2 M) (hN : In2 N) (hf : (formB b M && formB c N) = false) : PSpec Try.prog X 31 [LI b M, LI c N] (.tup [S0, Sn .i64 1]) := by
  refine PSpec.intro Try.func31 rfl (by kernel_rfl) rfl rfl ?_
  intro C
  (refine LWP.seq <| LWP.region (by kernel_rfl) <| K.box rfl rfl rfl .plain <| K.box rfl rfl rfl .plain <| K.alloc rfl .plain ?_; refine kas rfl <| RunK.nil <| LWP.seq <| LWP.seq <| LWP.region (by kernel_rfl) <| K.loadAll rfl rfl rfl .plain ?_; refine K.loadAll rfl rfl rfl .plain ?_; refine kca rfl rfl (bothForm_spec _ _ _ _ _ hM hN _ hf) <| K.not rfl rfl .plain <| RunK.nil <| LWP.condT rfl ?_; refine LWP.seq <| LWP.region (by kernel_rfl) <| K.build rfl rfl (by exact rfl) (by exact nl3 rfl rfl rfl rfl) .plain ?_; refine K.storeAll rfl rfl rfl rfl rfl rfl .plain ?_; refine kas rfl <| RunK.nil <| LWP.ret ?_)
  exact ⟨[_, _], ⟨⟨_, _, rfl, rfl, rfl, .inl ⟨AggT.h, rfl⟩⟩, rfl, trivial⟩, rfl⟩
theorem zv_mul (x y : Int) : zv (decide (x < 0) != decide (y < 0)) (mg x * mg y) = x * y := by
  unfold zv mg
  by_cases cx : x < 0 <;> by_cases cy : y < 0 <;> simp [cx, cy, Int.neg_mul, Int.mul_neg]
theorem range_zv {b : Bool} {N : Int} (hN : 0 ≤ N) : R127 (zv b N) ↔ N < 170141183460469231731687303715884105728 := by
  unfold R127 zv
  cases b <;> simp <;> omega
theorem Mul_q (x y : Int) (hx : R127 x) (hy : R127 y) : PSpec Try.prog X 31 [LQ x, LQ y] (addR (x * y)) := by
  have hf := both_q hx hy
  have hB := bothForm_spec X _ _ _ _ (mg_in2 hx) (mg_in2 hy) true hf
  have hz := zv_mul x y
  have hp0 : 0 ≤ mg x * mg y := Int.mul_nonneg (mg_nonneg x) (mg_nonneg y)
  have hrange := range_zv (b := decide (x < 0) != decide (y < 0)) hp0
  rw [hz] at hrange
  by_cases hfar : 18446744073709551616 ≤ mg x ∧ 18446744073709551616 ≤ mg y
  · have hm := Int.mul_le_mul hfar.1 hfar.2 (by decide) (by omega : (0 : Int) ≤ mg x)
    rw [addR_out (by rw [hrange]; omega)]
    refine PSpec.intro Try.func31 rfl (by kernel_rfl) rfl rfl ?_
    intro C
    (refine LWP.seq <| LWP.region (by kernel_rfl) <| K.box rfl rfl rfl .plain <| K.box rfl rfl rfl .plain <| K.alloc rfl .plain ?_; refine kas rfl <| RunK.nil <| LWP.seq <| LWP.seq <| LWP.region (by kernel_rfl) <| K.loadAll rfl rfl rfl .plain ?_; refine K.loadAll rfl rfl rfl .plain ?_; refine kca rfl rfl (hB) <| K.not rfl rfl .plain <| RunK.nil <| LWP.condF rfl ?_; refine LWP.skip ?_; refine LWP.seq <| LWP.draws mixed (by kernel_rfl) <| K.loadAll rfl rfl rfl .plain ?_; refine kca rfl rfl (sizeOf_spec _ _ _ _) <| K.loadAll rfl rfl rfl .plain ?_; refine kca rfl rfl (sizeOf_spec _ _ _ _) <| kca rfl rfl (times_far _ _ _ (mg_in2 hx) (mg_in2 hy) hfar.1 hfar.2) <| kmv rfl <| kex rfl rfl <| kex rfl rfl <| K.alloc rfl .plain ?_; refine K.storeAll rfl rfl rfl rfl rfl rfl .plain ?_; refine kas rfl <| RunK.nil <| And.intro (by kernel_rfl) ?_; refine LWP.seq <| LWP.seq <| LWP.region (by kernel_rfl) <| kmv rfl <| K.not rfl rfl .plain <| RunK.nil <| LWP.condT rfl ?_; refine LWP.seq <| LWP.region (by kernel_rfl) <| K.build rfl rfl (by exact rfl) (by exact nl3 rfl rfl rfl rfl) .plain ?_; refine K.storeAll rfl rfl rfl rfl rfl rfl .plain ?_; refine kas rfl <| RunK.nil <| LWP.ret ?_)
    exact ⟨[_, _], ⟨⟨_, _, rfl, rfl, rfl, .inl ⟨AggT.h, rfl⟩⟩, rfl, trivial⟩, rfl⟩
  · have ht := times_spec X (mg x) (mg y) (mg_in2 hx) (mg_in2 hy) (by omega)
    by_cases hbig : mg x * mg y < 340282366920938463463374607431768211456
    · have ht' := ht true (decide_eq_true hbig)
      have e : mg x * mg y % 340282366920938463463374607431768211456 = mg x * mg y := by omega
      rw [e] at ht'
      by_cases hfit : mg x * mg y < 170141183460469231731687303715884105728
      · rw [addR_in (hrange.2 hfit), ← tup_q hp0 hz]
        have hb := bounded_ok X (decide (x < 0) != decide (y < 0)) (mg x * mg y) ⟨hp0, hfit⟩ _ rfl
        refine PSpec.intro Try.func31 rfl (by kernel_rfl) rfl rfl ?_
        intro C
        (refine LWP.seq <| LWP.region (by kernel_rfl) <| K.box rfl rfl rfl .plain <| K.box rfl rfl rfl .plain <| K.alloc rfl .plain ?_; refine kas rfl <| RunK.nil <| LWP.seq <| LWP.seq <| LWP.region (by kernel_rfl) <| K.loadAll rfl rfl rfl .plain ?_; refine K.loadAll rfl rfl rfl .plain ?_; refine kca rfl rfl (hB) <| K.not rfl rfl .plain <| RunK.nil <| LWP.condF rfl ?_; refine LWP.skip ?_; refine LWP.seq <| LWP.draws mixed (by kernel_rfl) <| K.loadAll rfl rfl rfl .plain ?_; refine kca rfl rfl (sizeOf_spec _ _ _ _) <| K.loadAll rfl rfl rfl .plain ?_; refine kca rfl rfl (sizeOf_spec _ _ _ _) <| kca rfl rfl (ht') <| kmv rfl <| kex rfl rfl <| kex rfl rfl <| K.alloc rfl .plain ?_; refine K.storeAll rfl rfl rfl rfl rfl rfl .plain ?_; refine kas rfl <| RunK.nil <| And.intro (by kernel_rfl) ?_; refine LWP.seq <| LWP.seq <| LWP.region (by kernel_rfl) <| kmv rfl <| K.not rfl rfl .plain <| RunK.nil <| LWP.condF rfl ?_; refine LWP.skip ?_; refine LWP.seq <| LWP.region (by kernel_rfl) <| kfa rfl rfl ?_; refine kl1 rfl rfl rfl <| kfa rfl rfl ?_; refine kl1 rfl rfl rfl <| K.neqB rfl rfl rfl .plain <| K.loadAll rfl rfl rfl .plain ?_; refine kca rfl rfl (hb) <| kex rfl rfl <| kex rfl rfl <| K.storeAll rfl rfl rfl rfl rfl rfl .plain ?_; refine kas rfl <| RunK.nil <| LWP.ret ?_)
        exact ⟨[_, _], ⟨⟨_, _, rfl, rfl, rfl, .inl ⟨AggT.h, rfl⟩⟩, rfl, trivial⟩, rfl⟩
      · rw [addR_out (by rw [hrange]; omega)]
        have hb := bounded_no X (decide (x < 0) != decide (y < 0)) (mg x * mg y) (by omega) ⟨hp0, hbig⟩
        refine PSpec.intro Try.func31 rfl (by kernel_rfl) rfl rfl ?_
        intro C
        (refine LWP.seq <| LWP.region (by kernel_rfl) <| K.box rfl rfl rfl .plain <| K.box rfl rfl rfl .plain <| K.alloc rfl .plain ?_; refine kas rfl <| RunK.nil <| LWP.seq <| LWP.seq <| LWP.region (by kernel_rfl) <| K.loadAll rfl rfl rfl .plain ?_; refine K.loadAll rfl rfl rfl .plain ?_; refine kca rfl rfl (hB) <| K.not rfl rfl .plain <| RunK.nil <| LWP.condF rfl ?_; refine LWP.skip ?_; refine LWP.seq <| LWP.draws mixed (by kernel_rfl) <| K.loadAll rfl rfl rfl .plain ?_; refine kca rfl rfl (sizeOf_spec _ _ _ _) <| K.loadAll rfl rfl rfl .plain ?_; refine kca rfl rfl (sizeOf_spec _ _ _ _) <| kca rfl rfl (ht') <| kmv rfl <| kex rfl rfl <| kex rfl rfl <| K.alloc rfl .plain ?_; refine K.storeAll rfl rfl rfl rfl rfl rfl .plain ?_; refine kas rfl <| RunK.nil <| And.intro (by kernel_rfl) ?_; refine LWP.seq <| LWP.seq <| LWP.region (by kernel_rfl) <| kmv rfl <| K.not rfl rfl .plain <| RunK.nil <| LWP.condF rfl ?_; refine LWP.skip ?_; refine LWP.seq <| LWP.region (by kernel_rfl) <| kfa rfl rfl ?_; refine kl1 rfl rfl rfl <| kfa rfl rfl ?_; refine kl1 rfl rfl rfl <| K.neqB rfl rfl rfl .plain <| K.loadAll rfl rfl rfl .plain ?_; refine kca rfl rfl (hb) <| kex rfl rfl <| kex rfl rfl <| K.storeAll rfl rfl rfl rfl rfl rfl .plain ?_; refine kas rfl <| RunK.nil <| LWP.ret ?_)
        exact ⟨[_, _], ⟨⟨_, _, rfl, rfl, rfl, .inl ⟨AggT.h, rfl⟩⟩, rfl, trivial⟩, rfl⟩
    · have ht' := ht false (decide_eq_false hbig)
      rw [addR_out (by rw [hrange]; omega)]
      refine PSpec.intro Try.func31 rfl (by kernel_rfl) rfl rfl ?_
      intro C
      (refine LWP.seq <| LWP.region (by kernel_rfl) <| K.box rfl rfl rfl .plain <| K.box rfl rfl rfl .plain <| K.alloc rfl .plain ?_; refine kas rfl <| RunK.nil <| LWP.seq <| LWP.seq <| LWP.region (by kernel_rfl) <| K.loadAll rfl rfl rfl .plain ?_; refine K.loadAll rfl rfl rfl .plain ?_; refine kca rfl rfl (hB) <| K.not rfl rfl .plain <| RunK.nil <| LWP.condF rfl ?_; refine LWP.skip ?_; refine LWP.seq <| LWP.draws mixed (by kernel_rfl) <| K.loadAll rfl rfl rfl .plain ?_; refine kca rfl rfl (sizeOf_spec _ _ _ _) <| K.loadAll rfl rfl rfl .plain ?_; refine kca rfl rfl (sizeOf_spec _ _ _ _) <| kca rfl rfl (ht') <| kmv rfl <| kex rfl rfl <| kex rfl rfl <| K.alloc rfl .plain ?_; refine K.storeAll rfl rfl rfl rfl rfl rfl .plain ?_; refine kas rfl <| RunK.nil <| And.intro (by kernel_rfl) ?_; refine LWP.seq <| LWP.seq <| LWP.region (by kernel_rfl) <| kmv rfl <| K.not rfl rfl .plain <| RunK.nil <| LWP.condT rfl ?_; refine LWP.seq <| LWP.region (by kernel_rfl) <| K.build rfl rfl (by exact rfl) (by exact nl3 rfl rfl rfl rfl) .plain ?_; refine K.storeAll rfl rfl rfl rfl rfl rfl .plain ?_; refine kas rfl <| RunK.nil <| LWP.ret ?_)
      exact ⟨[_, _], ⟨⟨_, _, rfl, rfl, rfl, .inl ⟨AggT.h, rfl⟩⟩, rfl, trivial⟩, rfl⟩
end Go.Proofs.Ytfmohdliifmmfaa
