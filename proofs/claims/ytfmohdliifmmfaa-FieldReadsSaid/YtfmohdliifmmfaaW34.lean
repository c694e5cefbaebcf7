/- A piece of a proof over this program: contracts of its functions, and a logic to prove them by. -/
import Derived.Test.YtfmohdliifmmfaaW33
namespace Go.Proofs.Ytfmohdliifmmfaa
open Go Go.Lg Go.Lg.Arith Go.Lg.Dig Go.RowKit
variable (X : Nat → Option Obj)
theorem Good_spec (b : Bool) (N : Int) (hN : In2 N) (r : Bool) (hr : formB b N = r) : PSpec Try.prog X 20 [LI b N] (Lb r) := by
  obtain ⟨h0, h1⟩ := hN
  refine PSpec.intro Try.func20 rfl (by kernel_rfl) rfl rfl ?_
  intro C
  by_cases ha : N < 170141183460469231731687303715884105728
  · cases b with
    | false =>
      have e : r = true := by rw [← hr]; simp [formB, ha]
      (refine LWP.seq <| LWP.region (by kernel_rfl) <| K.box rfl rfl rfl .plain <| kas rfl <| RunK.nil <| LWP.seq <| LWP.region (by kernel_rfl) <| kfa rfl rfl ?_; refine kl1 rfl rfl rfl <| klt rfl rfl (decide_eq_true (by omega)) <| kmv rfl <| K.fieldAddr rfl rfl (.taken rfl rfl) ?_; refine K.loadOne rfl rfl rfl (.taken rfl rfl) ?_; refine gmv rfl rfl rfl <| RunK.passed rfl rfl rfl <| RunK.passed rfl rfl rfl <| RunK.passed rfl rfl rfl <| K.pickF rfl rfl (.taken rfl rfl) ?_; refine gmv rfl rfl rfl <| RunK.passed rfl rfl rfl <| RunK.passed rfl rfl rfl <| RunK.passed rfl rfl rfl <| K.pickF rfl rfl (.taken rfl rfl) ?_; refine K.not rfl rfl (.taken rfl rfl) ?_; refine kpt rfl rfl <| kas rfl <| RunK.nil <| LWP.ret ?_)
      exact ⟨[_], ⟨rfl, trivial⟩, by rw [e]; rfl⟩
    | true =>
      by_cases hh : N / 18446744073709551616 = 0
      · by_cases hl : N % 18446744073709551616 = 0
        · have e : r = false := by rw [← hr]; unfold formB; rw [show (N == 0) = true from beq_iff_eq.2 (by omega)]; simp
          (refine LWP.seq <| LWP.region (by kernel_rfl) <| K.box rfl rfl rfl .plain <| kas rfl <| RunK.nil <| LWP.seq <| LWP.region (by kernel_rfl) <| kfa rfl rfl ?_; refine kl1 rfl rfl rfl <| klt rfl rfl (decide_eq_true (by omega)) <| kmv rfl <| K.fieldAddr rfl rfl (.taken rfl rfl) ?_; refine K.loadOne rfl rfl rfl (.taken rfl rfl) ?_; refine gmv rfl rfl rfl <| K.fieldAddr rfl rfl (.taken rfl rfl) ?_; refine K.loadOne rfl rfl rfl (.taken rfl rfl) ?_; refine K.eql rfl rfl (beq_iff_eq.2 (by omega)) (.taken rfl rfl) ?_; refine K.pickT rfl rfl (.taken rfl rfl) ?_; refine gmv rfl rfl rfl <| K.fieldAddr rfl rfl (.taken rfl rfl) ?_; refine K.loadOne rfl rfl rfl (.taken rfl rfl) ?_; refine K.eql rfl rfl (beq_iff_eq.2 (by omega)) (.taken rfl rfl) ?_; refine K.pickT rfl rfl (.taken rfl rfl) ?_; refine K.not rfl rfl (.taken rfl rfl) ?_; refine kpt rfl rfl <| kas rfl <| RunK.nil <| LWP.ret ?_)
          exact ⟨[_], ⟨rfl, trivial⟩, by rw [e]; rfl⟩
        · have e : r = true := by rw [← hr]; unfold formB; rw [show (N == 0) = false from beq_eq_false_iff_ne.2 (by omega)]; simp [ha]
          (refine LWP.seq <| LWP.region (by kernel_rfl) <| K.box rfl rfl rfl .plain <| kas rfl <| RunK.nil <| LWP.seq <| LWP.region (by kernel_rfl) <| kfa rfl rfl ?_; refine kl1 rfl rfl rfl <| klt rfl rfl (decide_eq_true (by omega)) <| kmv rfl <| K.fieldAddr rfl rfl (.taken rfl rfl) ?_; refine K.loadOne rfl rfl rfl (.taken rfl rfl) ?_; refine gmv rfl rfl rfl <| K.fieldAddr rfl rfl (.taken rfl rfl) ?_; refine K.loadOne rfl rfl rfl (.taken rfl rfl) ?_; refine K.eql rfl rfl (beq_iff_eq.2 (by omega)) (.taken rfl rfl) ?_; refine K.pickT rfl rfl (.taken rfl rfl) ?_; refine gmv rfl rfl rfl <| K.fieldAddr rfl rfl (.taken rfl rfl) ?_; refine K.loadOne rfl rfl rfl (.taken rfl rfl) ?_; refine K.eql rfl rfl (beq_eq_false_iff_ne.2 (by omega)) (.taken rfl rfl) ?_; refine K.pickT rfl rfl (.taken rfl rfl) ?_; refine K.not rfl rfl (.taken rfl rfl) ?_; refine kpt rfl rfl <| kas rfl <| RunK.nil <| LWP.ret ?_)
          exact ⟨[_], ⟨rfl, trivial⟩, by rw [e]; rfl⟩
      · have e : r = true := by rw [← hr]; unfold formB; rw [show (N == 0) = false from beq_eq_false_iff_ne.2 (by omega)]; simp [ha]
        (refine LWP.seq <| LWP.region (by kernel_rfl) <| K.box rfl rfl rfl .plain <| kas rfl <| RunK.nil <| LWP.seq <| LWP.region (by kernel_rfl) <| kfa rfl rfl ?_; refine kl1 rfl rfl rfl <| klt rfl rfl (decide_eq_true (by omega)) <| kmv rfl <| K.fieldAddr rfl rfl (.taken rfl rfl) ?_; refine K.loadOne rfl rfl rfl (.taken rfl rfl) ?_; refine gmv rfl rfl rfl <| K.fieldAddr rfl rfl (.taken rfl rfl) ?_; refine K.loadOne rfl rfl rfl (.taken rfl rfl) ?_; refine K.eql rfl rfl (beq_eq_false_iff_ne.2 (by omega)) (.taken rfl rfl) ?_; refine K.pickT rfl rfl (.taken rfl rfl) ?_; refine gmv rfl rfl rfl <| RunK.passed rfl rfl rfl <| RunK.passed rfl rfl rfl <| RunK.passed rfl rfl rfl <| K.pickF rfl rfl (.taken rfl rfl) ?_; refine K.not rfl rfl (.taken rfl rfl) ?_; refine kpt rfl rfl <| kas rfl <| RunK.nil <| LWP.ret ?_)
        exact ⟨[_], ⟨rfl, trivial⟩, by rw [e]; rfl⟩
  · have e : r = false := by rw [← hr]; simp [formB, ha]
    (refine LWP.seq <| LWP.region (by kernel_rfl) <| K.box rfl rfl rfl .plain <| kas rfl <| RunK.nil <| LWP.seq <| LWP.region (by kernel_rfl) <| kfa rfl rfl ?_; refine kl1 rfl rfl rfl <| klt rfl rfl (decide_eq_false (by omega)) <| kmv rfl <| RunK.passed rfl rfl rfl <| RunK.passed rfl rfl rfl <| RunK.passed rfl rfl rfl <| RunK.passedU rfl rfl <| RunK.passedU rfl rfl <| RunK.passedU rfl rfl <| RunK.passed rfl rfl rfl <| RunK.passed rfl rfl rfl <| RunK.passedU rfl rfl <| RunK.passedU rfl rfl <| RunK.passedU rfl rfl ?_; refine RunK.passed rfl rfl rfl <| RunK.passed rfl rfl rfl <| kpf rfl rfl <| kas rfl <| RunK.nil <| LWP.ret ?_)
    exact ⟨[_], ⟨rfl, trivial⟩, by rw [e]; rfl⟩
theorem mg_nat (x : Int) : (((mg x).toNat : Nat) : Int) = mg x := by have := mg_nonneg x; omega
theorem From_q (x : Int) (hx : R127 x) : PSpec Try.prog X 40 [LQ x] (LN (decide (x < 0)) (dg (mg x).toNat)) := by
  have h := From_spec X (decide (x < 0)) (mg x).toNat (by have := mg_lim hx; have := mg_nonneg x; omega)
  rw [mg_nat] at h
  exact h
theorem lim40 {n : Nat} (h : n < 340282366920938463463374607431768211456) : n < T40 := by
  unfold T40
  rw [pow40]
  omega
theorem RCmp_spec (x y : Int) (hx : R127 x) (hy : R127 y) (r : Int) (hr : cmpI x y = r) : PSpec Try.prog X 21 [LQ x, LQ y] (Ln .i64 r) := by
  have f1 := From_q X x hx
  have f2 := From_q X y hy
  have n1 := mg_nonneg x
  have n2 := mg_nonneg y
  have m1 := mg_lim hx
  have m2 := mg_lim hy
  obtain ⟨s, hs, c1, c2, c3⟩ := cmp_facts_0 ((mg x).toNat : Nat) ((mg y).toNat : Nat)
  have hS := Size_spec X (decide (x < 0)) (decide (y < 0)) (mg x).toNat (mg y).toNat (lim40 (by omega)) (lim40 (by omega)) s hs
  rw [mg_nat, mg_nat] at c1 c2 c3
  refine PSpec.intro Try.func21 rfl (by kernel_rfl) rfl rfl ?_
  intro C
  by_cases cx : x < 0
  · by_cases cy : y < 0
    · have hb : (decide (x < 0) != decide (y < 0)) = false := by rw [decide_eq_true cx, decide_eq_true cy]; rfl
      have e : r = 0 - s := by
        rw [mg_neg cx, mg_neg cy] at c1 c2 c3
        rw [← hr]
        unfold cmpI
        rcases Int.lt_trichotomy x y with h | h | h
        · rw [if_pos h]; omega
        · rw [if_neg (by omega), if_neg (by omega)]; omega
        · rw [if_neg (by omega), if_pos h]; omega
      have sb : -1 ≤ s ∧ s ≤ 1 := by rcases Int.lt_trichotomy (mg x) (mg y) with h | h | h <;> omega
      (refine LWP.seq <| LWP.region (by kernel_rfl) <| K.box rfl rfl rfl .plain <| K.box rfl rfl rfl .plain <| kas rfl <| RunK.nil <| LWP.seq <| LWP.seq <| LWP.region (by kernel_rfl) <| kfa rfl rfl ?_; refine kl1 rfl rfl rfl <| kfa rfl rfl ?_; refine kl1 rfl rfl rfl <| K.neqB rfl rfl hb .plain <| RunK.nil <| LWP.condF rfl ?_; refine LWP.skip ?_; refine LWP.seq <| LWP.draws mixed (by kernel_rfl) <| K.loadAll rfl rfl rfl .plain ?_; refine kca rfl rfl (f1) <| K.loadAll rfl rfl rfl .plain ?_; refine kca rfl rfl (f2) <| kca rfl rfl (hS) <| kas rfl <| RunK.nil <| And.intro (by kernel_rfl) ?_; refine LWP.seq <| LWP.seq <| LWP.region (by kernel_rfl) <| kfa rfl rfl ?_; refine kl1 rfl rfl rfl <| RunK.nil <| LWP.condT (ev_bool (decide_eq_true cx)) ?_; refine LWP.seq <| LWP.region (by kernel_rfl) <| kmv rfl <| K.neg rfl (wrap_i64 (by omega)) .plain <| kas rfl <| RunK.nil <| LWP.ret ?_)
      exact ⟨[_], ⟨rfl, trivial⟩, by rw [e]; rfl⟩
    · have hb : (decide (x < 0) != decide (y < 0)) = true := by rw [decide_eq_true cx, decide_eq_false cy]; rfl
      have e : r = -1 := by rw [← hr]; unfold cmpI; rw [if_pos (by omega)]
      (refine LWP.seq <| LWP.region (by kernel_rfl) <| K.box rfl rfl rfl .plain <| K.box rfl rfl rfl .plain <| kas rfl <| RunK.nil <| LWP.seq <| LWP.seq <| LWP.region (by kernel_rfl) <| kfa rfl rfl ?_; refine kl1 rfl rfl rfl <| kfa rfl rfl ?_; refine kl1 rfl rfl rfl <| K.neqB rfl rfl hb .plain <| RunK.nil <| LWP.condT rfl ?_; refine LWP.seq <| LWP.seq <| LWP.region (by kernel_rfl) <| kfa rfl rfl ?_; refine kl1 rfl rfl rfl <| RunK.nil <| LWP.condT (ev_bool (decide_eq_true cx)) ?_; refine LWP.seq <| LWP.region (by kernel_rfl) <| kas rfl <| RunK.nil <| LWP.ret ?_)
      exact ⟨[_], ⟨rfl, trivial⟩, by rw [e]; rfl⟩
  · by_cases cy : y < 0
    · have hb : (decide (x < 0) != decide (y < 0)) = true := by rw [decide_eq_false cx, decide_eq_true cy]; rfl
      have e : r = 1 := by rw [← hr]; unfold cmpI; rw [if_neg (by omega), if_pos (by omega)]
      (refine LWP.seq <| LWP.region (by kernel_rfl) <| K.box rfl rfl rfl .plain <| K.box rfl rfl rfl .plain <| kas rfl <| RunK.nil <| LWP.seq <| LWP.seq <| LWP.region (by kernel_rfl) <| kfa rfl rfl ?_; refine kl1 rfl rfl rfl <| kfa rfl rfl ?_; refine kl1 rfl rfl rfl <| K.neqB rfl rfl hb .plain <| RunK.nil <| LWP.condT rfl ?_; refine LWP.seq <| LWP.seq <| LWP.region (by kernel_rfl) <| kfa rfl rfl ?_; refine kl1 rfl rfl rfl <| RunK.nil <| LWP.condF (ev_bool (decide_eq_false cx)) ?_; refine LWP.skip ?_; refine LWP.seq <| LWP.region (by kernel_rfl) <| kas rfl <| RunK.nil <| LWP.ret ?_)
      exact ⟨[_], ⟨rfl, trivial⟩, by rw [e]; rfl⟩
    · have hb : (decide (x < 0) != decide (y < 0)) = false := by rw [decide_eq_false cx, decide_eq_false cy]; rfl
      have e : r = s := by
        rw [mg_pos (Int.not_lt.1 cx), mg_pos (Int.not_lt.1 cy)] at c1 c2 c3
        rw [← hr]
        unfold cmpI
        rcases Int.lt_trichotomy x y with h | h | h
        · rw [if_pos h]; omega
        · rw [if_neg (by omega), if_neg (by omega)]; omega
        · rw [if_neg (by omega), if_pos h]; omega
      (refine LWP.seq <| LWP.region (by kernel_rfl) <| K.box rfl rfl rfl .plain <| K.box rfl rfl rfl .plain <| kas rfl <| RunK.nil <| LWP.seq <| LWP.seq <| LWP.region (by kernel_rfl) <| kfa rfl rfl ?_; refine kl1 rfl rfl rfl <| kfa rfl rfl ?_; refine kl1 rfl rfl rfl <| K.neqB rfl rfl hb .plain <| RunK.nil <| LWP.condF rfl ?_; refine LWP.skip ?_; refine LWP.seq <| LWP.draws mixed (by kernel_rfl) <| K.loadAll rfl rfl rfl .plain ?_; refine kca rfl rfl (f1) <| K.loadAll rfl rfl rfl .plain ?_; refine kca rfl rfl (f2) <| kca rfl rfl (hS) <| kas rfl <| RunK.nil <| And.intro (by kernel_rfl) ?_; refine LWP.seq <| LWP.seq <| LWP.region (by kernel_rfl) <| kfa rfl rfl ?_; refine kl1 rfl rfl rfl <| RunK.nil <| LWP.condF (ev_bool (decide_eq_false cx)) ?_; refine LWP.skip ?_; refine LWP.seq <| LWP.region (by kernel_rfl) <| kmv rfl <| kas rfl <| RunK.nil <| LWP.ret ?_)
      exact ⟨[_], ⟨rfl, trivial⟩, by rw [e]; rfl⟩
end Go.Proofs.Ytfmohdliifmmfaa
