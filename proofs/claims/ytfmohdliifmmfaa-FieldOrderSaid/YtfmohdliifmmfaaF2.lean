/- A piece of a proof over this program: contracts of its functions, and a logic to prove them by. -/
import Derived.Test.YtfmohdliifmmfaaF1
namespace Go.Lg.Fld
open Go Go.Lg
/-- the nearest number of a kind -/
def clampK (k x : Int) : Int := if x < -kB k then -kB k else if kA k < x then kA k else x
/-- a number of a kind -/
def fitZ (k x : Int) : Bool := decide (-kB k ≤ x) && decide (x ≤ kA k)
theorem fitZ_iff (k x : Int) : fitZ k x = true ↔ -kB k ≤ x ∧ x ≤ kA k := by simp only [fitZ, Bool.and_eq_true, decide_eq_true_eq]
theorem clamp_fit (k x : Int) : fitZ k (clampK k x) = true := by
  obtain ⟨h0, _, h2, _, _⟩ := kfacts k
  rw [fitZ_iff]
  unfold clampK
  (repeat' split) <;> omega
theorem clamp_same (k x : Int) : decide (clampK k x = x) = fitZ k x := by
  obtain ⟨h0, _, h2, _, _⟩ := kfacts k
  rw [Bool.eq_iff_iff, decide_eq_true_eq, fitZ_iff]
  unfold clampK
  (repeat' split) <;> omega
end Go.Lg.Fld
namespace Go.Proofs.Ytfmohdliifmmfaa
open Go Go.Lg Go.Lg.Fld
set_option maxRecDepth 100000
variable (X : Nat → Option Obj)
theorem clamp_R (k x : Int) : R127 (clampK k x) := by
  have h := clamp_fit k x
  rw [fitZ_iff] at h
  have := kfacts k
  unfold R127; omega
theorem Clamp_bad (k : Int) (b : Bool) (N : Int) (hN : In2 N) (hf : formB b N = false) : PSpec Try.prog X 22 [Ln .i64 k, LI b N] (.sv S0) := by
  refine PSpec.intro Try.func22 rfl (by kernel_rfl) rfl rfl ?_
  intro C
  (refine LWP.seq <| LWP.region (by kernel_rfl) <| K.box rfl rfl rfl .plain <| K.alloc rfl .plain ?_; refine RunK.nil <| LWP.seq <| LWP.region (by kernel_rfl) <| kmv rfl <| kca rfl rfl (Least_spec X k) <| kmv rfl <| kca rfl rfl (Greatest_spec X k) <| K.alloc rfl .plain ?_; refine K.alloc rfl .plain ?_; refine K.storeAll rfl rfl rfl rfl rfl rfl .plain ?_; refine K.storeAll rfl rfl rfl rfl rfl rfl .plain ?_; refine RunK.nil <| LWP.seq <| LWP.block <| LWP.seq <| LWP.region (by kernel_rfl) <| K.loadAll rfl rfl rfl .plain ?_; refine kca rfl rfl (Form_spec X b N hN false hf) <| K.not rfl rfl .plain <| kas rfl <| RunK.nil <| LWP.condT rfl ?_; refine LWP.seq <| LWP.region (by kernel_rfl) <| K.build rfl rfl (by exact rfl) (by exact nl3 rfl rfl rfl rfl) .plain ?_; refine K.storeAll rfl rfl rfl rfl rfl rfl .plain ?_; refine RunK.nil <| LWP.ret ?_)
  exact ⟨[_], ⟨⟨_, _, rfl, rfl, rfl, .inl ⟨AggT.h, rfl⟩⟩, trivial⟩, rfl⟩
theorem Clamp_spec (k x : Int) (hx : R127 x) : PSpec Try.prog X 22 [Ln .i64 k, LQ x] (LQ (clampK k x)) := by
  have hF := Form_spec X (decide (x < 0)) (mg x) (mg_in2 hx) true (formB_q hx)
  have c1 := Cmp_q X x (-kB k) hx (kBn_R k)
  have c2 := Cmp_q X x (kA k) hx (kA_R k)
  have hL := Least_spec X k
  have hG := Greatest_spec X k
  have hk := kfacts k
  refine PSpec.intro Try.func22 rfl (by kernel_rfl) rfl rfl ?_
  intro C
  by_cases h1 : x < -kB k
  · have e : clampK k x = -kB k := if_pos h1
    rw [e]
    have c1' := c1 (-1) (by unfold cmpI; rw [if_pos h1])
    (refine LWP.seq <| LWP.region (by kernel_rfl) <| K.box rfl rfl rfl .plain <| K.alloc rfl .plain ?_; refine RunK.nil <| LWP.seq <| LWP.region (by kernel_rfl) <| kmv rfl <| kca rfl rfl (hL) <| kmv rfl <| kca rfl rfl (hG) <| K.alloc rfl .plain ?_; refine K.alloc rfl .plain ?_; refine K.storeAll rfl rfl rfl rfl rfl rfl .plain ?_; refine K.storeAll rfl rfl rfl rfl rfl rfl .plain ?_; refine RunK.nil <| LWP.seq <| LWP.block <| LWP.seq <| LWP.region (by kernel_rfl) <| K.loadAll rfl rfl rfl .plain ?_; refine kca rfl rfl (hF) <| K.not rfl rfl .plain <| kas rfl <| RunK.nil <| LWP.condF rfl ?_; refine LWP.seq <| LWP.region (by kernel_rfl) <| K.loadAll rfl rfl rfl .plain ?_; refine K.loadAll rfl rfl rfl .plain ?_; refine kca rfl rfl (c1') <| klt rfl rfl (decide_eq_true (by omega)) <| kas rfl <| RunK.nil <| LWP.condT rfl ?_; refine LWP.seq <| LWP.region (by kernel_rfl) <| K.loadAll rfl rfl rfl .plain ?_; refine K.storeAll rfl rfl rfl rfl rfl rfl .plain ?_; refine RunK.nil <| LWP.ret ?_)
    exact ⟨[_], ⟨⟨_, _, rfl, rfl, rfl, .inl ⟨AggT.h, rfl⟩⟩, trivial⟩, rfl⟩
  · have c1' : ∃ r : Int, 0 ≤ r ∧ cmpI x (-kB k) = r := ⟨_, (by unfold cmpI; rw [if_neg h1]; split <;> decide), rfl⟩
    obtain ⟨r, hr0, hr⟩ := c1'
    have c1' := c1 r hr
    by_cases h2 : kA k < x
    · have e : clampK k x = kA k := by unfold clampK; rw [if_neg h1, if_pos h2]
      rw [e]
      have c2' := c2 1 (by unfold cmpI; rw [if_neg (show ¬ x < kA k by omega), if_pos h2])
      (refine LWP.seq <| LWP.region (by kernel_rfl) <| K.box rfl rfl rfl .plain <| K.alloc rfl .plain ?_; refine RunK.nil <| LWP.seq <| LWP.region (by kernel_rfl) <| kmv rfl <| kca rfl rfl (hL) <| kmv rfl <| kca rfl rfl (hG) <| K.alloc rfl .plain ?_; refine K.alloc rfl .plain ?_; refine K.storeAll rfl rfl rfl rfl rfl rfl .plain ?_; refine K.storeAll rfl rfl rfl rfl rfl rfl .plain ?_; refine RunK.nil <| LWP.seq <| LWP.block <| LWP.seq <| LWP.region (by kernel_rfl) <| K.loadAll rfl rfl rfl .plain ?_; refine kca rfl rfl (hF) <| K.not rfl rfl .plain <| kas rfl <| RunK.nil <| LWP.condF rfl ?_; refine LWP.seq <| LWP.region (by kernel_rfl) <| K.loadAll rfl rfl rfl .plain ?_; refine K.loadAll rfl rfl rfl .plain ?_; refine kca rfl rfl c1' <| klt rfl rfl (decide_eq_false (by omega)) <| kas rfl <| RunK.nil <| LWP.condF rfl ?_; refine LWP.seq <| LWP.region (by kernel_rfl) <| K.loadAll rfl rfl rfl .plain ?_; refine K.loadAll rfl rfl rfl .plain ?_; refine kca rfl rfl c2' <| K.gtr rfl rfl (decide_eq_true (by omega)) .plain <| kas rfl <| RunK.nil <| LWP.condT rfl ?_; refine LWP.seq <| LWP.region (by kernel_rfl) <| K.loadAll rfl rfl rfl .plain ?_; refine K.storeAll rfl rfl rfl rfl rfl rfl .plain ?_; refine RunK.nil <| LWP.ret ?_)
      exact ⟨[_], ⟨⟨_, _, rfl, rfl, rfl, .inl ⟨AggT.h, rfl⟩⟩, trivial⟩, rfl⟩
    · have e : clampK k x = x := by unfold clampK; rw [if_neg h1, if_neg h2]
      rw [e]
      obtain ⟨s, hs0, hs⟩ : ∃ s : Int, s ≤ 0 ∧ cmpI x (kA k) = s := ⟨_, (by unfold cmpI; rw [if_neg h2]; split <;> decide), rfl⟩
      have c2' := c2 s hs
      (refine LWP.seq <| LWP.region (by kernel_rfl) <| K.box rfl rfl rfl .plain <| K.alloc rfl .plain ?_; refine RunK.nil <| LWP.seq <| LWP.region (by kernel_rfl) <| kmv rfl <| kca rfl rfl (hL) <| kmv rfl <| kca rfl rfl (hG) <| K.alloc rfl .plain ?_; refine K.alloc rfl .plain ?_; refine K.storeAll rfl rfl rfl rfl rfl rfl .plain ?_; refine K.storeAll rfl rfl rfl rfl rfl rfl .plain ?_; refine RunK.nil <| LWP.seq <| LWP.block <| LWP.seq <| LWP.region (by kernel_rfl) <| K.loadAll rfl rfl rfl .plain ?_; refine kca rfl rfl (hF) <| K.not rfl rfl .plain <| kas rfl <| RunK.nil <| LWP.condF rfl ?_; refine LWP.seq <| LWP.region (by kernel_rfl) <| K.loadAll rfl rfl rfl .plain ?_; refine K.loadAll rfl rfl rfl .plain ?_; refine kca rfl rfl c1' <| klt rfl rfl (decide_eq_false (by omega)) <| kas rfl <| RunK.nil <| LWP.condF rfl ?_; refine LWP.seq <| LWP.region (by kernel_rfl) <| K.loadAll rfl rfl rfl .plain ?_; refine K.loadAll rfl rfl rfl .plain ?_; refine kca rfl rfl c2' <| K.gtr rfl rfl (decide_eq_false (by omega)) .plain <| kas rfl <| RunK.nil <| LWP.condF rfl ?_; refine LWP.skip ?_; refine LWP.seq <| LWP.region (by kernel_rfl) <| K.loadAll rfl rfl rfl .plain ?_; refine K.storeAll rfl rfl rfl rfl rfl rfl .plain ?_; refine RunK.nil <| LWP.ret ?_)
      exact ⟨[_], ⟨⟨_, _, rfl, rfl, rfl, .inl ⟨AggT.h, rfl⟩⟩, trivial⟩, rfl⟩
/-- whether a number, raw ones too, is of a kind -/
def fitB (k : Int) (b : Bool) (N : Int) : Bool := kK k && (formB b N && fitZ k (zv b N))
theorem Fits_no (k : Int) (b : Bool) (N : Int) (hk : kK k = false) : PSpec Try.prog X 18 [Ln .i64 k, LI b N] (Lb false) := by
  refine PSpec.intro Try.func18 rfl (by kernel_rfl) rfl rfl ?_
  intro C
  (refine LWP.seq <| LWP.region (by kernel_rfl) <| K.box rfl rfl rfl .plain <| kas rfl <| RunK.nil <| LWP.seq <| LWP.draws mixed (by kernel_rfl) <| kmv rfl <| kca rfl rfl (isKind_spec X k false hk) <| kmv rfl <| RunK.passed rfl rfl rfl <| RunK.passed rfl rfl rfl <| RunK.passed rfl rfl rfl <| RunK.passed rfl rfl rfl ?_; refine RunK.passed rfl rfl rfl <| kpf rfl rfl <| kas rfl <| RunK.nil <| And.intro (by kernel_rfl) ?_; refine LWP.ret ?_)
  exact ⟨[_], ⟨rfl, trivial⟩, rfl⟩
theorem Fits_bad (k : Int) (b : Bool) (N : Int) (hk : kK k = true) (hN : In2 N) (hf : formB b N = false) : PSpec Try.prog X 18 [Ln .i64 k, LI b N] (Lb false) := by
  have hC := Clamp_bad X k b N hN hf
  have hq : (false == b && ((0 : Int) == N / 18446744073709551616 && (0 : Int) == N % 18446744073709551616)) = false := by
    cases hb : (false == b && ((0 : Int) == N / 18446744073709551616 && (0 : Int) == N % 18446744073709551616)) with
    | false => rfl
    | true =>
      simp only [Bool.and_eq_true, beq_iff_eq] at hb
      obtain ⟨rfl, h1, h2⟩ := hb
      have : N = 0 := by omega
      subst this
      cases hf
  refine PSpec.intro Try.func18 rfl (by kernel_rfl) rfl rfl ?_
  intro C
  (refine LWP.seq <| LWP.region (by kernel_rfl) <| K.box rfl rfl rfl .plain <| kas rfl <| RunK.nil <| LWP.seq <| LWP.draws mixed (by kernel_rfl) <| kmv rfl <| kca rfl rfl (isKind_spec X k true hk) <| kmv rfl <| gmv rfl rfl rfl <| K.loadAll rfl rfl rfl (.taken rfl rfl) ?_; refine gca rfl rfl (hC) rfl rfl <| K.loadAll rfl rfl rfl (.taken rfl rfl) ?_; refine K.aggEq rfl rfl rfl rfl (by kernel_rfl) (eqI false hq) (.inl ⟨rfl, rfl⟩) (.taken rfl rfl) ?_; refine kpt rfl rfl <| kas rfl <| RunK.nil <| And.intro (by kernel_rfl) ?_; refine LWP.ret ?_)
  exact ⟨[_], ⟨rfl, trivial⟩, rfl⟩
theorem Fits_q (k x : Int) (hk : kK k = true) (hx : R127 x) (r : Bool) (hr : fitZ k x = r) : PSpec Try.prog X 18 [Ln .i64 k, LQ x] (Lb r) := by
  have hC := Clamp_spec X k x hx
  have hq := clamp_same k x
  rw [hr] at hq
  refine PSpec.intro Try.func18 rfl (by kernel_rfl) rfl rfl ?_
  intro C
  (refine LWP.seq <| LWP.region (by kernel_rfl) <| K.box rfl rfl rfl .plain <| kas rfl <| RunK.nil <| LWP.seq <| LWP.draws mixed (by kernel_rfl) <| kmv rfl <| kca rfl rfl (isKind_spec X k true hk) <| kmv rfl <| gmv rfl rfl rfl <| K.loadAll rfl rfl rfl (.taken rfl rfl) ?_; refine gca rfl rfl (hC) rfl rfl <| K.loadAll rfl rfl rfl (.taken rfl rfl) ?_; refine K.aggEq rfl rfl rfl rfl (by kernel_rfl) (eqQ _ _ r hq) (.inl ⟨rfl, rfl⟩) (.taken rfl rfl) ?_; refine kpt rfl rfl <| kas rfl <| RunK.nil <| And.intro (by kernel_rfl) ?_; refine LWP.ret ?_)
  exact ⟨[_], ⟨rfl, trivial⟩, rfl⟩
theorem Fits_spec (k : Int) (b : Bool) (N : Int) (hN : In2 N) (r : Bool) (hr : fitB k b N = r) : PSpec Try.prog X 18 [Ln .i64 k, LI b N] (Lb r) := by
  subst hr
  unfold fitB
  cases hk : kK k with
  | false => exact Fits_no X k b N hk
  | true =>
    cases hf : formB b N with
    | false => exact Fits_bad X k b N hk hN hf
    | true =>
      rw [LI_q hN hf]
      exact Fits_q X k (zv b N) hk (zv_in hN hf).1 _ rfl
end Go.Proofs.Ytfmohdliifmmfaa
