/- A piece of a proof over this program: contracts of its functions, and a logic to prove them by. -/
import Derived.Test.YtfmadklfcoebhaaDoorP2
import Derived.Test.YtfmadklfcoebhaaDoorP3
section
namespace Go.Lg.Fld
open Go Go.Lg
/-- the nearest number of a kind -/
def clampK (k x : Int) : Int := if x < -kB k then -kB k else if kA k < x then kA k else x
/-- a number of a kind -/
def fitZ (k x : Int) : Bool := decide (-kB k ≤ x) && decide (x ≤ kA k)
theorem fitZ_iff (k x : Int) : fitZ k x = true ↔ -kB k ≤ x ∧ x ≤ kA k := by simp only [fitZ, Bool.and_eq_true, decide_eq_true_eq]
theorem clamp_fit (k x : Int) : fitZ k (clampK k x) = true := by
  obtain ⟨h0, _, h2, _, _⟩ := kfacts k
  rw [fitZ_iff]
  unfold clampK
  (repeat' split) <;> omega
theorem clamp_same (k x : Int) : decide (clampK k x = x) = fitZ k x := by
  obtain ⟨h0, _, h2, _, _⟩ := kfacts k
  rw [Bool.eq_iff_iff, decide_eq_true_eq, fitZ_iff]
  unfold clampK
  (repeat' split) <;> omega
end Go.Lg.Fld
namespace Go.Proofs.YtfmadklfcoebhaaDoor
open Go Go.Lg Go.Lg.Fld
set_option maxRecDepth 100000
variable (X : Nat → Option Obj)
theorem clamp_R (k x : Int) : R127 (clampK k x) := by
  have h := clamp_fit k x
  rw [fitZ_iff] at h
  have := kfacts k
  unfold R127; omega
theorem Clamp_bad (k : Int) (b : Bool) (N : Int) (hN : In2 N) (hf : formB b N = false) : PSpec Tryd.prog X 24 [Ln .i64 k, LI b N] (.sv S0) := by
  refine PSpec.intro Tryd.func24 rfl (by kernel_rfl) rfl rfl ?_
  intro C
  (refine LWP.seq <| LWP.region (by kernel_rfl) <| K.box rfl rfl rfl .plain <| K.alloc rfl .plain ?_; refine RunK.nil <| LWP.seq <| LWP.region (by kernel_rfl) <| kmv rfl <| kca rfl rfl (Least_spec X k) <| kmv rfl <| kca rfl rfl (Greatest_spec X k) <| K.alloc rfl .plain ?_; refine K.alloc rfl .plain ?_; refine K.storeAll rfl rfl rfl rfl rfl rfl .plain ?_; refine K.storeAll rfl rfl rfl rfl rfl rfl .plain ?_; refine RunK.nil <| LWP.seq <| LWP.block <| LWP.seq <| LWP.region (by kernel_rfl) <| K.loadAll rfl rfl rfl .plain ?_; refine kca rfl rfl (Form_spec X b N hN false hf) <| K.not rfl rfl .plain <| kas rfl <| RunK.nil <| LWP.condT rfl ?_; refine LWP.seq <| LWP.region (by kernel_rfl) <| K.build rfl rfl (by exact rfl) (by exact nl3 rfl rfl rfl rfl) .plain ?_; refine K.storeAll rfl rfl rfl rfl rfl rfl .plain ?_; refine RunK.nil <| LWP.ret ?_)
  exact ⟨[_], ⟨⟨_, _, rfl, rfl, rfl, .inl ⟨AggT.h, rfl⟩⟩, trivial⟩, rfl⟩
theorem Clamp_spec (k x : Int) (hx : R127 x) : PSpec Tryd.prog X 24 [Ln .i64 k, LQ x] (LQ (clampK k x)) := by
  have hF := Form_spec X (decide (x < 0)) (mg x) (mg_in2 hx) true (formB_q hx)
  have c1 := Cmp_q X x (-kB k) hx (kBn_R k)
  have c2 := Cmp_q X x (kA k) hx (kA_R k)
  have hL := Least_spec X k
  have hG := Greatest_spec X k
  have hk := kfacts k
  refine PSpec.intro Tryd.func24 rfl (by kernel_rfl) rfl rfl ?_
  intro C
  by_cases h1 : x < -kB k
  · have e : clampK k x = -kB k := if_pos h1
    rw [e]
    have c1' := c1 (-1) (by unfold cmpI; rw [if_pos h1])
    (refine LWP.seq <| LWP.region (by kernel_rfl) <| K.box rfl rfl rfl .plain <| K.alloc rfl .plain ?_; refine RunK.nil <| LWP.seq <| LWP.region (by kernel_rfl) <| kmv rfl <| kca rfl rfl (hL) <| kmv rfl <| kca rfl rfl (hG) <| K.alloc rfl .plain ?_; refine K.alloc rfl .plain ?_; refine K.storeAll rfl rfl rfl rfl rfl rfl .plain ?_; refine K.storeAll rfl rfl rfl rfl rfl rfl .plain ?_; refine RunK.nil <| LWP.seq <| LWP.block <| LWP.seq <| LWP.region (by kernel_rfl) <| K.loadAll rfl rfl rfl .plain ?_; refine kca rfl rfl (hF) <| K.not rfl rfl .plain <| kas rfl <| RunK.nil <| LWP.condF rfl ?_; refine LWP.seq <| LWP.region (by kernel_rfl) <| K.loadAll rfl rfl rfl .plain ?_; refine K.loadAll rfl rfl rfl .plain ?_; refine kca rfl rfl (c1') <| klt rfl rfl (decide_eq_true (by omega)) <| kas rfl <| RunK.nil <| LWP.condT rfl ?_; refine LWP.seq <| LWP.region (by kernel_rfl) <| K.loadAll rfl rfl rfl .plain ?_; refine K.storeAll rfl rfl rfl rfl rfl rfl .plain ?_; refine RunK.nil <| LWP.ret ?_)
    exact ⟨[_], ⟨⟨_, _, rfl, rfl, rfl, .inl ⟨AggT.h, rfl⟩⟩, trivial⟩, rfl⟩
  · have c1' : ∃ r : Int, 0 ≤ r ∧ cmpI x (-kB k) = r := ⟨_, (by unfold cmpI; rw [if_neg h1]; split <;> decide), rfl⟩
    obtain ⟨r, hr0, hr⟩ := c1'
    have c1' := c1 r hr
    by_cases h2 : kA k < x
    · have e : clampK k x = kA k := by unfold clampK; rw [if_neg h1, if_pos h2]
      rw [e]
      have c2' := c2 1 (by unfold cmpI; rw [if_neg (show ¬ x < kA k by omega), if_pos h2])
      (refine LWP.seq <| LWP.region (by kernel_rfl) <| K.box rfl rfl rfl .plain <| K.alloc rfl .plain ?_; refine RunK.nil <| LWP.seq <| LWP.region (by kernel_rfl) <| kmv rfl <| kca rfl rfl (hL) <| kmv rfl <| kca rfl rfl (hG) <| K.alloc rfl .plain ?_; refine K.alloc rfl .plain ?_; refine K.storeAll rfl rfl rfl rfl rfl rfl .plain ?_; refine K.storeAll rfl rfl rfl rfl rfl rfl .plain ?_; refine RunK.nil <| LWP.seq <| LWP.block <| LWP.seq <| LWP.region (by kernel_rfl) <| K.loadAll rfl rfl rfl .plain ?_; refine kca rfl rfl (hF) <| K.not rfl rfl .plain <| kas rfl <| RunK.nil <| LWP.condF rfl ?_; refine LWP.seq <| LWP.region (by kernel_rfl) <| K.loadAll rfl rfl rfl .plain ?_; refine K.loadAll rfl rfl rfl .plain ?_; refine kca rfl rfl c1' <| klt rfl rfl (decide_eq_false (by omega)) <| kas rfl <| RunK.nil <| LWP.condF rfl ?_; refine LWP.seq <| LWP.region (by kernel_rfl) <| K.loadAll rfl rfl rfl .plain ?_; refine K.loadAll rfl rfl rfl .plain ?_; refine kca rfl rfl c2' <| K.gtr rfl rfl (decide_eq_true (by omega)) .plain <| kas rfl <| RunK.nil <| LWP.condT rfl ?_; refine LWP.seq <| LWP.region (by kernel_rfl) <| K.loadAll rfl rfl rfl .plain ?_; refine K.storeAll rfl rfl rfl rfl rfl rfl .plain ?_; refine RunK.nil <| LWP.ret ?_)
      exact ⟨[_], ⟨⟨_, _, rfl, rfl, rfl, .inl ⟨AggT.h, rfl⟩⟩, trivial⟩, rfl⟩
    · have e : clampK k x = x := by unfold clampK; rw [if_neg h1, if_neg h2]
      rw [e]
      obtain ⟨s, hs0, hs⟩ : ∃ s : Int, s ≤ 0 ∧ cmpI x (kA k) = s := ⟨_, (by unfold cmpI; rw [if_neg h2]; split <;> decide), rfl⟩
      have c2' := c2 s hs
      (refine LWP.seq <| LWP.region (by kernel_rfl) <| K.box rfl rfl rfl .plain <| K.alloc rfl .plain ?_; refine RunK.nil <| LWP.seq <| LWP.region (by kernel_rfl) <| kmv rfl <| kca rfl rfl (hL) <| kmv rfl <| kca rfl rfl (hG) <| K.alloc rfl .plain ?_; refine K.alloc rfl .plain ?_; refine K.storeAll rfl rfl rfl rfl rfl rfl .plain ?_; refine K.storeAll rfl rfl rfl rfl rfl rfl .plain ?_; refine RunK.nil <| LWP.seq <| LWP.block <| LWP.seq <| LWP.region (by kernel_rfl) <| K.loadAll rfl rfl rfl .plain ?_; refine kca rfl rfl (hF) <| K.not rfl rfl .plain <| kas rfl <| RunK.nil <| LWP.condF rfl ?_; refine LWP.seq <| LWP.region (by kernel_rfl) <| K.loadAll rfl rfl rfl .plain ?_; refine K.loadAll rfl rfl rfl .plain ?_; refine kca rfl rfl c1' <| klt rfl rfl (decide_eq_false (by omega)) <| kas rfl <| RunK.nil <| LWP.condF rfl ?_; refine LWP.seq <| LWP.region (by kernel_rfl) <| K.loadAll rfl rfl rfl .plain ?_; refine K.loadAll rfl rfl rfl .plain ?_; refine kca rfl rfl c2' <| K.gtr rfl rfl (decide_eq_false (by omega)) .plain <| kas rfl <| RunK.nil <| LWP.condF rfl ?_; refine LWP.skip ?_; refine LWP.seq <| LWP.region (by kernel_rfl) <| K.loadAll rfl rfl rfl .plain ?_; refine K.storeAll rfl rfl rfl rfl rfl rfl .plain ?_; refine RunK.nil <| LWP.ret ?_)
      exact ⟨[_], ⟨⟨_, _, rfl, rfl, rfl, .inl ⟨AggT.h, rfl⟩⟩, trivial⟩, rfl⟩
/-- whether a number, raw ones too, is of a kind -/
def fitB (k : Int) (b : Bool) (N : Int) : Bool := kK k && (formB b N && fitZ k (zv b N))
theorem Fits_no (k : Int) (b : Bool) (N : Int) (hk : kK k = false) : PSpec Tryd.prog X 33 [Ln .i64 k, LI b N] (Lb false) := by
  refine PSpec.intro Tryd.func33 rfl (by kernel_rfl) rfl rfl ?_
  intro C
  (refine LWP.seq <| LWP.region (by kernel_rfl) <| K.box rfl rfl rfl .plain <| kas rfl <| RunK.nil <| LWP.seq <| LWP.draws mixed (by kernel_rfl) <| kmv rfl <| kca rfl rfl (isKind_spec X k false hk) <| kmv rfl <| RunK.passed rfl rfl rfl <| RunK.passed rfl rfl rfl <| RunK.passed rfl rfl rfl <| RunK.passed rfl rfl rfl ?_; refine RunK.passed rfl rfl rfl <| kpf rfl rfl <| kas rfl <| RunK.nil <| And.intro (by kernel_rfl) ?_; refine LWP.ret ?_)
  exact ⟨[_], ⟨rfl, trivial⟩, rfl⟩
theorem Fits_bad (k : Int) (b : Bool) (N : Int) (hk : kK k = true) (hN : In2 N) (hf : formB b N = false) : PSpec Tryd.prog X 33 [Ln .i64 k, LI b N] (Lb false) := by
  have hC := Clamp_bad X k b N hN hf
  have hq : (false == b && ((0 : Int) == N / 18446744073709551616 && (0 : Int) == N % 18446744073709551616)) = false := by
    cases hb : (false == b && ((0 : Int) == N / 18446744073709551616 && (0 : Int) == N % 18446744073709551616)) with
    | false => rfl
    | true =>
      simp only [Bool.and_eq_true, beq_iff_eq] at hb
      obtain ⟨rfl, h1, h2⟩ := hb
      have : N = 0 := by omega
      subst this
      cases hf
  refine PSpec.intro Tryd.func33 rfl (by kernel_rfl) rfl rfl ?_
  intro C
  (refine LWP.seq <| LWP.region (by kernel_rfl) <| K.box rfl rfl rfl .plain <| kas rfl <| RunK.nil <| LWP.seq <| LWP.draws mixed (by kernel_rfl) <| kmv rfl <| kca rfl rfl (isKind_spec X k true hk) <| kmv rfl <| gmv rfl rfl rfl <| K.loadAll rfl rfl rfl (.taken rfl rfl) ?_; refine gca rfl rfl (hC) rfl rfl <| K.loadAll rfl rfl rfl (.taken rfl rfl) ?_; refine K.aggEq rfl rfl rfl rfl (by kernel_rfl) (eqI false hq) (.inl ⟨rfl, rfl⟩) (.taken rfl rfl) ?_; refine kpt rfl rfl <| kas rfl <| RunK.nil <| And.intro (by kernel_rfl) ?_; refine LWP.ret ?_)
  exact ⟨[_], ⟨rfl, trivial⟩, rfl⟩
theorem Fits_q (k x : Int) (hk : kK k = true) (hx : R127 x) (r : Bool) (hr : fitZ k x = r) : PSpec Tryd.prog X 33 [Ln .i64 k, LQ x] (Lb r) := by
  have hC := Clamp_spec X k x hx
  have hq := clamp_same k x
  rw [hr] at hq
  refine PSpec.intro Tryd.func33 rfl (by kernel_rfl) rfl rfl ?_
  intro C
  (refine LWP.seq <| LWP.region (by kernel_rfl) <| K.box rfl rfl rfl .plain <| kas rfl <| RunK.nil <| LWP.seq <| LWP.draws mixed (by kernel_rfl) <| kmv rfl <| kca rfl rfl (isKind_spec X k true hk) <| kmv rfl <| gmv rfl rfl rfl <| K.loadAll rfl rfl rfl (.taken rfl rfl) ?_; refine gca rfl rfl (hC) rfl rfl <| K.loadAll rfl rfl rfl (.taken rfl rfl) ?_; refine K.aggEq rfl rfl rfl rfl (by kernel_rfl) (eqQ _ _ r hq) (.inl ⟨rfl, rfl⟩) (.taken rfl rfl) ?_; refine kpt rfl rfl <| kas rfl <| RunK.nil <| And.intro (by kernel_rfl) ?_; refine LWP.ret ?_)
  exact ⟨[_], ⟨rfl, trivial⟩, rfl⟩
theorem Fits_spec (k : Int) (b : Bool) (N : Int) (hN : In2 N) (r : Bool) (hr : fitB k b N = r) : PSpec Tryd.prog X 33 [Ln .i64 k, LI b N] (Lb r) := by
  subst hr
  unfold fitB
  cases hk : kK k with
  | false => exact Fits_no X k b N hk
  | true =>
    cases hf : formB b N with
    | false => exact Fits_bad X k b N hk hN hf
    | true =>
      rw [LI_q hN hf]
      exact Fits_q X k (zv b N) hk (zv_in hN hf).1 _ rfl
end Go.Proofs.YtfmadklfcoebhaaDoor
end
section
namespace Go.Lg.Fld
open Go Go.Lg
/-- how many words there are -/
def kM (k : Int) : Nat := 256 ^ kW k
/-- the word of a number; the number of a word -/
def wdK (k x : Int) : Nat := (x % (kM k : Int)).toNat
def nbK (k : Int) (v : Nat) : Int := if kA k < v then (v : Int) - (kM k : Int) else v
theorem kM_facts {k : Int} (h : kK k = true) : kB k + kA k < (kM k : Int) ∧ (kM k : Int) ≤ 18446744073709551616 ∧ 0 < kM k := by
  rcases kin h with rfl | rfl | rfl | rfl | rfl | rfl | rfl | rfl | rfl | rfl <;> decide
theorem wd_lt {k : Int} (h : kK k = true) (x : Int) : wdK k x < 256 ^ kW k := by
  have := kM_facts h
  have h1 := Int.emod_nonneg x (show (kM k : Int) ≠ 0 by omega)
  have h2 := Int.emod_lt_of_pos x (show 0 < (kM k : Int) by omega)
  show wdK k x < kM k
  unfold wdK
  omega
theorem wd_of {k x : Int} (h : kK k = true) (hx : fitZ k x = true) : (wdK k x : Int) = if x < 0 then x + kM k else x := by
  obtain ⟨h1, h2, h3⟩ := kM_facts h
  obtain ⟨f1, f2, f3, f4, _⟩ := kfacts k
  obtain ⟨x1, x2⟩ := (fitZ_iff k x).1 hx
  unfold wdK
  by_cases c : x < 0
  · rw [if_pos c]
    have e : x % (kM k : Int) = x + kM k := by
      rw [← Int.add_emod_right]
      exact Int.emod_eq_of_lt (by omega) (by omega)
    rw [e]; omega
  · rw [if_neg c, Int.emod_eq_of_lt (by omega) (by omega)]; omega
theorem nb_wd {k x : Int} (h : kK k = true) (hx : fitZ k x = true) : nbK k (wdK k x) = x := by
  obtain ⟨h1, h2, h3⟩ := kM_facts h
  obtain ⟨f1, f2, f3, f4, _⟩ := kfacts k
  obtain ⟨x1, x2⟩ := (fitZ_iff k x).1 hx
  have e := wd_of h hx
  unfold nbK
  by_cases c : x < 0
  · rw [if_pos c] at e
    rw [if_pos (by omega)]; omega
  · rw [if_neg c] at e
    rw [if_neg (by omega)]; omega
end Go.Lg.Fld
namespace Go.Proofs.YtfmadklfcoebhaaDoor
open Go Go.Lg Go.Lg.Fld
set_option maxRecDepth 100000
variable (X : Nat → Option Obj)
theorem fit_R {k x : Int} (h : fitZ k x = true) : R127 x := by
  have := kfacts k
  rw [fitZ_iff] at h
  unfold R127; omega
theorem nb_R {k : Int} {v : Nat} (h : kK k = true) (hv : v < 256 ^ kW k) : R127 (nbK k v) := by
  have := kM_facts h
  have hv : v < kM k := hv
  unfold R127 nbK
  split <;> omega
theorem opposite_1 (k : Int) (hk : kW k = 1) (v : Int) (hv : 0 ≤ v ∧ v < 18446744073709551616) : PSpec Tryd.prog X 68 [Ln .i64 k, Ln .u64 v] (Ln .u64 ((-v) % ((256 ^ 1 : Nat) : Int))) := by
  have hS := fSize_spec X k
  rw [hk] at hS
  have p1 : ((2 : Int) ^ (min (Int.toNat 56) IntKind.u64.bits)) = 72057594037927936 := by decide
  have p2 : ((256 ^ 1 : Nat) : Int) = 256 := by decide
  rw [p2]
  have n1 : IntKind.u64.wrap (0 - v) = (0 - v) % 18446744073709551616 := by rw [IntKind.wrap_u64]
  have s1 : IntKind.u64.wrap ((0 - v) % 18446744073709551616 * (2 : Int) ^ (min (Int.toNat 56) IntKind.u64.bits)) = (0 - v) % 18446744073709551616 * 72057594037927936 % 18446744073709551616 := by rw [p1, IntKind.wrap_u64]
  have s2 : ((0 - v) % 18446744073709551616 * 72057594037927936 % 18446744073709551616).fdiv ((2 : Int) ^ (min (Int.toNat 56) IntKind.u64.bits)) = (-v) % 256 := by
    rw [p1, Int.fdiv_eq_ediv_of_nonneg _ (by decide)]
    omega
  refine PSpec.intro Tryd.func68 rfl (by kernel_rfl) rfl rfl ?_
  intro C
  (refine LWP.seq <| LWP.region (by kernel_rfl) <| kas rfl <| RunK.nil <| LWP.seq <| LWP.region (by kernel_rfl) <| kmv rfl <| kca rfl rfl (hS) <| K.mul rfl rfl (c := 8) rfl .plain <| K.sub rfl rfl (c := 56) rfl .plain <| kas rfl <| RunK.nil <| LWP.seq <| LWP.region (by kernel_rfl) ?_; refine kmv rfl <| K.neg rfl n1 .plain <| kmv rfl <| K.shl rfl rfl (by decide) s1 .plain <| kmv rfl <| K.shr rfl rfl (by decide) s2 .plain <| kas rfl <| RunK.nil <| LWP.ret ?_)
  exact ⟨[_], ⟨rfl, trivial⟩, rfl⟩
theorem opposite_2 (k : Int) (hk : kW k = 2) (v : Int) (hv : 0 ≤ v ∧ v < 18446744073709551616) : PSpec Tryd.prog X 68 [Ln .i64 k, Ln .u64 v] (Ln .u64 ((-v) % ((256 ^ 2 : Nat) : Int))) := by
  have hS := fSize_spec X k
  rw [hk] at hS
  have p1 : ((2 : Int) ^ (min (Int.toNat 48) IntKind.u64.bits)) = 281474976710656 := by decide
  have p2 : ((256 ^ 2 : Nat) : Int) = 65536 := by decide
  rw [p2]
  have n1 : IntKind.u64.wrap (0 - v) = (0 - v) % 18446744073709551616 := by rw [IntKind.wrap_u64]
  have s1 : IntKind.u64.wrap ((0 - v) % 18446744073709551616 * (2 : Int) ^ (min (Int.toNat 48) IntKind.u64.bits)) = (0 - v) % 18446744073709551616 * 281474976710656 % 18446744073709551616 := by rw [p1, IntKind.wrap_u64]
  have s2 : ((0 - v) % 18446744073709551616 * 281474976710656 % 18446744073709551616).fdiv ((2 : Int) ^ (min (Int.toNat 48) IntKind.u64.bits)) = (-v) % 65536 := by
    rw [p1, Int.fdiv_eq_ediv_of_nonneg _ (by decide)]
    omega
  refine PSpec.intro Tryd.func68 rfl (by kernel_rfl) rfl rfl ?_
  intro C
  (refine LWP.seq <| LWP.region (by kernel_rfl) <| kas rfl <| RunK.nil <| LWP.seq <| LWP.region (by kernel_rfl) <| kmv rfl <| kca rfl rfl (hS) <| K.mul rfl rfl (c := 16) rfl .plain <| K.sub rfl rfl (c := 48) rfl .plain <| kas rfl <| RunK.nil <| LWP.seq <| LWP.region (by kernel_rfl) ?_; refine kmv rfl <| K.neg rfl n1 .plain <| kmv rfl <| K.shl rfl rfl (by decide) s1 .plain <| kmv rfl <| K.shr rfl rfl (by decide) s2 .plain <| kas rfl <| RunK.nil <| LWP.ret ?_)
  exact ⟨[_], ⟨rfl, trivial⟩, rfl⟩
theorem opposite_4 (k : Int) (hk : kW k = 4) (v : Int) (hv : 0 ≤ v ∧ v < 18446744073709551616) : PSpec Tryd.prog X 68 [Ln .i64 k, Ln .u64 v] (Ln .u64 ((-v) % ((256 ^ 4 : Nat) : Int))) := by
  have hS := fSize_spec X k
  rw [hk] at hS
  have p1 : ((2 : Int) ^ (min (Int.toNat 32) IntKind.u64.bits)) = 4294967296 := by decide
  have p2 : ((256 ^ 4 : Nat) : Int) = 4294967296 := by decide
  rw [p2]
  have n1 : IntKind.u64.wrap (0 - v) = (0 - v) % 18446744073709551616 := by rw [IntKind.wrap_u64]
  have s1 : IntKind.u64.wrap ((0 - v) % 18446744073709551616 * (2 : Int) ^ (min (Int.toNat 32) IntKind.u64.bits)) = (0 - v) % 18446744073709551616 * 4294967296 % 18446744073709551616 := by rw [p1, IntKind.wrap_u64]
  have s2 : ((0 - v) % 18446744073709551616 * 4294967296 % 18446744073709551616).fdiv ((2 : Int) ^ (min (Int.toNat 32) IntKind.u64.bits)) = (-v) % 4294967296 := by
    rw [p1, Int.fdiv_eq_ediv_of_nonneg _ (by decide)]
    omega
  refine PSpec.intro Tryd.func68 rfl (by kernel_rfl) rfl rfl ?_
  intro C
  (refine LWP.seq <| LWP.region (by kernel_rfl) <| kas rfl <| RunK.nil <| LWP.seq <| LWP.region (by kernel_rfl) <| kmv rfl <| kca rfl rfl (hS) <| K.mul rfl rfl (c := 32) rfl .plain <| K.sub rfl rfl (c := 32) rfl .plain <| kas rfl <| RunK.nil <| LWP.seq <| LWP.region (by kernel_rfl) ?_; refine kmv rfl <| K.neg rfl n1 .plain <| kmv rfl <| K.shl rfl rfl (by decide) s1 .plain <| kmv rfl <| K.shr rfl rfl (by decide) s2 .plain <| kas rfl <| RunK.nil <| LWP.ret ?_)
  exact ⟨[_], ⟨rfl, trivial⟩, rfl⟩
theorem opposite_8 (k : Int) (hk : kW k = 8) (v : Int) (hv : 0 ≤ v ∧ v < 18446744073709551616) : PSpec Tryd.prog X 68 [Ln .i64 k, Ln .u64 v] (Ln .u64 ((-v) % ((256 ^ 8 : Nat) : Int))) := by
  have hS := fSize_spec X k
  rw [hk] at hS
  have p1 : ((2 : Int) ^ (min (Int.toNat 0) IntKind.u64.bits)) = 1 := by decide
  have p2 : ((256 ^ 8 : Nat) : Int) = 18446744073709551616 := by decide
  rw [p2]
  have n1 : IntKind.u64.wrap (0 - v) = (0 - v) % 18446744073709551616 := by rw [IntKind.wrap_u64]
  have s1 : IntKind.u64.wrap ((0 - v) % 18446744073709551616 * (2 : Int) ^ (min (Int.toNat 0) IntKind.u64.bits)) = (0 - v) % 18446744073709551616 * 1 % 18446744073709551616 := by rw [p1, IntKind.wrap_u64]
  have s2 : ((0 - v) % 18446744073709551616 * 1 % 18446744073709551616).fdiv ((2 : Int) ^ (min (Int.toNat 0) IntKind.u64.bits)) = (-v) % 18446744073709551616 := by
    rw [p1, Int.fdiv_eq_ediv_of_nonneg _ (by decide)]
    omega
  refine PSpec.intro Tryd.func68 rfl (by kernel_rfl) rfl rfl ?_
  intro C
  (refine LWP.seq <| LWP.region (by kernel_rfl) <| kas rfl <| RunK.nil <| LWP.seq <| LWP.region (by kernel_rfl) <| kmv rfl <| kca rfl rfl (hS) <| K.mul rfl rfl (c := 64) rfl .plain <| K.sub rfl rfl (c := 0) rfl .plain <| kas rfl <| RunK.nil <| LWP.seq <| LWP.region (by kernel_rfl) ?_; refine kmv rfl <| K.neg rfl n1 .plain <| kmv rfl <| K.shl rfl rfl (by decide) s1 .plain <| kmv rfl <| K.shr rfl rfl (by decide) s2 .plain <| kas rfl <| RunK.nil <| LWP.ret ?_)
  exact ⟨[_], ⟨rfl, trivial⟩, rfl⟩
theorem opposite_spec (k : Int) (hk : kK k = true) (v : Int) (hv : 0 ≤ v ∧ v < 18446744073709551616) (r : Int) (hr : (-v) % (kM k : Int) = r) : PSpec Tryd.prog X 68 [Ln .i64 k, Ln .u64 v] (Ln .u64 r) := by
  subst hr
  unfold kM
  rcases kW_in hk with e | e | e | e
  · rw [e]; exact opposite_1 X k e v hv
  · rw [e]; exact opposite_2 X k e v hv
  · rw [e]; exact opposite_4 X k e v hv
  · rw [e]; exact opposite_8 X k e v hv
theorem wordOf_spec (k x : Int) (hk : kK k = true) (hx : fitZ k x = true) : PSpec Tryd.prog X 50 [Ln .i64 k, LQ x] (Ln .u64 (wdK k x : Nat)) := by
  obtain ⟨h1, h2, h3⟩ := kM_facts hk
  obtain ⟨f1, f2, f3, f4, _⟩ := kfacts k
  obtain ⟨x1, x2⟩ := (fitZ_iff k x).1 hx
  have e := wd_of hk hx
  refine PSpec.intro Tryd.func50 rfl (by kernel_rfl) rfl rfl ?_
  intro C
  by_cases c : x < 0
  · have hm : mg x % 18446744073709551616 = -x := by rw [mg_neg c]; omega
    have hO := opposite_spec X k hk (-x) (by omega) (wdK k x : Nat) (by
      rw [if_pos c] at e
      rw [e, Int.neg_neg, ← Int.add_emod_right]
      exact Int.emod_eq_of_lt (by omega) (by omega))
    unfold LQ LI
    rw [hm, decide_eq_true c]
    (refine LWP.seq <| LWP.region (by kernel_rfl) <| K.box rfl rfl rfl .plain <| kas rfl <| RunK.nil <| LWP.seq <| LWP.seq <| LWP.region (by kernel_rfl) <| kfa rfl rfl ?_; refine kl1 rfl rfl rfl <| RunK.nil <| LWP.condT rfl ?_; refine LWP.seq <| LWP.region (by kernel_rfl) <| kmv rfl <| kfa rfl rfl ?_; refine kl1 rfl rfl rfl <| kca rfl rfl (hO) <| kas rfl <| RunK.nil <| LWP.ret ?_)
    exact ⟨[_], ⟨rfl, trivial⟩, rfl⟩
  · have hm : mg x % 18446744073709551616 = x := by rw [mg_pos (by omega)]; omega
    rw [if_neg c] at e
    rw [e]
    unfold LQ LI
    rw [hm, decide_eq_false c]
    (refine LWP.seq <| LWP.region (by kernel_rfl) <| K.box rfl rfl rfl .plain <| kas rfl <| RunK.nil <| LWP.seq <| LWP.seq <| LWP.region (by kernel_rfl) <| kfa rfl rfl ?_; refine kl1 rfl rfl rfl <| RunK.nil <| LWP.condF rfl ?_; refine LWP.skip ?_; refine LWP.seq <| LWP.region (by kernel_rfl) <| kfa rfl rfl ?_; refine kl1 rfl rfl rfl <| kas rfl <| RunK.nil <| LWP.ret ?_)
    exact ⟨[_], ⟨rfl, trivial⟩, rfl⟩
theorem numberOf_spec (k : Int) (v : Nat) (hk : kK k = true) (hv : v < 256 ^ kW k) : PSpec Tryd.prog X 53 [Ln .i64 k, Ln .u64 (v : Nat)] (LQ (nbK k v)) := by
  obtain ⟨h1, h2, h3⟩ := kM_facts hk
  obtain ⟨f1, f2, f3, f4, _⟩ := kfacts k
  have hv' : v < kM k := hv
  refine PSpec.intro Tryd.func53 rfl (by kernel_rfl) rfl rfl ?_
  intro C
  by_cases c : kA k < v
  · have hO := opposite_spec X k hk v (by omega) ((kM k : Int) - v) (by
      rw [← Int.add_emod_right]
      rw [Int.emod_eq_of_lt (by omega) (by omega)]; omega)
    have hW := OfWord_q X ((kM k : Int) - v) (by omega)
    have hN := Neg_q X ((kM k : Int) - v) (by unfold R127; omega)
    have e : nbK k v = -((kM k : Int) - v) := by unfold nbK; rw [if_pos c]; omega
    rw [e]
    (refine LWP.seq <| LWP.region (by kernel_rfl) <| K.alloc rfl .plain ?_; refine RunK.nil <| LWP.seq <| LWP.seq <| LWP.region (by kernel_rfl) <| kmv rfl <| kmv rfl <| kca rfl rfl (shapeOf_spec X k) <| K.fieldOne rfl Tryd.underlying83 rfl (by kernel_rfl) rfl .plain <| K.gtr rfl rfl (decide_eq_true (by omega)) .plain <| RunK.nil <| LWP.condT rfl ?_; refine LWP.seq <| LWP.region (by kernel_rfl) <| kmv rfl <| kmv rfl <| kca rfl rfl (hO) <| kca rfl rfl (hW) <| kca rfl rfl (hN) <| K.storeAll rfl rfl rfl rfl rfl rfl .plain ?_; refine RunK.nil <| LWP.ret ?_)
    exact ⟨[_], ⟨⟨_, _, rfl, rfl, rfl, .inl ⟨AggT.h, rfl⟩⟩, trivial⟩, rfl⟩
  · have hW := OfWord_q X (v : Int) (by omega)
    have e : nbK k v = v := by unfold nbK; rw [if_neg c]
    rw [e]
    (refine LWP.seq <| LWP.region (by kernel_rfl) <| K.alloc rfl .plain ?_; refine RunK.nil <| LWP.seq <| LWP.seq <| LWP.region (by kernel_rfl) <| kmv rfl <| kmv rfl <| kca rfl rfl (shapeOf_spec X k) <| K.fieldOne rfl Tryd.underlying83 rfl (by kernel_rfl) rfl .plain <| K.gtr rfl rfl (decide_eq_false (by omega)) .plain <| RunK.nil <| LWP.condF rfl ?_; refine LWP.skip ?_; refine LWP.seq <| LWP.region (by kernel_rfl) <| kmv rfl <| kca rfl rfl (hW) <| K.storeAll rfl rfl rfl rfl rfl rfl .plain ?_; refine RunK.nil <| LWP.ret ?_)
    exact ⟨[_], ⟨⟨_, _, rfl, rfl, rfl, .inl ⟨AggT.h, rfl⟩⟩, trivial⟩, rfl⟩
theorem WNum_k (k : Int) (hk : kK k = true) (n : Nat) (h : n < 256 ^ kW k) : MSpec Tryd.prog X 49 [Lp 1000000, Ln .i64 (kW k : Nat), Ln .u64 (n : Nat)] (w0 1000000) (Lb true) (w1 1000000 1000001 1000002 (leB (kW k) n)) := by
  have hn : n < 18446744073709551616 := by
    have := (kM_facts hk).2.1
    have h : n < kM k := h
    omega
  rcases kW_in hk with e | e | e | e <;> rw [e] at h ⊢
  · exact WNum_0_1 X n hn h
  · exact WNum_0_2 X n hn h
  · exact WNum_0_4 X n hn h
  · exact WNum_0_8 X n hn h
theorem Put_arg (k : Int) (b : Bool) (N : Int) (hk : kK k = false) : PSpec Tryd.prog X 32 [Ln .i64 k, LI b N] (.tup [Ss [], Sn .i64 1]) := by
  refine PSpec.intro Tryd.func32 rfl (by kernel_rfl) rfl rfl ?_
  intro C
  (refine LWP.seq <| LWP.region (by kernel_rfl) <| K.box rfl rfl rfl .plain <| kas rfl <| kas rfl <| RunK.nil <| LWP.seq <| LWP.seq <| LWP.region (by kernel_rfl) <| kmv rfl <| kca rfl rfl (isKind_spec X k false hk) <| K.not rfl rfl .plain <| RunK.nil <| LWP.condT rfl ?_; refine LWP.seq <| LWP.region (by kernel_rfl) <| kas rfl <| kas rfl <| RunK.nil <| LWP.ret ?_)
  exact ⟨[_, _], ⟨rfl, rfl, trivial⟩, rfl⟩
theorem Put_range (k : Int) (b : Bool) (N : Int) (hk : kK k = true) (hN : In2 N) (hf : fitB k b N = false) : PSpec Tryd.prog X 32 [Ln .i64 k, LI b N] (.tup [Ss [], Sn .i64 3]) := by
  have hF := Fits_spec X k b N hN false hf
  refine PSpec.intro Tryd.func32 rfl (by kernel_rfl) rfl rfl ?_
  intro C
  (refine LWP.seq <| LWP.region (by kernel_rfl) <| K.box rfl rfl rfl .plain <| kas rfl <| kas rfl <| RunK.nil <| LWP.seq <| LWP.seq <| LWP.region (by kernel_rfl) <| kmv rfl <| kca rfl rfl (isKind_spec X k true hk) <| K.not rfl rfl .plain <| RunK.nil <| LWP.condF rfl ?_; refine LWP.skip ?_; refine LWP.seq <| LWP.seq <| LWP.region (by kernel_rfl) <| kmv rfl <| K.loadAll rfl rfl rfl .plain ?_; refine kca rfl rfl (hF) <| K.not rfl rfl .plain <| RunK.nil <| LWP.condT rfl ?_; refine LWP.seq <| LWP.region (by kernel_rfl) <| kas rfl <| kas rfl <| RunK.nil <| LWP.ret ?_)
  exact ⟨[_, _], ⟨rfl, rfl, trivial⟩, rfl⟩
theorem Put_q (k x : Int) (hk : kK k = true) (hx : fitZ k x = true) : PSpec Tryd.prog X 32 [Ln .i64 k, LQ x] (.tup [Ss (leB (kW k) (wdK k x)), Sn .i64 0]) := by
  have hF := Fits_q X k x hk (fit_R hx) true hx
  have hW := wordOf_spec X k x hk hx
  have hN := WNum_k X k hk (wdK k x) (wd_lt hk x)
  have hS := fSize_spec X k
  refine PSpec.intro Tryd.func32 rfl (by kernel_rfl) rfl rfl ?_
  intro C
  (refine LWP.seq <| LWP.region (by kernel_rfl) <| K.box rfl rfl rfl .plain <| kas rfl <| kas rfl <| RunK.nil <| LWP.seq <| LWP.seq <| LWP.region (by kernel_rfl) <| kmv rfl <| kca rfl rfl (isKind_spec X k true hk) <| K.not rfl rfl .plain <| RunK.nil <| LWP.condF rfl ?_; refine LWP.skip ?_; refine LWP.seq <| LWP.seq <| LWP.region (by kernel_rfl) <| kmv rfl <| K.loadAll rfl rfl rfl .plain ?_; refine kca rfl rfl (hF) <| K.not rfl rfl .plain <| RunK.nil <| LWP.condF rfl ?_; refine LWP.skip ?_; refine LWP.seq <| LWP.region (by kernel_rfl) <| K.build rfl rfl (by exact rfl) (by exact nl2 rfl rfl rfl) .plain ?_; refine K.box rfl rfl rfl .plain <| kas rfl <| RunK.nil <| LWP.seq <| LWP.draws mixed (by kernel_rfl) <| kmv rfl <| kmv rfl <| kca rfl rfl (hS) <| kmv rfl <| K.loadAll rfl rfl rfl .plain ?_; refine kca rfl rfl (hW) <| K.callM [(1000000, 15), (1000001, 501), (1000002, 502)] (w1 15 501 502 (leB (kW k) (wdK k x))) (hN) rfl rfl (by exact (And.intro ⟨_, rfl, rfl⟩ trivial)) (by exact (all_cons_true (all_cons_true rfl (all_cons_true rfl rfl)) rfl)) rfl rfl rfl rfl (by exact (.box rfl rfl (.box rfl rfl (.box rfl (Box.ren_bytes _ _ _ _) .nil)))) .plain <| RunK.nil <| And.intro (by kernel_rfl) ?_; refine LWP.seq <| LWP.region (by kernel_rfl) <| kmv rfl <| K.callR [(1000000, 15), (1000001, 501), (1000002, 502)] (String_1 X (leB (kW k) (wdK k x))) rfl rfl (by exact (And.intro ⟨_, rfl, rfl⟩ (And.intro ⟨_, rfl, rfl⟩ (And.intro ⟨_, rfl, (Box.ren_bytes _ _ _ _)⟩ trivial)))) (by exact (all_cons_true (all_cons_true rfl (all_cons_true rfl rfl)) (all_cons_true (all_cons_true rfl rfl) (all_cons_true bytes_inUse rfl)))) rfl rfl rfl rfl .plain <| kas rfl <| kas rfl <| RunK.nil <| LWP.ret ?_)
  exact ⟨[_, _], ⟨rfl, rfl, trivial⟩, rfl⟩
end Go.Proofs.YtfmadklfcoebhaaDoor
end
section
namespace Go.Lg.Fld
open Go Go.Lg
/-- the kind of a name; 0: there is none -/
def named (l : List UInt8) : Int := if kN 1 = l then 1 else if kN 2 = l then 2 else if kN 3 = l then 3 else if kN 4 = l then 4 else if kN 5 = l then 5 else if kN 6 = l then 6 else if kN 7 = l then 7 else if kN 8 = l then 8 else if kN 9 = l then 9 else if kN 10 = l then 10 else 0
theorem named_at {l : List UInt8} {k : Int} (hk : kK k = true) (h : kN k = l) : named l = k := by
  subst h
  rcases kin hk with rfl | rfl | rfl | rfl | rfl | rfl | rfl | rfl | rfl | rfl <;> decide
theorem named_no {l : List UInt8} (h : ∀ j : Int, kK j = true → kN j ≠ l) : named l = 0 := by
  unfold named
  rw [if_neg (h 1 rfl), if_neg (h 2 rfl), if_neg (h 3 rfl), if_neg (h 4 rfl), if_neg (h 5 rfl), if_neg (h 6 rfl), if_neg (h 7 rfl), if_neg (h 8 rfl), if_neg (h 9 rfl), if_neg (h 10 rfl)]
theorem named_le (l : List UInt8) : 0 ≤ named l ∧ named l ≤ 10 := by
  unfold named
  (repeat' split) <;> omega
theorem named_kin {l : List UInt8} (h : named l ≠ 0) : kK (named l) = true := by
  have := named_le l
  rw [kK_iff]; omega
theorem named_kN {l : List UInt8} (h : named l ≠ 0) : kN (named l) = l := by
  rcases Classical.em (∃ j : Int, kK j = true ∧ kN j = l) with ⟨j, hj, e⟩ | hn
  · rw [named_at hj e, e]
  · exact absurd (named_no fun j hj e => hn ⟨j, hj, e⟩) h
end Go.Lg.Fld
namespace Go.Proofs.YtfmadklfcoebhaaDoor
open Go Go.Lg Go.Lg.Fld
set_option maxRecDepth 100000
variable (X : Nat → Option Obj)
theorem Get_arg (k : Int) (l : List UInt8) (hk : kK k = false) : PSpec Tryd.prog X 35 [Ln .i64 k, Ls l] (.tup [S0, Sn .i64 1]) := by
  refine PSpec.intro Tryd.func35 rfl (by kernel_rfl) rfl rfl ?_
  intro C
  (refine LWP.seq <| LWP.region (by kernel_rfl) <| K.alloc rfl .plain ?_; refine kas rfl <| RunK.nil <| LWP.seq <| LWP.seq <| LWP.region (by kernel_rfl) <| kmv rfl <| kca rfl rfl (isKind_spec X k false hk) <| K.not rfl rfl .plain <| RunK.nil <| LWP.condT rfl ?_; refine LWP.seq <| LWP.region (by kernel_rfl) <| K.build rfl rfl (by exact rfl) (by exact nl3 rfl rfl rfl rfl) .plain ?_; refine K.storeAll rfl rfl rfl rfl rfl rfl .plain ?_; refine kas rfl <| RunK.nil <| LWP.ret ?_)
  exact ⟨[_, _], ⟨⟨_, _, rfl, rfl, rfl, .inl ⟨AggT.h, rfl⟩⟩, rfl, trivial⟩, rfl⟩
theorem isW_k {k : Int} (h : kK k = true) : isW (kW k : Nat) = true := by
  rcases kW_in h with e | e | e | e <;> rw [e] <;> rfl
theorem Get_len (k : Int) (l : List UInt8) (hk : kK k = true) (hl : l.length < 4611686018427387904) (hn : l.length ≠ kW k) : PSpec Tryd.prog X 35 [Ln .i64 k, Ls l] (.tup [S0, Sn .i64 4]) := by
  have hS := fSize_spec X k
  have hw := isW_k hk
  have hR := Read_spec X l
  have h0 : (0 : Nat) < 256 ^ kW k := Nat.pow_pos (by decide)
  by_cases hlt : l.length < kW k
  · have hN := Num_no X l false (kW k : Nat) (by unfold rawOk; rw [decide_eq_false (by omega)]; simp)
    have hO := numberOf_spec X k 0 hk h0
    have hD : MSpec Tryd.prog X 55 [Lp 1000000] (rd 1000000 l true) (Lb false) (rd 1000000 l true) := Done_spec X l true _ rfl
    refine PSpec.intro Tryd.func35 rfl (by kernel_rfl) rfl rfl ?_
    intro C
    (refine LWP.seq <| LWP.region (by kernel_rfl) <| K.alloc rfl .plain ?_; refine kas rfl <| RunK.nil <| LWP.seq <| LWP.seq <| LWP.region (by kernel_rfl) <| kmv rfl <| kca rfl rfl (isKind_spec X k true hk) <| K.not rfl rfl .plain <| RunK.nil <| LWP.condF rfl ?_; refine LWP.skip ?_; refine LWP.seq <| LWP.region (by kernel_rfl) <| kmv rfl <| K.callMp [(1000001, 501)] (Lp 501) (rd 501 l false) (hR) rfl rfl (by exact trivial) rfl rfl rfl rfl rfl (by exact (.box rfl rfl .nil)) .plain <| kas rfl <| RunK.nil <| LWP.seq <| LWP.region (by kernel_rfl) <| kmv rfl <| kmv rfl <| kmv rfl <| kca rfl rfl (hS) <| K.callM [(1000000, 501)] (rd 501 l true) (hN) rfl rfl (by exact (And.intro ⟨_, rfl, rfl⟩ trivial)) (by exact (all_cons_true (all_cons_true rfl (all_cons_true rfl rfl)) rfl)) rfl rfl rfl rfl (by exact (.box rfl rfl .nil)) .plain <| kca rfl rfl (hO) ?_; refine K.alloc rfl .plain ?_; refine K.storeAll rfl rfl rfl rfl rfl rfl .plain ?_; refine RunK.nil <| LWP.seq <| LWP.seq <| LWP.region (by kernel_rfl) <| kmv rfl <| K.callR [(1000000, 501)] (hD) rfl rfl (by exact (And.intro ⟨_, rfl, rfl⟩ trivial)) (by exact (all_cons_true (all_cons_true rfl (all_cons_true rfl rfl)) rfl)) rfl rfl rfl rfl .plain <| K.not rfl rfl .plain <| kmv rfl <| RunK.passed rfl rfl rfl <| RunK.passed rfl rfl rfl <| RunK.passed rfl rfl rfl <| RunK.passed rfl rfl rfl <| kpt rfl rfl <| RunK.nil ?_; refine LWP.condT rfl ?_; refine LWP.seq <| LWP.region (by kernel_rfl) <| K.build rfl rfl (by exact rfl) (by exact nl3 rfl rfl rfl rfl) .plain ?_; refine K.storeAll rfl rfl rfl rfl rfl rfl .plain ?_; refine kas rfl <| RunK.nil <| LWP.ret ?_)
    exact ⟨[_, _], ⟨⟨_, _, rfl, rfl, rfl, .inl ⟨AggT.h, rfl⟩⟩, rfl, trivial⟩, rfl⟩
  · have hN := Num_ok X l (kW k) hw (by omega) hl
    have ht : (l.take (kW k)).length = kW k := by rw [List.length_take]; omega
    have hb := le_lt (l.take (kW k))
    rw [ht] at hb
    have hO := numberOf_spec X k (le (l.take (kW k))) hk hb
    have hd : (l.drop (kW k) == []) = false := beq_eq_false_iff_ne.2 (fun e => by
      have := congrArg List.length e
      rw [List.length_drop] at this
      simp only [List.length_nil] at this
      omega)
    have hD : MSpec Tryd.prog X 55 [Lp 1000000] (rd 1000000 (l.drop (kW k)) false) (Lb false) (rd 1000000 (l.drop (kW k)) false) := Done_spec X _ false _ hd
    refine PSpec.intro Tryd.func35 rfl (by kernel_rfl) rfl rfl ?_
    intro C
    (refine LWP.seq <| LWP.region (by kernel_rfl) <| K.alloc rfl .plain ?_; refine kas rfl <| RunK.nil <| LWP.seq <| LWP.seq <| LWP.region (by kernel_rfl) <| kmv rfl <| kca rfl rfl (isKind_spec X k true hk) <| K.not rfl rfl .plain <| RunK.nil <| LWP.condF rfl ?_; refine LWP.skip ?_; refine LWP.seq <| LWP.region (by kernel_rfl) <| kmv rfl <| K.callMp [(1000001, 501)] (Lp 501) (rd 501 l false) (hR) rfl rfl (by exact trivial) rfl rfl rfl rfl rfl (by exact (.box rfl rfl .nil)) .plain <| kas rfl <| RunK.nil <| LWP.seq <| LWP.region (by kernel_rfl) <| kmv rfl <| kmv rfl <| kmv rfl <| kca rfl rfl (hS) <| K.callM [(1000000, 501)] (rd 501 (l.drop (kW k)) false) (hN) rfl rfl (by exact (And.intro ⟨_, rfl, rfl⟩ trivial)) (by exact (all_cons_true (all_cons_true rfl (all_cons_true rfl rfl)) rfl)) rfl rfl rfl rfl (by exact (.box rfl rfl .nil)) .plain <| kca rfl rfl (hO) ?_; refine K.alloc rfl .plain ?_; refine K.storeAll rfl rfl rfl rfl rfl rfl .plain ?_; refine RunK.nil <| LWP.seq <| LWP.seq <| LWP.region (by kernel_rfl) <| kmv rfl <| K.callR [(1000000, 501)] (hD) rfl rfl (by exact (And.intro ⟨_, rfl, rfl⟩ trivial)) (by exact (all_cons_true (all_cons_true rfl (all_cons_true rfl rfl)) rfl)) rfl rfl rfl rfl .plain <| K.not rfl rfl .plain <| kmv rfl <| RunK.passed rfl rfl rfl <| RunK.passed rfl rfl rfl <| RunK.passed rfl rfl rfl <| RunK.passed rfl rfl rfl <| kpt rfl rfl <| RunK.nil ?_; refine LWP.condT rfl ?_; refine LWP.seq <| LWP.region (by kernel_rfl) <| K.build rfl rfl (by exact rfl) (by exact nl3 rfl rfl rfl rfl) .plain ?_; refine K.storeAll rfl rfl rfl rfl rfl rfl .plain ?_; refine kas rfl <| RunK.nil <| LWP.ret ?_)
    exact ⟨[_, _], ⟨⟨_, _, rfl, rfl, rfl, .inl ⟨AggT.h, rfl⟩⟩, rfl, trivial⟩, rfl⟩
theorem Get_q (k : Int) (l : List UInt8) (hk : kK k = true) (hn : l.length = kW k) : PSpec Tryd.prog X 35 [Ln .i64 k, Ls l] (if fitZ k (nbK k (le l)) = true then .tup [SQ (nbK k (le l)), Sn .i64 0] else .tup [S0, Sn .i64 4]) := by
  have hS := fSize_spec X k
  have hw := isW_k hk
  have hR := Read_spec X l
  have hk8 := (kfacts k).2.2.2.2
  have hN := Num_ok X l (kW k) hw (by omega) (by omega)
  rw [List.take_of_length_le (by omega), List.drop_of_length_le (by omega)] at hN
  have hb := le_lt l
  rw [hn] at hb
  have hO := numberOf_spec X k (le l) hk hb
  have hR' := nb_R hk hb
  have hD : MSpec Tryd.prog X 55 [Lp 1000000] (rd 1000000 [] false) (Lb true) (rd 1000000 [] false) := Done_spec X [] false true rfl
  have hF := Fits_q X k (nbK k (le l)) hk hR' _ rfl
  generalize nbK k (le l) = z at *
  generalize le l = n at *
  cases hf : fitZ k z with
  | true =>
    rw [hf] at hF
    rw [if_pos rfl]
    refine PSpec.intro Tryd.func35 rfl (by kernel_rfl) rfl rfl ?_
    intro C
    (refine LWP.seq <| LWP.region (by kernel_rfl) <| K.alloc rfl .plain ?_; refine kas rfl <| RunK.nil <| LWP.seq <| LWP.seq <| LWP.region (by kernel_rfl) <| kmv rfl <| kca rfl rfl (isKind_spec X k true hk) <| K.not rfl rfl .plain <| RunK.nil <| LWP.condF rfl ?_; refine LWP.skip ?_; refine LWP.seq <| LWP.region (by kernel_rfl) <| kmv rfl <| K.callMp [(1000001, 501)] (Lp 501) (rd 501 l false) (hR) rfl rfl (by exact trivial) rfl rfl rfl rfl rfl (by exact (.box rfl rfl .nil)) .plain <| kas rfl <| RunK.nil <| LWP.seq <| LWP.region (by kernel_rfl) <| kmv rfl <| kmv rfl <| kmv rfl <| kca rfl rfl (hS) <| K.callM [(1000000, 501)] (rd 501 [] false) (hN) rfl rfl (by exact (And.intro ⟨_, rfl, rfl⟩ trivial)) (by exact (all_cons_true (all_cons_true rfl (all_cons_true rfl rfl)) rfl)) rfl rfl rfl rfl (by exact (.box rfl rfl .nil)) .plain <| kca rfl rfl (hO) ?_; refine K.alloc rfl .plain ?_; refine K.storeAll rfl rfl rfl rfl rfl rfl .plain ?_; refine RunK.nil <| LWP.seq <| LWP.seq <| LWP.region (by kernel_rfl) <| kmv rfl <| K.callR [(1000000, 501)] (hD) rfl rfl (by exact (And.intro ⟨_, rfl, rfl⟩ trivial)) (by exact (all_cons_true (all_cons_true rfl (all_cons_true rfl rfl)) rfl)) rfl rfl rfl rfl .plain <| K.not rfl rfl .plain <| kmv rfl <| gmv rfl rfl rfl <| K.loadAll rfl rfl rfl (.taken rfl rfl) ?_; refine gca rfl rfl (hF) rfl rfl <| K.not rfl rfl (.taken rfl rfl) ?_; refine kpf rfl rfl <| RunK.nil <| LWP.condF rfl ?_; refine LWP.skip ?_; refine LWP.seq <| LWP.region (by kernel_rfl) <| K.loadAll rfl rfl rfl .plain ?_; refine K.storeAll rfl rfl rfl rfl rfl rfl .plain ?_; refine kas rfl <| RunK.nil <| LWP.ret ?_)
    exact ⟨[_, _], ⟨⟨_, _, rfl, rfl, rfl, .inl ⟨AggT.h, rfl⟩⟩, rfl, trivial⟩, rfl⟩
  | false =>
    rw [hf] at hF
    rw [if_neg (by simp)]
    refine PSpec.intro Tryd.func35 rfl (by kernel_rfl) rfl rfl ?_
    intro C
    (refine LWP.seq <| LWP.region (by kernel_rfl) <| K.alloc rfl .plain ?_; refine kas rfl <| RunK.nil <| LWP.seq <| LWP.seq <| LWP.region (by kernel_rfl) <| kmv rfl <| kca rfl rfl (isKind_spec X k true hk) <| K.not rfl rfl .plain <| RunK.nil <| LWP.condF rfl ?_; refine LWP.skip ?_; refine LWP.seq <| LWP.region (by kernel_rfl) <| kmv rfl <| K.callMp [(1000001, 501)] (Lp 501) (rd 501 l false) (hR) rfl rfl (by exact trivial) rfl rfl rfl rfl rfl (by exact (.box rfl rfl .nil)) .plain <| kas rfl <| RunK.nil <| LWP.seq <| LWP.region (by kernel_rfl) <| kmv rfl <| kmv rfl <| kmv rfl <| kca rfl rfl (hS) <| K.callM [(1000000, 501)] (rd 501 [] false) (hN) rfl rfl (by exact (And.intro ⟨_, rfl, rfl⟩ trivial)) (by exact (all_cons_true (all_cons_true rfl (all_cons_true rfl rfl)) rfl)) rfl rfl rfl rfl (by exact (.box rfl rfl .nil)) .plain <| kca rfl rfl (hO) ?_; refine K.alloc rfl .plain ?_; refine K.storeAll rfl rfl rfl rfl rfl rfl .plain ?_; refine RunK.nil <| LWP.seq <| LWP.seq <| LWP.region (by kernel_rfl) <| kmv rfl <| K.callR [(1000000, 501)] (hD) rfl rfl (by exact (And.intro ⟨_, rfl, rfl⟩ trivial)) (by exact (all_cons_true (all_cons_true rfl (all_cons_true rfl rfl)) rfl)) rfl rfl rfl rfl .plain <| K.not rfl rfl .plain <| kmv rfl <| gmv rfl rfl rfl <| K.loadAll rfl rfl rfl (.taken rfl rfl) ?_; refine gca rfl rfl (hF) rfl rfl <| K.not rfl rfl (.taken rfl rfl) ?_; refine kpf rfl rfl <| RunK.nil <| LWP.condT rfl ?_; refine LWP.seq <| LWP.region (by kernel_rfl) <| K.build rfl rfl (by exact rfl) (by exact nl3 rfl rfl rfl rfl) .plain ?_; refine K.storeAll rfl rfl rfl rfl rfl rfl .plain ?_; refine kas rfl <| RunK.nil <| LWP.ret ?_)
    exact ⟨[_, _], ⟨⟨_, _, rfl, rfl, rfl, .inl ⟨AggT.h, rfl⟩⟩, rfl, trivial⟩, rfl⟩
end Go.Proofs.YtfmadklfcoebhaaDoor
end
section
namespace Go.Proofs.YtfmadklfcoebhaaDoor
open Go Go.Lg Go.Lg.Fld
set_option maxRecDepth 100000
variable (X : Nat → Option Obj)
/-- the cells of a number -/
abbrev cI (b : Bool) (n : Int) : List CV := [.val (.bool b), .val (.int .u64 (n / 18446744073709551616)), .val (.int .u64 (n % 18446744073709551616))]
/-- the cells of a number that is in form -/
abbrev cQ (z : Int) : List CV := [.val (.bool (decide (z < 0))), .val (.int .u64 (mg z / 18446744073709551616)), .val (.int .u64 (mg z % 18446744073709551616))]
theorem zero_fit (k : Int) : fitZ k 0 = true := by
  have := kfacts k
  rw [fitZ_iff]; omega
/-- what Clamp answers -/
def nearK (k : Int) (b : Bool) (N : Int) : Int := if formB b N = true then clampK k (zv b N) else 0
theorem near_fit (k : Int) (b : Bool) (N : Int) : fitZ k (nearK k b N) = true := by
  unfold nearK
  split
  · exact clamp_fit k _
  · exact zero_fit k
theorem S0_q : (.sv S0 : LV) = LQ 0 := rfl
theorem Clamp_any (k : Int) (b : Bool) (N : Int) (hN : In2 N) : PSpec Tryd.prog X 24 [Ln .i64 k, LI b N] (LQ (nearK k b N)) := by
  cases hf : formB b N with
  | true =>
    have h := Clamp_spec X k (zv b N) (zv_in hN hf).1
    rw [← LI_q hN hf] at h
    unfold nearK
    rw [if_pos hf]
    exact h
  | false =>
    have h := Clamp_bad X k b N hN hf
    have e : nearK k b N = 0 := by unfold nearK; rw [if_neg (by rw [hf]; simp)]
    rw [e, ← S0_q]
    exact h
theorem fit_more {k : Int} (h : 2 ≤ k ∧ k < 5 ∨ 6 ≤ k ∧ k < 9) (b : Bool) (N : Int) (hf : fitB k b N = true) : fitB (k + 1) b N = true := by
  have hk : kK (k + 1) = true := by rw [kK_iff]; omega
  simp only [fitB, Bool.and_eq_true, fitZ_iff] at hf ⊢
  refine ⟨hk, hf.2.1, ?_⟩
  have : kB k ≤ kB (k + 1) ∧ kA k ≤ kA (k + 1) := by
    have hc : k = 2 ∨ k = 3 ∨ k = 4 ∨ k = 6 ∨ k = 7 ∨ k = 8 := by omega
    rcases hc with rfl | rfl | rfl | rfl | rfl | rfl <;> decide
  omega
theorem fit_less {k : Int} (h : 6 ≤ k ∧ k < 9) (b : Bool) (N : Int) (hf : fitB k b N = true) : fitB (k - 3) b N = true := by
  have hk : kK (k - 3) = true := by rw [kK_iff]; omega
  simp only [fitB, Bool.and_eq_true, fitZ_iff] at hf ⊢
  refine ⟨hk, hf.2.1, ?_⟩
  have : kB k ≤ kB (k - 3) ∧ kA k ≤ kA (k - 3) := by
    have hc : k = 6 ∨ k = 7 ∨ k = 8 := by omega
    rcases hc with rfl | rfl | rfl <;> decide
  omega
theorem clamp_mono (k : Int) {x y : Int} (h : x ≤ y) : clampK k x ≤ clampK k y := by
  have := kfacts k
  unfold clampK
  (repeat' split) <;> omega
end Go.Proofs.YtfmadklfcoebhaaDoor
end
section
namespace Go.Lg.Dig
open Go Go.Lg
/-- a digit in base 256 -/
def dg (n j : Nat) : Nat := n / 256 ^ j % 256
def dv (d : Nat) : CV := .val (.int .i64 (d : Nat))
/-- 40 digits -/
def dlf (f : Nat → Nat) : List Nat := (List.range 40).map f
/-- the cells of a sign and 40 digits -/
def num (b : Bool) (f : Nat → Nat) : List CV := .val (.bool b) :: (dlf f).map dv
theorem dlf_congr {f g : Nat → Nat} (h : ∀ j, j < 40 → f j = g j) : dlf f = dlf g := by
  unfold dlf
  exact List.map_congr_left fun j hj => h j (List.mem_range.1 hj)
theorem num_congr {b : Bool} {f g : Nat → Nat} (h : ∀ j, j < 40 → f j = g j) : num b f = num b g := by
  unfold num
  rw [dlf_congr h]
theorem num_at {b : Bool} {f : Nat → Nat} {i : Nat} (hi : i < 40) : (num b f)[1 + i * 1]? = some (dv (f i)) := by
  rw [Nat.mul_one, Nat.add_comm]
  simp [num, dlf, hi]
theorem num_set {b : Bool} {f : Nat → Nat} {i d : Nat} (hi : i < 40) : (num b f).set (1 + i * 1) (dv d) = num b (fun j => if j = i then d else f j) := by
  rw [Nat.mul_one, Nat.add_comm]
  unfold num
  rw [List.set_cons_succ]
  congr 1
  apply List.ext_getElem?
  intro j
  rw [List.getElem?_set]
  by_cases h : i = j
  · subst h
    simp [dlf, hi]
  · rw [if_neg h]
    by_cases hj : j < 40
    · simp [dlf, hj, show ¬ j = i from fun e => h e.symm]
    · simp [dlf, hj]
theorem num_sign {b c : Bool} {f : Nat → Nat} : (num b f).set 0 (.val (.bool c)) = num c f := rfl
theorem dg_lt (n j : Nat) : dg n j < 256 := Nat.mod_lt _ (by decide)
theorem pow_pos (j : Nat) : 0 < 256 ^ j := Nat.pow_pos (by decide)
theorem dg_high {n j : Nat} (h : n < 256 ^ j) : dg n j = 0 := by
  unfold dg
  rw [Nat.div_eq_of_lt h]
theorem dg_zero (j : Nat) : dg 0 j = 0 := by
  unfold dg
  rw [Nat.zero_div]
/-- the rest below a place, a place higher -/
theorem mod_next (n i : Nat) : n % 256 ^ (i + 1) = n % 256 ^ i + dg n i * 256 ^ i := by
  unfold dg
  rw [Nat.pow_succ, Nat.mod_mul, Nat.mul_comm (256 ^ i)]
theorem div_next (n i : Nat) : n / 256 ^ i = n / 256 ^ (i + 1) * 256 + dg n i := by
  unfold dg
  rw [Nat.pow_succ, ← Nat.div_div_eq_div_mul]
  omega
theorem pow40 : 256 ^ 40 = 2135987035920910082395021706169552114602704522356652769947041607822219725780640550022962086936576 := by decide
end Go.Lg.Dig
namespace Go.Lg.Dig
open Go Go.Lg
theorem num_length {b : Bool} {f : Nat → Nat} : (num b f).length = 41 := by simp [num, dlf]
theorem num_blt {b : Bool} {f : Nat → Nat} {i : Nat} (hi : i < 40) : Nat.blt (1 + i * 1) (num b f).length = true := by
  rw [num_length, Nat.blt_eq]
  omega
theorem div_div (n i : Nat) : n / 256 ^ i / 256 = n / 256 ^ (i + 1) := by rw [Nat.pow_succ, Nat.div_div_eq_div_mul]
end Go.Lg.Dig
namespace Go.Lg.Dig
/-- what is borrowed below a place -/
def bor (M N i : Nat) : Nat := if M % 256 ^ i < N % 256 ^ i then 1 else 0
def car (M N i : Nat) : Nat := (M % 256 ^ i + N % 256 ^ i) / 256 ^ i
theorem bor_le (M N i : Nat) : bor M N i ≤ 1 := by unfold bor; split <;> omega
theorem sub_div {M N i : Nat} (h : N ≤ M) : (M - N) / 256 ^ i = M / 256 ^ i - N / 256 ^ i - bor M N i ∧ N / 256 ^ i + bor M N i ≤ M / 256 ^ i := by
  have hp := pow_pos i
  have e1 := Nat.div_add_mod M (256 ^ i)
  have e2 := Nat.div_add_mod N (256 ^ i)
  have m1 := Nat.mod_lt M hp
  have m2 := Nat.mod_lt N hp
  unfold bor
  generalize 256 ^ i = p at *
  have hle : N / p ≤ M / p := Nat.div_le_div_right h
  generalize M / p = A at *
  generalize N / p = B at *
  generalize M % p = m at *
  generalize N % p = n at *
  by_cases c : m < n
  · rw [if_pos c]
    have hlt : B + 1 ≤ A := by
      by_cases e : A = B
      · subst e; omega
      · omega
    refine ⟨Nat.div_eq_of_lt_le ?_ ?_, hlt⟩
    · obtain ⟨k, rfl⟩ : ∃ k, A = B + 1 + k := ⟨A - (B + 1), by omega⟩
      rw [show B + 1 + k - B - 1 = k by omega, Nat.mul_comm k]
      rw [Nat.mul_add, Nat.mul_add] at e1
      omega
    · obtain ⟨k, rfl⟩ : ∃ k, A = B + 1 + k := ⟨A - (B + 1), by omega⟩
      rw [show B + 1 + k - B - 1 + 1 = k + 1 by omega, Nat.mul_comm (k + 1), Nat.mul_add]
      rw [Nat.mul_add, Nat.mul_add] at e1
      omega
  · rw [if_neg c]
    refine ⟨Nat.div_eq_of_lt_le ?_ ?_, by omega⟩
    · obtain ⟨k, rfl⟩ : ∃ k, A = B + k := ⟨A - B, by omega⟩
      rw [show B + k - B - 0 = k by omega, Nat.mul_comm k]
      rw [Nat.mul_add] at e1
      omega
    · obtain ⟨k, rfl⟩ : ∃ k, A = B + k := ⟨A - B, by omega⟩
      rw [show B + k - B - 0 + 1 = k + 1 by omega, Nat.mul_comm (k + 1), Nat.mul_add]
      rw [Nat.mul_add] at e1
      omega
theorem bor_next (M N i : Nat) : bor M N (i + 1) = if dg M i < dg N i + bor M N i then 1 else 0 := by
  have hp := pow_pos i
  have m1 := Nat.mod_lt M hp
  have m2 := Nat.mod_lt N hp
  unfold bor
  rw [mod_next, mod_next]
  generalize 256 ^ i = p at *
  generalize M % p = m at *
  generalize N % p = n at *
  generalize dg M i = a
  generalize dg N i = b
  rcases Nat.lt_trichotomy a b with h | h | h
  · obtain ⟨k, rfl⟩ : ∃ k, b = a + 1 + k := ⟨b - (a + 1), by omega⟩
    rw [if_pos (by rw [Nat.add_mul, Nat.add_mul]; omega), if_pos (by omega)]
  · subst h
    by_cases c : m < n
    · rw [if_pos (by omega), if_pos c, if_pos (by omega)]
    · rw [if_neg (by omega), if_neg c, if_neg (by omega)]
  · obtain ⟨k, rfl⟩ : ∃ k, a = b + 1 + k := ⟨a - (b + 1), by omega⟩
    rw [if_neg (by rw [Nat.add_mul, Nat.add_mul]; omega), if_neg (by split <;> omega)]
theorem sub_digit {M N i : Nat} (h : N ≤ M) :
    (dg M i < dg N i + bor M N i → dg (M - N) i + dg N i + bor M N i = dg M i + 256) ∧ (dg N i + bor M N i ≤ dg M i → dg (M - N) i + dg N i + bor M N i = dg M i) := by
  obtain ⟨e, hle⟩ := sub_div (i := i) h
  have hb := bor_le M N i
  unfold dg
  rw [e]
  generalize M / 256 ^ i = A at *
  generalize N / 256 ^ i = B at *
  generalize bor M N i = c at *
  omega
theorem add_div (M N i : Nat) : (M + N) / 256 ^ i = M / 256 ^ i + N / 256 ^ i + car M N i := by
  have hp := pow_pos i
  have e1 := Nat.div_add_mod M (256 ^ i)
  have e2 := Nat.div_add_mod N (256 ^ i)
  unfold car
  generalize 256 ^ i = p at *
  conv => lhs; rw [← e1, ← e2]
  rw [show p * (M / p) + M % p + (p * (N / p) + N % p) = (M % p + N % p) + p * (M / p + N / p) by rw [Nat.mul_add]; omega, Nat.add_mul_div_left _ _ hp]
  omega
theorem car_next (M N i : Nat) : car M N (i + 1) = (dg M i + dg N i + car M N i) / 256 := by
  have h1 := add_div M N i
  have h2 := add_div M N (i + 1)
  have d1 := div_next M i
  have d2 := div_next N i
  have d3 := div_div (M + N) i
  have l1 := dg_lt M i
  have l2 := dg_lt N i
  omega
theorem add_digit (M N i : Nat) : dg (M + N) i = (dg M i + dg N i + car M N i) % 256 := by
  have h1 := add_div M N i
  unfold dg
  rw [h1]
  omega
theorem car_le (M N i : Nat) : car M N i ≤ 1 := by
  have hp := pow_pos i
  have m1 := Nat.mod_lt M hp
  have m2 := Nat.mod_lt N hp
  unfold car
  generalize 256 ^ i = p at *
  have : (M % p + N % p) / p < 2 := by rw [Nat.div_lt_iff_lt_mul hp]; omega
  omega
theorem lt_digit {M N i : Nat} (h : M / 256 ^ (i + 1) = N / 256 ^ (i + 1)) (hd : dg M i < dg N i) : M < N := by
  have d1 := div_next M i
  have d2 := div_next N i
  rcases Nat.lt_or_ge M N with c | c
  · exact c
  · have := Nat.div_le_div_right (c := 256 ^ i) c
    omega
end Go.Lg.Dig
namespace Go.Lg.Dig
theorem dg_mod {n i k : Nat} (h : i < k) : dg (n % 256 ^ k) i = dg n i := by
  obtain ⟨t, rfl⟩ : ∃ t, k = i + 1 + t := ⟨k - (i + 1), by omega⟩
  unfold dg
  rw [Nat.pow_add, Nat.pow_succ, Nat.mul_assoc, Nat.mod_mul_right_div_self, Nat.mod_mul_right_mod]
theorem dg_shift (n k i : Nat) : dg n (k + i) = dg (n / 256 ^ k) i := by
  unfold dg
  rw [Nat.pow_add, Nat.div_div_eq_div_mul]
theorem top_zero {n k : Nat} (h : n < 256 ^ (k + 1)) (hd : dg n k = 0) : n < 256 ^ k := by
  have hp := pow_pos k
  unfold dg at hd
  rw [Nat.pow_succ] at h
  have : n / 256 ^ k < 256 := by rw [Nat.div_lt_iff_lt_mul hp]; rw [Nat.mul_comm]; exact h
  have key : ∀ q : Nat, q < 256 → q % 256 = 0 → q = 0 := by omega
  exact (Nat.div_eq_zero_iff_lt hp).1 (key _ this hd)
theorem all_zero {n k : Nat} : ∀ t, n < 256 ^ (k + t) → (∀ j, k ≤ j → j < k + t → dg n j = 0) → n < 256 ^ k
  | 0, h, _ => h
  | t + 1, h, hz => all_zero t (top_zero h (hz (k + t) (by omega) (by omega))) fun j h1 h2 => hz j h1 (by omega)
end Go.Lg.Dig
namespace Go.Lg.Dig
open Go Go.Lg
theorem dg_add_mul {T y k x : Nat} (h : x < k) : dg (T + y * 256 ^ k) x = dg T x := by
  rw [← dg_mod h, Nat.add_mul_mod_self_right, dg_mod h]
/-- the digits of one number below a place, of another one above -/
def mix (T S k x : Nat) : Nat := if x < k then dg T x else dg S x
theorem mix_step (s : Bool) {T S k y : Nat} {d : Nat} (hd : d = dg (T + y * 256 ^ k) k) :
    num s (fun x => if x = k then d else mix T S k x) = num s (mix (T + y * 256 ^ k) S (k + 1)) := num_congr fun x _ => by
  unfold mix
  by_cases c : x = k
  · subst c
    rw [if_pos rfl, if_pos (by omega), hd]
  · rw [if_neg c]
    by_cases c2 : x < k
    · rw [if_pos c2, if_pos (by omega), dg_add_mul c2]
    · rw [if_neg c2, if_neg (by omega)]
theorem mix_all (s : Bool) {T S k : Nat} (h : T / 256 ^ k = S / 256 ^ k) : num s (mix T S k) = num s (dg T) := num_congr fun x _ => by
  unfold mix
  by_cases c : x < k
  · rw [if_pos c]
  · obtain ⟨y, rfl⟩ : ∃ y, x = k + y := ⟨x - k, by omega⟩
    rw [if_neg c, dg_shift, dg_shift, h]
theorem mul_step {T S k y c : Nat} (hST : S ≤ T) (hc : c = T / 256 ^ k - S / 256 ^ k) :
    (dg S k + c + y) % 256 = dg (T + y * 256 ^ k) k ∧ (dg S k + c + y) / 256 = (T + y * 256 ^ k) / 256 ^ (k + 1) - S / 256 ^ (k + 1) := by
  have hp := pow_pos k
  have h1 : (T + y * 256 ^ k) / 256 ^ k = T / 256 ^ k + y := by rw [Nat.add_mul_div_right _ _ hp]
  have h2 := div_next S k
  have h3 := div_div (T + y * 256 ^ k) k
  have hle : S / 256 ^ k ≤ T / 256 ^ k := Nat.div_le_div_right hST
  have h4 : dg (T + y * 256 ^ k) k = (T + y * 256 ^ k) / 256 ^ k % 256 := rfl
  rw [h4, ← h3, h1]
  generalize T / 256 ^ k = A at *
  generalize S / 256 ^ k = B at *
  generalize S / 256 ^ (k + 1) = C at *
  generalize dg S k = D at *
  omega
theorem dg_mid {C t i x : Nat} (ht : t < 256) : dg (C * 256 ^ (i + 1) + t * 256 ^ i) x = if x < i then 0 else if x = i then t else dg C (x - (i + 1)) := by
  have hp := pow_pos i
  have e : C * 256 ^ (i + 1) + t * 256 ^ i = 0 + (C * 256 + t) * 256 ^ i := by rw [Nat.pow_succ, Nat.add_mul, Nat.mul_assoc, Nat.mul_comm 256, Nat.zero_add]
  by_cases c : x < i
  · rw [if_pos c, e, dg_add_mul c, dg_zero]
  · rw [if_neg c]
    obtain ⟨y, rfl⟩ : ∃ y, x = i + y := ⟨x - i, by omega⟩
    rw [dg_shift, e, Nat.zero_add, Nat.mul_div_cancel _ hp]
    by_cases c2 : i + y = i
    · have : y = 0 := by omega
      subst this
      rw [if_pos c2]
      unfold dg
      rw [Nat.pow_zero, Nat.div_one]
      omega
    · rw [if_neg c2]
      obtain ⟨z, rfl⟩ : ∃ z, y = 1 + z := ⟨y - 1, by omega⟩
      rw [dg_shift, show i + (1 + z) - (i + 1) = z by omega]
      congr 1
      rw [Nat.pow_one]
      omega
end Go.Lg.Dig
namespace Go.Lg.Dig
open Go Go.Lg
theorem num_blt0 {b : Bool} {f : Nat → Nat} : Nat.blt 0 (num b f).length = true := by rw [num_length]; rfl
/-- digits that are being moved up: those above the place are moved -/
def shf (R t x : Nat) : Nat := if t < x then dg R (x - 1) else dg R x
theorem shf_start (s : Bool) (R : Nat) : num s (shf R 39) = num s (dg R) := num_congr fun x hx => by unfold shf; rw [if_neg (by omega)]
theorem shf_step (s : Bool) (R t : Nat) : num s (fun x => if x = t + 1 then dg R t else shf R (t + 1) x) = num s (shf R t) := num_congr fun x _ => by
  unfold shf
  by_cases c : x = t + 1
  · subst c
    rw [if_pos rfl, if_pos (by omega), show t + 1 - 1 = t by omega]
  · rw [if_neg c]
    simp only [show (t + 1 < x ↔ t < x) by omega]
theorem shf_end (s : Bool) (R d : Nat) (hd : d < 256) : num s (fun x => if x = 0 then d else shf R 0 x) = num s (dg (R * 256 + d)) := num_congr fun x _ => by
  unfold shf
  cases x with
  | zero =>
    rw [if_pos rfl]
    unfold dg
    rw [Nat.pow_zero, Nat.div_one]
    omega
  | succ y =>
    rw [if_neg (by omega), if_pos (by omega), Nat.add_comm y 1, dg_shift, show 1 + y - 1 = y by omega, Nat.pow_one, show (R * 256 + d) / 256 = R by omega]
theorem mid_step (s : Bool) {C t i : Nat} (ht : t + 1 < 256) : num s (fun x => if x = i then t + 1 else dg (C * 256 ^ (i + 1) + t * 256 ^ i) x) = num s (dg (C * 256 ^ (i + 1) + (t + 1) * 256 ^ i)) := num_congr fun x _ => by
  rw [dg_mid (by omega), dg_mid ht]
  by_cases c : x = i
  · rw [if_pos c, if_neg (by omega), if_pos c]
  · rw [if_neg c]
    by_cases c2 : x < i
    · rw [if_pos c2, if_pos c2]
    · rw [if_neg c2, if_neg c2, if_neg c, if_neg c]
theorem mid_at {C t i : Nat} (ht : t < 256) : dg (C * 256 ^ (i + 1) + t * 256 ^ i) i = t := by rw [dg_mid ht, if_neg (by omega), if_pos rfl]
/-- one digit more of a quotient -/
theorem quo_step {A B i t V : Nat} (hB : 0 < B) (h : V + t * B = A / 256 ^ (i + 1) % B * 256 + dg A i) (hV : V < B) :
    A / 256 ^ i / B * 256 ^ i = A / 256 ^ (i + 1) / B * 256 ^ (i + 1) + t * 256 ^ i ∧ A / 256 ^ i % B = V := by
  have e1 := div_next A i
  have e2 := Nat.div_add_mod (A / 256 ^ (i + 1)) B
  have e3 : A / 256 ^ i = V + B * (A / 256 ^ (i + 1) / B * 256 + t) := by
    rw [e1, Nat.mul_add, Nat.mul_comm B t, ← Nat.mul_assoc]
    generalize B * (A / 256 ^ (i + 1) / B) = x at *
    omega
  constructor
  · rw [e3, Nat.add_mul_div_left _ _ hB, Nat.div_eq_of_lt hV, Nat.zero_add, Nat.add_mul, Nat.pow_succ, Nat.mul_assoc, Nat.mul_comm 256]
  · rw [e3, Nat.add_mul_mod_self_left, Nat.mod_eq_of_lt hV]
end Go.Lg.Dig
end
section
namespace Go.Proofs.YtfmadklfcoebhaaDoor
open Go Go.Lg Go.Lg.Arith Go.Lg.Dig Go.RowKit
variable (X : Nat → Option Obj)
abbrev LN (b : Bool) (f : Nat → Nat) : LV := .sv (.agg (num b f))
abbrev SN (b : Bool) (f : Nat → Nat) : SV := .agg (num b f)
/-- the digits of two words -/
def two (l h i : Nat) (j : Nat) : Nat := if j < i then dg l j else if 8 ≤ j ∧ j < 8 + i then dg h (j - 8) else 0
theorem two_dg {l h : Nat} (hl : l < 18446744073709551616) (hh : h < 18446744073709551616) (j : Nat) : two l h 8 j = dg (h * 18446744073709551616 + l) j := by
  have e64 : 18446744073709551616 = 256 ^ 8 := by decide
  unfold two dg
  by_cases h1 : j < 8
  · rw [if_pos h1]
    obtain ⟨k, hk⟩ : ∃ k, 8 = j + 1 + k := ⟨7 - j, by omega⟩
    have hp := pow_pos j
    rw [e64, hk, Nat.pow_add, Nat.pow_succ]
    generalize 256 ^ k = q
    generalize 256 ^ j = p at *
    rw [show h * (p * 256 * q) + l = l + p * (256 * (q * h)) by rw [Nat.mul_comm h, Nat.mul_assoc, Nat.mul_assoc, Nat.add_comm], Nat.add_mul_div_left _ _ hp]
    omega
  · rw [if_neg h1]
    obtain ⟨k, rfl⟩ : ∃ k, j = 8 + k := ⟨j - 8, by omega⟩
    have e : (h * 18446744073709551616 + l) / 256 ^ (8 + k) = h / 256 ^ k := by
      rw [Nat.pow_add, ← e64, ← Nat.div_div_eq_div_mul]
      congr 1
      omega
    rw [e]
    by_cases h2 : 8 + k < 16
    · rw [if_pos ⟨by omega, by omega⟩, show 8 + k - 8 = k by omega]
    · rw [if_neg (by omega)]
      have : h < 256 ^ k := Nat.lt_of_lt_of_le hh (by rw [e64]; exact Nat.pow_le_pow_right (by decide) (by omega))
      rw [Nat.div_eq_of_lt this]
theorem From_raw (b : Bool) (h l : Nat) (hh : h < 18446744073709551616) (hl : l < 18446744073709551616) :
    PSpec Tryd.prog X 64 [Li b (h : Nat) (l : Nat)] (LN b (two l h 8)) := by
  refine PSpec.intro Tryd.func64 rfl (by kernel_rfl) rfl (by kernel_rfl) ?_
  intro C
  (refine LWP.seq <| LWP.region (by kernel_rfl) <| K.box rfl rfl rfl .plain <| K.alloc rfl .plain ?_; refine RunK.nil <| LWP.seq <| LWP.region (by kernel_rfl) <| kfa rfl rfl ?_; refine kl1 rfl rfl rfl <| K.build rfl rfl (by exact rfl) (by exact rfl) .plain ?_; refine K.alloc rfl .plain ?_; refine K.storeAll rfl rfl rfl rfl rfl rfl .plain ?_; refine RunK.nil <| LWP.seq <| LWP.region (by kernel_rfl) <| kfa rfl rfl ?_; refine kl1 rfl rfl rfl <| kas rfl <| RunK.nil <| LWP.seq <| LWP.region (by kernel_rfl) <| kfa rfl rfl ?_; refine kl1 rfl rfl rfl <| kas rfl <| RunK.nil <| LWP.seq <| LWP.seq <| LWP.region (by kernel_rfl) <| kas rfl <| RunK.nil <| LWP.block ?_)
  refine LWP.loop (fun m σ => ∃ i : Nat, i ≤ 8 ∧ m = 8 - i ∧ σ = ⟨[(2, .sv (.one (.ptr 2 0))), (3, .sv (.one (.ptr 3 0))), (4, Ln .u64 ((h / 256 ^ i : Nat) : Int)), (5, Ln .u64 ((l / 256 ^ i : Nat) : Int)), (6, Ln .i64 (i : Nat))], [(2, some { elem := 115, cells := num false (fun _ => 0) }), (3, some { elem := 115, cells := num b (two l h i) })], X⟩) 8
    ⟨_, Le.of (by exact ⟨rfl, rfl, by rw [Nat.pow_zero, Nat.div_one]; rfl, by rw [Nat.pow_zero, Nat.div_one]; rfl, rfl, trivial⟩) (by exact ⟨rfl, rfl, trivial⟩) (by exact rfl) (by exact rfl) (by exact rfl), 0, by omega, rfl, rfl⟩ ?_
  rintro m σ ⟨i, hi, rfl, rfl⟩
  by_cases h8 : i < 8
  · have bl : l / 256 ^ i ≤ l := Nat.div_le_self _ _
    have bh : h / 256 ^ i ≤ h := Nat.div_le_self _ _
    have el : dg l i = l / 256 ^ i % 256 := rfl
    have eh : dg h i = h / 256 ^ i % 256 := rfl
    have nl := div_div l i
    have nh := div_div h i
    have step : num b (fun j => if j = 8 + i then dg h i else if j = i then dg l i else two l h i j) = num b (two l h (i + 1)) := by
      refine num_congr fun j _ => ?_
      unfold two
      by_cases c1 : j = i
      · subst c1
        rw [if_neg (by omega), if_pos rfl, if_pos (by omega)]
      · by_cases c2 : j = 8 + i
        · subst c2
          rw [if_pos rfl, if_neg (by omega), if_pos ⟨by omega, by omega⟩, show 8 + i - 8 = i by omega]
        · rw [if_neg c2, if_neg c1]
          simp only [show (j < i + 1 ↔ j < i) by omega, show (8 ≤ j ∧ j < 8 + (i + 1) ↔ 8 ≤ j ∧ j < 8 + i) by omega]
    generalize hu' : l / 256 ^ (i + 1) = u' at *
    generalize hv' : h / 256 ^ (i + 1) = v' at *
    generalize l / 256 ^ i = u at *
    generalize h / 256 ^ i = v at *
    have wl : IntKind.i64.wrap ((u : Int) % 256) = ((dg l i : Nat) : Int) := by rw [wrap_i64 (by omega)]; omega
    have wh : IntKind.i64.wrap ((v : Int) % 256) = ((dg h i : Nat) : Int) := by rw [wrap_i64 (by omega)]; omega
    have ql : IntKind.u64.wrap ((u : Int).tdiv 256) = (u' : Int) := by rw [quo_u64 (by omega) (by omega)]; omega
    have qh : IntKind.u64.wrap ((v : Int).tdiv 256) = (v' : Int) := by rw [quo_u64 (by omega) (by omega)]; omega
    (refine LWP.seq <| LWP.seq <| LWP.region (by kernel_rfl) <| kmv rfl <| klt rfl rfl (decide_eq_true (by omega)) <| RunK.nil <| LWP.condT rfl ?_; refine LWP.skip ?_; refine LWP.seq <| LWP.block <| LWP.seq <| LWP.region (by kernel_rfl) <| kmv rfl <| kmv rfl <| K.rem rfl rfl (by omega) (rem_pos (by omega)) .plain <| kcv rfl wl ?_; refine kfa rfl rfl ?_; refine K.indexArr rfl rfl (by omega) rfl .plain ?_; refine K.storeOne rfl rfl rfl rfl (num_blt (i := i) (by omega)) (num_set (i := i) (d := dg l i) (by omega)) .plain <| RunK.nil <| LWP.seq <| LWP.region (by kernel_rfl) <| kmv rfl <| kad rfl rfl (wrap_i64 (by omega)) <| kmv rfl <| K.rem rfl rfl (by omega) (rem_pos (by omega)) .plain <| kcv rfl wh ?_; refine kfa rfl rfl ?_; refine K.indexArr rfl rfl (by omega) rfl .plain ?_; refine K.storeOne rfl rfl rfl rfl (num_blt (i := 8 + i) (by omega)) (num_set (i := 8 + i) (d := dg h i) (by omega)) .plain <| RunK.nil <| LWP.seq <| LWP.region (by kernel_rfl) <| kmv rfl <| K.quo rfl rfl (by omega) ql .plain <| kas rfl <| RunK.nil <| LWP.region (by kernel_rfl) <| kmv rfl <| K.quo rfl rfl (by omega) qh .plain <| kas rfl <| RunK.nil <| LWP.region (by kernel_rfl) ?_; refine kmv rfl <| kad rfl rfl (wrap_i64 (by omega)) <| kas rfl <| RunK.nil ?_)
    exact ⟨_, _, by omega, Le.of (by exact ⟨rfl, rfl, by rw [hv']; rfl, by rw [hu']; rfl, rfl, trivial⟩) (by exact ⟨rfl, by rw [← step]; rfl, trivial⟩) (by exact rfl) (by exact rfl) (by exact rfl), i + 1, by omega, rfl, rfl⟩
  · have e : i = 8 := by omega
    subst e
    (refine LWP.seq <| LWP.seq <| LWP.region (by kernel_rfl) <| kmv rfl <| klt rfl rfl (decide_eq_false (by omega)) <| RunK.nil <| LWP.condF rfl ?_; refine LWP.exit <| LWP.seq <| LWP.region (by kernel_rfl) <| K.loadAll rfl rfl rfl .plain ?_; refine K.storeAll rfl rfl rfl rfl rfl rfl .plain ?_; refine RunK.nil <| LWP.ret ?_)
    exact ⟨[_], ⟨⟨_, _, rfl, rfl, rfl, .inl ⟨AggT.h, rfl⟩⟩, trivial⟩, rfl⟩
end Go.Proofs.YtfmadklfcoebhaaDoor
end
section
namespace Go.Proofs.YtfmadklfcoebhaaDoor
open Go Go.Lg Go.Lg.Arith Go.Lg.Dig Go.RowKit
variable (X : Nat → Option Obj)
theorem From_spec (b : Bool) (n : Nat) (hn : n < 340282366920938463463374607431768211456) : PSpec Tryd.prog X 64 [LI b (n : Nat)] (LN b (dg n)) := by
  have h := From_raw X b (n / 18446744073709551616) (n % 18446744073709551616) (by omega) (by omega)
  have e : num b (two (n % 18446744073709551616) (n / 18446744073709551616) 8) = num b (dg n) := num_congr fun j _ => by
    rw [two_dg (by omega) (by omega), show n / 18446744073709551616 * 18446744073709551616 + n % 18446744073709551616 = n by omega]
  unfold LN at h ⊢
  rw [e] at h
  exact h
abbrev T40 : Nat := 256 ^ 40
theorem cmp_facts_0 (x y : Int) : ∃ r, cmpI x y = r ∧ (x < y → r = -1) ∧ (x = y → r = 0) ∧ (y < x → r = 1) := by
  refine ⟨_, rfl, ?_, ?_, ?_⟩ <;> intro h <;> unfold cmpI
  · rw [if_pos h]
  · rw [if_neg (by omega), if_neg (by omega)]
  · rw [if_neg (by omega), if_pos h]
theorem Size_spec (a b : Bool) (M N : Nat) (hM : M < T40) (hN : N < T40) (r : Int) (hr : cmpI M N = r) :
    PSpec Tryd.prog X 63 [LN a (dg M), LN b (dg N)] (Ln .i64 r) := by
  refine PSpec.intro Tryd.func63 rfl (by kernel_rfl) rfl rfl ?_
  intro C
  (refine LWP.seq <| LWP.region (by kernel_rfl) <| K.box rfl rfl rfl .plain <| K.box rfl rfl rfl .plain <| kas rfl <| RunK.nil <| LWP.seq <| LWP.seq <| LWP.region (by kernel_rfl) <| kas rfl <| RunK.nil <| LWP.block ?_)
  refine LWP.loop (fun m σ => ∃ z : Int, m ≤ 40 ∧ z = (m : Int) - 1 ∧ M / 256 ^ m = N / 256 ^ m ∧ σ = ⟨[(2, .sv (.one (.ptr 2 0))), (3, .sv (.one (.ptr 3 0))), (5, Ln .i64 z)], [(2, some { elem := 115, cells := num a (dg M) }), (3, some { elem := 115, cells := num b (dg N) })], X⟩) 40
    ⟨_, Le.of (by exact ⟨rfl, rfl, rfl, trivial⟩) (by exact ⟨rfl, rfl, trivial⟩) (by exact rfl) (by exact rfl) (by exact rfl), 39, by omega, rfl, by rw [Nat.div_eq_of_lt hM, Nat.div_eq_of_lt hN], rfl⟩ ?_
  rintro m σ ⟨z, hm, rfl, hq, rfl⟩
  cases m with
  | zero =>
    have e : M = N := by simpa using hq
    have hr' : r = 0 := by rw [← hr, e]; unfold cmpI; rw [if_neg (by omega), if_neg (by omega)]
    (refine LWP.seq <| LWP.seq <| LWP.region (by kernel_rfl) <| kmv rfl <| K.geq rfl rfl (decide_eq_false (by omega)) .plain <| RunK.nil <| LWP.condF rfl ?_; refine LWP.exit <| LWP.seq <| LWP.region (by kernel_rfl) <| kas rfl <| RunK.nil <| LWP.ret ?_)
    exact ⟨[_], ⟨rfl, trivial⟩, by rw [hr']; rfl⟩
  | succ i =>
    rw [show (((i + 1 : Nat) : Int) - 1) = (i : Int) by omega]
    have hi : i < 40 := by omega
    rcases Nat.lt_trichotomy (dg M i) (dg N i) with h | h | h
    · have hlt := lt_digit hq h
      have hr' : r = -1 := by rw [← hr]; unfold cmpI; rw [if_pos (by omega)]
      (refine LWP.seq <| LWP.seq <| LWP.region (by kernel_rfl) <| kmv rfl <| K.geq rfl rfl (decide_eq_true (by omega)) .plain <| RunK.nil <| LWP.condT rfl ?_; refine LWP.skip ?_; refine LWP.seq <| LWP.block <| LWP.seq <| LWP.seq <| LWP.draws mixed (by kernel_rfl) <| kmv rfl <| kfa rfl rfl ?_; refine K.indexArr rfl rfl (by omega) rfl .plain ?_; refine kl1 rfl rfl (num_at (i := i) hi) <| kmv rfl <| kfa rfl rfl ?_; refine K.indexArr rfl rfl (by omega) rfl .plain ?_; refine kl1 rfl rfl (num_at (i := i) hi) <| K.gtr rfl rfl (decide_eq_false (by omega)) .plain <| RunK.nil <| And.intro (by kernel_rfl) ?_; refine LWP.condF rfl ?_; refine LWP.skip ?_; refine LWP.seq <| LWP.draws mixed (by kernel_rfl) <| kmv rfl <| kfa rfl rfl ?_; refine K.indexArr rfl rfl (by omega) rfl .plain ?_; refine kl1 rfl rfl (num_at (i := i) hi) <| kmv rfl <| kfa rfl rfl ?_; refine K.indexArr rfl rfl (by omega) rfl .plain ?_; refine kl1 rfl rfl (num_at (i := i) hi) <| klt rfl rfl (decide_eq_true (by omega)) <| RunK.nil <| And.intro (by kernel_rfl) ?_; refine LWP.condT rfl ?_; refine LWP.seq <| LWP.region (by kernel_rfl) <| kas rfl <| RunK.nil <| LWP.ret ?_)
      exact ⟨[_], ⟨rfl, trivial⟩, by rw [hr']; rfl⟩
    · have hq' : M / 256 ^ i = N / 256 ^ i := by rw [div_next M i, div_next N i, hq, h]
      (refine LWP.seq <| LWP.seq <| LWP.region (by kernel_rfl) <| kmv rfl <| K.geq rfl rfl (decide_eq_true (by omega)) .plain <| RunK.nil <| LWP.condT rfl ?_; refine LWP.skip ?_; refine LWP.seq <| LWP.block <| LWP.seq <| LWP.seq <| LWP.draws mixed (by kernel_rfl) <| kmv rfl <| kfa rfl rfl ?_; refine K.indexArr rfl rfl (by omega) rfl .plain ?_; refine kl1 rfl rfl (num_at (i := i) hi) <| kmv rfl <| kfa rfl rfl ?_; refine K.indexArr rfl rfl (by omega) rfl .plain ?_; refine kl1 rfl rfl (num_at (i := i) hi) <| K.gtr rfl rfl (decide_eq_false (by omega)) .plain <| RunK.nil <| And.intro (by kernel_rfl) ?_; refine LWP.condF rfl ?_; refine LWP.skip ?_; refine LWP.seq <| LWP.draws mixed (by kernel_rfl) <| kmv rfl <| kfa rfl rfl ?_; refine K.indexArr rfl rfl (by omega) rfl .plain ?_; refine kl1 rfl rfl (num_at (i := i) hi) <| kmv rfl <| kfa rfl rfl ?_; refine K.indexArr rfl rfl (by omega) rfl .plain ?_; refine kl1 rfl rfl (num_at (i := i) hi) <| klt rfl rfl (decide_eq_false (by omega)) <| RunK.nil <| And.intro (by kernel_rfl) ?_; refine LWP.condF rfl ?_; refine LWP.skip ?_; refine LWP.region (by kernel_rfl) <| kmv rfl <| K.sub rfl rfl (wrap_i64 (by omega)) .plain <| kas rfl <| RunK.nil ?_)
      exact ⟨i, _, by omega, Le.of (by exact ⟨rfl, rfl, rfl, trivial⟩) (by exact ⟨rfl, rfl, trivial⟩) (by exact rfl) (by exact rfl) (by exact rfl), _, by omega, rfl, hq', rfl⟩
    · have hlt := lt_digit hq.symm h
      have hr' : r = 1 := by rw [← hr]; unfold cmpI; rw [if_neg (by omega), if_pos (by omega)]
      (refine LWP.seq <| LWP.seq <| LWP.region (by kernel_rfl) <| kmv rfl <| K.geq rfl rfl (decide_eq_true (by omega)) .plain <| RunK.nil <| LWP.condT rfl ?_; refine LWP.skip ?_; refine LWP.seq <| LWP.block <| LWP.seq <| LWP.seq <| LWP.draws mixed (by kernel_rfl) <| kmv rfl <| kfa rfl rfl ?_; refine K.indexArr rfl rfl (by omega) rfl .plain ?_; refine kl1 rfl rfl (num_at (i := i) hi) <| kmv rfl <| kfa rfl rfl ?_; refine K.indexArr rfl rfl (by omega) rfl .plain ?_; refine kl1 rfl rfl (num_at (i := i) hi) <| K.gtr rfl rfl (decide_eq_true (by omega)) .plain <| RunK.nil <| And.intro (by kernel_rfl) ?_; refine LWP.condT rfl ?_; refine LWP.seq <| LWP.region (by kernel_rfl) <| kas rfl <| RunK.nil <| LWP.ret ?_)
      exact ⟨[_], ⟨rfl, trivial⟩, by rw [hr']; rfl⟩
/-- the lower digits -/
def low (n i j : Nat) : Nat := if j < i then dg n j else 0
theorem low_step (b : Bool) (n i : Nat) : num b (fun j => if j = i then dg n i else low n i j) = num b (low n (i + 1)) := num_congr fun j _ => by
  unfold low
  by_cases c : j = i
  · subst c; rw [if_pos rfl, if_pos (by omega)]
  · rw [if_neg c]
    simp only [show (j < i + 1 ↔ j < i) by omega]
theorem low_all (b : Bool) (n : Nat) : num b (low n 40) = num b (dg n) := num_congr fun j hj => by unfold low; rw [if_pos hj]
end Go.Proofs.YtfmadklfcoebhaaDoor
end
section
namespace Go.Proofs.YtfmadklfcoebhaaDoor
open Go Go.Lg Go.Lg.Arith Go.Lg.Dig Go.RowKit
variable (X : Nat → Option Obj)
end Go.Proofs.YtfmadklfcoebhaaDoor
end
section
namespace Go.Proofs.YtfmadklfcoebhaaDoor
open Go Go.Lg Go.Lg.Arith Go.Lg.Dig Go.RowKit
variable (X : Nat → Option Obj)
theorem Good_spec (b : Bool) (N : Int) (hN : In2 N) (r : Bool) (hr : formB b N = r) : PSpec Tryd.prog X 45 [LI b N] (Lb r) := by
  obtain ⟨h0, h1⟩ := hN
  refine PSpec.intro Tryd.func45 rfl (by kernel_rfl) rfl rfl ?_
  intro C
  by_cases ha : N < 170141183460469231731687303715884105728
  · cases b with
    | false =>
      have e : r = true := by rw [← hr]; simp [formB, ha]
      (refine LWP.seq <| LWP.region (by kernel_rfl) <| K.box rfl rfl rfl .plain <| kas rfl <| RunK.nil <| LWP.seq <| LWP.region (by kernel_rfl) <| kfa rfl rfl ?_; refine kl1 rfl rfl rfl <| klt rfl rfl (decide_eq_true (by omega)) <| kmv rfl <| K.fieldAddr rfl rfl (.taken rfl rfl) ?_; refine K.loadOne rfl rfl rfl (.taken rfl rfl) ?_; refine gmv rfl rfl rfl <| RunK.passed rfl rfl rfl <| RunK.passed rfl rfl rfl <| RunK.passed rfl rfl rfl <| K.pickF rfl rfl (.taken rfl rfl) ?_; refine gmv rfl rfl rfl <| RunK.passed rfl rfl rfl <| RunK.passed rfl rfl rfl <| RunK.passed rfl rfl rfl <| K.pickF rfl rfl (.taken rfl rfl) ?_; refine K.not rfl rfl (.taken rfl rfl) ?_; refine kpt rfl rfl <| kas rfl <| RunK.nil <| LWP.ret ?_)
      exact ⟨[_], ⟨rfl, trivial⟩, by rw [e]; rfl⟩
    | true =>
      by_cases hh : N / 18446744073709551616 = 0
      · by_cases hl : N % 18446744073709551616 = 0
        · have e : r = false := by rw [← hr]; unfold formB; rw [show (N == 0) = true from beq_iff_eq.2 (by omega)]; simp
          (refine LWP.seq <| LWP.region (by kernel_rfl) <| K.box rfl rfl rfl .plain <| kas rfl <| RunK.nil <| LWP.seq <| LWP.region (by kernel_rfl) <| kfa rfl rfl ?_; refine kl1 rfl rfl rfl <| klt rfl rfl (decide_eq_true (by omega)) <| kmv rfl <| K.fieldAddr rfl rfl (.taken rfl rfl) ?_; refine K.loadOne rfl rfl rfl (.taken rfl rfl) ?_; refine gmv rfl rfl rfl <| K.fieldAddr rfl rfl (.taken rfl rfl) ?_; refine K.loadOne rfl rfl rfl (.taken rfl rfl) ?_; refine K.eql rfl rfl (beq_iff_eq.2 (by omega)) (.taken rfl rfl) ?_; refine K.pickT rfl rfl (.taken rfl rfl) ?_; refine gmv rfl rfl rfl <| K.fieldAddr rfl rfl (.taken rfl rfl) ?_; refine K.loadOne rfl rfl rfl (.taken rfl rfl) ?_; refine K.eql rfl rfl (beq_iff_eq.2 (by omega)) (.taken rfl rfl) ?_; refine K.pickT rfl rfl (.taken rfl rfl) ?_; refine K.not rfl rfl (.taken rfl rfl) ?_; refine kpt rfl rfl <| kas rfl <| RunK.nil <| LWP.ret ?_)
          exact ⟨[_], ⟨rfl, trivial⟩, by rw [e]; rfl⟩
        · have e : r = true := by rw [← hr]; unfold formB; rw [show (N == 0) = false from beq_eq_false_iff_ne.2 (by omega)]; simp [ha]
          (refine LWP.seq <| LWP.region (by kernel_rfl) <| K.box rfl rfl rfl .plain <| kas rfl <| RunK.nil <| LWP.seq <| LWP.region (by kernel_rfl) <| kfa rfl rfl ?_; refine kl1 rfl rfl rfl <| klt rfl rfl (decide_eq_true (by omega)) <| kmv rfl <| K.fieldAddr rfl rfl (.taken rfl rfl) ?_; refine K.loadOne rfl rfl rfl (.taken rfl rfl) ?_; refine gmv rfl rfl rfl <| K.fieldAddr rfl rfl (.taken rfl rfl) ?_; refine K.loadOne rfl rfl rfl (.taken rfl rfl) ?_; refine K.eql rfl rfl (beq_iff_eq.2 (by omega)) (.taken rfl rfl) ?_; refine K.pickT rfl rfl (.taken rfl rfl) ?_; refine gmv rfl rfl rfl <| K.fieldAddr rfl rfl (.taken rfl rfl) ?_; refine K.loadOne rfl rfl rfl (.taken rfl rfl) ?_; refine K.eql rfl rfl (beq_eq_false_iff_ne.2 (by omega)) (.taken rfl rfl) ?_; refine K.pickT rfl rfl (.taken rfl rfl) ?_; refine K.not rfl rfl (.taken rfl rfl) ?_; refine kpt rfl rfl <| kas rfl <| RunK.nil <| LWP.ret ?_)
          exact ⟨[_], ⟨rfl, trivial⟩, by rw [e]; rfl⟩
      · have e : r = true := by rw [← hr]; unfold formB; rw [show (N == 0) = false from beq_eq_false_iff_ne.2 (by omega)]; simp [ha]
        (refine LWP.seq <| LWP.region (by kernel_rfl) <| K.box rfl rfl rfl .plain <| kas rfl <| RunK.nil <| LWP.seq <| LWP.region (by kernel_rfl) <| kfa rfl rfl ?_; refine kl1 rfl rfl rfl <| klt rfl rfl (decide_eq_true (by omega)) <| kmv rfl <| K.fieldAddr rfl rfl (.taken rfl rfl) ?_; refine K.loadOne rfl rfl rfl (.taken rfl rfl) ?_; refine gmv rfl rfl rfl <| K.fieldAddr rfl rfl (.taken rfl rfl) ?_; refine K.loadOne rfl rfl rfl (.taken rfl rfl) ?_; refine K.eql rfl rfl (beq_eq_false_iff_ne.2 (by omega)) (.taken rfl rfl) ?_; refine K.pickT rfl rfl (.taken rfl rfl) ?_; refine gmv rfl rfl rfl <| RunK.passed rfl rfl rfl <| RunK.passed rfl rfl rfl <| RunK.passed rfl rfl rfl <| K.pickF rfl rfl (.taken rfl rfl) ?_; refine K.not rfl rfl (.taken rfl rfl) ?_; refine kpt rfl rfl <| kas rfl <| RunK.nil <| LWP.ret ?_)
        exact ⟨[_], ⟨rfl, trivial⟩, by rw [e]; rfl⟩
  · have e : r = false := by rw [← hr]; simp [formB, ha]
    (refine LWP.seq <| LWP.region (by kernel_rfl) <| K.box rfl rfl rfl .plain <| kas rfl <| RunK.nil <| LWP.seq <| LWP.region (by kernel_rfl) <| kfa rfl rfl ?_; refine kl1 rfl rfl rfl <| klt rfl rfl (decide_eq_false (by omega)) <| kmv rfl <| RunK.passed rfl rfl rfl <| RunK.passed rfl rfl rfl <| RunK.passed rfl rfl rfl <| RunK.passedU rfl rfl <| RunK.passedU rfl rfl <| RunK.passedU rfl rfl <| RunK.passed rfl rfl rfl <| RunK.passed rfl rfl rfl <| RunK.passedU rfl rfl <| RunK.passedU rfl rfl <| RunK.passedU rfl rfl ?_; refine RunK.passed rfl rfl rfl <| RunK.passed rfl rfl rfl <| kpf rfl rfl <| kas rfl <| RunK.nil <| LWP.ret ?_)
    exact ⟨[_], ⟨rfl, trivial⟩, by rw [e]; rfl⟩
theorem mg_nat (x : Int) : (((mg x).toNat : Nat) : Int) = mg x := by have := mg_nonneg x; omega
theorem From_q (x : Int) (hx : R127 x) : PSpec Tryd.prog X 64 [LQ x] (LN (decide (x < 0)) (dg (mg x).toNat)) := by
  have h := From_spec X (decide (x < 0)) (mg x).toNat (by have := mg_lim hx; have := mg_nonneg x; omega)
  rw [mg_nat] at h
  exact h
theorem lim40 {n : Nat} (h : n < 340282366920938463463374607431768211456) : n < T40 := by
  unfold T40
  rw [pow40]
  omega
theorem RCmp_spec (x y : Int) (hx : R127 x) (hy : R127 y) (r : Int) (hr : cmpI x y = r) : PSpec Tryd.prog X 47 [LQ x, LQ y] (Ln .i64 r) := by
  have f1 := From_q X x hx
  have f2 := From_q X y hy
  have n1 := mg_nonneg x
  have n2 := mg_nonneg y
  have m1 := mg_lim hx
  have m2 := mg_lim hy
  obtain ⟨s, hs, c1, c2, c3⟩ := cmp_facts_0 ((mg x).toNat : Nat) ((mg y).toNat : Nat)
  have hS := Size_spec X (decide (x < 0)) (decide (y < 0)) (mg x).toNat (mg y).toNat (lim40 (by omega)) (lim40 (by omega)) s hs
  rw [mg_nat, mg_nat] at c1 c2 c3
  refine PSpec.intro Tryd.func47 rfl (by kernel_rfl) rfl rfl ?_
  intro C
  by_cases cx : x < 0
  · by_cases cy : y < 0
    · have hb : (decide (x < 0) != decide (y < 0)) = false := by rw [decide_eq_true cx, decide_eq_true cy]; rfl
      have e : r = 0 - s := by
        rw [mg_neg cx, mg_neg cy] at c1 c2 c3
        rw [← hr]
        unfold cmpI
        rcases Int.lt_trichotomy x y with h | h | h
        · rw [if_pos h]; omega
        · rw [if_neg (by omega), if_neg (by omega)]; omega
        · rw [if_neg (by omega), if_pos h]; omega
      have sb : -1 ≤ s ∧ s ≤ 1 := by rcases Int.lt_trichotomy (mg x) (mg y) with h | h | h <;> omega
      (refine LWP.seq <| LWP.region (by kernel_rfl) <| K.box rfl rfl rfl .plain <| K.box rfl rfl rfl .plain <| kas rfl <| RunK.nil <| LWP.seq <| LWP.seq <| LWP.region (by kernel_rfl) <| kfa rfl rfl ?_; refine kl1 rfl rfl rfl <| kfa rfl rfl ?_; refine kl1 rfl rfl rfl <| K.neqB rfl rfl hb .plain <| RunK.nil <| LWP.condF rfl ?_; refine LWP.skip ?_; refine LWP.seq <| LWP.draws mixed (by kernel_rfl) <| K.loadAll rfl rfl rfl .plain ?_; refine kca rfl rfl (f1) <| K.loadAll rfl rfl rfl .plain ?_; refine kca rfl rfl (f2) <| kca rfl rfl (hS) <| kas rfl <| RunK.nil <| And.intro (by kernel_rfl) ?_; refine LWP.seq <| LWP.seq <| LWP.region (by kernel_rfl) <| kfa rfl rfl ?_; refine kl1 rfl rfl rfl <| RunK.nil <| LWP.condT (ev_bool (decide_eq_true cx)) ?_; refine LWP.seq <| LWP.region (by kernel_rfl) <| kmv rfl <| K.neg rfl (wrap_i64 (by omega)) .plain <| kas rfl <| RunK.nil <| LWP.ret ?_)
      exact ⟨[_], ⟨rfl, trivial⟩, by rw [e]; rfl⟩
    · have hb : (decide (x < 0) != decide (y < 0)) = true := by rw [decide_eq_true cx, decide_eq_false cy]; rfl
      have e : r = -1 := by rw [← hr]; unfold cmpI; rw [if_pos (by omega)]
      (refine LWP.seq <| LWP.region (by kernel_rfl) <| K.box rfl rfl rfl .plain <| K.box rfl rfl rfl .plain <| kas rfl <| RunK.nil <| LWP.seq <| LWP.seq <| LWP.region (by kernel_rfl) <| kfa rfl rfl ?_; refine kl1 rfl rfl rfl <| kfa rfl rfl ?_; refine kl1 rfl rfl rfl <| K.neqB rfl rfl hb .plain <| RunK.nil <| LWP.condT rfl ?_; refine LWP.seq <| LWP.seq <| LWP.region (by kernel_rfl) <| kfa rfl rfl ?_; refine kl1 rfl rfl rfl <| RunK.nil <| LWP.condT (ev_bool (decide_eq_true cx)) ?_; refine LWP.seq <| LWP.region (by kernel_rfl) <| kas rfl <| RunK.nil <| LWP.ret ?_)
      exact ⟨[_], ⟨rfl, trivial⟩, by rw [e]; rfl⟩
  · by_cases cy : y < 0
    · have hb : (decide (x < 0) != decide (y < 0)) = true := by rw [decide_eq_false cx, decide_eq_true cy]; rfl
      have e : r = 1 := by rw [← hr]; unfold cmpI; rw [if_neg (by omega), if_pos (by omega)]
      (refine LWP.seq <| LWP.region (by kernel_rfl) <| K.box rfl rfl rfl .plain <| K.box rfl rfl rfl .plain <| kas rfl <| RunK.nil <| LWP.seq <| LWP.seq <| LWP.region (by kernel_rfl) <| kfa rfl rfl ?_; refine kl1 rfl rfl rfl <| kfa rfl rfl ?_; refine kl1 rfl rfl rfl <| K.neqB rfl rfl hb .plain <| RunK.nil <| LWP.condT rfl ?_; refine LWP.seq <| LWP.seq <| LWP.region (by kernel_rfl) <| kfa rfl rfl ?_; refine kl1 rfl rfl rfl <| RunK.nil <| LWP.condF (ev_bool (decide_eq_false cx)) ?_; refine LWP.skip ?_; refine LWP.seq <| LWP.region (by kernel_rfl) <| kas rfl <| RunK.nil <| LWP.ret ?_)
      exact ⟨[_], ⟨rfl, trivial⟩, by rw [e]; rfl⟩
    · have hb : (decide (x < 0) != decide (y < 0)) = false := by rw [decide_eq_false cx, decide_eq_false cy]; rfl
      have e : r = s := by
        rw [mg_pos (Int.not_lt.1 cx), mg_pos (Int.not_lt.1 cy)] at c1 c2 c3
        rw [← hr]
        unfold cmpI
        rcases Int.lt_trichotomy x y with h | h | h
        · rw [if_pos h]; omega
        · rw [if_neg (by omega), if_neg (by omega)]; omega
        · rw [if_neg (by omega), if_pos h]; omega
      (refine LWP.seq <| LWP.region (by kernel_rfl) <| K.box rfl rfl rfl .plain <| K.box rfl rfl rfl .plain <| kas rfl <| RunK.nil <| LWP.seq <| LWP.seq <| LWP.region (by kernel_rfl) <| kfa rfl rfl ?_; refine kl1 rfl rfl rfl <| kfa rfl rfl ?_; refine kl1 rfl rfl rfl <| K.neqB rfl rfl hb .plain <| RunK.nil <| LWP.condF rfl ?_; refine LWP.skip ?_; refine LWP.seq <| LWP.draws mixed (by kernel_rfl) <| K.loadAll rfl rfl rfl .plain ?_; refine kca rfl rfl (f1) <| K.loadAll rfl rfl rfl .plain ?_; refine kca rfl rfl (f2) <| kca rfl rfl (hS) <| kas rfl <| RunK.nil <| And.intro (by kernel_rfl) ?_; refine LWP.seq <| LWP.seq <| LWP.region (by kernel_rfl) <| kfa rfl rfl ?_; refine kl1 rfl rfl rfl <| RunK.nil <| LWP.condF (ev_bool (decide_eq_false cx)) ?_; refine LWP.skip ?_; refine LWP.seq <| LWP.region (by kernel_rfl) <| kmv rfl <| kas rfl <| RunK.nil <| LWP.ret ?_)
      exact ⟨[_], ⟨rfl, trivial⟩, by rw [e]; rfl⟩
end Go.Proofs.YtfmadklfcoebhaaDoor
end
section
namespace Go.Lg.Fld
open Go Go.Lg
abbrev tabW : List CV := [.val (.int .i64 0), .val (.int .i64 1), .val (.int .i64 1), .val (.int .i64 2), .val (.int .i64 4), .val (.int .i64 8), .val (.int .i64 1), .val (.int .i64 2), .val (.int .i64 4), .val (.int .i64 8), .val (.int .i64 8)]
abbrev tabN : List CV := [.val (.string ⟨#[]⟩), .val (.string ⟨#[98, 111, 111, 108]⟩), .val (.string ⟨#[105, 56]⟩), .val (.string ⟨#[105, 49, 54]⟩), .val (.string ⟨#[105, 51, 50]⟩), .val (.string ⟨#[105, 54, 52]⟩), .val (.string ⟨#[117, 56]⟩), .val (.string ⟨#[117, 49, 54]⟩), .val (.string ⟨#[117, 51, 50]⟩), .val (.string ⟨#[117, 54, 52]⟩), .val (.string ⟨#[114, 101, 102]⟩)]
abbrev tabB : List CV := [.val (.int .u64 0), .val (.int .u64 0), .val (.int .u64 128), .val (.int .u64 32768), .val (.int .u64 2147483648), .val (.int .u64 9223372036854775808), .val (.int .u64 0), .val (.int .u64 0), .val (.int .u64 0), .val (.int .u64 0), .val (.int .u64 0)]
abbrev tabA : List CV := [.val (.int .u64 0), .val (.int .u64 1), .val (.int .u64 127), .val (.int .u64 32767), .val (.int .u64 2147483647), .val (.int .u64 9223372036854775807), .val (.int .u64 255), .val (.int .u64 65535), .val (.int .u64 4294967295), .val (.int .u64 18446744073709551615), .val (.int .u64 18446744073709551615)]
theorem tabW_at {k : Int} (h : kK k = true) : tabW[0 + k.toNat * 1]? = some (.val (.int .i64 (kW k : Nat))) := by
  rcases kin h with rfl | rfl | rfl | rfl | rfl | rfl | rfl | rfl | rfl | rfl <;> rfl
theorem tabN_at {k : Int} (h : kK k = true) : tabN[0 + k.toNat * 1]? = some (.val (.string ⟨(kN k).toArray⟩)) := by
  rcases kin h with rfl | rfl | rfl | rfl | rfl | rfl | rfl | rfl | rfl | rfl <;> rfl
theorem tabB_at {k : Int} (h : kK k = true) : tabB[0 + k.toNat * 1]? = some (.val (.int .u64 (kB k))) := by
  rcases kin h with rfl | rfl | rfl | rfl | rfl | rfl | rfl | rfl | rfl | rfl <;> rfl
theorem tabA_at {k : Int} (h : kK k = true) : tabA[0 + k.toNat * 1]? = some (.val (.int .u64 (kA k))) := by
  rcases kin h with rfl | rfl | rfl | rfl | rfl | rfl | rfl | rfl | rfl | rfl <;> rfl
end Go.Lg.Fld
namespace Go.Proofs.YtfmadklfcoebhaaDoor
open Go Go.Lg Go.Lg.Fld
set_option maxRecDepth 100000
variable (X : Nat → Option Obj)
instance : ArrB Tryd.prog 89 (List.replicate 11 (.int .i64 0)) 1 := ⟨by kernel_rfl⟩
instance : ArrB Tryd.prog 111 (List.replicate 11 (.int .u64 0)) 1 := ⟨by kernel_rfl⟩
theorem refBytes_spec (k : Int) : PSpec Tryd.prog X 26 [Ln .i64 k] (Ln .i64 (kW k : Nat)) := by
  refine PSpec.intro Tryd.func26 rfl (by kernel_rfl) rfl rfl ?_
  intro C
  cases hk : kK k with
  | false =>
    rcases knot hk with h | h
    · rw [kW_no (.inl h)]
      (refine LWP.seq <| LWP.region (by kernel_rfl) <| kas rfl <| RunK.nil <| LWP.seq <| LWP.seq <| LWP.region (by kernel_rfl) <| kmv rfl <| klt rfl rfl (decide_eq_true (by omega)) <| kmv rfl <| RunK.passed rfl rfl rfl <| RunK.passed rfl rfl rfl <| kpt rfl rfl <| RunK.nil ?_; refine LWP.condT rfl ?_; refine LWP.seq <| LWP.region (by kernel_rfl) <| kas rfl <| RunK.nil <| LWP.ret ?_)
      exact ⟨[_], ⟨rfl, trivial⟩, rfl⟩
    · rw [kW_no (.inr h)]
      (refine LWP.seq <| LWP.region (by kernel_rfl) <| kas rfl <| RunK.nil <| LWP.seq <| LWP.seq <| LWP.region (by kernel_rfl) <| kmv rfl <| klt rfl rfl (decide_eq_false (by omega)) <| kmv rfl <| gmv rfl rfl rfl <| K.gtr rfl rfl (decide_eq_true (by omega)) (.taken rfl rfl) ?_; refine kpf rfl rfl <| RunK.nil <| LWP.condT rfl ?_; refine LWP.seq <| LWP.region (by kernel_rfl) <| kas rfl <| RunK.nil <| LWP.ret ?_)
      exact ⟨[_], ⟨rfl, trivial⟩, rfl⟩
  | true =>
    have hb := (kK_iff k).1 hk
    (refine LWP.seq <| LWP.region (by kernel_rfl) <| kas rfl <| RunK.nil <| LWP.seq <| LWP.seq <| LWP.region (by kernel_rfl) <| kmv rfl <| klt rfl rfl (decide_eq_false (by omega)) <| kmv rfl <| gmv rfl rfl rfl <| K.gtr rfl rfl (decide_eq_false (by omega)) (.taken rfl rfl) ?_; refine kpf rfl rfl <| RunK.nil <| LWP.condF rfl ?_; refine LWP.skip ?_; refine LWP.seq <| LWP.region (by kernel_rfl) <| K.buildArr (cs' := tabW) rfl rfl (by exact rfl) rfl .plain ?_; refine K.alloc rfl .plain ?_; refine K.storeAll rfl rfl rfl rfl rfl rfl .plain ?_; refine RunK.nil <| LWP.seq <| LWP.region (by kernel_rfl) <| kmv rfl <| K.indexArr rfl rfl (by omega) rfl .plain ?_; refine kl1 rfl rfl (tabW_at hk) <| kas rfl <| RunK.nil <| LWP.ret ?_)
    exact ⟨[_], ⟨rfl, trivial⟩, rfl⟩
theorem SQ_pos {p : Int} (h : 0 ≤ p ∧ p < 18446744073709551616) : SQ p = .agg [.val (.bool false), .val (.int .u64 0), .val (.int .u64 p)] := by
  unfold SQ SI
  rw [mg_pos h.1, decide_eq_false (by omega), show p / 18446744073709551616 = 0 by omega, show p % 18446744073709551616 = p by omega]
theorem SQ_neg {p : Int} (h : 0 < p ∧ p < 18446744073709551616) : SQ (-p) = .agg [.val (.bool true), .val (.int .u64 0), .val (.int .u64 p)] := by
  unfold SQ SI
  rw [mg_neg (by omega), decide_eq_true (by omega), Int.neg_neg, show p / 18446744073709551616 = 0 by omega, show p % 18446744073709551616 = p by omega]
theorem SQ_low (k : Int) : SQ (-kB k) = .agg [.val (.bool (decide (0 < kB k))), .val (.int .u64 0), .val (.int .u64 (kB k))] := by
  have hb := kfacts k
  by_cases h : 0 < kB k
  · rw [SQ_neg ⟨h, by omega⟩, decide_eq_true h]
  · rw [decide_eq_false h, show -kB k = kB k by omega, SQ_pos ⟨by omega, by omega⟩]
theorem Bounds_spec (k : Int) : PSpec Tryd.prog X 46 [Ln .i64 k] (.tup [SQ (-kB k), SQ (kA k)]) := by
  have hf := kfacts k
  rw [SQ_low k, SQ_pos ⟨hf.2.2.1, hf.2.2.2.1⟩]
  refine PSpec.intro Tryd.func46 rfl (by kernel_rfl) rfl rfl ?_
  intro C
  cases hk : kK k with
  | false =>
    rw [kB_no (knot hk), kA_no (knot hk)]
    rcases knot hk with h | h
    · (refine LWP.seq <| LWP.region (by kernel_rfl) <| K.alloc rfl .plain ?_; refine K.alloc rfl .plain ?_; refine RunK.nil <| LWP.seq <| LWP.seq <| LWP.region (by kernel_rfl) <| kmv rfl <| klt rfl rfl (decide_eq_true (by omega)) <| kmv rfl <| RunK.passed rfl rfl rfl <| RunK.passed rfl rfl rfl <| kpt rfl rfl <| RunK.nil <| LWP.condT rfl ?_; refine LWP.seq <| LWP.region (by kernel_rfl) <| K.build rfl rfl (by exact rfl) (by exact nl3 rfl rfl rfl rfl) .plain ?_; refine K.build rfl rfl (by exact rfl) (by exact nl3 rfl rfl rfl rfl) .plain ?_; refine K.storeAll rfl rfl rfl rfl rfl rfl .plain ?_; refine K.storeAll rfl rfl rfl rfl rfl rfl .plain ?_; refine RunK.nil <| LWP.ret ?_)
      exact ⟨[_, _], ⟨⟨_, _, rfl, rfl, rfl, .inl ⟨AggT.h, rfl⟩⟩, ⟨_, _, rfl, rfl, rfl, .inl ⟨AggT.h, rfl⟩⟩, trivial⟩, rfl⟩
    · (refine LWP.seq <| LWP.region (by kernel_rfl) <| K.alloc rfl .plain ?_; refine K.alloc rfl .plain ?_; refine RunK.nil <| LWP.seq <| LWP.seq <| LWP.region (by kernel_rfl) <| kmv rfl <| klt rfl rfl (decide_eq_false (by omega)) <| kmv rfl <| gmv rfl rfl rfl <| K.gtr rfl rfl (decide_eq_true (by omega)) (.taken rfl rfl) ?_; refine kpf rfl rfl <| RunK.nil <| LWP.condT rfl ?_; refine LWP.seq <| LWP.region (by kernel_rfl) <| K.build rfl rfl (by exact rfl) (by exact nl3 rfl rfl rfl rfl) .plain ?_; refine K.build rfl rfl (by exact rfl) (by exact nl3 rfl rfl rfl rfl) .plain ?_; refine K.storeAll rfl rfl rfl rfl rfl rfl .plain ?_; refine K.storeAll rfl rfl rfl rfl rfl rfl .plain ?_; refine RunK.nil <| LWP.ret ?_)
      exact ⟨[_, _], ⟨⟨_, _, rfl, rfl, rfl, .inl ⟨AggT.h, rfl⟩⟩, ⟨_, _, rfl, rfl, rfl, .inl ⟨AggT.h, rfl⟩⟩, trivial⟩, rfl⟩
  | true =>
    have hb := (kK_iff k).1 hk
    (refine LWP.seq <| LWP.region (by kernel_rfl) <| K.alloc rfl .plain ?_; refine K.alloc rfl .plain ?_; refine RunK.nil <| LWP.seq <| LWP.seq <| LWP.region (by kernel_rfl) <| kmv rfl <| klt rfl rfl (decide_eq_false (by omega)) <| kmv rfl <| gmv rfl rfl rfl <| K.gtr rfl rfl (decide_eq_false (by omega)) (.taken rfl rfl) ?_; refine kpf rfl rfl <| RunK.nil <| LWP.condF rfl ?_; refine LWP.skip ?_; refine LWP.seq <| LWP.region (by kernel_rfl) <| K.buildArr (cs' := tabB) rfl rfl (by exact rfl) rfl .plain ?_; refine K.alloc rfl .plain ?_; refine K.storeAll rfl rfl rfl rfl rfl rfl .plain ?_; refine RunK.nil <| LWP.seq <| LWP.region (by kernel_rfl) <| K.buildArr (cs' := tabA) rfl rfl (by exact rfl) rfl .plain ?_; refine K.alloc rfl .plain ?_; refine K.storeAll rfl rfl rfl rfl rfl rfl .plain ?_; refine RunK.nil <| LWP.seq <| LWP.draws mixed (by kernel_rfl) <| kmv rfl <| K.indexArr rfl rfl (by omega) rfl .plain ?_; refine kl1 rfl rfl (tabB_at hk) <| K.gtr rfl rfl rfl .plain <| kmv rfl <| K.indexArr rfl rfl (by omega) rfl .plain ?_; refine kl1 rfl rfl (tabB_at hk) <| K.build rfl rfl (by exact rfl) (by exact nl3 rfl rfl rfl rfl) .plain ?_; refine kmv rfl <| K.indexArr rfl rfl (by omega) rfl .plain ?_; refine kl1 rfl rfl (tabA_at hk) <| K.build rfl rfl (by exact rfl) (by exact nl3 rfl rfl rfl rfl) .plain ?_; refine K.storeAll rfl rfl rfl rfl rfl rfl .plain ?_; refine K.storeAll rfl rfl rfl rfl rfl rfl .plain ?_; refine RunK.nil <| And.intro (by kernel_rfl) ?_; refine LWP.ret ?_)
    exact ⟨[_, _], ⟨⟨_, _, rfl, rfl, rfl, .inl ⟨AggT.h, rfl⟩⟩, ⟨_, _, rfl, rfl, rfl, .inl ⟨AggT.h, rfl⟩⟩, trivial⟩, rfl⟩
theorem cmp_le (x y : Int) (h : x ≤ y) : ∃ r, cmpI x y = r ∧ r ≤ 0 := ⟨_, rfl, by unfold cmpI; rw [if_neg (Int.not_lt.2 h)]; split <;> decide⟩
theorem cmp_ge (x y : Int) (h : y ≤ x) : ∃ r, cmpI x y = r ∧ 0 ≤ r := ⟨_, rfl, by unfold cmpI; rw [if_neg (Int.not_lt.2 h)]; split <;> decide⟩
theorem cmp_lt (x y : Int) (h : x < y) : cmpI x y = -1 := by unfold cmpI; rw [if_pos h]
theorem cmp_gt (x y : Int) (h : y < x) : cmpI x y = 1 := by unfold cmpI; rw [if_neg (Int.not_lt.2 (Int.le_of_lt h)), if_pos h]
theorem refFits_spec (k : Int) (b : Bool) (N : Int) (hN : In2 N) (r : Bool) (hr : fitB k b N = r) : PSpec Tryd.prog X 30 [Ln .i64 k, LI b N] (Lb r) := by
  subst hr
  have hB := refBytes_spec X k
  have hBd := Bounds_spec X k
  have hG := Good_spec X b N hN _ rfl
  unfold fitB
  refine PSpec.intro Tryd.func30 rfl (by kernel_rfl) rfl rfl ?_
  intro C
  cases hk : kK k with
  | false =>
    rw [kW_no (knot hk)] at hB
    (refine LWP.seq <| LWP.region (by kernel_rfl) <| K.box rfl rfl rfl .plain <| kas rfl <| RunK.nil <| LWP.seq <| LWP.seq <| LWP.region (by kernel_rfl) <| kmv rfl <| kca rfl rfl (hB) <| keq rfl rfl (beq_iff_eq.2 (by omega)) <| kmv rfl <| RunK.passed rfl rfl rfl <| RunK.passed rfl rfl rfl ?_; refine RunK.passed rfl rfl rfl <| kpt rfl rfl <| RunK.nil <| LWP.condT rfl ?_; refine LWP.seq <| LWP.region (by kernel_rfl) <| kas rfl <| RunK.nil <| LWP.ret ?_)
    exact ⟨[_], ⟨rfl, trivial⟩, rfl⟩
  | true =>
    have hk0 : kW k ≠ 0 := fun e => by rw [kW_zero] at e; rw [hk] at e; cases e
    cases hf : formB b N with
    | false =>
      rw [hf] at hG
      (refine LWP.seq <| LWP.region (by kernel_rfl) <| K.box rfl rfl rfl .plain <| kas rfl <| RunK.nil <| LWP.seq <| LWP.seq <| LWP.region (by kernel_rfl) <| kmv rfl <| kca rfl rfl (hB) <| keq rfl rfl (beq_eq_false_iff_ne.2 (by omega)) <| kmv rfl <| K.loadAll rfl rfl rfl (.taken rfl rfl) ?_; refine gca rfl rfl (hG) rfl rfl <| K.not rfl rfl (.taken rfl rfl) ?_; refine kpf rfl rfl <| RunK.nil <| LWP.condT rfl ?_; refine LWP.seq <| LWP.region (by kernel_rfl) <| kas rfl <| RunK.nil <| LWP.ret ?_)
      exact ⟨[_], ⟨rfl, trivial⟩, rfl⟩
    | true =>
      rw [hf] at hG
      have hR := (zv_in hN hf).1
      rw [LI_q hN hf] at hG ⊢
      generalize zv b N = x at *
      have c1 := RCmp_spec X x (-kB k) hR (kBn_R k)
      have c2 := RCmp_spec X x (kA k) hR (kA_R k)
      by_cases h1 : -kB k ≤ x
      · obtain ⟨r, hr, hr0⟩ := cmp_ge x (-kB k) h1
        have c1' := c1 r hr
        by_cases h2 : x ≤ kA k
        · obtain ⟨s, hs, hs0⟩ := cmp_le x (kA k) h2
          have c2' := c2 s hs
          rw [(fitZ_iff k x).2 ⟨h1, h2⟩]
          (refine LWP.seq <| LWP.region (by kernel_rfl) <| K.box rfl rfl rfl .plain <| kas rfl <| RunK.nil <| LWP.seq <| LWP.seq <| LWP.region (by kernel_rfl) <| kmv rfl <| kca rfl rfl (hB) <| keq rfl rfl (beq_eq_false_iff_ne.2 (by omega)) <| kmv rfl <| K.loadAll rfl rfl rfl (.taken rfl rfl) ?_; refine gca rfl rfl (hG) rfl rfl <| K.not rfl rfl (.taken rfl rfl) ?_; refine kpf rfl rfl <| RunK.nil <| LWP.condF rfl ?_; refine LWP.skip ?_; refine LWP.seq <| LWP.region (by kernel_rfl) <| kmv rfl <| kca rfl rfl (hBd) <| kmv rfl <| kex rfl rfl <| kex rfl rfl <| K.alloc rfl .plain ?_; refine K.alloc rfl .plain ?_; refine K.storeAll rfl rfl rfl rfl rfl rfl .plain ?_; refine K.storeAll rfl rfl rfl rfl rfl rfl .plain ?_; refine RunK.nil <| LWP.seq <| LWP.region (by kernel_rfl) <| K.loadAll rfl rfl rfl .plain ?_; refine K.loadAll rfl rfl rfl .plain ?_; refine kca rfl rfl c1' <| K.geq rfl rfl (decide_eq_true (by omega)) .plain <| kmv rfl <| K.loadAll rfl rfl rfl (.taken rfl rfl) ?_; refine K.loadAll rfl rfl rfl (.taken rfl rfl) ?_; refine gca rfl rfl c2' rfl rfl <| K.leq rfl rfl (decide_eq_true (by omega)) (.taken rfl rfl) ?_; refine kpt rfl rfl <| kas rfl <| RunK.nil <| LWP.ret ?_)
          exact ⟨[_], ⟨rfl, trivial⟩, rfl⟩
        · have c2' := c2 1 (cmp_gt x (kA k) (by omega))
          rw [show fitZ k x = false by rw [fitZ, decide_eq_false h2, Bool.and_false]]
          (refine LWP.seq <| LWP.region (by kernel_rfl) <| K.box rfl rfl rfl .plain <| kas rfl <| RunK.nil <| LWP.seq <| LWP.seq <| LWP.region (by kernel_rfl) <| kmv rfl <| kca rfl rfl (hB) <| keq rfl rfl (beq_eq_false_iff_ne.2 (by omega)) <| kmv rfl <| K.loadAll rfl rfl rfl (.taken rfl rfl) ?_; refine gca rfl rfl (hG) rfl rfl <| K.not rfl rfl (.taken rfl rfl) ?_; refine kpf rfl rfl <| RunK.nil <| LWP.condF rfl ?_; refine LWP.skip ?_; refine LWP.seq <| LWP.region (by kernel_rfl) <| kmv rfl <| kca rfl rfl (hBd) <| kmv rfl <| kex rfl rfl <| kex rfl rfl <| K.alloc rfl .plain ?_; refine K.alloc rfl .plain ?_; refine K.storeAll rfl rfl rfl rfl rfl rfl .plain ?_; refine K.storeAll rfl rfl rfl rfl rfl rfl .plain ?_; refine RunK.nil <| LWP.seq <| LWP.region (by kernel_rfl) <| K.loadAll rfl rfl rfl .plain ?_; refine K.loadAll rfl rfl rfl .plain ?_; refine kca rfl rfl c1' <| K.geq rfl rfl (decide_eq_true (by omega)) .plain <| kmv rfl <| K.loadAll rfl rfl rfl (.taken rfl rfl) ?_; refine K.loadAll rfl rfl rfl (.taken rfl rfl) ?_; refine gca rfl rfl c2' rfl rfl <| K.leq rfl rfl (decide_eq_false (by omega)) (.taken rfl rfl) ?_; refine kpt rfl rfl <| kas rfl <| RunK.nil <| LWP.ret ?_)
          exact ⟨[_], ⟨rfl, trivial⟩, rfl⟩
      · have c1' := c1 (-1) (cmp_lt x (-kB k) (by omega))
        rw [show fitZ k x = false by rw [fitZ, decide_eq_false h1, Bool.false_and]]
        (refine LWP.seq <| LWP.region (by kernel_rfl) <| K.box rfl rfl rfl .plain <| kas rfl <| RunK.nil <| LWP.seq <| LWP.seq <| LWP.region (by kernel_rfl) <| kmv rfl <| kca rfl rfl (hB) <| keq rfl rfl (beq_eq_false_iff_ne.2 (by omega)) <| kmv rfl <| K.loadAll rfl rfl rfl (.taken rfl rfl) ?_; refine gca rfl rfl (hG) rfl rfl <| K.not rfl rfl (.taken rfl rfl) ?_; refine kpf rfl rfl <| RunK.nil <| LWP.condF rfl ?_; refine LWP.skip ?_; refine LWP.seq <| LWP.region (by kernel_rfl) <| kmv rfl <| kca rfl rfl (hBd) <| kmv rfl <| kex rfl rfl <| kex rfl rfl <| K.alloc rfl .plain ?_; refine K.alloc rfl .plain ?_; refine K.storeAll rfl rfl rfl rfl rfl rfl .plain ?_; refine K.storeAll rfl rfl rfl rfl rfl rfl .plain ?_; refine RunK.nil <| LWP.seq <| LWP.region (by kernel_rfl) <| K.loadAll rfl rfl rfl .plain ?_; refine K.loadAll rfl rfl rfl .plain ?_; refine kca rfl rfl c1' <| K.geq rfl rfl (decide_eq_false (by omega)) .plain <| kmv rfl <| RunK.passed rfl rfl rfl <| RunK.passed rfl rfl rfl <| RunK.passed rfl rfl rfl <| RunK.passed rfl rfl rfl <| kpf rfl rfl <| kas rfl <| RunK.nil <| LWP.ret ?_)
        exact ⟨[_], ⟨rfl, trivial⟩, rfl⟩
end Go.Proofs.YtfmadklfcoebhaaDoor
end
section
namespace Go.Lg.Fld
open Go Go.Lg
theorem leB_mod : ∀ (w n m : Nat), n % 256 ^ w = m % 256 ^ w → leB w n = leB w m
  | 0, _, _, _ => rfl
  | w + 1, n, m, h => by
    rw [Nat.pow_succ, Nat.mul_comm] at h
    have h1 : n % 256 = m % 256 := by
      rw [← Nat.mod_mul_right_mod n 256 (256 ^ w), h, Nat.mod_mul_right_mod]
    have h2 : n / 256 % 256 ^ w = m / 256 % 256 ^ w := by
      rw [← Nat.mod_mul_right_div_self, h, Nat.mod_mul_right_div_self]
    show UInt8.ofNat (n % 256) :: leB w (n / 256) = UInt8.ofNat (m % 256) :: leB w (m / 256)
    rw [h1, leB_mod w _ _ h2]
/-- a number as one word -/
def w64 (x : Int) : Nat := (x % 18446744073709551616).toNat
theorem leB_w64 {k x : Int} (h : kK k = true) (hx : fitZ k x = true) : leB (kW k) (w64 x) = leB (kW k) (wdK k x) := by
  refine leB_mod _ _ _ ?_
  have h1 := kM_facts h
  have hf := kfacts k
  have hx2 := (fitZ_iff k x).1 hx
  have e : (w64 x : Int) % (kM k : Int) = (wdK k x : Int) % (kM k : Int) := by
    unfold w64 wdK
    rw [Int.toNat_of_nonneg (Int.emod_nonneg x (by decide)), Int.toNat_of_nonneg (Int.emod_nonneg x (by omega)), Int.emod_emod]
    refine Int.emod_emod_of_dvd x ?_
    unfold kM
    rcases kW_in h with e | e | e | e <;> rw [e] <;> decide
  have e2 : w64 x % kM k = wdK k x % kM k := by omega
  exact e2
end Go.Lg.Fld
namespace Go.Proofs.YtfmadklfcoebhaaDoor
open Go Go.Lg Go.Lg.Fld
set_option maxRecDepth 100000
variable (X : Nat → Option Obj)
set_option maxHeartbeats 1600000 in
theorem refPut_spec (k x : Int) (hk : kK k = true) (hx : fitZ k x = true) : PSpec Tryd.prog X 34 [Ln .i64 k, LQ x] (Ls (leB (kW k) (wdK k x))) := by
  have hB := refBytes_spec X k
  have hf := kfacts k
  have hx2 := (fitZ_iff k x).1 hx
  rw [← leB_w64 hk hx]
  have hn : w64 x < 18446744073709551616 := by unfold w64; omega
  refine PSpec.intro Tryd.func34 rfl (by kernel_rfl) rfl rfl ?_
  intro C
  have hcut : ∀ n : Nat, n = w64 x → (x < 0 → (n : Int) = x + 18446744073709551616) ∧ (0 ≤ x → (n : Int) = x) := fun n e => by
    subst e; unfold w64; exact ⟨fun h => by omega, fun h => by omega⟩
  obtain ⟨g1, g2⟩ := hcut _ rfl
  generalize w64 x = n at *
  obtain ⟨w, hw, hw8⟩ : ∃ w, kW k = w ∧ w ≤ 8 := ⟨_, rfl, hf.2.2.2.2⟩
  rw [hw] at hB ⊢
  by_cases c : x < 0
  · have hm : mg x % 18446744073709551616 = -x := by rw [mg_neg c]; omega
    have hs : IntKind.u64.wrap (0 - (-x)) = (n : Int) := by rw [IntKind.wrap_u64]; have := g1 c; omega
    unfold LQ LI
    rw [hm, decide_eq_true c]
    (refine LWP.seq <| LWP.region (by kernel_rfl) <| K.box rfl rfl rfl .plain <| kas rfl <| RunK.nil <| LWP.seq <| LWP.region (by kernel_rfl) <| kfa rfl rfl ?_; refine kl1 rfl rfl rfl <| kas rfl <| RunK.nil <| LWP.seq <| LWP.seq ?_)
    refine LWP.cut (fun σ => σ = ⟨[(0, Ln .i64 k), (5, Ln .u64 (n : Nat))], [], X⟩) ?_ ?_
    · (refine LWP.region (by kernel_rfl) <| kfa rfl rfl ?_; refine kl1 rfl rfl rfl <| RunK.nil <| LWP.condT rfl ?_; refine LWP.region (by kernel_rfl) <| kfa rfl rfl ?_; refine kl1 rfl rfl rfl <| K.sub rfl rfl hs .plain <| kas rfl <| RunK.nil ?_)
      exact ⟨_, Le.of (by exact ⟨rfl, rfl, trivial⟩) (by exact trivial) (by exact rfl) (by exact rfl) (by exact rfl), rfl⟩
    rintro σ rfl
    (refine LWP.seq <| LWP.region (by kernel_rfl) <| K.buildSlc (zs := []) (sz := 1) (e := 5) (by kernel_rfl) rfl rfl rfl rfl rfl rfl .plain <| kas rfl <| RunK.nil <| LWP.seq <| LWP.seq <| LWP.region (by kernel_rfl) <| kas rfl <| RunK.nil <| LWP.block ?_)
    refine LWP.loop (fun m σ => ∃ (i : Nat) (row : Bool), i ≤ w ∧ m = w - i ∧ σ = ⟨[(0, Ln .i64 k), (5, Ln .u64 (n / 256 ^ i : Nat)), (6, .sv (.one (.slc 500 0 i))), (7, Ln .i64 (i : Nat))], [(500, some ⟨5, ((leB w n).take i).map bc, row⟩)], X⟩) w
      ⟨_, Le.ofR [(500, 15)] (by exact ⟨rfl, by rw [Nat.pow_zero, Nat.div_one]; rfl, rfl, rfl, trivial⟩) (by repeat' (first | exact trivial | refine And.intro ⟨_, rfl, ?_⟩ ?_ | refine And.intro ⟨_, rfl⟩ ?_ | rfl | exact Box.ren_bytes _ _ _ _ | exact Box.ren_vals _ _ _ _)) (by exact rfl) (by exact rfl) (by repeat' (first | refine all_cons_true ?_ ?_ | rfl | exact bytes_inUse | exact vals_inUse)) (by exact rfl) (by exact rfl), 0, false, Nat.zero_le _, rfl, rfl⟩ ?_
    rintro m σ ⟨i, row, hi, rfl, rfl⟩
    by_cases hlt : i < w
    · have hle : n / 256 ^ i ≤ n := Nat.div_le_self _ _
      have hd : n / 256 ^ i / 256 = n / 256 ^ (i + 1) := by rw [Nat.pow_succ, Nat.div_div_eq_div_mul]
      have hnc := take_next (n := n) hlt
      have hcl : (((leB w n).take i).map bc).length = i * 1 := by rw [List.length_map, List.length_take, leB_length]; omega
      have hv : IntKind.u8.wrap (((n / 256 ^ i : Nat) : Int) % 256) = ((UInt8.ofNat (n / 256 ^ i % 256)).toNat : Nat) := by
        rw [UInt8.toNat_ofNat', Nat.mod_eq_of_lt (Nat.mod_lt _ (by decide)), IntKind.wrap_u8]
        omega
      have hq : IntKind.u64.wrap (((n / 256 ^ i : Nat) : Int).tdiv 256) = ((n / 256 ^ (i + 1) : Nat) : Int) := by
        rw [← hd]
        clear hv hnc hd
        generalize n / 256 ^ i = q at *
        rw [quo_u64 (by omega) (by omega)]; omega
      (refine LWP.seq <| LWP.seq <| LWP.region (by kernel_rfl) <| kmv rfl <| kmv rfl <| kca rfl rfl (hB) <| klt rfl rfl (decide_eq_true (by omega)) <| RunK.nil <| LWP.condT rfl ?_; refine LWP.skip ?_; refine LWP.seq <| LWP.block <| LWP.seq <| LWP.region (by kernel_rfl) <| kmv rfl <| kmv rfl <| K.rem rfl rfl (by omega) rfl .plain <| kcv rfl hv ?_; refine K.buildSlc (zs := [.int .u8 0]) (sz := 1) (e := 5) (by kernel_rfl) rfl rfl rfl rfl rfl rfl .plain <| K.appendSlc (by_ := 1) (e2 := 5) (l2 := [bc (UInt8.ofNat (n / 256 ^ i % 256))]) rfl rfl hcl rfl rfl (Nat.le_refl _) rfl rfl (by kernel_rfl) (by kernel_rfl) (by omega) (by omega) rfl rfl hnc .plain <| kas rfl <| RunK.nil <| LWP.region (by kernel_rfl) <| kmv rfl <| K.quo rfl rfl (by omega) hq .plain <| kas rfl <| RunK.nil <| LWP.region (by kernel_rfl) <| kmv rfl <| kad rfl rfl (wrap_i64 (by omega)) <| kas rfl <| RunK.nil ?_)
      exact ⟨_, _, by omega, Le.ofR [(500, 27)] (by exact ⟨rfl, rfl, rfl, rfl, trivial⟩) (by repeat' (first | exact trivial | refine And.intro ⟨_, rfl, ?_⟩ ?_ | refine And.intro ⟨_, rfl⟩ ?_ | rfl | exact Box.ren_bytes _ _ _ _ | exact Box.ren_vals _ _ _ _)) (by exact rfl) (by exact rfl) (by repeat' (first | refine all_cons_true ?_ ?_ | rfl | exact bytes_inUse | exact vals_inUse)) (by exact rfl) (by exact rfl), i + 1, true, by omega, rfl, rfl⟩
    · have e : i = w := by omega
      subst e
      have hta : (leB i n).take i = leB i n := List.take_of_length_le (by rw [leB_length]; exact Nat.le_refl _)
      rw [hta]
      have hlen : 0 + i ≤ ((leB i n).map bc).length := by rw [List.length_map, leB_length]; omega
      have hend : (((leB i n).map bc).drop 0).take i = (leB i n).map bc := by rw [List.drop_zero, List.take_of_length_le (by rw [List.length_map, leB_length]; exact Nat.le_refl _)]
      (refine LWP.seq <| LWP.seq <| LWP.region (by kernel_rfl) <| kmv rfl <| kmv rfl <| kca rfl rfl (hB) <| klt rfl rfl (decide_eq_false (by omega)) <| RunK.nil <| LWP.condF rfl ?_; refine LWP.exit <| LWP.seq <| LWP.region (by kernel_rfl) <| kmv rfl <| K.convStr rfl rfl (by kernel_rfl) StrT.u hlen hend .plain <| kas rfl <| RunK.nil <| LWP.ret ?_)
      exact ⟨[_], ⟨rfl, trivial⟩, rfl⟩
  · have hm : mg x % 18446744073709551616 = (n : Int) := by rw [mg_pos (by omega)]; have := g2 (by omega); omega
    unfold LQ LI
    rw [hm, decide_eq_false c]
    (refine LWP.seq <| LWP.region (by kernel_rfl) <| K.box rfl rfl rfl .plain <| kas rfl <| RunK.nil <| LWP.seq <| LWP.region (by kernel_rfl) <| kfa rfl rfl ?_; refine kl1 rfl rfl rfl <| kas rfl <| RunK.nil <| LWP.seq <| LWP.seq ?_)
    refine LWP.cut (fun σ => σ = ⟨[(0, Ln .i64 k), (5, Ln .u64 (n : Nat))], [], X⟩) ?_ ?_
    · (refine LWP.region (by kernel_rfl) <| kfa rfl rfl ?_; refine kl1 rfl rfl rfl <| RunK.nil <| LWP.condF rfl ?_; refine LWP.skip ?_)
      exact ⟨_, Le.of (by exact ⟨rfl, rfl, trivial⟩) (by exact trivial) (by exact rfl) (by exact rfl) (by exact rfl), rfl⟩
    rintro σ rfl
    (refine LWP.seq <| LWP.region (by kernel_rfl) <| K.buildSlc (zs := []) (sz := 1) (e := 5) (by kernel_rfl) rfl rfl rfl rfl rfl rfl .plain <| kas rfl <| RunK.nil <| LWP.seq <| LWP.seq <| LWP.region (by kernel_rfl) <| kas rfl <| RunK.nil <| LWP.block ?_)
    refine LWP.loop (fun m σ => ∃ (i : Nat) (row : Bool), i ≤ w ∧ m = w - i ∧ σ = ⟨[(0, Ln .i64 k), (5, Ln .u64 (n / 256 ^ i : Nat)), (6, .sv (.one (.slc 500 0 i))), (7, Ln .i64 (i : Nat))], [(500, some ⟨5, ((leB w n).take i).map bc, row⟩)], X⟩) w
      ⟨_, Le.ofR [(500, 15)] (by exact ⟨rfl, by rw [Nat.pow_zero, Nat.div_one]; rfl, rfl, rfl, trivial⟩) (by repeat' (first | exact trivial | refine And.intro ⟨_, rfl, ?_⟩ ?_ | refine And.intro ⟨_, rfl⟩ ?_ | rfl | exact Box.ren_bytes _ _ _ _ | exact Box.ren_vals _ _ _ _)) (by exact rfl) (by exact rfl) (by repeat' (first | refine all_cons_true ?_ ?_ | rfl | exact bytes_inUse | exact vals_inUse)) (by exact rfl) (by exact rfl), 0, false, Nat.zero_le _, rfl, rfl⟩ ?_
    rintro m σ ⟨i, row, hi, rfl, rfl⟩
    by_cases hlt : i < w
    · have hle : n / 256 ^ i ≤ n := Nat.div_le_self _ _
      have hd : n / 256 ^ i / 256 = n / 256 ^ (i + 1) := by rw [Nat.pow_succ, Nat.div_div_eq_div_mul]
      have hnc := take_next (n := n) hlt
      have hcl : (((leB w n).take i).map bc).length = i * 1 := by rw [List.length_map, List.length_take, leB_length]; omega
      have hv : IntKind.u8.wrap (((n / 256 ^ i : Nat) : Int) % 256) = ((UInt8.ofNat (n / 256 ^ i % 256)).toNat : Nat) := by
        rw [UInt8.toNat_ofNat', Nat.mod_eq_of_lt (Nat.mod_lt _ (by decide)), IntKind.wrap_u8]
        omega
      have hq : IntKind.u64.wrap (((n / 256 ^ i : Nat) : Int).tdiv 256) = ((n / 256 ^ (i + 1) : Nat) : Int) := by
        rw [← hd]
        clear hv hnc hd
        generalize n / 256 ^ i = q at *
        rw [quo_u64 (by omega) (by omega)]; omega
      (refine LWP.seq <| LWP.seq <| LWP.region (by kernel_rfl) <| kmv rfl <| kmv rfl <| kca rfl rfl (hB) <| klt rfl rfl (decide_eq_true (by omega)) <| RunK.nil <| LWP.condT rfl ?_; refine LWP.skip ?_; refine LWP.seq <| LWP.block <| LWP.seq <| LWP.region (by kernel_rfl) <| kmv rfl <| kmv rfl <| K.rem rfl rfl (by omega) rfl .plain <| kcv rfl hv ?_; refine K.buildSlc (zs := [.int .u8 0]) (sz := 1) (e := 5) (by kernel_rfl) rfl rfl rfl rfl rfl rfl .plain <| K.appendSlc (by_ := 1) (e2 := 5) (l2 := [bc (UInt8.ofNat (n / 256 ^ i % 256))]) rfl rfl hcl rfl rfl (Nat.le_refl _) rfl rfl (by kernel_rfl) (by kernel_rfl) (by omega) (by omega) rfl rfl hnc .plain <| kas rfl <| RunK.nil <| LWP.region (by kernel_rfl) <| kmv rfl <| K.quo rfl rfl (by omega) hq .plain <| kas rfl <| RunK.nil <| LWP.region (by kernel_rfl) <| kmv rfl <| kad rfl rfl (wrap_i64 (by omega)) <| kas rfl <| RunK.nil ?_)
      exact ⟨_, _, by omega, Le.ofR [(500, 27)] (by exact ⟨rfl, rfl, rfl, rfl, trivial⟩) (by repeat' (first | exact trivial | refine And.intro ⟨_, rfl, ?_⟩ ?_ | refine And.intro ⟨_, rfl⟩ ?_ | rfl | exact Box.ren_bytes _ _ _ _ | exact Box.ren_vals _ _ _ _)) (by exact rfl) (by exact rfl) (by repeat' (first | refine all_cons_true ?_ ?_ | rfl | exact bytes_inUse | exact vals_inUse)) (by exact rfl) (by exact rfl), i + 1, true, by omega, rfl, rfl⟩
    · have e : i = w := by omega
      subst e
      have hta : (leB i n).take i = leB i n := List.take_of_length_le (by rw [leB_length]; exact Nat.le_refl _)
      rw [hta]
      have hlen : 0 + i ≤ ((leB i n).map bc).length := by rw [List.length_map, leB_length]; omega
      have hend : (((leB i n).map bc).drop 0).take i = (leB i n).map bc := by rw [List.drop_zero, List.take_of_length_le (by rw [List.length_map, leB_length]; exact Nat.le_refl _)]
      (refine LWP.seq <| LWP.seq <| LWP.region (by kernel_rfl) <| kmv rfl <| kmv rfl <| kca rfl rfl (hB) <| klt rfl rfl (decide_eq_false (by omega)) <| RunK.nil <| LWP.condF rfl ?_; refine LWP.exit <| LWP.seq <| LWP.region (by kernel_rfl) <| kmv rfl <| K.convStr rfl rfl (by kernel_rfl) StrT.u hlen hend .plain <| kas rfl <| RunK.nil <| LWP.ret ?_)
      exact ⟨[_], ⟨rfl, trivial⟩, rfl⟩
theorem last_of {l : List UInt8} {w : Nat} {c : UInt8} (hl : l.length = w + 1) (hc : l[w]? = some c) : le l = le (l.take w) + c.toNat * 256 ^ w ∧ le (l.take w) < 256 ^ w := by
  have h := le_take hc
  rw [List.take_of_length_le (by omega)] at h
  have h2 := le_lt (l.take w)
  rw [List.length_take, Nat.min_eq_left (by omega)] at h2
  exact ⟨h, h2⟩
theorem drop_le {l : List UInt8} {i : Nat} {c : UInt8} (h : l[i]? = some c) : le (l.drop i) = c.toNat + 256 * le (l.drop (i + 1)) := by
  obtain ⟨hi, e⟩ := List.getElem?_eq_some_iff.1 h
  rw [List.drop_eq_getElem_cons hi, e]
  rfl
theorem refGet_short (k : Int) (l : List UInt8) (h : l.length ≠ kW k ∨ l.length = 0) : PSpec Tryd.prog X 38 [Ln .i64 k, Ls l] (.tup [S0, Sb false]) := by
  have hB := refBytes_spec X k
  have hz : (⟨l.toArray⟩ : ByteArray).size = l.length := rfl
  refine PSpec.intro Tryd.func38 rfl (by kernel_rfl) rfl rfl ?_
  intro C
  by_cases h1 : l.length = kW k
  · rw [← h1] at hB
    (refine LWP.seq <| LWP.region (by kernel_rfl) <| K.alloc rfl .plain ?_; refine kas rfl <| RunK.nil <| LWP.seq <| LWP.seq <| LWP.region (by kernel_rfl) <| kmv rfl <| kln rfl <| kmv rfl <| kca rfl rfl (hB) <| kne rfl rfl ((bne_eq_false_iff_eq.2 (by omega))) <| kmv rfl <| gmv rfl rfl rfl <| K.lenStr rfl (.taken rfl rfl) ?_; refine K.eql rfl rfl (beq_iff_eq.2 (by omega)) (.taken rfl rfl) ?_; refine kpf rfl rfl <| RunK.nil <| LWP.condT rfl ?_; refine LWP.seq <| LWP.region (by kernel_rfl) <| K.build rfl rfl (by exact rfl) (by exact nl3 rfl rfl rfl rfl) .plain ?_; refine K.storeAll rfl rfl rfl rfl rfl rfl .plain ?_; refine kas rfl <| RunK.nil <| LWP.ret ?_)
    exact ⟨[_, _], ⟨⟨_, _, rfl, rfl, rfl, .inl ⟨AggT.h, rfl⟩⟩, rfl, trivial⟩, rfl⟩
  · (refine LWP.seq <| LWP.region (by kernel_rfl) <| K.alloc rfl .plain ?_; refine kas rfl <| RunK.nil <| LWP.seq <| LWP.seq <| LWP.region (by kernel_rfl) <| kmv rfl <| kln rfl <| kmv rfl <| kca rfl rfl (hB) <| kne rfl rfl (bne_iff_ne.2 (by omega)) <| kmv rfl <| RunK.passed rfl rfl rfl <| RunK.passed rfl rfl rfl <| RunK.passed rfl rfl rfl ?_; refine kpt rfl rfl <| RunK.nil <| LWP.condT rfl ?_; refine LWP.seq <| LWP.region (by kernel_rfl) <| K.build rfl rfl (by exact rfl) (by exact nl3 rfl rfl rfl rfl) .plain ?_; refine K.storeAll rfl rfl rfl rfl rfl rfl .plain ?_; refine kas rfl <| RunK.nil <| LWP.ret ?_)
    exact ⟨[_, _], ⟨⟨_, _, rfl, rfl, rfl, .inl ⟨AggT.h, rfl⟩⟩, rfl, trivial⟩, rfl⟩
end Go.Proofs.YtfmadklfcoebhaaDoor
end
section
namespace Go.Lg.Fld
open Go Go.Lg
theorem kM_sig {k : Int} (h : 2 ≤ k ∧ k ≤ 5) : kB k + kA k + 1 = (kM k : Int) := by
  have hc : k = 2 ∨ k = 3 ∨ k = 4 ∨ k = 5 := by omega
  rcases hc with rfl | rfl | rfl | rfl <;> decide
theorem kM_uns {k : Int} (h : 6 ≤ k ∧ k ≤ 10) : kA k + 1 = (kM k : Int) := by
  have hc : k = 6 ∨ k = 7 ∨ k = 8 ∨ k = 9 ∨ k = 10 := by omega
  rcases hc with rfl | rfl | rfl | rfl | rfl <;> decide
theorem sig_iff {k : Int} (h : 2 ≤ k ∧ k ≤ 5) {w c t : Nat} (hw : kW k = w + 1) (ht : t < 256 ^ w) : 127 < c ↔ kA k < ((t + c * 256 ^ w : Nat) : Int) := by
  have hc : k = 2 ∨ k = 3 ∨ k = 4 ∨ k = 5 := by omega
  rcases hc with rfl | rfl | rfl | rfl
  · have e : w = 0 := by have : kW 2 = 1 := by decide
                         omega
    subst e
    have : kA 2 = 127 := by decide
    omega
  · have e : w = 1 := by have : kW 3 = 2 := by decide
                         omega
    subst e
    have : kA 3 = 32767 := by decide
    omega
  · have e : w = 3 := by have : kW 4 = 4 := by decide
                         omega
    subst e
    have : kA 4 = 2147483647 := by decide
    omega
  · have e : w = 7 := by have : kW 5 = 8 := by decide
                         omega
    subst e
    have : kA 5 = 9223372036854775807 := by decide
    omega
end Go.Lg.Fld
namespace Go.Proofs.YtfmadklfcoebhaaDoor
open Go Go.Lg Go.Lg.Fld
set_option maxRecDepth 100000
variable (X : Nat → Option Obj)
/-- what the reference's Get answers -/
def getR (k : Int) (v : Nat) : LV := if fitZ k (nbK k v) = true then .tup [SQ (nbK k v), Sb true] else .tup [S0, Sb false]
theorem getR_pos {k : Int} {v : Nat} (h : (v : Int) ≤ kA k) : getR k v = .tup [.agg [.val (.bool false), .val (.int .u64 0), .val (.int .u64 (v : Nat))], Sb true] := by
  have hf := kfacts k
  have e : nbK k v = v := if_neg (by omega)
  unfold getR
  rw [e, if_pos ((fitZ_iff k _).2 (by omega)), SQ_pos (by omega)]
theorem getR_neg {k : Int} {v : Nat} (hk : 2 ≤ k ∧ k ≤ 5) (h : kA k < v) (hv : v < kM k) (p : Int) (hp : (kM k : Int) - v = p) : getR k v = .tup [.agg [.val (.bool true), .val (.int .u64 0), .val (.int .u64 p)], Sb true] := by
  have hf := kfacts k
  have hs := kM_sig hk
  have h2 := kM_facts (k := k) (by rw [kK_iff]; omega)
  have e : nbK k v = -p := by unfold nbK; rw [if_pos h]; omega
  unfold getR
  rw [e, if_pos ((fitZ_iff k _).2 (by omega)), SQ_neg (by omega)]
theorem getR_bool {v : Nat} (h : 1 < v) (hv : v < 256) : getR 1 v = .tup [S0, Sb false] := by
  have hA : kA 1 = 1 := by decide
  have e : nbK 1 v = (v : Int) - 256 := by
    unfold nbK
    rw [if_pos (by omega)]
    rfl
  unfold getR
  rw [e, if_neg]
  intro hc
  rw [fitZ_iff] at hc
  have : kB 1 = 0 := by decide
  omega
set_option maxHeartbeats 3200000 in
theorem refGet_q (k : Int) (l : List UInt8) (hk : kK k = true) (hn : l.length = kW k) : PSpec Tryd.prog X 38 [Ln .i64 k, Ls l] (getR k (le l)) := by
  have hB := refBytes_spec X k
  have hz : (⟨l.toArray⟩ : ByteArray).size = l.length := rfl
  have hf := kfacts k
  have hM := kM_facts hk
  have hkk := (kK_iff k).1 hk
  have hk0 : kW k ≠ 0 := fun e => by rw [kW_zero] at e; rw [hk] at e; cases e
  obtain ⟨w, hw⟩ : ∃ w, kW k = w + 1 := ⟨kW k - 1, by omega⟩
  have hw8 : w < 8 := by omega
  obtain ⟨c, hc⟩ : ∃ c, l[w]? = some c := ⟨_, List.getElem?_eq_getElem (by omega)⟩
  obtain ⟨hlast, hinit⟩ := last_of (by omega) hc
  have hsig : 2 ≤ k ∧ k ≤ 5 → (127 < c.toNat ↔ kA k < (le l : Nat)) := fun h => by rw [hlast]; exact sig_iff h hw hinit
  have hlt : le l < kM k := by
    have := le_lt l
    rw [hn] at this
    exact this
  have hcl := c.toNat_lt
  have hM8 : kM k = 256 ^ (w + 1) := by unfold kM; rw [hw]
  rw [hw] at hB
  refine PSpec.intro Tryd.func38 rfl (by kernel_rfl) rfl (by unfold getR; split <;> rfl) ?_
  intro C
  (refine LWP.seq <| LWP.region (by kernel_rfl) <| K.alloc rfl .plain ?_; refine kas rfl <| RunK.nil <| LWP.seq <| LWP.seq <| LWP.region (by kernel_rfl) <| kmv rfl <| kln rfl <| kmv rfl <| kca rfl rfl (hB) <| kne rfl rfl ((bne_eq_false_iff_eq.2 (by omega))) <| kmv rfl <| gmv rfl rfl rfl <| K.lenStr rfl (.taken rfl rfl) ?_; refine K.eql rfl rfl (beq_eq_false_iff_ne.2 (by omega)) (.taken rfl rfl) ?_; refine kpf rfl rfl <| RunK.nil <| LWP.condF rfl ?_; refine LWP.skip ?_; refine LWP.seq <| LWP.region (by kernel_rfl) <| kas rfl <| RunK.nil <| LWP.seq <| LWP.seq <| LWP.region (by kernel_rfl) <| kmv rfl <| kln rfl <| K.sub rfl rfl (wrap_i64 (by omega)) .plain <| kas rfl <| RunK.nil <| LWP.block ?_)
  refine LWP.loop (fun m σ => ∃ j : Nat, j ≤ w + 1 ∧ m = j ∧ σ = ⟨[(0, Ln .i64 k), (1, Ls l), (4, .sv (.one (.ptr 4 0))), (6, Ln .u64 (le (l.drop j) : Nat)), (7, Ln .i64 ((j : Int) - 1))], [(4, some { elem := 42, cells := cI false 0 })], X⟩) (w + 1)
    ⟨_, Le.of (by exact ⟨rfl, rfl, rfl, by rw [List.drop_of_length_le (show l.length ≤ l.length from Nat.le_refl _)]; rfl, rfl, trivial⟩) (by exact ⟨rfl, trivial⟩) (by exact rfl) (by exact rfl) (by exact rfl), l.length, by omega, by omega, rfl⟩ ?_
  rintro j σ ⟨_, hj, rfl, rfl⟩
  cases j with
  | succ i =>
    rw [show ((i + 1 : Nat) : Int) - 1 = (i : Int) by omega]
    obtain ⟨d, hd⟩ : ∃ d, l[i]? = some d := ⟨_, List.getElem?_eq_getElem (by omega)⟩
    have hdl := d.toNat_lt
    have hq := drop_le hd
    have hb := le_lt (l.drop i)
    have hp : 256 ^ (l.drop i).length ≤ 256 ^ 8 := Nat.pow_le_pow_right (by decide) (by rw [List.length_drop]; omega)
    rw [show (256 : Nat) ^ 8 = 18446744073709551616 by decide] at hp
    generalize hq2 : le (l.drop i) = q' at *
    generalize le (l.drop (i + 1)) = q at *
    have ha : IntKind.u64.wrap ((q : Int) * 256 + (d.toNat : Nat)) = (q' : Int) := by rw [wrap_u64 (by omega)]; omega
    (refine LWP.seq <| LWP.seq <| LWP.region (by kernel_rfl) <| kmv rfl <| K.geq rfl rfl (decide_eq_true (by omega)) .plain <| RunK.nil <| LWP.condT rfl ?_; refine LWP.skip ?_; refine LWP.seq <| LWP.block <| LWP.region (by kernel_rfl) <| kmv rfl <| K.mul rfl rfl (wrap_u64 (by omega)) .plain <| kmv rfl <| kmv rfl <| K.indexStr rfl rfl (by omega) (str_at hd) .plain <| kcv rfl (by exact wrap_u64 (by omega)) ?_; refine kad rfl rfl ha <| kas rfl <| RunK.nil <| LWP.region (by kernel_rfl) <| kmv rfl <| K.sub rfl rfl (wrap_i64 (by omega)) .plain <| kas rfl <| RunK.nil ?_)
    exact ⟨i, _, by omega, Le.of (by exact ⟨rfl, rfl, rfl, by rw [hq2]; rfl, rfl, trivial⟩) (by exact ⟨rfl, trivial⟩) (by exact rfl) (by exact rfl) (by exact rfl), i, by omega, rfl, rfl⟩
  | zero =>
    rw [show l.drop 0 = l from rfl]
    have hlen : IntKind.i64.wrap (((⟨l.toArray⟩ : ByteArray).size : Int) - 1) = (w : Int) := by rw [wrap_i64 (by omega)]; omega
    generalize le l = v at *
    by_cases h5 : 2 ≤ k ∧ k ≤ 5
    · obtain ⟨h2, h5⟩ := h5
      by_cases hbig : 127 < c.toNat
      · have hgt := (hsig ⟨h2, h5⟩).1 hbig
        rw [getR_neg ⟨h2, h5⟩ hgt hlt _ rfl]
        by_cases hk5 : k = 5
        · subst hk5
          have hM5 : kM 5 = 18446744073709551616 := by decide
          have hs : IntKind.u64.wrap (0 - (v : Int)) = (kM 5 : Int) - v := by rw [IntKind.wrap_u64, hM5]; omega
          have hw7 : (kW 5) = 8 := by decide
          (refine LWP.seq <| LWP.seq <| LWP.region (by kernel_rfl) <| kmv rfl <| K.geq rfl rfl (decide_eq_false (by omega)) .plain <| RunK.nil <| LWP.condF rfl ?_; refine LWP.exit <| LWP.seq <| LWP.region (by kernel_rfl) <| kmv rfl <| K.build rfl rfl (by exact rfl) (by exact nl3 rfl rfl rfl rfl) .plain ?_; refine K.alloc rfl .plain ?_; refine K.storeAll rfl rfl rfl rfl rfl rfl .plain ?_; refine RunK.nil <| LWP.seq <| LWP.seq <| LWP.region (by kernel_rfl) <| kmv rfl <| K.geq rfl rfl (decide_eq_true (by omega)) .plain <| kmv rfl <| gmv rfl rfl rfl <| K.leq rfl rfl (decide_eq_true (by omega)) (.taken rfl rfl) ?_; refine kpt rfl rfl <| kmv rfl <| gmv rfl rfl rfl <| gmv rfl rfl rfl <| K.lenStr rfl (.taken rfl rfl) ?_; refine K.sub rfl rfl hlen (.taken rfl rfl) ?_; refine K.indexStr rfl rfl (by omega) (str_at hc) (.taken rfl rfl) ?_; refine K.gtr rfl rfl (decide_eq_true (by omega)) (.taken rfl rfl) ?_; refine kpt rfl rfl <| RunK.nil <| LWP.condT rfl ?_; refine LWP.seq <| LWP.region (by kernel_rfl) <| kas rfl <| RunK.nil <| LWP.seq <| LWP.seq <| LWP.region (by kernel_rfl) <| kmv rfl <| kln rfl <| klt rfl rfl (decide_eq_false (by omega)) <| RunK.nil <| LWP.condF rfl ?_; refine LWP.skip ?_; refine LWP.region (by kernel_rfl) <| kmv rfl <| kmv rfl <| K.sub rfl rfl hs .plain <| K.build rfl rfl (by exact rfl) (by exact nl3 rfl rfl rfl rfl) .plain ?_; refine K.storeAll rfl rfl rfl rfl rfl rfl .plain ?_; refine RunK.nil <| LWP.seq <| LWP.seq <| LWP.region (by kernel_rfl) <| kmv rfl <| keq rfl rfl (beq_eq_false_iff_ne.2 (by omega)) <| kmv rfl <| RunK.passed rfl rfl rfl <| RunK.passed rfl rfl rfl <| kpf rfl rfl <| RunK.nil <| LWP.condF rfl ?_; refine LWP.skip ?_; refine LWP.seq <| LWP.region (by kernel_rfl) <| K.loadAll rfl rfl rfl .plain ?_; refine K.storeAll rfl rfl rfl rfl rfl rfl .plain ?_; refine kas rfl <| RunK.nil <| LWP.ret ?_)
          exact ⟨[_, _], ⟨⟨_, _, rfl, rfl, rfl, .inl ⟨AggT.h, rfl⟩⟩, rfl, trivial⟩, rfl⟩
        · have hw4 : kW k < 8 := by
            have h : k = 2 ∨ k = 3 ∨ k = 4 := by omega
            rcases h with rfl | rfl | rfl <;> decide
          (refine LWP.seq <| LWP.seq <| LWP.region (by kernel_rfl) <| kmv rfl <| K.geq rfl rfl (decide_eq_false (by omega)) .plain <| RunK.nil <| LWP.condF rfl ?_; refine LWP.exit <| LWP.seq <| LWP.region (by kernel_rfl) <| kmv rfl <| K.build rfl rfl (by exact rfl) (by exact nl3 rfl rfl rfl rfl) .plain ?_; refine K.alloc rfl .plain ?_; refine K.storeAll rfl rfl rfl rfl rfl rfl .plain ?_; refine RunK.nil <| LWP.seq <| LWP.seq <| LWP.region (by kernel_rfl) <| kmv rfl <| K.geq rfl rfl (decide_eq_true (by omega)) .plain <| kmv rfl <| gmv rfl rfl rfl <| K.leq rfl rfl (decide_eq_true (by omega)) (.taken rfl rfl) ?_; refine kpt rfl rfl <| kmv rfl <| gmv rfl rfl rfl <| gmv rfl rfl rfl <| K.lenStr rfl (.taken rfl rfl) ?_; refine K.sub rfl rfl hlen (.taken rfl rfl) ?_; refine K.indexStr rfl rfl (by omega) (str_at hc) (.taken rfl rfl) ?_; refine K.gtr rfl rfl (decide_eq_true (by omega)) (.taken rfl rfl) ?_; refine kpt rfl rfl <| RunK.nil <| LWP.condT rfl ?_; refine LWP.seq <| LWP.region (by kernel_rfl) <| kas rfl <| RunK.nil <| LWP.seq <| LWP.seq <| LWP.region (by kernel_rfl) <| kmv rfl <| kln rfl <| klt rfl rfl (decide_eq_true (by omega)) <| RunK.nil <| LWP.condT rfl ?_; refine LWP.seq <| LWP.region (by kernel_rfl) <| kas rfl <| RunK.nil <| LWP.seq <| LWP.region (by kernel_rfl) <| kas rfl <| RunK.nil <| LWP.block ?_)
          refine LWP.meet (fun σ => σ = ⟨[(0, Ln .i64 k), (1, Ls l), (4, .sv (.one (.ptr 4 0))), (6, Ln .u64 (v : Nat)), (8, .sv (.one (.ptr 8 0))), (9, Ln .u64 (kM k : Nat))], [(4, some { elem := 42, cells := cI false 0 }), (8, some { elem := 42, cells := [.val (.bool false), .val (.int .u64 0), .val (.int .u64 (v : Nat))] })], X⟩) ?_ ?_
          · refine LWP.loop (fun m σ => ∃ i : Nat, i ≤ w + 1 ∧ m = w + 1 - i ∧ σ = ⟨[(0, Ln .i64 k), (1, Ls l), (4, .sv (.one (.ptr 4 0))), (6, Ln .u64 (v : Nat)), (8, .sv (.one (.ptr 8 0))), (9, Ln .u64 (256 ^ i : Nat)), (10, Ln .i64 (i : Nat))], [(4, some { elem := 42, cells := cI false 0 }), (8, some { elem := 42, cells := [.val (.bool false), .val (.int .u64 0), .val (.int .u64 (v : Nat))] })], X⟩) (w + 1)
              ⟨_, Le.of (by exact ⟨rfl, rfl, rfl, rfl, rfl, rfl, rfl, trivial⟩) (by exact ⟨rfl, rfl, trivial⟩) (by exact rfl) (by exact rfl) (by exact rfl), 0, by omega, rfl, rfl⟩ ?_
            rintro m σ ⟨i, hi, rfl, rfl⟩
            by_cases hlt2 : i < w + 1
            · have hp : 256 ^ i * 256 = 256 ^ (i + 1) := (Nat.pow_succ ..).symm
              have hle : 256 ^ (i + 1) ≤ 256 ^ 7 := Nat.pow_le_pow_right (by decide) (by omega)
              rw [show (256 : Nat) ^ 7 = 72057594037927936 by decide] at hle
              have hm : IntKind.u64.wrap (((256 ^ i : Nat) : Int) * 256) = ((256 ^ (i + 1) : Nat) : Int) := by
                rw [← hp]
                generalize 256 ^ i = q at *
                rw [wrap_u64 (by omega)]; omega
              (refine LWP.seq <| LWP.seq <| LWP.region (by kernel_rfl) <| kmv rfl <| kmv rfl <| kln rfl <| klt rfl rfl (decide_eq_true (by omega)) <| RunK.nil <| LWP.condT rfl ?_; refine LWP.skip ?_; refine LWP.seq <| LWP.block <| LWP.region (by kernel_rfl) <| kmv rfl <| K.mul rfl rfl hm .plain <| kas rfl <| RunK.nil <| LWP.region (by kernel_rfl) <| kmv rfl <| kad rfl rfl (wrap_i64 (by omega)) <| kas rfl <| RunK.nil ?_)
              exact ⟨_, _, by omega, Le.of (by exact ⟨rfl, rfl, rfl, rfl, rfl, rfl, rfl, trivial⟩) (by exact ⟨rfl, rfl, trivial⟩) (by exact rfl) (by exact rfl) (by exact rfl), i + 1, by omega, rfl, rfl⟩
            · have e : i = w + 1 := by omega
              subst e
              (refine LWP.seq <| LWP.seq <| LWP.region (by kernel_rfl) <| kmv rfl <| kmv rfl <| kln rfl <| klt rfl rfl (decide_eq_false (by omega)) <| RunK.nil <| LWP.condF rfl ?_; refine LWP.exit ?_)
              exact ⟨_, Le.of (by exact ⟨rfl, rfl, rfl, rfl, rfl, by rw [hM8]; rfl, trivial⟩) (by exact ⟨rfl, rfl, trivial⟩) (by exact rfl) (by exact rfl) (by exact rfl), rfl⟩
          · rintro σ rfl
            have hs : IntKind.u64.wrap (((kM k : Nat) : Int) - (v : Int)) = (kM k : Int) - v := by rw [wrap_u64 (by omega)]
            (refine LWP.region (by kernel_rfl) <| kmv rfl <| kmv rfl <| K.sub rfl rfl hs .plain <| K.build rfl rfl (by exact rfl) (by exact nl3 rfl rfl rfl rfl) .plain ?_; refine K.storeAll rfl rfl rfl rfl rfl rfl .plain ?_; refine RunK.nil <| LWP.seq <| LWP.seq <| LWP.region (by kernel_rfl) <| kmv rfl <| keq rfl rfl (beq_eq_false_iff_ne.2 (by omega)) <| kmv rfl <| RunK.passed rfl rfl rfl <| RunK.passed rfl rfl rfl <| kpf rfl rfl <| RunK.nil <| LWP.condF rfl ?_; refine LWP.skip ?_; refine LWP.seq <| LWP.region (by kernel_rfl) <| K.loadAll rfl rfl rfl .plain ?_; refine K.storeAll rfl rfl rfl rfl rfl rfl .plain ?_; refine kas rfl <| RunK.nil <| LWP.ret ?_)
            exact ⟨[_, _], ⟨⟨_, _, rfl, rfl, rfl, .inl ⟨AggT.h, rfl⟩⟩, rfl, trivial⟩, rfl⟩
      · have hle : (v : Int) ≤ kA k := Int.not_lt.1 (mt (hsig ⟨h2, h5⟩).2 hbig)
        rw [getR_pos hle]
        (refine LWP.seq <| LWP.seq <| LWP.region (by kernel_rfl) <| kmv rfl <| K.geq rfl rfl (decide_eq_false (by omega)) .plain <| RunK.nil <| LWP.condF rfl ?_; refine LWP.exit <| LWP.seq <| LWP.region (by kernel_rfl) <| kmv rfl <| K.build rfl rfl (by exact rfl) (by exact nl3 rfl rfl rfl rfl) .plain ?_; refine K.alloc rfl .plain ?_; refine K.storeAll rfl rfl rfl rfl rfl rfl .plain ?_; refine RunK.nil <| LWP.seq <| LWP.seq <| LWP.region (by kernel_rfl) <| kmv rfl <| K.geq rfl rfl (decide_eq_true (by omega)) .plain <| kmv rfl <| gmv rfl rfl rfl <| K.leq rfl rfl (decide_eq_true (by omega)) (.taken rfl rfl) ?_; refine kpt rfl rfl <| kmv rfl <| gmv rfl rfl rfl <| gmv rfl rfl rfl <| K.lenStr rfl (.taken rfl rfl) ?_; refine K.sub rfl rfl hlen (.taken rfl rfl) ?_; refine K.indexStr rfl rfl (by omega) (str_at hc) (.taken rfl rfl) ?_; refine K.gtr rfl rfl (decide_eq_false (by omega)) (.taken rfl rfl) ?_; refine kpt rfl rfl <| RunK.nil <| LWP.condF rfl ?_; refine LWP.skip ?_; refine LWP.seq <| LWP.seq <| LWP.region (by kernel_rfl) <| kmv rfl <| keq rfl rfl (beq_eq_false_iff_ne.2 (by omega)) <| kmv rfl <| RunK.passed rfl rfl rfl <| RunK.passed rfl rfl rfl <| kpf rfl rfl <| RunK.nil <| LWP.condF rfl ?_; refine LWP.skip ?_; refine LWP.seq <| LWP.region (by kernel_rfl) <| K.loadAll rfl rfl rfl .plain ?_; refine K.storeAll rfl rfl rfl rfl rfl rfl .plain ?_; refine kas rfl <| RunK.nil <| LWP.ret ?_)
        exact ⟨[_, _], ⟨⟨_, _, rfl, rfl, rfl, .inl ⟨AggT.h, rfl⟩⟩, rfl, trivial⟩, rfl⟩
    · by_cases h1 : k = 1
      · subst h1
        have hA : kA 1 = 1 := by decide
        have hM1 : kM 1 = 256 := by decide
        by_cases hv : 1 < v
        · rw [getR_bool hv (by omega)]
          (refine LWP.seq <| LWP.seq <| LWP.region (by kernel_rfl) <| kmv rfl <| K.geq rfl rfl (decide_eq_false (by omega)) .plain <| RunK.nil <| LWP.condF rfl ?_; refine LWP.exit <| LWP.seq <| LWP.region (by kernel_rfl) <| kmv rfl <| K.build rfl rfl (by exact rfl) (by exact nl3 rfl rfl rfl rfl) .plain ?_; refine K.alloc rfl .plain ?_; refine K.storeAll rfl rfl rfl rfl rfl rfl .plain ?_; refine RunK.nil <| LWP.seq <| LWP.seq <| LWP.region (by kernel_rfl) <| kmv rfl <| K.geq rfl rfl (decide_eq_false (by omega)) .plain <| kmv rfl <| RunK.passed rfl rfl rfl <| RunK.passed rfl rfl rfl <| kpf rfl rfl <| kmv rfl <| RunK.passed rfl rfl rfl <| RunK.passed rfl rfl rfl <| RunK.passed rfl rfl rfl ?_; refine RunK.passed rfl rfl rfl <| RunK.passed rfl rfl rfl <| RunK.passed rfl rfl rfl <| kpf rfl rfl <| RunK.nil <| LWP.condF rfl ?_; refine LWP.skip ?_; refine LWP.seq <| LWP.seq <| LWP.region (by kernel_rfl) <| kmv rfl <| keq rfl rfl (beq_iff_eq.2 (by omega)) <| kmv rfl <| gmv rfl rfl rfl <| K.gtr rfl rfl (decide_eq_true (by omega)) (.taken rfl rfl) ?_; refine kpt rfl rfl <| RunK.nil <| LWP.condT rfl ?_; refine LWP.seq <| LWP.region (by kernel_rfl) <| K.build rfl rfl (by exact rfl) (by exact nl3 rfl rfl rfl rfl) .plain ?_; refine K.storeAll rfl rfl rfl rfl rfl rfl .plain ?_; refine kas rfl <| RunK.nil <| LWP.ret ?_)
          exact ⟨[_, _], ⟨⟨_, _, rfl, rfl, rfl, .inl ⟨AggT.h, rfl⟩⟩, rfl, trivial⟩, rfl⟩
        · rw [getR_pos (by omega)]
          (refine LWP.seq <| LWP.seq <| LWP.region (by kernel_rfl) <| kmv rfl <| K.geq rfl rfl (decide_eq_false (by omega)) .plain <| RunK.nil <| LWP.condF rfl ?_; refine LWP.exit <| LWP.seq <| LWP.region (by kernel_rfl) <| kmv rfl <| K.build rfl rfl (by exact rfl) (by exact nl3 rfl rfl rfl rfl) .plain ?_; refine K.alloc rfl .plain ?_; refine K.storeAll rfl rfl rfl rfl rfl rfl .plain ?_; refine RunK.nil <| LWP.seq <| LWP.seq <| LWP.region (by kernel_rfl) <| kmv rfl <| K.geq rfl rfl (decide_eq_false (by omega)) .plain <| kmv rfl <| RunK.passed rfl rfl rfl <| RunK.passed rfl rfl rfl <| kpf rfl rfl <| kmv rfl <| RunK.passed rfl rfl rfl <| RunK.passed rfl rfl rfl <| RunK.passed rfl rfl rfl ?_; refine RunK.passed rfl rfl rfl <| RunK.passed rfl rfl rfl <| RunK.passed rfl rfl rfl <| kpf rfl rfl <| RunK.nil <| LWP.condF rfl ?_; refine LWP.skip ?_; refine LWP.seq <| LWP.seq <| LWP.region (by kernel_rfl) <| kmv rfl <| keq rfl rfl (beq_iff_eq.2 (by omega)) <| kmv rfl <| gmv rfl rfl rfl <| K.gtr rfl rfl (decide_eq_false (by omega)) (.taken rfl rfl) ?_; refine kpt rfl rfl <| RunK.nil <| LWP.condF rfl ?_; refine LWP.skip ?_; refine LWP.seq <| LWP.region (by kernel_rfl) <| K.loadAll rfl rfl rfl .plain ?_; refine K.storeAll rfl rfl rfl rfl rfl rfl .plain ?_; refine kas rfl <| RunK.nil <| LWP.ret ?_)
          exact ⟨[_, _], ⟨⟨_, _, rfl, rfl, rfl, .inl ⟨AggT.h, rfl⟩⟩, rfl, trivial⟩, rfl⟩
      · have h6 : 6 ≤ k := by omega
        have hu := kM_uns ⟨h6, hkk.2⟩
        rw [getR_pos (by omega)]
        (refine LWP.seq <| LWP.seq <| LWP.region (by kernel_rfl) <| kmv rfl <| K.geq rfl rfl (decide_eq_false (by omega)) .plain <| RunK.nil <| LWP.condF rfl ?_; refine LWP.exit <| LWP.seq <| LWP.region (by kernel_rfl) <| kmv rfl <| K.build rfl rfl (by exact rfl) (by exact nl3 rfl rfl rfl rfl) .plain ?_; refine K.alloc rfl .plain ?_; refine K.storeAll rfl rfl rfl rfl rfl rfl .plain ?_; refine RunK.nil <| LWP.seq <| LWP.seq <| LWP.region (by kernel_rfl) <| kmv rfl <| K.geq rfl rfl (decide_eq_true (by omega)) .plain <| kmv rfl <| gmv rfl rfl rfl <| K.leq rfl rfl (decide_eq_false (by omega)) (.taken rfl rfl) ?_; refine kpt rfl rfl <| kmv rfl <| RunK.passed rfl rfl rfl <| RunK.passed rfl rfl rfl <| RunK.passed rfl rfl rfl <| RunK.passed rfl rfl rfl <| RunK.passed rfl rfl rfl <| RunK.passed rfl rfl rfl <| kpf rfl rfl <| RunK.nil <| LWP.condF rfl ?_; refine LWP.skip ?_; refine LWP.seq <| LWP.seq <| LWP.region (by kernel_rfl) <| kmv rfl <| keq rfl rfl (beq_eq_false_iff_ne.2 (by omega)) <| kmv rfl <| RunK.passed rfl rfl rfl <| RunK.passed rfl rfl rfl <| kpf rfl rfl <| RunK.nil <| LWP.condF rfl ?_; refine LWP.skip ?_; refine LWP.seq <| LWP.region (by kernel_rfl) <| K.loadAll rfl rfl rfl .plain ?_; refine K.storeAll rfl rfl rfl rfl rfl rfl .plain ?_; refine kas rfl <| RunK.nil <| LWP.ret ?_)
        exact ⟨[_, _], ⟨⟨_, _, rfl, rfl, rfl, .inl ⟨AggT.h, rfl⟩⟩, rfl, trivial⟩, rfl⟩
end Go.Proofs.YtfmadklfcoebhaaDoor
end
section
namespace Go.Lg.Fld
open Go Go.Lg
structure Fl where
  nm : List UInt8
  kind : Int
  count : Int
def Fl.vals (f : Fl) : List Value := [.string ⟨f.nm.toArray⟩, .int .i64 f.kind, .int .i64 f.count]
def Fl.w (f : Fl) : Nat := kW f.kind
def Fl.n (f : Fl) : Nat := f.count.toNat
/-- a field that can be -/
def Fl.ok (f : Fl) : Bool := kK f.kind && (decide (1 ≤ f.count) && decide (f.count ≤ 8))
/-- the first multiple of n from there on -/
def roundUp (a n : Nat) : Nat := a + (n - a % n) % n
def startsAt : Nat → List Fl → List Nat
  | _, [] => []
  | a, f :: t => roundUp a f.w :: startsAt (roundUp a f.w + f.w * f.n) t
def endAt : Nat → List Fl → Nat
  | a, [] => a
  | a, f :: t => endAt (roundUp a f.w + f.w * f.n) t
def elemsAt : Nat → List Fl → List (Int × Nat)
  | _, [] => []
  | a, f :: t => (List.range f.n).map (fun i => (f.kind, roundUp a f.w + f.w * i)) ++ elemsAt (roundUp a f.w + f.w * f.n) t
def greatW (l : List Fl) : Nat := l.foldl (fun g f => max g f.w) 1
def rowSize (l : List Fl) : Nat := roundUp (endAt 0 l) (greatW l)
/-- why fields can't be -/
def layErr (l : List Fl) : Int := if 8 < l.length then 1 else if l.all Fl.ok = true then (if 256 < rowSize l then 5 else 0) else 1
theorem starts_snoc (f : Fl) : ∀ (l : List Fl) (a : Nat), startsAt a (l ++ [f]) = startsAt a l ++ [roundUp (endAt a l) f.w]
  | [], _ => rfl
  | g :: t, a => by simp only [List.cons_append, startsAt, endAt, starts_snoc f t]
theorem end_snoc (f : Fl) : ∀ (l : List Fl) (a : Nat), endAt a (l ++ [f]) = roundUp (endAt a l) f.w + f.w * f.n
  | [], _ => rfl
  | g :: t, a => by simp only [List.cons_append, endAt, end_snoc f t]
theorem elems_snoc (f : Fl) : ∀ (l : List Fl) (a : Nat), elemsAt a (l ++ [f]) = elemsAt a l ++ (List.range f.n).map (fun i => (f.kind, roundUp (endAt a l) f.w + f.w * i))
  | [], _ => by simp [elemsAt, endAt]
  | g :: t, a => by simp only [List.cons_append, elemsAt, endAt, elems_snoc f t, List.append_assoc]
theorem great_snoc (f : Fl) (l : List Fl) : greatW (l ++ [f]) = max (greatW l) f.w := by simp [greatW, List.foldl_append]
theorem take_snoc {α : Type} {l : List α} {i : Nat} {f : α} (h : l[i]? = some f) : l.take (i + 1) = l.take i ++ [f] := by
  rw [List.take_add_one, h]; rfl
theorem ok_w {f : Fl} (h : f.ok = true) : (f.w = 1 ∨ f.w = 2 ∨ f.w = 4 ∨ f.w = 8) ∧ 1 ≤ f.n ∧ f.n ≤ 8 ∧ (f.n : Int) = f.count := by
  simp only [Fl.ok, Bool.and_eq_true, decide_eq_true_eq] at h
  refine ⟨kW_in h.1, ?_, ?_, ?_⟩ <;> unfold Fl.n <;> omega
/-- a width -/
def isWd (n : Nat) : Prop := n = 1 ∨ n = 2 ∨ n = 4 ∨ n = 8
theorem round_facts {n : Nat} (h : isWd n) (a : Nat) : roundUp a n % n = 0 ∧ a ≤ roundUp a n ∧ roundUp a n < a + n ∧ ∀ b, a ≤ b → b ≤ roundUp a n → b % n = 0 → b = roundUp a n := by
  unfold roundUp
  rcases h with rfl | rfl | rfl | rfl <;> refine ⟨by omega, by omega, by omega, fun b h1 h2 h3 => by omega⟩
theorem great_wd : ∀ (l : List Fl), l.all Fl.ok = true → isWd (greatW l) := by
  have key : ∀ (l : List Fl) (g : Nat), isWd g → l.all Fl.ok = true → isWd (l.foldl (fun g f => max g f.w) g) := by
    intro l
    induction l with
    | nil => intro g hg _; exact hg
    | cons f t ih =>
      intro g hg h
      simp only [List.all_cons, Bool.and_eq_true] at h
      refine ih _ ?_ h.2
      have hf : isWd f.w := (ok_w h.1).1
      show isWd (max g f.w)
      rcases Nat.le_total g f.w with h3 | h3
      · rw [Nat.max_eq_right h3]; exact hf
      · rw [Nat.max_eq_left h3]; exact hg
  exact fun l h => key l 1 (.inl rfl) h
theorem end_le : ∀ (l : List Fl) (a : Nat), l.all Fl.ok = true → a ≤ endAt a l ∧ endAt a l ≤ a + 72 * l.length
  | [], a, _ => by simp [endAt]
  | f :: t, a, h => by
    simp only [List.all_cons, Bool.and_eq_true] at h
    obtain ⟨hw, h1, h8, _⟩ := ok_w h.1
    have hr := round_facts hw a
    have hi := end_le t (roundUp a f.w + f.w * f.n) h.2
    have hm : f.w * f.n ≤ 64 := by rcases hw with e | e | e | e <;> rw [e] <;> omega
    have hw8 : f.w ≤ 8 := by rcases hw with e | e | e | e <;> omega
    simp only [endAt, List.length_cons]
    omega
theorem elems_len : ∀ (l : List Fl) (a : Nat), l.all Fl.ok = true → l.length ≤ (elemsAt a l).length ∧ (elemsAt a l).length ≤ 8 * l.length
  | [], a, _ => by simp [elemsAt]
  | f :: t, a, h => by
    simp only [List.all_cons, Bool.and_eq_true] at h
    obtain ⟨hw, h1, h8, _⟩ := ok_w h.1
    have hi := elems_len t (roundUp a f.w + f.w * f.n) h.2
    simp only [elemsAt, List.length_append, List.length_map, List.length_range, List.length_cons]
    omega
theorem starts_len : ∀ (l : List Fl) (a : Nat), (startsAt a l).length = l.length
  | [], _ => rfl
  | f :: t, a => by simp [startsAt, starts_len t]
/-- an element's cells; those of several -/
def elV (e : Int × Nat) : List Value := [.int .i64 e.1, .int .i64 (e.2 : Nat)]
def elVs (l : List (Int × Nat)) : List Value := (l.map elV).flatten
theorem elVs_len (l : List (Int × Nat)) : (elVs l).length = l.length * 2 := by
  induction l with
  | nil => rfl
  | cons e t ih => simp only [elVs, List.map_cons, List.flatten_cons, List.length_append] at ih ⊢; rw [ih]; simp [elV]; omega
theorem elVs_app (l m : List (Int × Nat)) : elVs (l ++ m) = elVs l ++ elVs m := by simp [elVs]
def ntV (l : List Nat) : List Value := l.map fun n => .int .i64 (n : Nat)
/-- fields are handed in -/
structure FieldsIn (X : Nat → Option Obj) (ad : Option Addr) (fs : List Fl) : Prop where
  rows : RowsIn X ad 3 (fs.map Fl.vals)
  small : ∀ f ∈ fs, (-9223372036854775808 ≤ f.kind ∧ f.kind < 9223372036854775808) ∧ (-9223372036854775808 ≤ f.count ∧ f.count < 9223372036854775808)
theorem FieldsIn.at {X : Nat → Option Obj} {ad : Option Addr} {fs : List Fl} (h : FieldsIn X ad fs) {i : Nat} {f : Fl} (hf : fs[i]? = some f) :
    ∃ (blk off : Nat) (arr : Array Value) (el : TypeId) (fr : Nat × Nat), ad = some ⟨blk, off, none⟩ ∧ X blk = some (.cells arr el fr) ∧ off + i * 3 + 3 ≤ arr.size ∧ ((arr.toList.drop (off + i * 3)).take 3).map CV.val = f.vals.map CV.val := by
  obtain ⟨blk, off, arr, el, fr, h1, h2, h3, h4⟩ := h.rows i f.vals (by rw [List.getElem?_map, hf]; rfl)
  exact ⟨blk, off, arr, el, fr, h1, h2, h3, by rw [h4]⟩
end Go.Lg.Fld
end
section
namespace Go.Proofs.YtfmadklfcoebhaaDoor
open Go Go.Lg Go.Lg.Fld
set_option maxRecDepth 100000
variable (X : Nat → Option Obj)
/-- a slice that is handed in -/
abbrev Lx (ad : Option Addr) (n cap : Nat) : LV := .sv (.one (.val (.slice ad n cap)))
/-- no slice -/
abbrev Vnil : SV := .one (.val (.slice none 0 0))
/-- what the reference's Lay answers, and where it lies -/
def layR (fs : List Fl) : LV := if layErr fs = 0 then .tup [.one (.slc 1000001 0 (elemsAt 0 fs).length 2), Sn .i64 (rowSize fs : Nat), .one (.slc 1000002 0 fs.length 1), Sn .i64 0] else .tup [Vnil, Sn .i64 0, Vnil, Sn .i64 (layErr fs)]
def layBx (fs : List Fl) : List (Nat × Option Box) := if layErr fs = 0 then [(1000001, some ⟨65, (elVs (elemsAt 0 fs)).map .val, Nat.blt 0 (elemsAt 0 fs).length⟩), (1000002, some ⟨3, (ntV (startsAt 0 fs)).map .val, Nat.blt 0 fs.length⟩)] else []
theorem layErr_long {fs : List Fl} (h : 8 < fs.length) : layErr fs = 1 := if_pos h
theorem layErr_bad {fs : List Fl} (h : fs.length ≤ 8) {f : Fl} (hf : f ∈ fs) (hb : f.ok = false) : layErr fs = 1 := by
  unfold layErr
  rw [if_neg (by omega), if_neg]
  intro ha
  rw [List.all_eq_true.1 ha f hf] at hb
  cases hb
theorem layErr_all {fs : List Fl} (h : fs.length ≤ 8) (ha : fs.all Fl.ok = true) : layErr fs = if 256 < rowSize fs then 5 else 0 := by
  unfold layErr
  rw [if_neg (by omega), if_pos ha]
theorem take_all {fs : List Fl} {i : Nat} {f : Fl} (h : (fs.take i).all Fl.ok = true) (hf : fs[i]? = some f) (hk : f.ok = true) : (fs.take (i + 1)).all Fl.ok = true := by
  rw [take_snoc hf, List.all_append, h]
  simp [hk]
set_option maxHeartbeats 3200000 in
theorem Lay_spec (ad : Option Addr) (cap : Nat) (fs : List Fl) (hin : FieldsIn X ad fs) (hbig : fs.length < 4611686018427387904) : MSpec Tryd.prog X 10 [Lx ad fs.length cap] [] (layR fs) (layBx fs) := by
  refine MSpec.intro Tryd.func10 rfl (by kernel_rfl) rfl (by unfold layR layBx; split <;> rfl) (by unfold layBx; split <;> exact (by repeat' (first | refine all_cons_true ?_ ?_ | rfl | exact bytes_inUse | exact vals_inUse))) rfl rfl ?_
  intro C
  by_cases hlong : 8 < fs.length
  · unfold layR layBx
    rw [layErr_long hlong, if_neg (by decide), if_neg (by decide)]
    (refine LWP.seq <| LWP.region (by kernel_rfl) <| kas rfl <| kas rfl <| kas rfl <| kas rfl <| RunK.nil <| LWP.seq <| LWP.seq <| LWP.region (by kernel_rfl) <| kmv rfl <| K.lenX rfl SliceT.h rfl .plain ?_; refine K.gtr rfl rfl (decide_eq_true (by omega)) .plain <| RunK.nil <| LWP.condT rfl ?_; refine LWP.seq <| LWP.region (by kernel_rfl) <| kas rfl <| kas rfl <| kas rfl <| kas rfl <| RunK.nil <| LWP.ret ?_)
    exact ⟨[], ⟨[_, _, _, _], ⟨rfl, rfl, rfl, rfl, trivial⟩, rfl⟩, trivial, rfl, rfl⟩
  have h8 : fs.length ≤ 8 := by omega
  (refine LWP.seq <| LWP.region (by kernel_rfl) <| kas rfl <| kas rfl <| kas rfl <| kas rfl <| RunK.nil <| LWP.seq <| LWP.seq <| LWP.region (by kernel_rfl) <| kmv rfl <| K.lenX rfl SliceT.h rfl .plain ?_; refine K.gtr rfl rfl (decide_eq_false (by omega)) .plain <| RunK.nil <| LWP.condF rfl ?_; refine LWP.skip ?_; refine LWP.seq <| LWP.region (by kernel_rfl) <| K.buildSlc (zs := []) (sz := 2) (e := 65) (by kernel_rfl) rfl rfl rfl rfl rfl rfl .plain <| kas rfl <| RunK.nil <| LWP.seq <| LWP.region (by kernel_rfl) <| K.buildSlc (zs := []) (sz := 1) (e := 3) (by kernel_rfl) rfl rfl rfl rfl rfl rfl .plain <| kas rfl <| RunK.nil <| LWP.seq <| LWP.region (by kernel_rfl) <| kas rfl <| RunK.nil ?_; refine LWP.seq <| LWP.region (by kernel_rfl) <| kas rfl <| RunK.nil <| LWP.seq <| LWP.seq <| LWP.region (by kernel_rfl) <| kas rfl <| RunK.nil <| LWP.block ?_)
  refine LWP.loop (fun m σ => ∃ i : Nat, i ≤ fs.length ∧ m = fs.length - i ∧ (fs.take i).all Fl.ok = true ∧ σ = ⟨[(0, Lx ad fs.length cap), (6, .sv (.one (.slc 500 0 (elemsAt 0 (fs.take i)).length 2))), (7, .sv (.one (.slc 501 0 i 1))), (8, Ln .i64 (endAt 0 (fs.take i) : Nat)), (9, Ln .i64 (greatW (fs.take i) : Nat)), (10, Ln .i64 (i : Nat))], [(500, some ⟨65, (elVs (elemsAt 0 (fs.take i))).map .val, Nat.blt 0 (elemsAt 0 (fs.take i)).length⟩), (501, some ⟨3, (ntV (startsAt 0 (fs.take i))).map .val, Nat.blt 0 i⟩)], X⟩) fs.length
    ⟨_, Le.ofR [(500, 17), (501, 18)] (by exact ⟨rfl, rfl, rfl, rfl, rfl, rfl, trivial⟩) (by repeat' (first | exact trivial | refine And.intro ⟨_, rfl, ?_⟩ ?_ | refine And.intro ⟨_, rfl⟩ ?_ | rfl | exact Box.ren_bytes _ _ _ _ | exact Box.ren_vals _ _ _ _)) (by exact rfl) (by exact rfl) (by repeat' (first | refine all_cons_true ?_ ?_ | rfl | exact bytes_inUse | exact vals_inUse)) (by exact rfl) (by exact rfl), 0, by omega, by omega, rfl, rfl⟩ ?_
  rintro m σ ⟨i, hi, rfl, hall, rfl⟩
  have hEl := elems_len (fs.take i) 0 hall
  have hSl := starts_len (fs.take i) 0
  have hend := end_le (fs.take i) 0 hall
  have hgw := great_wd (fs.take i) hall
  have htl : (fs.take i).length = i := by rw [List.length_take]; omega
  rw [htl] at hEl hSl hend
  by_cases hlt : i < fs.length
  · obtain ⟨f, hf⟩ : ∃ f, fs[i]? = some f := ⟨_, List.getElem?_eq_getElem hlt⟩
    obtain ⟨blk, off, arr, el, fr, rfl, hX, hsz, hcells⟩ := hin.at hf
    have hio : off + Int.toNat (i : Int) * 3 = off + i * 3 := by simp
    have hmem : f ∈ fs := List.mem_of_getElem? hf
    have hsm := hin.small f hmem
    have hB := refBytes_spec X f.kind
    have hE : elemsAt 0 (fs.take (i + 1)) = elemsAt 0 (fs.take i) ++ (List.range f.n).map (fun j => (f.kind, roundUp (endAt 0 (fs.take i)) f.w + f.w * j)) := by rw [take_snoc hf, elems_snoc]
    have hS : startsAt 0 (fs.take (i + 1)) = startsAt 0 (fs.take i) ++ [roundUp (endAt 0 (fs.take i)) f.w] := by rw [take_snoc hf, starts_snoc]
    have hA : endAt 0 (fs.take (i + 1)) = roundUp (endAt 0 (fs.take i)) f.w + f.w * f.n := by rw [take_snoc hf, end_snoc]
    have hG : greatW (fs.take (i + 1)) = max (greatW (fs.take i)) f.w := by rw [take_snoc hf, great_snoc]
    cases hok : f.ok with
    | false =>
      have hbad := layErr_bad h8 hmem hok
      unfold layR layBx
      rw [hbad, if_neg (by decide), if_neg (by decide)]
      clear hE hS hA hG
      generalize elemsAt 0 (fs.take i) = E at *
      generalize startsAt 0 (fs.take i) = S at *
      generalize endAt 0 (fs.take i) = a at *
      generalize greatW (fs.take i) = g at *
      by_cases h0 : kW f.kind = 0
      · rw [h0] at hB
        (refine LWP.seq <| LWP.seq <| LWP.region (by kernel_rfl) <| kmv rfl <| kmv rfl <| K.lenX rfl SliceT.h rfl .plain ?_; refine klt rfl rfl (decide_eq_true (by omega)) <| RunK.nil <| LWP.condT rfl ?_; refine LWP.skip ?_; refine LWP.seq <| LWP.block <| LWP.seq <| LWP.region (by kernel_rfl) <| kmv rfl <| kmv rfl <| K.indexX rfl rfl SliceT.h (by omega) hio .plain <| K.loadXagg rfl hX (by kernel_rfl) hsz hcells .plain <| K.alloc rfl .plain ?_; refine K.storeAll rfl rfl rfl rfl rfl rfl .plain ?_; refine RunK.nil <| LWP.seq <| LWP.region (by kernel_rfl) <| kfa rfl rfl ?_; refine kl1 rfl rfl rfl <| kca rfl rfl (hB) <| kas rfl <| RunK.nil <| LWP.seq <| LWP.seq <| LWP.region (by kernel_rfl) <| kmv rfl <| keq rfl rfl (beq_iff_eq.2 (by omega)) <| kmv rfl <| RunK.passed rfl rfl rfl <| RunK.passed rfl rfl rfl <| RunK.passed rfl rfl rfl <| kpt rfl rfl ?_; refine kmv rfl <| RunK.passed rfl rfl rfl <| RunK.passed rfl rfl rfl <| RunK.passed rfl rfl rfl <| kpt rfl rfl <| RunK.nil <| LWP.condT rfl ?_; refine LWP.seq <| LWP.region (by kernel_rfl) <| kas rfl <| kas rfl <| kas rfl <| kas rfl <| RunK.nil <| LWP.ret ?_)
        exact ⟨[], ⟨[_, _, _, _], ⟨rfl, rfl, rfl, rfl, trivial⟩, rfl⟩, trivial, rfl, rfl⟩
      · have hk : kK f.kind = true := by
          cases e : kK f.kind with
          | true => rfl
          | false => exact absurd ((kW_zero f.kind).2 e) h0
        by_cases h1 : f.count < 1
        · (refine LWP.seq <| LWP.seq <| LWP.region (by kernel_rfl) <| kmv rfl <| kmv rfl <| K.lenX rfl SliceT.h rfl .plain ?_; refine klt rfl rfl (decide_eq_true (by omega)) <| RunK.nil <| LWP.condT rfl ?_; refine LWP.skip ?_; refine LWP.seq <| LWP.block <| LWP.seq <| LWP.region (by kernel_rfl) <| kmv rfl <| kmv rfl <| K.indexX rfl rfl SliceT.h (by omega) hio .plain <| K.loadXagg rfl hX (by kernel_rfl) hsz hcells .plain <| K.alloc rfl .plain ?_; refine K.storeAll rfl rfl rfl rfl rfl rfl .plain ?_; refine RunK.nil <| LWP.seq <| LWP.region (by kernel_rfl) <| kfa rfl rfl ?_; refine kl1 rfl rfl rfl <| kca rfl rfl (hB) <| kas rfl <| RunK.nil <| LWP.seq <| LWP.seq <| LWP.region (by kernel_rfl) <| kmv rfl <| keq rfl rfl (beq_eq_false_iff_ne.2 (by omega)) <| kmv rfl <| K.fieldAddr rfl rfl (.taken rfl rfl) ?_; refine K.loadOne rfl rfl rfl (.taken rfl rfl) ?_; refine K.lss rfl rfl (decide_eq_true (by omega)) (.taken rfl rfl) ?_; refine kpf rfl rfl <| kmv rfl <| RunK.passed rfl rfl rfl <| RunK.passed rfl rfl rfl <| RunK.passed rfl rfl rfl <| kpt rfl rfl <| RunK.nil <| LWP.condT rfl ?_; refine LWP.seq <| LWP.region (by kernel_rfl) <| kas rfl <| kas rfl <| kas rfl <| kas rfl <| RunK.nil <| LWP.ret ?_)
          exact ⟨[], ⟨[_, _, _, _], ⟨rfl, rfl, rfl, rfl, trivial⟩, rfl⟩, trivial, rfl, rfl⟩
        · have h2 : 8 < f.count := by
            unfold Fl.ok at hok
            rw [hk, decide_eq_true (show 1 ≤ f.count by omega)] at hok
            simpa using hok
          (refine LWP.seq <| LWP.seq <| LWP.region (by kernel_rfl) <| kmv rfl <| kmv rfl <| K.lenX rfl SliceT.h rfl .plain ?_; refine klt rfl rfl (decide_eq_true (by omega)) <| RunK.nil <| LWP.condT rfl ?_; refine LWP.skip ?_; refine LWP.seq <| LWP.block <| LWP.seq <| LWP.region (by kernel_rfl) <| kmv rfl <| kmv rfl <| K.indexX rfl rfl SliceT.h (by omega) hio .plain <| K.loadXagg rfl hX (by kernel_rfl) hsz hcells .plain <| K.alloc rfl .plain ?_; refine K.storeAll rfl rfl rfl rfl rfl rfl .plain ?_; refine RunK.nil <| LWP.seq <| LWP.region (by kernel_rfl) <| kfa rfl rfl ?_; refine kl1 rfl rfl rfl <| kca rfl rfl (hB) <| kas rfl <| RunK.nil <| LWP.seq <| LWP.seq <| LWP.region (by kernel_rfl) <| kmv rfl <| keq rfl rfl (beq_eq_false_iff_ne.2 (by omega)) <| kmv rfl <| K.fieldAddr rfl rfl (.taken rfl rfl) ?_; refine K.loadOne rfl rfl rfl (.taken rfl rfl) ?_; refine K.lss rfl rfl (decide_eq_false (by omega)) (.taken rfl rfl) ?_; refine kpf rfl rfl <| kmv rfl <| K.fieldAddr rfl rfl (.taken rfl rfl) ?_; refine K.loadOne rfl rfl rfl (.taken rfl rfl) ?_; refine K.gtr rfl rfl (decide_eq_true (by omega)) (.taken rfl rfl) ?_; refine kpf rfl rfl <| RunK.nil <| LWP.condT rfl ?_; refine LWP.seq <| LWP.region (by kernel_rfl) <| kas rfl <| kas rfl <| kas rfl <| kas rfl <| RunK.nil <| LWP.ret ?_)
          exact ⟨[], ⟨[_, _, _, _], ⟨rfl, rfl, rfl, rfl, trivial⟩, rfl⟩, trivial, rfl, rfl⟩
    | true =>
      have hall' := take_all hall hf hok
      obtain ⟨hw, hn1, hn8, hnc⟩ := ok_w hok
      have hR := round_facts hw (endAt 0 (fs.take i))
      have hwk : kW f.kind = f.w := rfl
      have hw8 : 1 ≤ f.w ∧ f.w ≤ 8 := by rcases hw with e | e | e | e <;> omega
      have hg8 : greatW (fs.take i) ≤ 8 := by rcases hgw with e | e | e | e <;> omega
      rw [hwk] at hB
      generalize elemsAt 0 (fs.take i) = E at *
      generalize startsAt 0 (fs.take i) = S at *
      generalize endAt 0 (fs.take i) = a at *
      generalize greatW (fs.take i) = g at *
      have hfc : f.vals.map CV.val = [.val (.string ⟨f.nm.toArray⟩), .val (.int .i64 f.kind), .val (.int .i64 (f.n : Nat))] := by rw [hnc]; rfl
      rw [hfc] at hcells
      generalize f.w = w at *
      generalize hT : roundUp a w = T at *
      generalize f.n = n at *
      (refine LWP.seq <| LWP.seq <| LWP.region (by kernel_rfl) <| kmv rfl <| kmv rfl <| K.lenX rfl SliceT.h rfl .plain ?_; refine klt rfl rfl (decide_eq_true (by omega)) <| RunK.nil <| LWP.condT rfl ?_; refine LWP.skip ?_; refine LWP.seq <| LWP.block <| LWP.seq <| LWP.region (by kernel_rfl) <| kmv rfl <| kmv rfl <| K.indexX rfl rfl SliceT.h (by omega) hio .plain <| K.loadXagg rfl hX (by kernel_rfl) hsz hcells .plain <| K.alloc rfl .plain ?_; refine K.storeAll rfl rfl rfl rfl rfl rfl .plain ?_; refine RunK.nil <| LWP.seq <| LWP.region (by kernel_rfl) <| kfa rfl rfl ?_; refine kl1 rfl rfl rfl <| kca rfl rfl (hB) <| kas rfl <| RunK.nil <| LWP.seq <| LWP.seq <| LWP.region (by kernel_rfl) <| kmv rfl <| keq rfl rfl (beq_eq_false_iff_ne.2 (by omega)) <| kmv rfl <| K.fieldAddr rfl rfl (.taken rfl rfl) ?_; refine K.loadOne rfl rfl rfl (.taken rfl rfl) ?_; refine K.lss rfl rfl (decide_eq_false (by omega)) (.taken rfl rfl) ?_; refine kpf rfl rfl <| kmv rfl <| K.fieldAddr rfl rfl (.taken rfl rfl) ?_; refine K.loadOne rfl rfl rfl (.taken rfl rfl) ?_; refine K.gtr rfl rfl (decide_eq_false (by omega)) (.taken rfl rfl) ?_; refine kpf rfl rfl <| RunK.nil <| LWP.condF rfl ?_; refine LWP.skip ?_; refine LWP.seq <| LWP.seq ?_)
      generalize hmx : max g w = mx at *
      refine LWP.cut (fun σ => σ = ⟨[(0, Lx (some ⟨blk, off, none⟩) fs.length cap), (6, .sv (.one (.slc 500 0 (E.length) 2))), (7, .sv (.one (.slc 501 0 (i) 1))), (8, Ln .i64 (a : Nat)), (9, Ln .i64 (mx : Nat)), (10, Ln .i64 (i : Nat)), (11, .sv (.one (.ptr 11 0))), (12, Ln .i64 (w : Nat))], [(500, some ⟨65, (elVs E).map .val, Nat.blt 0 E.length⟩), (501, some ⟨3, (ntV (S)).map .val, Nat.blt 0 i⟩), (11, some ⟨37, [.val (.string ⟨f.nm.toArray⟩), .val (.int .i64 f.kind), .val (.int .i64 (n : Nat))], false⟩)], X⟩) ?_ ?_
      · by_cases hgl : g < w
        · have e : mx = w := by omega
          (refine LWP.region (by kernel_rfl) <| kmv rfl <| kmv rfl <| K.gtr rfl rfl (decide_eq_true (by omega)) .plain <| RunK.nil <| LWP.condT rfl ?_; refine LWP.region (by kernel_rfl) <| kmv rfl <| kas rfl <| RunK.nil ?_)
          exact ⟨_, Le.of (by exact ⟨rfl, rfl, rfl, rfl, by rw [e]; rfl, rfl, rfl, rfl, trivial⟩) (by exact ⟨rfl, rfl, rfl, trivial⟩) (by exact rfl) (by exact rfl) (by repeat' (first | refine all_cons_true ?_ ?_ | rfl | exact bytes_inUse | exact vals_inUse)), rfl⟩
        · have e : mx = g := by omega
          (refine LWP.region (by kernel_rfl) <| kmv rfl <| kmv rfl <| K.gtr rfl rfl (decide_eq_false (by omega)) .plain <| RunK.nil <| LWP.condF rfl ?_; refine LWP.skip ?_)
          exact ⟨_, Le.of (by exact ⟨rfl, rfl, rfl, rfl, by rw [e]; rfl, rfl, rfl, rfl, trivial⟩) (by exact ⟨rfl, rfl, rfl, trivial⟩) (by exact rfl) (by exact rfl) (by repeat' (first | refine all_cons_true ?_ ?_ | rfl | exact bytes_inUse | exact vals_inUse)), rfl⟩
      rintro σ rfl
      (refine LWP.seq <| LWP.block ?_)
      refine LWP.loop (fun m σ => ∃ b : Nat, a ≤ b ∧ b ≤ T ∧ m = T - b ∧ σ = ⟨[(0, Lx (some ⟨blk, off, none⟩) fs.length cap), (6, .sv (.one (.slc 500 0 (E.length) 2))), (7, .sv (.one (.slc 501 0 (i) 1))), (8, Ln .i64 (b : Nat)), (9, Ln .i64 (mx : Nat)), (10, Ln .i64 (i : Nat)), (11, .sv (.one (.ptr 11 0))), (12, Ln .i64 (w : Nat))], [(500, some ⟨65, (elVs E).map .val, Nat.blt 0 E.length⟩), (501, some ⟨3, (ntV (S)).map .val, Nat.blt 0 i⟩), (11, some ⟨37, [.val (.string ⟨f.nm.toArray⟩), .val (.int .i64 f.kind), .val (.int .i64 (n : Nat))], false⟩)], X⟩) (T - a)
        ⟨_, Le.of (by exact ⟨rfl, rfl, rfl, rfl, rfl, rfl, rfl, rfl, trivial⟩) (by exact ⟨rfl, rfl, rfl, trivial⟩) (by exact rfl) (by exact rfl) (by repeat' (first | refine all_cons_true ?_ ?_ | rfl | exact bytes_inUse | exact vals_inUse)), a, Nat.le_refl _, hR.2.1, rfl, rfl⟩ ?_
      rintro m σ ⟨b, hb1, hb2, rfl, rfl⟩
      have hrem : ((b : Nat) : Int).tmod ((w : Nat) : Int) = ((b % w : Nat) : Int) := by rw [Int.tmod_eq_emod_of_nonneg (by omega)]; exact (Int.natCast_emod b w).symm
      by_cases hz : b % w = 0
      · have hbT := hR.2.2.2 b hb1 hb2 hz
        subst hbT
        rw [hz] at hrem
        have hcl : ((ntV S).map CV.val).length = i * 1 := by simp [ntV, hSl]
        have hnc1 : (ntV S).map CV.val ++ [.val (.int .i64 (b : Nat))] = (ntV (S ++ [b])).map CV.val := by simp [ntV]
        (refine LWP.seq <| LWP.seq <| LWP.region (by kernel_rfl) <| kmv rfl <| kmv rfl <| K.rem rfl rfl (by omega) hrem .plain <| kne rfl rfl ((bne_eq_false_iff_eq.2 (by omega))) <| RunK.nil <| LWP.condF rfl ?_; refine LWP.exit <| LWP.seq <| LWP.region (by kernel_rfl) <| kmv rfl <| kmv rfl <| K.buildSlc (zs := [.int .i64 0]) (sz := 1) (e := 3) (by kernel_rfl) rfl rfl rfl rfl rfl rfl .plain <| K.appendSlc (by_ := 8) (e2 := 3) (l2 := [.val (.int .i64 (b : Nat))]) rfl rfl hcl rfl rfl (Nat.le_refl _) rfl rfl (by kernel_rfl) (by kernel_rfl) (by omega) (by omega) rfl rfl hnc1 .plain <| kas rfl <| RunK.nil <| LWP.seq <| LWP.region (by kernel_rfl) <| kas rfl <| RunK.nil <| LWP.block ?_)
        refine LWP.loop (fun m σ => ∃ j : Nat, j ≤ n ∧ m = n - j ∧ σ = ⟨[(0, Lx (some ⟨blk, off, none⟩) fs.length cap), (6, .sv (.one (.slc 500 0 (E.length + j) 2))), (7, .sv (.one (.slc 501 0 (i + 1) 1))), (8, Ln .i64 (b + w * j : Nat)), (9, Ln .i64 (mx : Nat)), (10, Ln .i64 (i : Nat)), (11, .sv (.one (.ptr 11 0))), (12, Ln .i64 (w : Nat)), (13, Ln .i64 (j : Nat))], [(500, some ⟨65, (elVs (E ++ (List.range j).map (fun q => (f.kind, b + w * q)))).map .val, Nat.blt 0 (E.length + j)⟩), (501, some ⟨3, (ntV (S ++ [b])).map .val, true⟩), (11, some ⟨37, [.val (.string ⟨f.nm.toArray⟩), .val (.int .i64 f.kind), .val (.int .i64 (n : Nat))], false⟩)], X⟩) n
          ⟨_, Le.ofR [(501, 57)] (by exact ⟨rfl, rfl, rfl, rfl, rfl, rfl, rfl, rfl, rfl, trivial⟩) (by rw [List.range_zero, List.map_nil, List.append_nil]; exact (by repeat' (first | exact trivial | refine And.intro ⟨_, rfl, ?_⟩ ?_ | refine And.intro ⟨_, rfl⟩ ?_ | rfl | exact Box.ren_bytes _ _ _ _ | exact Box.ren_vals _ _ _ _))) (by exact rfl) (by exact rfl) (by repeat' (first | refine all_cons_true ?_ ?_ | rfl | exact bytes_inUse | exact vals_inUse)) (by exact rfl) (by exact rfl), 0, by omega, rfl, rfl⟩ ?_
        rintro m σ ⟨j, hj, rfl, rfl⟩
        have hwj : w * j ≤ 64 := Nat.le_trans (Nat.mul_le_mul hw8.2 (Nat.le_trans hj hn8)) (by decide)
        by_cases hjn : j < n
        · have hrg : (List.range (j + 1)).map (fun q => (f.kind, b + w * q)) = (List.range j).map (fun q => (f.kind, b + w * q)) ++ [(f.kind, b + w * j)] := by rw [List.range_succ, List.map_append]; rfl
          have hcl2 : ((elVs (E ++ (List.range j).map (fun q => (f.kind, b + w * q)))).map CV.val).length = (E.length + j) * 2 := by rw [List.length_map, elVs_len]; simp
          have hnc2 : (elVs (E ++ (List.range j).map (fun q => (f.kind, b + w * q)))).map CV.val ++ [.val (.int .i64 f.kind), .val (.int .i64 (b + w * j : Nat))] = (elVs (E ++ (List.range (j + 1)).map (fun q => (f.kind, b + w * q)))).map CV.val := by
            rw [hrg, ← List.append_assoc, elVs_app (E ++ _) [_], List.map_append]
            rfl
          have hadd : ((b + w * j : Nat) : Int) + ((w : Nat) : Int) = ((b + w * (j + 1) : Nat) : Int) := by rw [Nat.mul_add, Nat.mul_one]; omega
          have hwr : IntKind.i64.wrap (((b + w * j : Nat) : Int) + ((w : Nat) : Int)) = ((b + w * (j + 1) : Nat) : Int) := by rw [wrap_i64 (by omega)]; exact hadd
          (refine LWP.seq <| LWP.seq <| LWP.region (by kernel_rfl) <| kmv rfl <| kfa rfl rfl ?_; refine kl1 rfl rfl rfl <| klt rfl rfl (decide_eq_true (by omega)) <| RunK.nil <| LWP.condT rfl ?_; refine LWP.skip ?_; refine LWP.seq <| LWP.block <| LWP.seq <| LWP.region (by kernel_rfl) <| kmv rfl <| kfa rfl rfl ?_; refine kl1 rfl rfl rfl <| kmv rfl <| K.build rfl rfl (by exact rfl) (by exact nl2 rfl rfl rfl) .plain ?_; refine K.buildSlc (zs := [.int .i64 0, .int .i64 0]) (sz := 2) (e := 65) (by kernel_rfl) rfl rfl rfl rfl rfl rfl .plain <| K.appendSlc (by_ := 16) (e2 := 65) (l2 := [.val (.int .i64 f.kind), .val (.int .i64 (b + w * j : Nat))]) (nl := E.length + (j + 1)) rfl rfl hcl2 rfl rfl (Nat.le_refl _) rfl rfl (by kernel_rfl) (by kernel_rfl) (by omega) (by omega) rfl rfl hnc2 .plain <| kas rfl <| RunK.nil <| LWP.region (by kernel_rfl) <| kmv rfl <| kmv rfl <| kad rfl rfl hwr <| kas rfl <| RunK.nil <| LWP.region (by kernel_rfl) <| kmv rfl <| kad rfl rfl (wrap_i64 (by omega)) <| kas rfl ?_; refine RunK.nil ?_)
          exact ⟨_, _, by omega, Le.ofR [(500, 70)] (by exact ⟨rfl, rfl, rfl, rfl, rfl, rfl, rfl, rfl, rfl, trivial⟩) (by repeat' (first | exact trivial | refine And.intro ⟨_, rfl, ?_⟩ ?_ | refine And.intro ⟨_, rfl⟩ ?_ | rfl | exact Box.ren_bytes _ _ _ _ | exact Box.ren_vals _ _ _ _)) (by exact rfl) (by exact rfl) (by repeat' (first | refine all_cons_true ?_ ?_ | rfl | exact bytes_inUse | exact vals_inUse)) (by exact rfl) (by exact rfl), j + 1, by omega, rfl, rfl⟩
        · have e : j = n := by omega
          subst e
          have hEn : (E ++ (List.range j).map (fun q => (f.kind, b + w * q))).length = E.length + j := by simp
          (refine LWP.seq <| LWP.seq <| LWP.region (by kernel_rfl) <| kmv rfl <| kfa rfl rfl ?_; refine kl1 rfl rfl rfl <| klt rfl rfl (decide_eq_false (by omega)) <| RunK.nil <| LWP.condF rfl ?_; refine LWP.exit <| LWP.region (by kernel_rfl) <| kmv rfl <| kad rfl rfl (wrap_i64 (by omega)) <| kas rfl <| RunK.nil ?_)
          exact ⟨_, _, by omega, Le.ofR [] (by exact ⟨rfl, by rw [hE, hEn]; rfl, rfl, by rw [hA]; rfl, by rw [hG]; rfl, rfl, trivial⟩) (by rw [hE, hS, hEn]; exact (by repeat' (first | exact trivial | refine And.intro ⟨_, rfl, ?_⟩ ?_ | refine And.intro ⟨_, rfl⟩ ?_ | rfl | exact Box.ren_bytes _ _ _ _ | exact Box.ren_vals _ _ _ _))) (by exact rfl) (by exact rfl) (by repeat' (first | refine all_cons_true ?_ ?_ | rfl | exact bytes_inUse | exact vals_inUse)) (by exact rfl) (by exact rfl), i + 1, by omega, rfl, hall', rfl⟩
      · have hbT : b ≠ T := fun e => hz (by rw [e]; exact hR.1)
        (refine LWP.seq <| LWP.seq <| LWP.region (by kernel_rfl) <| kmv rfl <| kmv rfl <| K.rem rfl rfl (by omega) hrem .plain <| kne rfl rfl (bne_iff_ne.2 (by omega)) <| RunK.nil <| LWP.condT rfl ?_; refine LWP.skip ?_; refine LWP.block <| LWP.region (by kernel_rfl) <| kmv rfl <| kad rfl rfl (wrap_i64 (by omega)) <| kas rfl <| RunK.nil ?_)
        exact ⟨_, _, by omega, Le.of (by exact ⟨rfl, rfl, rfl, rfl, rfl, rfl, rfl, rfl, trivial⟩) (by exact ⟨rfl, rfl, rfl, trivial⟩) (by exact rfl) (by exact rfl) (by repeat' (first | refine all_cons_true ?_ ?_ | rfl | exact bytes_inUse | exact vals_inUse)), b + 1, by omega, by omega, rfl, rfl⟩
  · have e : i = fs.length := by omega
    subst e
    rw [List.take_length] at *
    have hR := round_facts hgw (endAt 0 fs)
    have hg8 : 1 ≤ greatW fs ∧ greatW fs ≤ 8 := by rcases hgw with e | e | e | e <;> omega
    have hrs : roundUp (endAt 0 fs) (greatW fs) = rowSize fs := rfl
    have hle := layErr_all h8 hall
    (refine LWP.seq <| LWP.seq <| LWP.region (by kernel_rfl) <| kmv rfl <| kmv rfl <| K.lenX rfl SliceT.h rfl .plain ?_; refine klt rfl rfl (decide_eq_false (by omega)) <| RunK.nil <| LWP.condF rfl ?_; refine LWP.exit <| LWP.seq <| LWP.block ?_)
    refine LWP.loop (fun m σ => ∃ b : Nat, endAt 0 fs ≤ b ∧ b ≤ rowSize fs ∧ m = rowSize fs - b ∧ σ = ⟨[(6, .sv (.one (.slc 500 0 (elemsAt 0 fs).length 2))), (7, .sv (.one (.slc 501 0 fs.length 1))), (8, Ln .i64 (b : Nat)), (9, Ln .i64 (greatW fs : Nat))], [(500, some ⟨65, (elVs (elemsAt 0 fs)).map .val, Nat.blt 0 (elemsAt 0 fs).length⟩), (501, some ⟨3, (ntV (startsAt 0 fs)).map .val, Nat.blt 0 fs.length⟩)], X⟩) (rowSize fs - endAt 0 fs)
      ⟨_, Le.of (by exact ⟨rfl, rfl, rfl, rfl, trivial⟩) (by exact ⟨rfl, rfl, trivial⟩) (by exact rfl) (by exact rfl) (by repeat' (first | refine all_cons_true ?_ ?_ | rfl | exact bytes_inUse | exact vals_inUse)), endAt 0 fs, Nat.le_refl _, hR.2.1, rfl, rfl⟩ ?_
    rintro m σ ⟨b, hb1, hb2, rfl, rfl⟩
    rw [hrs] at hR
    unfold layR layBx
    rw [hle]
    generalize rowSize fs = T at *
    generalize endAt 0 fs = a at *
    generalize elemsAt 0 fs = E at *
    generalize startsAt 0 fs = S at *
    generalize greatW fs = w at *
    have hrem : ((b : Nat) : Int).tmod ((w : Nat) : Int) = ((b % w : Nat) : Int) := by rw [Int.tmod_eq_emod_of_nonneg (by omega)]; exact (Int.natCast_emod b w).symm
    by_cases hz : b % w = 0
    · have hbT := hR.2.2.2 b hb1 hb2 hz
      subst hbT
      rw [hz] at hrem
      by_cases h256 : 256 < b
      · rw [if_pos h256, if_neg (by decide), if_neg (by decide)]
        (refine LWP.seq <| LWP.seq <| LWP.region (by kernel_rfl) <| kmv rfl <| kmv rfl <| K.rem rfl rfl (by omega) hrem .plain <| kne rfl rfl ((bne_eq_false_iff_eq.2 (by omega))) <| RunK.nil <| LWP.condF rfl ?_; refine LWP.exit <| LWP.seq <| LWP.seq <| LWP.region (by kernel_rfl) <| kmv rfl <| K.gtr rfl rfl (decide_eq_true (by omega)) .plain <| RunK.nil <| LWP.condT rfl ?_; refine LWP.seq <| LWP.region (by kernel_rfl) <| kas rfl <| kas rfl <| kas rfl <| kas rfl <| RunK.nil <| LWP.ret ?_)
        exact ⟨[], ⟨[_, _, _, _], ⟨rfl, rfl, rfl, rfl, trivial⟩, rfl⟩, trivial, rfl, rfl⟩
      · rw [if_neg h256, if_pos rfl, if_pos rfl]
        (refine LWP.seq <| LWP.seq <| LWP.region (by kernel_rfl) <| kmv rfl <| kmv rfl <| K.rem rfl rfl (by omega) hrem .plain <| kne rfl rfl ((bne_eq_false_iff_eq.2 (by omega))) <| RunK.nil <| LWP.condF rfl ?_; refine LWP.exit <| LWP.seq <| LWP.seq <| LWP.region (by kernel_rfl) <| kmv rfl <| K.gtr rfl rfl (decide_eq_false (by omega)) .plain <| RunK.nil <| LWP.condF rfl ?_; refine LWP.skip ?_; refine LWP.seq <| LWP.region (by kernel_rfl) <| kmv rfl <| kmv rfl <| kmv rfl <| kas rfl <| kas rfl <| kas rfl <| kas rfl <| RunK.nil <| LWP.ret ?_)
        exact ⟨[(1000001, 500), (1000002, 501)], ⟨[_, _, _, _], ⟨rfl, rfl, rfl, rfl, trivial⟩, rfl⟩, (by repeat' (first | exact trivial | refine And.intro ⟨_, rfl, ?_⟩ ?_ | refine And.intro ⟨_, rfl⟩ ?_ | rfl | exact Box.ren_bytes _ _ _ _ | exact Box.ren_vals _ _ _ _)), rfl, rfl⟩
    · have hbT : b ≠ T := fun e => hz (by rw [e]; exact hR.1)
      (refine LWP.seq <| LWP.seq <| LWP.region (by kernel_rfl) <| kmv rfl <| kmv rfl <| K.rem rfl rfl (by omega) hrem .plain <| kne rfl rfl (bne_iff_ne.2 (by omega)) <| RunK.nil <| LWP.condT rfl ?_; refine LWP.skip ?_; refine LWP.block <| LWP.region (by kernel_rfl) <| kmv rfl <| kad rfl rfl (wrap_i64 (by omega)) <| kas rfl <| RunK.nil ?_)
      exact ⟨_, _, by omega, Le.of (by exact ⟨rfl, rfl, rfl, rfl, trivial⟩) (by exact ⟨rfl, rfl, trivial⟩) (by exact rfl) (by exact rfl) (by repeat' (first | refine all_cons_true ?_ ?_ | rfl | exact bytes_inUse | exact vals_inUse)), b + 1, by omega, by omega, rfl, rfl⟩
end Go.Proofs.YtfmadklfcoebhaaDoor
end
section
namespace Go.Lg.Fld
open Go Go.Lg
theorem elVs_at : ∀ {l : List (Int × Nat)} {i : Nat} {e : Int × Nat}, l[i]? = some e → ((elVs l).map CV.val)[i * 2]? = some (.val (.int .i64 e.1)) ∧ ((elVs l).map CV.val)[i * 2 + 1]? = some (.val (.int .i64 (e.2 : Nat)))
  | [], i, e, h => by simp at h
  | d :: t, 0, e, h => by
    simp only [List.getElem?_cons_zero, Option.some.injEq] at h
    subst h
    exact ⟨rfl, rfl⟩
  | d :: t, i + 1, e, h => by
    have ih := elVs_at (l := t) (i := i) (e := e) (by simpa using h)
    have e1 : (elVs (d :: t)).map CV.val = .val (.int .i64 d.1) :: .val (.int .i64 (d.2 : Nat)) :: (elVs t).map CV.val := rfl
    rw [e1, Nat.add_mul, Nat.one_mul]
    exact ih
/-- a raw number's cells -/
def nmV (n : Bool × Int) : List Value := [.bool n.1, .int .u64 (n.2 / 18446744073709551616), .int .u64 (n.2 % 18446744073709551616)]
end Go.Lg.Fld
namespace Go.Proofs.YtfmadklfcoebhaaDoor
open Go Go.Lg Go.Lg.Fld
set_option maxRecDepth 100000
variable (X : Nat → Option Obj)
/-- numbers are handed in -/
structure NumsIn (X : Nat → Option Obj) (ad : Option Addr) (ns : List (Bool × Int)) : Prop where
  rows : Go.Lg.RowsIn X ad 3 (ns.map nmV)
  in2 : ∀ n ∈ ns, In2 n.2
theorem NumsIn.at {X : Nat → Option Obj} {ad : Option Addr} {ns : List (Bool × Int)} (h : NumsIn X ad ns) {i : Nat} {b : Bool} {N : Int} (hf : ns[i]? = some (b, N)) :
    In2 N ∧ ∃ (blk off : Nat) (arr : Array Value) (el : TypeId) (fr : Nat × Nat), ad = some ⟨blk, off, none⟩ ∧ X blk = some (.cells arr el fr) ∧ off + i * 3 + 3 ≤ arr.size ∧ ((arr.toList.drop (off + i * 3)).take 3).map CV.val = cI b N := by
  obtain ⟨blk, off, arr, el, fr, h1, h2, h3, h4⟩ := h.rows i (nmV (b, N)) (by rw [List.getElem?_map, hf]; rfl)
  exact ⟨h.in2 (b, N) (List.mem_of_getElem? hf), blk, off, arr, el, fr, h1, h2, h3, by rw [h4]; rfl⟩
theorem Lay_ok (ad : Option Addr) (cap : Nat) (fs : List Fl) (hin : FieldsIn X ad fs) (hbig : fs.length < 4611686018427387904) (h : layErr fs = 0) :
    MSpec Tryd.prog X 10 [Lx ad fs.length cap] [] (.tup [.one (.slc 1000001 0 (elemsAt 0 fs).length 2), Sn .i64 (rowSize fs : Nat), .one (.slc 1000002 0 fs.length 1), Sn .i64 0])
      [(1000001, some ⟨65, (elVs (elemsAt 0 fs)).map .val, Nat.blt 0 (elemsAt 0 fs).length⟩), (1000002, some ⟨3, (ntV (startsAt 0 fs)).map .val, Nat.blt 0 fs.length⟩)] := by
  have := Lay_spec X ad cap fs hin hbig
  unfold layR layBx at this
  rw [if_pos h, if_pos h] at this
  exact this
theorem Lay_no (ad : Option Addr) (cap : Nat) (fs : List Fl) (hin : FieldsIn X ad fs) (hbig : fs.length < 4611686018427387904) (h : layErr fs ≠ 0) :
    MSpec Tryd.prog X 10 [Lx ad fs.length cap] [] (.tup [Vnil, Sn .i64 0, Vnil, Sn .i64 (layErr fs)]) [] := by
  have := Lay_spec X ad cap fs hin hbig
  unfold layR layBx at this
  rw [if_neg h, if_neg h] at this
  exact this
theorem layErr_facts {fs : List Fl} (h : layErr fs = 0) : fs.length ≤ 8 ∧ fs.all Fl.ok = true ∧ rowSize fs ≤ 256 := by
  unfold layErr at h
  split at h
  · cases h
  · split at h
    · split at h
      · cases h
      · rename_i h1 h2 h3; exact ⟨by omega, h2, by omega⟩
    · cases h
/-- each element's number fits -/
def fitAll (es : List (Int × Nat)) (ns : List (Bool × Int)) : Bool := (es.zip ns).all fun p => fitB p.1.1 p.2.1 p.2.2
def fitErr (fs : List Fl) (ns : List (Bool × Int)) : Int := if layErr fs = 0 then (if (elemsAt 0 fs).length = ns.length then (if fitAll (elemsAt 0 fs) ns = true then 0 else 3) else 4) else layErr fs
theorem zip_at {α β : Type} {es : List α} {ns : List β} {i : Nat} {e : α} {n : β} (h1 : es[i]? = some e) (h2 : ns[i]? = some n) : (es.zip ns)[i]? = some (e, n) := List.getElem?_zip_eq_some.2 ⟨h1, h2⟩
set_option maxHeartbeats 1600000 in
theorem refFit_spec (ad ad2 : Option Addr) (cap cap2 : Nat) (fs : List Fl) (ns : List (Bool × Int)) (hin : FieldsIn X ad fs) (hbig : fs.length < 4611686018427387904) (hns : NumsIn X ad2 ns) (hnb : ns.length < 4611686018427387904) :
    PSpec Tryd.prog X 16 [Lx ad fs.length cap, Lx ad2 ns.length cap2] (Ln .i64 (fitErr fs ns)) := by
  refine PSpec.intro Tryd.func16 rfl (by kernel_rfl) rfl rfl ?_
  intro C
  unfold fitErr
  by_cases hl : layErr fs = 0
  · have hL := Lay_ok X ad cap fs hin hbig hl
    obtain ⟨h8, hall, _⟩ := layErr_facts hl
    have hEl := elems_len fs 0 hall
    rw [if_pos hl]
    generalize elemsAt 0 fs = E at *
    generalize startsAt 0 fs = S at *
    generalize rowSize fs = T at *
    by_cases hn : E.length = ns.length
    · rw [if_pos hn]
      (refine LWP.seq <| LWP.region (by kernel_rfl) <| kas rfl <| RunK.nil <| LWP.seq <| LWP.region (by kernel_rfl) <| kmv rfl <| K.callMp [(1000001, 501), (1000002, 502)] (.tup [.one (.slc 501 0 E.length 2), Sn .i64 (T : Nat), .one (.slc 502 0 fs.length 1), Sn .i64 0]) [(501, some ⟨65, (elVs E).map .val, Nat.blt 0 E.length⟩), (502, some ⟨3, (ntV S).map .val, Nat.blt 0 fs.length⟩)] (hL) rfl rfl (by exact trivial) rfl rfl rfl rfl rfl (by exact (.box rfl (Box.ren_vals _ _ _ _) (.box rfl (Box.ren_vals _ _ _ _) .nil))) .plain <| kmv rfl <| kex rfl rfl <| kex rfl rfl <| kex rfl rfl <| kex rfl rfl <| kas rfl ?_; refine kas rfl <| kas rfl <| kas rfl <| RunK.nil <| LWP.seq <| LWP.seq <| LWP.region (by kernel_rfl) <| kmv rfl <| kne rfl rfl ((bne_eq_false_iff_eq.2 (by omega))) <| RunK.nil <| LWP.condF rfl ?_; refine LWP.skip ?_; refine LWP.seq <| LWP.seq <| LWP.region (by kernel_rfl) <| kmv rfl <| K.lenSlc rfl SliceT.h rfl .plain ?_; refine kmv rfl <| K.lenX rfl SliceT.h rfl .plain ?_; refine kne rfl rfl ((bne_eq_false_iff_eq.2 (by omega))) <| RunK.nil <| LWP.condF rfl ?_; refine LWP.skip ?_; refine LWP.seq <| LWP.seq <| LWP.region (by kernel_rfl) <| kas rfl <| RunK.nil <| LWP.block ?_)
      refine LWP.loop (fun m σ => ∃ i : Nat, i ≤ E.length ∧ m = E.length - i ∧ ((E.zip ns).take i).all (fun p => fitB p.1.1 p.2.1 p.2.2) = true ∧ σ = ⟨[(1, Lx ad2 ns.length cap2), (5, .sv (.one (.slc 501 0 E.length 2))), (9, Ln .i64 (i : Nat))], [(501, some ⟨65, (elVs E).map .val, Nat.blt 0 E.length⟩)], X⟩) E.length
        ⟨_, Le.of (by exact ⟨rfl, rfl, rfl, trivial⟩) (by exact ⟨rfl, trivial⟩) (by exact rfl) (by exact rfl) (by repeat' (first | refine all_cons_true ?_ ?_ | rfl | exact bytes_inUse | exact vals_inUse)), 0, by omega, rfl, rfl, rfl⟩ ?_
      rintro m σ ⟨i, hi, rfl, hpre, rfl⟩
      by_cases hlt : i < E.length
      · obtain ⟨e, he⟩ : ∃ e, E[i]? = some e := ⟨_, List.getElem?_eq_getElem hlt⟩
        obtain ⟨⟨b, N⟩, hv⟩ : ∃ v, ns[i]? = some v := ⟨_, List.getElem?_eq_getElem (by omega)⟩
        obtain ⟨hN, blk, off, arr, el, fr, rfl, hX, hsz, hcells⟩ := hns.at hv
        have hio : off + Int.toNat (i : Int) * 3 = off + i * 3 := by simp
        have hie : 0 + Int.toNat (i : Int) * 2 = i * 2 := by simp
        have hc := (elVs_at he).1
        have hzip := zip_at he hv
        have hF := refFits_spec X e.1 b N hN
        cases hf : fitB e.1 b N with
        | true =>
          have hF' := hF true hf
          (refine LWP.seq <| LWP.seq <| LWP.region (by kernel_rfl) <| kmv rfl <| kmv rfl <| K.lenSlc rfl SliceT.h rfl .plain ?_; refine klt rfl rfl (decide_eq_true (by omega)) <| RunK.nil <| LWP.condT rfl ?_; refine LWP.skip ?_; refine LWP.seq <| LWP.block <| LWP.seq <| LWP.draws mixed (by kernel_rfl) <| kmv rfl <| kmv rfl <| K.indexSlc rfl rfl (by omega) hie .plain ?_; refine kfa rfl rfl ?_; refine kl1 rfl rfl hc <| kmv rfl <| kmv rfl <| K.indexX rfl rfl SliceT.h (by omega) hio .plain <| K.loadXagg rfl hX (by kernel_rfl) hsz hcells .plain <| kca rfl rfl (hF') <| K.not rfl rfl .plain <| RunK.nil <| And.intro (by kernel_rfl) ?_; refine LWP.condF rfl ?_; refine LWP.skip ?_; refine LWP.region (by kernel_rfl) <| kmv rfl <| kad rfl rfl (wrap_i64 (by omega)) <| kas rfl <| RunK.nil ?_)
          exact ⟨_, _, by omega, Le.of (by exact ⟨rfl, rfl, rfl, trivial⟩) (by exact ⟨rfl, trivial⟩) (by exact rfl) (by exact rfl) (by repeat' (first | refine all_cons_true ?_ ?_ | rfl | exact bytes_inUse | exact vals_inUse)), i + 1, by omega, rfl, by rw [take_snoc hzip, List.all_append, hpre]; simp [hf], rfl⟩
        | false =>
          have hF' := hF false hf
          have hno : fitAll E ns = false := by
            unfold fitAll
            cases h : (E.zip ns).all (fun p => fitB p.1.1 p.2.1 p.2.2) with
            | false => rfl
            | true => have := List.all_eq_true.1 h _ (List.mem_of_getElem? hzip); rw [hf] at this; cases this
          rw [hno]
          (refine LWP.seq <| LWP.seq <| LWP.region (by kernel_rfl) <| kmv rfl <| kmv rfl <| K.lenSlc rfl SliceT.h rfl .plain ?_; refine klt rfl rfl (decide_eq_true (by omega)) <| RunK.nil <| LWP.condT rfl ?_; refine LWP.skip ?_; refine LWP.seq <| LWP.block <| LWP.seq <| LWP.draws mixed (by kernel_rfl) <| kmv rfl <| kmv rfl <| K.indexSlc rfl rfl (by omega) hie .plain ?_; refine kfa rfl rfl ?_; refine kl1 rfl rfl hc <| kmv rfl <| kmv rfl <| K.indexX rfl rfl SliceT.h (by omega) hio .plain <| K.loadXagg rfl hX (by kernel_rfl) hsz hcells .plain <| kca rfl rfl (hF') <| K.not rfl rfl .plain <| RunK.nil <| And.intro (by kernel_rfl) ?_; refine LWP.condT rfl ?_; refine LWP.seq <| LWP.region (by kernel_rfl) <| kas rfl <| RunK.nil <| LWP.ret ?_)
          exact ⟨[_], ⟨rfl, trivial⟩, rfl⟩
      · have e : i = E.length := by omega
        subst e
        have hyes : fitAll E ns = true := by
          rw [List.take_of_length_le (by rw [List.length_zip]; omega)] at hpre
          exact hpre
        rw [hyes]
        (refine LWP.seq <| LWP.seq <| LWP.region (by kernel_rfl) <| kmv rfl <| kmv rfl <| K.lenSlc rfl SliceT.h rfl .plain ?_; refine klt rfl rfl (decide_eq_false (by omega)) <| RunK.nil <| LWP.condF rfl ?_; refine LWP.exit <| LWP.seq <| LWP.region (by kernel_rfl) <| kas rfl <| RunK.nil <| LWP.ret ?_)
        exact ⟨[_], ⟨rfl, trivial⟩, rfl⟩
    · rw [if_neg hn]
      (refine LWP.seq <| LWP.region (by kernel_rfl) <| kas rfl <| RunK.nil <| LWP.seq <| LWP.region (by kernel_rfl) <| kmv rfl <| K.callMp [(1000001, 501), (1000002, 502)] (.tup [.one (.slc 501 0 E.length 2), Sn .i64 (T : Nat), .one (.slc 502 0 fs.length 1), Sn .i64 0]) [(501, some ⟨65, (elVs E).map .val, Nat.blt 0 E.length⟩), (502, some ⟨3, (ntV S).map .val, Nat.blt 0 fs.length⟩)] (hL) rfl rfl (by exact trivial) rfl rfl rfl rfl rfl (by exact (.box rfl (Box.ren_vals _ _ _ _) (.box rfl (Box.ren_vals _ _ _ _) .nil))) .plain <| kmv rfl <| kex rfl rfl <| kex rfl rfl <| kex rfl rfl <| kex rfl rfl <| kas rfl ?_; refine kas rfl <| kas rfl <| kas rfl <| RunK.nil <| LWP.seq <| LWP.seq <| LWP.region (by kernel_rfl) <| kmv rfl <| kne rfl rfl ((bne_eq_false_iff_eq.2 (by omega))) <| RunK.nil <| LWP.condF rfl ?_; refine LWP.skip ?_; refine LWP.seq <| LWP.seq <| LWP.region (by kernel_rfl) <| kmv rfl <| K.lenSlc rfl SliceT.h rfl .plain ?_; refine kmv rfl <| K.lenX rfl SliceT.h rfl .plain ?_; refine kne rfl rfl (bne_iff_ne.2 (by omega)) <| RunK.nil <| LWP.condT rfl ?_; refine LWP.seq <| LWP.region (by kernel_rfl) <| kas rfl <| RunK.nil <| LWP.ret ?_)
      exact ⟨[_], ⟨rfl, trivial⟩, rfl⟩
  · have hL := Lay_no X ad cap fs hin hbig hl
    rw [if_neg hl]
    generalize layErr fs = e at *
    (refine LWP.seq <| LWP.region (by kernel_rfl) <| kas rfl <| RunK.nil <| LWP.seq <| LWP.region (by kernel_rfl) <| kmv rfl <| K.callM [] [] (hL) rfl rfl (by exact trivial) rfl rfl rfl rfl rfl (by exact .nil) .plain <| kmv rfl <| kex rfl rfl <| kex rfl rfl <| kex rfl rfl <| kex rfl rfl <| kas rfl ?_; refine kas rfl <| kas rfl <| kas rfl <| RunK.nil <| LWP.seq <| LWP.seq <| LWP.region (by kernel_rfl) <| kmv rfl <| kne rfl rfl (bne_iff_ne.2 (by omega)) <| RunK.nil <| LWP.condT rfl ?_; refine LWP.seq <| LWP.region (by kernel_rfl) <| kmv rfl <| kas rfl <| RunK.nil <| LWP.ret ?_)
    exact ⟨[_], ⟨rfl, trivial⟩, rfl⟩
end Go.Proofs.YtfmadklfcoebhaaDoor
end
section
namespace Go.Lg
open Go Go.RowKit
section
variable {P : Program} {n : Nat} {ops os : List Oper} {acc : List Eff} {K : List Eff → St → Prop} {s : List (Nat × LV)} {bx : List (Nat × Option Box)} {X : Nat → Option Obj} {σ : St}
theorem slcBuild_one {t e : TypeId} {m : Nat} {v : Value} (hu : P.underlying t = some (.slice e)) (hz : (P.info? e).map (fun i => (i.size, i.zero.map (fun z => z.cells))) = some (1, some #[v])) (hm : m ≤ 16777216) :
    slcBuild P t m = some (List.replicate m v, 1, e) := by
  unfold slcBuild
  rw [hu]
  simp only
  cases hi : P.info? e with
  | none => rw [hi] at hz; cases hz
  | some ie =>
    rw [hi] at hz
    simp only [Option.map_some, Option.some.injEq, Prod.mk.injEq] at hz
    obtain ⟨h1, h2⟩ := hz
    cases hzz : ie.zero with
    | none => rw [hzz] at h2; cases h2
    | some z =>
      rw [hzz] at h2
      simp only [Option.map_some, Option.some.injEq] at h2
      simp only [hzz, h1, h2]
      rw [if_neg (show ¬ m * 1 > 2 ^ 24 by omega)]
      have : ((List.range (m * 1)).map fun i => (#[v] : Array Value)[i % (#[v] : Array Value).size]!) = List.replicate m v := by
        rw [Nat.mul_one]
        apply List.ext_getElem
        · simp
        · intro i h1 h2
          have : i % 1 = 0 := Nat.mod_one i
          simp [this]
      rw [this]
-- a slice in memory that stays, cut
theorem LOK.cutX {d b off len cap sz h : Nat} {t : TypeId} {x y : Operand} {ty : TypeId} {pos : String} {after_ : Array Edge} {g : Option (Nat × Bool)} {kh : IntKind} (hx : σ.ev x = some (.sv (.one (.val (.slice (some ⟨b, off, none⟩) len cap))))) (hy : σ.ev y = some (.sv (.one (.val (.int kh (h : Nat))))))
    (ht : sliceOf P t = some sz) (hh : h ≤ len) (hc : len ≤ cap) : LOK P n ops ⟨some d, .slice t x none (some y) none, ty, pos, after_, g⟩ σ ⟨[(d, .sv (.one (.val (.slice (some ⟨b, off, none⟩) h cap))))], [], []⟩ :=
  LOK.value fun σ' ha C ι a w hr => by
    have h1 : a.eval x = _ := hr.ev ((ha.ev (x := x) (by simp [Op.operands])).trans hx)
    have h2 : a.eval y = .int kh (h : Nat) := hr.ev ((ha.ev (x := y) (by simp [Op.operands])).trans hy)
    obtain ⟨e, hu, hsz⟩ := sliceOf_spec ht
    have hrun : (Instr.sliceAt t (.slice (some ⟨b, off, none⟩) len cap) none (some (.int kh (h : Nat))) none).run P w = .ok (.slice (some ⟨b, off, none⟩) h cap) w := by
      have ha0 : (⟨b, off, none⟩ : Addr).add 0 = ⟨b, off, none⟩ := by rw [addr_add, Nat.add_zero]
      simp [Instr.sliceAt, Instr.slice, run_underlying hu, Instr.sliceBounds, Instr.sliceBound, asIntOf, hsz, ha0]
      omega
    exact ⟨_, by simp only [execOp, h1, h2, Option.map_none, Option.map_some, Sem.run_bind, hrun, Result.andThen_ok, Sem.run_pure], rfl⟩
theorem K.cutX {d b off len cap sz h : Nat} {t : TypeId} {x y : Operand} {ty : TypeId} {pos : String} {after_ : Array Edge} {g : Option (Nat × Bool)} {kh : IntKind} (hx : (⟨s, bx, X⟩ : St).ev x = some (.sv (.one (.val (.slice (some ⟨b, off, none⟩) len cap))))) (hy : (⟨s, bx, X⟩ : St).ev y = some (.sv (.one (.val (.int kh (h : Nat))))))
    (ht : sliceOf P t = some sz) (hh : h ≤ len) (hc : len ≤ cap) (hw : Want ops s g) (kont : RunK P n ops os ⟨(d, .sv (.one (.val (.slice (some ⟨b, off, none⟩) h cap)))) :: s, bx, X⟩ (⟨[(d, .sv (.one (.val (.slice (some ⟨b, off, none⟩) h cap))))], [], []⟩ :: acc) K) :
    RunK P n ops (⟨some d, .slice t x none (some y) none, ty, pos, after_, g⟩ :: os) ⟨s, bx, X⟩ acc K := RunK.g1 (LOK.cutX hx hy ht hh hc) hw kont
/-- what is appended lies in memory that stays: its cells -/
structure ReadsX (X : Nat → Option Obj) (ad : Option Addr) (news : List Value) : Prop where
  cells : ∀ i u, news[i]? = some u → ∃ (blk off : Nat) (arr : Array Value) (el : TypeId) (fr : Nat × Nat), ad = some ⟨blk, off, none⟩ ∧ X blk = some (.cells arr el fr) ∧ arr[off + i]? = some u
theorem LOK.appendX {d k len m cap sz by_ : Nat} {ad : Addr} {t tx e e2 : TypeId} {x y : Operand} {ty : TypeId} {pos : String} {after_ : Array Edge} {g : Option (Nat × Bool)} {cells : List CV} {row : Bool} {news : List Value}
    (hx : σ.ev x = some (.sv (.one (.slc k 0 len sz)))) (hk : σ.stat k = some (some ⟨e, cells, row⟩)) (hcl : cells.length = len * sz) (hy : σ.ev y = some (.sv (.one (.val (.slice (some ad) m cap))))) (hX : ReadsX σ.X (some ad) news) (hnl : news.length = m * sz) (hone : ∀ u ∈ news, u.oneCell' = true)
    (hinf : slcInfo P t = some (e, sz, by_)) (htx : P.underlying tx = some (.slice e2)) (hfit : (len + m) * by_ ≤ 140737488355328) (h63 : len + m < 9223372036854775808) (hd : σ.fresh d = true) :
    LOK P n ops ⟨some d, .call ⟨.builtin .append, #[x, y], #[t, tx]⟩, ty, pos, after_, g⟩ σ ⟨[(d, .sv (.one (.slc d 0 (len + m) sz)))], [], [(d, some ⟨e, cells ++ news.map .val, true⟩), (k, none)]⟩ :=
  LOK.make fun σ' ha C ι a w hr => by
    have hk' : σ'.stat k = _ := (ha.stat k (.inr (by simp))).trans hk
    have hd' : σ'.stat d = none := (ha.stat d (.inr (by simp))).trans (St.fresh_none hd)
    have h1 := hr.ev ((ha.ev (x := x) (by simp [Op.operands, Call.operands])).trans hx)
    have h2 : a.eval y = .slice (some ad) m cap := hr.ev ((ha.ev (x := y) (by simp [Op.operands, Call.operands])).trans hy)
    simp only [LV.rel, SV.rel, CV.rel, hk'] at h1
    obtain ⟨c, h1, hle, hcs⟩ := h1
    have hsrc := Src.ofSlice (P := P) w (size := sz) htx ad m cap news hnl (fun j u hj => by
      obtain ⟨blk, off, arr, el, fr, e1, e2, e3⟩ := hX.cells j u hj
      have e1 : ad = ⟨blk, off, none⟩ := by simpa using e1
      subst e1
      have hw := hr.ext blk _ (by rw [ha.X]; exact e2)
      rw [addr_add]
      simp only [World.cell?, hw, Option.isSome_none, Bool.false_eq_true, if_false]
      exact e3) hone
    obtain ⟨v, w', ι', hrun, hrel, hv⟩ := append_core (ty := ty) hr hinf (xv := a.eval x) (yv := a.eval y) h1 hle hcs hk' hcl (by rw [h2]; exact hsrc) (CVs.rel_map_val news) hd' (St.fresh_lt hd) hfit h63
    exact ⟨v, w', ι', by simp [execOp, resolve, invoke, builtin, hrun], hrel, hv⟩
theorem K.appendX {d k len m cap sz by_ : Nat} {ad : Addr} {t tx e e2 : TypeId} {x y : Operand} {ty : TypeId} {pos : String} {after_ : Array Edge} {g : Option (Nat × Bool)} {cells : List CV} {row : Bool} {news : List Value}
    (hx : (⟨s, bx, X⟩ : St).ev x = some (.sv (.one (.slc k 0 len sz)))) (hk : (⟨s, bx, X⟩ : St).stat k = some (some ⟨e, cells, row⟩)) (hcl : cells.length = len * sz) (hy : (⟨s, bx, X⟩ : St).ev y = some (.sv (.one (.val (.slice (some ad) m cap))))) (hX : ReadsX X (some ad) news) (hnl : news.length = m * sz) (hone : ∀ u ∈ news, u.oneCell' = true)
    (hinf : slcInfo P t = some (e, sz, by_)) (htx : P.underlying tx = some (.slice e2)) (hfit : (len + m) * by_ ≤ 140737488355328) (h63 : len + m < 9223372036854775808) (hd : (⟨s, bx, X⟩ : St).fresh d = true) {nl : Nat} {nc : List CV} (hnl2 : len + m = nl) (hnc : cells ++ news.map .val = nc) (hw : Want ops s g)
    (kont : RunK P n ops os ⟨(d, .sv (.one (.slc d 0 nl sz))) :: s, (d, some ⟨e, nc, true⟩) :: (k, none) :: bx, X⟩ (⟨[(d, .sv (.one (.slc d 0 nl sz)))], [], [(d, some ⟨e, nc, true⟩), (k, none)]⟩ :: acc) K) :
    RunK P n ops (⟨some d, .call ⟨.builtin .append, #[x, y], #[t, tx]⟩, ty, pos, after_, g⟩ :: os) ⟨s, bx, X⟩ acc K := by
  subst hnl2 hnc
  exact RunK.gen hw (LOK.appendX hx hk hcl hy hX hnl hone hinf htx hfit h63 hd) kont
-- what is appended to no slice
theorem append_nil_core {C : Ctx} {ι : Nat → Nat × Nat} {a : Act} {w : World} {σ' : St} (hr : Rel n C ι σ' a w) {t tx ty e : TypeId} {sz by_ : Nat} (hinf : slcInfo P t = some (e, sz, by_)) {xv yv : Value} {d m : Nat} {l2 : List CV} {news : List Value}
    (hv : xv = .slice none 0 0) (hsrc : Src P sz tx yv m news w) (hl2 : CVs.rel σ'.stat ι l2 news) (hd : σ'.stat d = none) (hlt : d < 1000000) (hm : 1 ≤ m) (hfit : m * by_ ≤ 140737488355328) (h63 : m < 9223372036854775808) :
    ∃ v w' ι', (Builtin.append_ #[t, tx] ty #[xv, yv]).run P w = .ok v w' ∧ Rel n C ι' ⟨σ'.slots, (d, some ⟨e, l2, true⟩) :: σ'.boxes, σ'.X⟩ a w' ∧
      (CV.slc d 0 m sz).rel (⟨σ'.slots, (d, some ⟨e, l2, true⟩) :: σ'.boxes, σ'.X⟩ : St).stat ι' v := by
  obtain ⟨ie, z, hu, hi, hz, hsz, hby, hzs⟩ := slcInfo_spec hinf
  subst hv
  have hnl : news.length = m * sz := hsrc.newsLen
  have hstd : (⟨σ'.slots, (d, some ⟨e, l2, true⟩) :: σ'.boxes, σ'.X⟩ : St).stat d = some (some ⟨e, l2, true⟩) := by rw [stat_cons, if_pos rfl]
  subst hsz hby
  have hne := growslice_fits (need := 0 + m) (old := 0) (bytes := ie.bytes) (by omega) (by rw [Nat.zero_add]; exact hfit)
  have hold := run_firstCells_none (P := P) w.drew ie.size 0 0 0
  have hrun := run_append_grow_src (P := P) w t tx ty e ie z hu hi hz none 0 0 [] hold yv m news hsrc (by omega) (by omega) hne
  rw [Nat.zero_add, List.nil_append] at hrun
  refine ⟨_, _, _, hrun, hr.drew.new hlt hd (b := ⟨e, l2, true⟩) (arr := news.toArray ++ Builtin.zeroCells z.cells (grownCap w m 0 e - m)) ?_, ?_⟩
  · simp only [Box.rel]
    exact ⟨news, (Builtin.zeroCells z.cells (grownCap w m 0 e - m)).toList, by simp, hl2⟩
  · simp only [CV.rel, hstd, put1, if_true]
    have hge := grownCap_ge w m 0 e
    refine ⟨_, rfl, hge, ?_⟩
    have hzc : (Builtin.zeroCells z.cells (grownCap w m 0 e - m)).size = (grownCap w m 0 e - m) * ie.size := by
      simp [Builtin.zeroCells, hzs]
    rw [Array.size_append, hzc]
    have h5 : grownCap w m 0 e = (grownCap w m 0 e - m) + m := by omega
    generalize grownCap w m 0 e - m = q at *
    rw [h5, Nat.add_mul]
    simp
    omega
theorem LOK.appendNil {d k2 m sz by_ : Nat} {t tx e e2 : TypeId} {x y : Operand} {ty : TypeId} {pos : String} {after_ : Array Edge} {g : Option (Nat × Bool)} {l2 : List CV} {b2 : Box}
    (hx : σ.ev x = some (.sv (.one (.val (.slice none 0 0))))) (hy : σ.ev y = some (.sv (.one (.slc k2 0 m sz)))) (hk2 : σ.stat k2 = some (some b2)) (hm2 : m * sz ≤ b2.cells.length) (hl2 : b2.cells.take (m * sz) = l2) (hso : l2.all CV.solid = true) (hm : 1 ≤ m)
    (hinf : slcInfo P t = some (e, sz, by_)) (htx : P.underlying tx = some (.slice e2)) (hfit : m * by_ ≤ 140737488355328) (h63 : m < 9223372036854775808) (hd : σ.fresh d = true) :
    LOK P n ops ⟨some d, .call ⟨.builtin .append, #[x, y], #[t, tx]⟩, ty, pos, after_, g⟩ σ ⟨[(d, .sv (.one (.slc d 0 m sz)))], [k2], [(d, some ⟨e, l2, true⟩)]⟩ :=
  LOK.make fun σ' ha C ι a w hr => by
    have hk2' : σ'.stat k2 = _ := (ha.stat k2 (.inl (by simp))).trans hk2
    have hd' : σ'.stat d = none := (ha.stat d (.inr (by simp))).trans (St.fresh_none hd)
    have h1 : a.eval x = .slice none 0 0 := hr.ev ((ha.ev (x := x) (by simp [Op.operands, Call.operands])).trans hx)
    have h2 := hr.ev ((ha.ev (x := y) (by simp [Op.operands, Call.operands])).trans hy)
    simp only [LV.rel, SV.rel, CV.rel, hk2'] at h2
    obtain ⟨c2, h2, -, -⟩ := h2
    obtain ⟨arr2, fr2, harr2, -, -, hbr2⟩ := hr.boxes k2 _ hk2'
    obtain ⟨hsz2, hpart⟩ := Box.rel_part hbr2 (off := 0) (m := m * sz) (by omega)
    rw [List.drop_zero, hl2, List.drop_zero] at hpart
    have hlen2 : (arr2.toList.take (m * sz)).length = m * sz := by simp at hsz2 ⊢; omega
    have hone : ∀ u ∈ arr2.toList.take (m * sz), u.oneCell' = true := (SV.cells_ok (s := .agg l2) (v := .agg (arr2.toList.take (m * sz)).toArray) ⟨_, rfl, by simpa using hpart⟩ hso).2 |> fun h u hu => h u (by simpa [Value.cells] using hu)
    have hsrc := Src.ofSlice (P := P) w (size := sz) htx ⟨(ι k2).1, 0, none⟩ m c2 (arr2.toList.take (m * sz)) hlen2 (fun j u hj => by
      rw [addr_add]
      simp only [World.cell?, harr2, Option.isSome_none, Bool.false_eq_true, if_false]
      rw [List.getElem?_take] at hj
      split at hj
      · simpa using hj
      · simp at hj) hone
    obtain ⟨v, w', ι', hrun, hrel, hv⟩ := append_nil_core (ty := ty) hr hinf (xv := a.eval x) (yv := a.eval y) h1 (by rw [h2]; exact hsrc) hpart hd' (St.fresh_lt hd) hm hfit h63
    exact ⟨v, w', ι', by simp [execOp, resolve, invoke, builtin, hrun], hrel, hv⟩
theorem K.appendNil {d k2 m sz by_ : Nat} {t tx e e2 : TypeId} {x y : Operand} {ty : TypeId} {pos : String} {after_ : Array Edge} {g : Option (Nat × Bool)} {l2 : List CV} {b2 : Box}
    (hx : (⟨s, bx, X⟩ : St).ev x = some (.sv (.one (.val (.slice none 0 0))))) (hy : (⟨s, bx, X⟩ : St).ev y = some (.sv (.one (.slc k2 0 m sz)))) (hk2 : (⟨s, bx, X⟩ : St).stat k2 = some (some b2)) (hm2 : m * sz ≤ b2.cells.length) (hl2 : b2.cells.take (m * sz) = l2) (hso : l2.all CV.solid = true) (hm : 1 ≤ m)
    (hinf : slcInfo P t = some (e, sz, by_)) (htx : P.underlying tx = some (.slice e2)) (hfit : m * by_ ≤ 140737488355328) (h63 : m < 9223372036854775808) (hd : (⟨s, bx, X⟩ : St).fresh d = true) (hw : Want ops s g)
    (kont : RunK P n ops os ⟨(d, .sv (.one (.slc d 0 m sz))) :: s, (d, some ⟨e, l2, true⟩) :: bx, X⟩ (⟨[(d, .sv (.one (.slc d 0 m sz)))], [k2], [(d, some ⟨e, l2, true⟩)]⟩ :: acc) K) :
    RunK P n ops (⟨some d, .call ⟨.builtin .append, #[x, y], #[t, tx]⟩, ty, pos, after_, g⟩ :: os) ⟨s, bx, X⟩ acc K := RunK.gen hw (LOK.appendNil hx hy hk2 hm2 hl2 hso hm hinf htx hfit h63 hd) kont
end
end Go.Lg
end
