/- A piece of a proof over this program: contracts of its functions, and a logic to prove them by. -/
import Derived.Test.YtfmohdliifmmfaaF4
import Derived.Test.YtfmohdliifmmfaaLg19
namespace Go.Proofs.Ytfmohdliifmmfaa
open Go Go.Lg Go.Lg.Fld
set_option maxRecDepth 100000
variable (X : Nat → Option Obj)
/-- the cells of a number -/
abbrev cI (b : Bool) (n : Int) : List CV := [.val (.bool b), .val (.int .u64 (n / 18446744073709551616)), .val (.int .u64 (n % 18446744073709551616))]
set_option maxHeartbeats 1600000 in
theorem fawake_spec : PSpec Try.prog X 8 [] (Lb true) := by
  have o1 := Of_spec X (-2) (by omega)
  have o2 := Of_spec X 256 (by omega)
  have p1 : PSpec Try.prog X 17 [Ln .i64 3, LQ (-2)] (.tup [Ss [254, 255], Sn .i64 0]) := by
    have h := Put_q X 3 (-2) (by decide) (by decide)
    rw [show leB (kW 3) (wdK 3 (-2)) = [254, 255] by decide] at h
    exact h
  have g1 : PSpec Try.prog X 23 [Ln .i64 3, Ls [254, 255]] (.tup [SQ (-2), Sn .i64 0]) := by
    have h := Get_q X 3 [254, 255] (by decide) (by decide)
    rw [show nbK 3 (le [254, 255]) = -2 by decide, if_pos (by decide)] at h
    exact h
  have g2 : PSpec Try.prog X 23 [Ln .i64 1, Ls [2]] (.tup [S0, Sn .i64 4]) := by
    have h := Get_q X 1 [2] (by decide) (by decide)
    rw [if_neg (by decide)] at h
    exact h
  have n1 : PSpec Try.prog X 25 [Ls [117, 51, 50]] (.tup [Sn .i64 8, Sb true]) := by
    have h := Named_spec X [117, 51, 50]
    rw [show named [117, 51, 50] = 8 by decide] at h
    exact h
  have s1 := fSize_spec X 10
  have m1 := fName_spec X 2
  rw [show kW 10 = 8 by decide] at s1
  rw [show kN 2 = [105, 56] by decide] at m1
  have f1 := Fits_q X 6 256 (by decide) (by unfold R127; omega) false (by decide)
  refine PSpec.intro Try.func8 rfl (by kernel_rfl) rfl rfl ?_
  intro C
  (refine LWP.seq <| LWP.region (by kernel_rfl) <| kas rfl <| RunK.nil <| LWP.seq <| LWP.region (by kernel_rfl) <| kca rfl rfl o1 <| kca rfl rfl (p1) <| kmv rfl <| kex rfl rfl <| kex rfl rfl <| kas rfl <| kas rfl <| RunK.nil ?_; refine LWP.seq <| LWP.region (by kernel_rfl) <| kca rfl rfl g1 <| kmv rfl <| kex rfl rfl <| kex rfl rfl <| K.alloc rfl .plain ?_; refine K.storeAll rfl rfl rfl rfl rfl rfl .plain ?_; refine kas rfl <| RunK.nil <| LWP.seq <| LWP.region (by kernel_rfl) <| kca rfl rfl g2 <| kmv rfl <| kex rfl rfl <| kex rfl rfl <| K.alloc rfl .plain ?_; refine K.storeAll rfl rfl rfl rfl rfl rfl .plain ?_; refine kas rfl <| RunK.nil <| LWP.seq <| LWP.region (by kernel_rfl) <| kca rfl rfl (n1) <| kmv rfl <| kex rfl rfl <| kex rfl rfl <| kas rfl <| kas rfl <| RunK.nil <| LWP.seq <| LWP.draws mixed (by kernel_rfl) <| kmv rfl ?_; refine keq rfl rfl (beq_iff_eq.2 (by omega)) <| kmv rfl <| gmv rfl rfl rfl <| K.strEq rfl rfl (strs_eq (r := true) (by decide)) (.taken rfl rfl) ?_; refine kpt rfl rfl <| kmv rfl <| gmv rfl rfl rfl <| K.eql rfl rfl (beq_iff_eq.2 (by omega)) (.taken rfl rfl) ?_; refine kpt rfl rfl <| kmv rfl <| K.loadAll rfl rfl rfl (.taken rfl rfl) ?_; refine gca rfl rfl o1 rfl rfl <| K.aggEq rfl rfl rfl rfl (by kernel_rfl) (eqQ (-2) (-2) true (by decide)) (.inl ⟨rfl, rfl⟩) (.taken rfl rfl) ?_; refine kpt rfl rfl <| kmv rfl <| gmv rfl rfl rfl <| K.eql rfl rfl (beq_iff_eq.2 (by omega)) (.taken rfl rfl) ?_; refine kpt rfl rfl <| kmv rfl <| gmv rfl rfl rfl <| kpt rfl rfl <| kmv rfl <| gmv rfl rfl rfl <| K.eql rfl rfl (beq_iff_eq.2 (by omega)) (.taken rfl rfl) ?_; refine kpt rfl rfl <| kmv rfl <| gca rfl rfl (s1) rfl rfl <| K.eql rfl rfl (beq_iff_eq.2 (by omega)) (.taken rfl rfl) ?_; refine kpt rfl rfl <| kmv rfl <| gca rfl rfl o2 rfl rfl <| gca rfl rfl (f1) rfl rfl <| K.not rfl rfl (.taken rfl rfl) ?_; refine kpt rfl rfl <| kmv rfl <| gca rfl rfl (m1) rfl rfl <| K.strEq rfl rfl (strs_eq (r := true) (by decide)) (.taken rfl rfl) ?_; refine kpt rfl rfl <| kas rfl <| RunK.nil <| And.intro (by kernel_rfl) ?_; refine LWP.ret ?_)
  exact ⟨[_], ⟨rfl, trivial⟩, rfl⟩
theorem zero_fit (k : Int) : fitZ k 0 = true := by
  have := kfacts k
  rw [fitZ_iff]; omega
/-- what Clamp answers -/
def nearK (k : Int) (b : Bool) (N : Int) : Int := if formB b N = true then clampK k (zv b N) else 0
theorem near_fit (k : Int) (b : Bool) (N : Int) : fitZ k (nearK k b N) = true := by
  unfold nearK
  split
  · exact clamp_fit k _
  · exact zero_fit k
theorem S0_q : (.sv S0 : LV) = LQ 0 := rfl
theorem Clamp_any (k : Int) (b : Bool) (N : Int) (hN : In2 N) : PSpec Try.prog X 22 [Ln .i64 k, LI b N] (LQ (nearK k b N)) := by
  cases hf : formB b N with
  | true =>
    have h := Clamp_spec X k (zv b N) (zv_in hN hf).1
    rw [← LI_q hN hf] at h
    unfold nearK
    rw [if_pos hf]
    exact h
  | false =>
    have h := Clamp_bad X k b N hN hf
    have e : nearK k b N = 0 := by unfold nearK; rw [if_neg (by rw [hf]; simp)]
    rw [e, ← S0_q]
    exact h
theorem fit_more {k : Int} (h : 2 ≤ k ∧ k < 5 ∨ 6 ≤ k ∧ k < 9) (b : Bool) (N : Int) (hf : fitB k b N = true) : fitB (k + 1) b N = true := by
  have hk : kK (k + 1) = true := by rw [kK_iff]; omega
  simp only [fitB, Bool.and_eq_true, fitZ_iff] at hf ⊢
  refine ⟨hk, hf.2.1, ?_⟩
  have : kB k ≤ kB (k + 1) ∧ kA k ≤ kA (k + 1) := by
    have hc : k = 2 ∨ k = 3 ∨ k = 4 ∨ k = 6 ∨ k = 7 ∨ k = 8 := by omega
    rcases hc with rfl | rfl | rfl | rfl | rfl | rfl <;> decide
  omega
theorem fit_less {k : Int} (h : 6 ≤ k ∧ k < 9) (b : Bool) (N : Int) (hf : fitB k b N = true) : fitB (k - 3) b N = true := by
  have hk : kK (k - 3) = true := by rw [kK_iff]; omega
  simp only [fitB, Bool.and_eq_true, fitZ_iff] at hf ⊢
  refine ⟨hk, hf.2.1, ?_⟩
  have : kB k ≤ kB (k - 3) ∧ kA k ≤ kA (k - 3) := by
    have hc : k = 6 ∨ k = 7 ∨ k = 8 := by omega
    rcases hc with rfl | rfl | rfl <;> decide
  omega
theorem clamp_mono (k : Int) {x y : Int} (h : x ≤ y) : clampK k x ≤ clampK k y := by
  have := kfacts k
  unfold clampK
  (repeat' split) <;> omega
set_option maxHeartbeats 3200000 in
theorem order_law (k : Int) (a b : Bool) (M N : Int) (hk : -9223372036854775808 ≤ k ∧ k < 9223372036854775808) (hM : In2 M) (hN : In2 N) : PSpec Try.prog X 6 [Ln .i64 k, LI a M, LI b N] (Lb true) := by
  have hw := fawake_spec X
  have hF := Fits_spec X k a M hM
  have hF1 := Fits_spec X (k + 1) a M hM
  have hF3 := Fits_spec X (k - 3) a M hM
  refine PSpec.intro Try.func6 rfl (by kernel_rfl) rfl rfl ?_
  intro C
  (refine LWP.seq <| LWP.region (by kernel_rfl) <| K.box rfl rfl rfl .plain <| K.box rfl rfl rfl .plain <| kas rfl <| RunK.nil <| LWP.seq <| LWP.seq <| LWP.region (by kernel_rfl) <| kca rfl rfl (hw) <| K.not rfl rfl .plain <| RunK.nil <| LWP.condF rfl ?_; refine LWP.skip ?_; refine LWP.seq <| LWP.seq ?_)
  refine LWP.cut (fun σ => σ = ⟨[(0, Ln .i64 k), (4, .sv (.one (.ptr 4 0))), (5, .sv (.one (.ptr 5 0)))], [(4, some { elem := 25, cells := cI a M }), (5, some { elem := 25, cells := cI b N })], X⟩) ?_ ?_
  · by_cases h : 2 ≤ k ∧ k < 5 ∨ 6 ≤ k ∧ k < 9
    · cases hf : fitB k a M with
      | true =>
        have hF' := hF true hf
        have hF1' := hF1 true (fit_more h a M hf)
        rcases h with h | h
        · obtain ⟨g1, g2⟩ := h
          (refine LWP.region (by kernel_rfl) <| kmv rfl <| K.geq rfl rfl (decide_eq_true (by omega)) .plain <| kmv rfl <| gmv rfl rfl rfl <| K.lss rfl rfl (decide_eq_true (by omega)) (.taken rfl rfl) ?_; refine kpt rfl rfl <| kmv rfl <| RunK.passed rfl rfl rfl <| RunK.passed rfl rfl rfl <| RunK.passed rfl rfl rfl <| RunK.passedU rfl rfl <| RunK.passedU rfl rfl <| RunK.passed rfl rfl rfl <| kpt rfl rfl <| kmv rfl <| gmv rfl rfl rfl <| K.loadAll rfl rfl rfl (.taken rfl rfl) ?_; refine gca rfl rfl hF' rfl rfl <| kpt rfl rfl <| kmv rfl <| gmv rfl rfl rfl <| K.add rfl rfl (wrap_i64 (by omega)) (.taken rfl rfl) ?_; refine K.loadAll rfl rfl rfl (.taken rfl rfl) ?_; refine gca rfl rfl hF1' rfl rfl <| K.not rfl rfl (.taken rfl rfl) ?_; refine kpt rfl rfl <| RunK.nil <| LWP.condF rfl ?_; refine LWP.skip ?_)
          exact ⟨_, Le.of (by exact ⟨rfl, rfl, rfl, trivial⟩) (by exact ⟨rfl, rfl, trivial⟩) (by exact rfl) (by exact rfl) (by exact rfl), rfl⟩
        · obtain ⟨g1, g2⟩ := h
          (refine LWP.region (by kernel_rfl) <| kmv rfl <| K.geq rfl rfl (decide_eq_true (by omega)) .plain <| kmv rfl <| gmv rfl rfl rfl <| K.lss rfl rfl (decide_eq_false (by omega)) (.taken rfl rfl) ?_; refine kpt rfl rfl <| kmv rfl <| gmv rfl rfl rfl <| K.geq rfl rfl (decide_eq_true (by omega)) (.taken rfl rfl) ?_; refine gmv rfl rfl rfl <| gmv rfl rfl rfl <| K.lss rfl rfl (decide_eq_true (by omega)) (.taken rfl rfl) ?_; refine K.pickT rfl rfl (.taken rfl rfl) ?_; refine kpf rfl rfl <| kmv rfl <| gmv rfl rfl rfl <| K.loadAll rfl rfl rfl (.taken rfl rfl) ?_; refine gca rfl rfl hF' rfl rfl <| kpt rfl rfl <| kmv rfl <| gmv rfl rfl rfl <| K.add rfl rfl (wrap_i64 (by omega)) (.taken rfl rfl) ?_; refine K.loadAll rfl rfl rfl (.taken rfl rfl) ?_; refine gca rfl rfl hF1' rfl rfl <| K.not rfl rfl (.taken rfl rfl) ?_; refine kpt rfl rfl <| RunK.nil <| LWP.condF rfl ?_; refine LWP.skip ?_)
          exact ⟨_, Le.of (by exact ⟨rfl, rfl, rfl, trivial⟩) (by exact ⟨rfl, rfl, trivial⟩) (by exact rfl) (by exact rfl) (by exact rfl), rfl⟩
      | false =>
        have hF' := hF false hf
        rcases h with h | h
        · obtain ⟨g1, g2⟩ := h
          (refine LWP.region (by kernel_rfl) <| kmv rfl <| K.geq rfl rfl (decide_eq_true (by omega)) .plain <| kmv rfl <| gmv rfl rfl rfl <| K.lss rfl rfl (decide_eq_true (by omega)) (.taken rfl rfl) ?_; refine kpt rfl rfl <| kmv rfl <| RunK.passed rfl rfl rfl <| RunK.passed rfl rfl rfl <| RunK.passed rfl rfl rfl <| RunK.passedU rfl rfl <| RunK.passedU rfl rfl <| RunK.passed rfl rfl rfl <| kpt rfl rfl <| kmv rfl <| gmv rfl rfl rfl <| K.loadAll rfl rfl rfl (.taken rfl rfl) ?_; refine gca rfl rfl (hF') rfl rfl <| kpt rfl rfl <| kmv rfl <| RunK.passed rfl rfl rfl <| RunK.passed rfl rfl rfl <| RunK.passed rfl rfl rfl <| RunK.passed rfl rfl rfl <| RunK.passed rfl rfl rfl <| kpf rfl rfl <| RunK.nil <| LWP.condF rfl ?_; refine LWP.skip ?_)
          exact ⟨_, Le.of (by exact ⟨rfl, rfl, rfl, trivial⟩) (by exact ⟨rfl, rfl, trivial⟩) (by exact rfl) (by exact rfl) (by exact rfl), rfl⟩
        · obtain ⟨g1, g2⟩ := h
          (refine LWP.region (by kernel_rfl) <| kmv rfl <| K.geq rfl rfl (decide_eq_true (by omega)) .plain <| kmv rfl <| gmv rfl rfl rfl <| K.lss rfl rfl (decide_eq_false (by omega)) (.taken rfl rfl) ?_; refine kpt rfl rfl <| kmv rfl <| gmv rfl rfl rfl <| K.geq rfl rfl (decide_eq_true (by omega)) (.taken rfl rfl) ?_; refine gmv rfl rfl rfl <| gmv rfl rfl rfl <| K.lss rfl rfl (decide_eq_true (by omega)) (.taken rfl rfl) ?_; refine K.pickT rfl rfl (.taken rfl rfl) ?_; refine kpf rfl rfl <| kmv rfl <| gmv rfl rfl rfl <| K.loadAll rfl rfl rfl (.taken rfl rfl) ?_; refine gca rfl rfl (hF') rfl rfl <| kpt rfl rfl <| kmv rfl <| RunK.passed rfl rfl rfl <| RunK.passed rfl rfl rfl <| RunK.passed rfl rfl rfl <| RunK.passed rfl rfl rfl <| RunK.passed rfl rfl rfl <| kpf rfl rfl <| RunK.nil <| LWP.condF rfl ?_; refine LWP.skip ?_)
          exact ⟨_, Le.of (by exact ⟨rfl, rfl, rfl, trivial⟩) (by exact ⟨rfl, rfl, trivial⟩) (by exact rfl) (by exact rfl) (by exact rfl), rfl⟩
    · by_cases h2 : 2 ≤ k
      · by_cases h6 : 6 ≤ k
        · (refine LWP.region (by kernel_rfl) <| kmv rfl <| K.geq rfl rfl (decide_eq_true (by omega)) .plain <| kmv rfl <| gmv rfl rfl rfl <| K.lss rfl rfl (decide_eq_false (by omega)) (.taken rfl rfl) ?_; refine kpt rfl rfl <| kmv rfl <| gmv rfl rfl rfl <| K.geq rfl rfl (decide_eq_true (by omega)) (.taken rfl rfl) ?_; refine gmv rfl rfl rfl <| gmv rfl rfl rfl <| K.lss rfl rfl (decide_eq_false (by omega)) (.taken rfl rfl) ?_; refine K.pickT rfl rfl (.taken rfl rfl) ?_; refine kpf rfl rfl <| kmv rfl <| RunK.passed rfl rfl rfl <| RunK.passed rfl rfl rfl <| RunK.passed rfl rfl rfl <| kpf rfl rfl <| kmv rfl <| RunK.passed rfl rfl rfl <| RunK.passed rfl rfl rfl <| RunK.passed rfl rfl rfl <| RunK.passed rfl rfl rfl <| RunK.passed rfl rfl rfl <| kpf rfl rfl <| RunK.nil ?_; refine LWP.condF rfl ?_; refine LWP.skip ?_)
          exact ⟨_, Le.of (by exact ⟨rfl, rfl, rfl, trivial⟩) (by exact ⟨rfl, rfl, trivial⟩) (by exact rfl) (by exact rfl) (by exact rfl), rfl⟩
        · (refine LWP.region (by kernel_rfl) <| kmv rfl <| K.geq rfl rfl (decide_eq_true (by omega)) .plain <| kmv rfl <| gmv rfl rfl rfl <| K.lss rfl rfl (decide_eq_false (by omega)) (.taken rfl rfl) ?_; refine kpt rfl rfl <| kmv rfl <| gmv rfl rfl rfl <| K.geq rfl rfl (decide_eq_false (by omega)) (.taken rfl rfl) ?_; refine gmv rfl rfl rfl <| RunK.passed rfl rfl rfl <| RunK.passed rfl rfl rfl <| K.pickF rfl rfl (.taken rfl rfl) ?_; refine kpf rfl rfl <| kmv rfl <| RunK.passed rfl rfl rfl <| RunK.passed rfl rfl rfl <| RunK.passed rfl rfl rfl <| kpf rfl rfl <| kmv rfl <| RunK.passed rfl rfl rfl <| RunK.passed rfl rfl rfl <| RunK.passed rfl rfl rfl <| RunK.passed rfl rfl rfl <| RunK.passed rfl rfl rfl <| kpf rfl rfl <| RunK.nil ?_; refine LWP.condF rfl ?_; refine LWP.skip ?_)
          exact ⟨_, Le.of (by exact ⟨rfl, rfl, rfl, trivial⟩) (by exact ⟨rfl, rfl, trivial⟩) (by exact rfl) (by exact rfl) (by exact rfl), rfl⟩
      · (refine LWP.region (by kernel_rfl) <| kmv rfl <| K.geq rfl rfl (decide_eq_false (by omega)) .plain <| kmv rfl <| RunK.passed rfl rfl rfl <| RunK.passed rfl rfl rfl <| kpf rfl rfl <| kmv rfl <| gmv rfl rfl rfl <| K.geq rfl rfl (decide_eq_false (by omega)) (.taken rfl rfl) ?_; refine gmv rfl rfl rfl <| RunK.passed rfl rfl rfl <| RunK.passed rfl rfl rfl <| K.pickF rfl rfl (.taken rfl rfl) ?_; refine kpf rfl rfl <| kmv rfl <| RunK.passed rfl rfl rfl <| RunK.passed rfl rfl rfl <| RunK.passed rfl rfl rfl <| kpf rfl rfl <| kmv rfl <| RunK.passed rfl rfl rfl <| RunK.passed rfl rfl rfl <| RunK.passed rfl rfl rfl <| RunK.passed rfl rfl rfl <| RunK.passed rfl rfl rfl <| kpf rfl rfl <| RunK.nil ?_; refine LWP.condF rfl ?_; refine LWP.skip ?_)
        exact ⟨_, Le.of (by exact ⟨rfl, rfl, rfl, trivial⟩) (by exact ⟨rfl, rfl, trivial⟩) (by exact rfl) (by exact rfl) (by exact rfl), rfl⟩
  rintro σ rfl
  (refine LWP.seq <| LWP.seq ?_)
  refine LWP.cut (fun σ => σ = ⟨[(0, Ln .i64 k), (4, .sv (.one (.ptr 4 0))), (5, .sv (.one (.ptr 5 0)))], [(4, some { elem := 25, cells := cI a M }), (5, some { elem := 25, cells := cI b N })], X⟩) ?_ ?_
  · by_cases h6 : 6 ≤ k
    · by_cases h9 : k < 9
      · cases hf : fitB k a M with
        | true =>
          have hF' := hF true hf
          have hF3' := hF3 true (fit_less ⟨h6, h9⟩ a M hf)
          (refine LWP.region (by kernel_rfl) <| kmv rfl <| K.geq rfl rfl (decide_eq_true (by omega)) .plain <| kmv rfl <| gmv rfl rfl rfl <| K.lss rfl rfl (decide_eq_true (by omega)) (.taken rfl rfl) ?_; refine kpt rfl rfl <| kmv rfl <| gmv rfl rfl rfl <| K.loadAll rfl rfl rfl (.taken rfl rfl) ?_; refine gca rfl rfl hF' rfl rfl <| kpt rfl rfl <| kmv rfl <| gmv rfl rfl rfl <| K.sub rfl rfl (wrap_i64 (by omega)) (.taken rfl rfl) ?_; refine K.loadAll rfl rfl rfl (.taken rfl rfl) ?_; refine gca rfl rfl hF3' rfl rfl <| K.not rfl rfl (.taken rfl rfl) ?_; refine kpt rfl rfl <| RunK.nil <| LWP.condF rfl ?_; refine LWP.skip ?_)
          exact ⟨_, Le.of (by exact ⟨rfl, rfl, rfl, trivial⟩) (by exact ⟨rfl, rfl, trivial⟩) (by exact rfl) (by exact rfl) (by exact rfl), rfl⟩
        | false =>
          have hF' := hF false hf
          (refine LWP.region (by kernel_rfl) <| kmv rfl <| K.geq rfl rfl (decide_eq_true (by omega)) .plain <| kmv rfl <| gmv rfl rfl rfl <| K.lss rfl rfl (decide_eq_true (by omega)) (.taken rfl rfl) ?_; refine kpt rfl rfl <| kmv rfl <| gmv rfl rfl rfl <| K.loadAll rfl rfl rfl (.taken rfl rfl) ?_; refine gca rfl rfl (hF') rfl rfl <| kpt rfl rfl <| kmv rfl <| RunK.passed rfl rfl rfl <| RunK.passed rfl rfl rfl <| RunK.passed rfl rfl rfl <| RunK.passed rfl rfl rfl <| RunK.passed rfl rfl rfl <| kpf rfl rfl <| RunK.nil <| LWP.condF rfl ?_; refine LWP.skip ?_)
          exact ⟨_, Le.of (by exact ⟨rfl, rfl, rfl, trivial⟩) (by exact ⟨rfl, rfl, trivial⟩) (by exact rfl) (by exact rfl) (by exact rfl), rfl⟩
      · (refine LWP.region (by kernel_rfl) <| kmv rfl <| K.geq rfl rfl (decide_eq_true (by omega)) .plain <| kmv rfl <| gmv rfl rfl rfl <| K.lss rfl rfl (decide_eq_false (by omega)) (.taken rfl rfl) ?_; refine kpt rfl rfl <| kmv rfl <| RunK.passed rfl rfl rfl <| RunK.passed rfl rfl rfl <| RunK.passed rfl rfl rfl <| kpf rfl rfl <| kmv rfl <| RunK.passed rfl rfl rfl <| RunK.passed rfl rfl rfl <| RunK.passed rfl rfl rfl <| RunK.passed rfl rfl rfl <| RunK.passed rfl rfl rfl <| kpf rfl rfl <| RunK.nil ?_; refine LWP.condF rfl ?_; refine LWP.skip ?_)
        exact ⟨_, Le.of (by exact ⟨rfl, rfl, rfl, trivial⟩) (by exact ⟨rfl, rfl, trivial⟩) (by exact rfl) (by exact rfl) (by exact rfl), rfl⟩
    · (refine LWP.region (by kernel_rfl) <| kmv rfl <| K.geq rfl rfl (decide_eq_false (by omega)) .plain <| kmv rfl <| RunK.passed rfl rfl rfl <| RunK.passed rfl rfl rfl <| kpf rfl rfl <| kmv rfl <| RunK.passed rfl rfl rfl <| RunK.passed rfl rfl rfl <| RunK.passed rfl rfl rfl <| kpf rfl rfl <| kmv rfl <| RunK.passed rfl rfl rfl ?_; refine RunK.passed rfl rfl rfl <| RunK.passed rfl rfl rfl <| RunK.passed rfl rfl rfl <| RunK.passed rfl rfl rfl <| kpf rfl rfl <| RunK.nil <| LWP.condF rfl ?_; refine LWP.skip ?_)
      exact ⟨_, Le.of (by exact ⟨rfl, rfl, rfl, trivial⟩) (by exact ⟨rfl, rfl, trivial⟩) (by exact rfl) (by exact rfl) (by exact rfl), rfl⟩
  rintro σ rfl
  have hS := fSize_spec X k
  by_cases h0 : kW k = 0
  · rw [h0] at hS
    (refine LWP.seq <| LWP.draws mixed (by kernel_rfl) <| kmv rfl <| kca rfl rfl (hS) <| keq rfl rfl (beq_iff_eq.2 (by omega)) <| kmv rfl <| RunK.passed rfl rfl rfl <| RunK.passed rfl rfl rfl <| RunK.passed rfl rfl rfl <| kpt rfl rfl <| kmv rfl <| RunK.passed rfl rfl rfl <| RunK.passed rfl rfl rfl <| RunK.passed rfl rfl rfl ?_; refine kpt rfl rfl <| kmv rfl <| RunK.passed rfl rfl rfl <| RunK.passed rfl rfl rfl <| RunK.passed rfl rfl rfl <| RunK.passed rfl rfl rfl <| kpt rfl rfl <| kmv rfl <| RunK.passed rfl rfl rfl <| RunK.passed rfl rfl rfl <| RunK.passed rfl rfl rfl <| RunK.passed rfl rfl rfl <| RunK.passed rfl rfl rfl <| RunK.passed rfl rfl rfl ?_; refine RunK.passed rfl rfl rfl <| RunK.passed rfl rfl rfl <| kpt rfl rfl <| kas rfl <| RunK.nil <| And.intro (by kernel_rfl) ?_; refine LWP.ret ?_)
    exact ⟨[_], ⟨rfl, trivial⟩, rfl⟩
  · cases hfa : formB a M with
    | false =>
      have g1 := Form_spec X a M hM false hfa
      (refine LWP.seq <| LWP.draws mixed (by kernel_rfl) <| kmv rfl <| kca rfl rfl (hS) <| keq rfl rfl (beq_eq_false_iff_ne.2 (by omega)) <| kmv rfl <| K.loadAll rfl rfl rfl (.taken rfl rfl) ?_; refine gca rfl rfl (g1) rfl rfl <| K.not rfl rfl (.taken rfl rfl) ?_; refine kpf rfl rfl <| kmv rfl <| RunK.passed rfl rfl rfl <| RunK.passed rfl rfl rfl <| RunK.passed rfl rfl rfl <| kpt rfl rfl <| kmv rfl <| RunK.passed rfl rfl rfl <| RunK.passed rfl rfl rfl <| RunK.passed rfl rfl rfl <| RunK.passed rfl rfl rfl <| kpt rfl rfl <| kmv rfl <| RunK.passed rfl rfl rfl ?_; refine RunK.passed rfl rfl rfl <| RunK.passed rfl rfl rfl <| RunK.passed rfl rfl rfl <| RunK.passed rfl rfl rfl <| RunK.passed rfl rfl rfl <| RunK.passed rfl rfl rfl <| RunK.passed rfl rfl rfl <| kpt rfl rfl <| kas rfl <| RunK.nil <| And.intro (by kernel_rfl) ?_; refine LWP.ret ?_)
      exact ⟨[_], ⟨rfl, trivial⟩, rfl⟩
    | true =>
      have g1 := Form_spec X a M hM true hfa
      cases hfb : formB b N with
      | false =>
        have g2 := Form_spec X b N hN false hfb
        (refine LWP.seq <| LWP.draws mixed (by kernel_rfl) <| kmv rfl <| kca rfl rfl (hS) <| keq rfl rfl (beq_eq_false_iff_ne.2 (by omega)) <| kmv rfl <| K.loadAll rfl rfl rfl (.taken rfl rfl) ?_; refine gca rfl rfl g1 rfl rfl <| K.not rfl rfl (.taken rfl rfl) ?_; refine kpf rfl rfl <| kmv rfl <| K.loadAll rfl rfl rfl (.taken rfl rfl) ?_; refine gca rfl rfl g2 rfl rfl <| K.not rfl rfl (.taken rfl rfl) ?_; refine kpf rfl rfl <| kmv rfl <| RunK.passed rfl rfl rfl <| RunK.passed rfl rfl rfl <| RunK.passed rfl rfl rfl <| RunK.passed rfl rfl rfl <| kpt rfl rfl <| kmv rfl <| RunK.passed rfl rfl rfl <| RunK.passed rfl rfl rfl <| RunK.passed rfl rfl rfl <| RunK.passed rfl rfl rfl <| RunK.passed rfl rfl rfl <| RunK.passed rfl rfl rfl ?_; refine RunK.passed rfl rfl rfl <| RunK.passed rfl rfl rfl <| kpt rfl rfl <| kas rfl <| RunK.nil <| And.intro (by kernel_rfl) ?_; refine LWP.ret ?_)
        exact ⟨[_], ⟨rfl, trivial⟩, rfl⟩
      | true =>
        have g2 := Form_spec X b N hN true hfb
        have r1 := (zv_in hM hfa).1
        have r2 := (zv_in hN hfb).1
        have e1 := LI_q hM hfa
        have e2 := LI_q hN hfb
        have k1 := Clamp_spec X k (zv a M) r1
        have k2 := Clamp_spec X k (zv b N) r2
        obtain ⟨c, hc, c1, c2, c3⟩ : ∃ c, cmpI (zv a M) (zv b N) = c ∧ (zv a M < zv b N → c = -1) ∧ (zv a M = zv b N → c = 0) ∧ (zv b N < zv a M → c = 1) := by
          refine ⟨_, rfl, ?_, ?_, ?_⟩ <;> intro h <;> unfold cmpI
          · rw [if_pos h]
          · rw [if_neg (by omega), if_neg (by omega)]
          · rw [if_neg (by omega), if_pos h]
        have hC := Cmp_q X (zv a M) (zv b N) r1 r2 c hc
        rw [← e1, ← e2] at hC
        rw [← e1] at k1
        rw [← e2] at k2
        by_cases hlt : zv b N < zv a M
        · have hc1 : c = 1 := c3 hlt
          (refine LWP.seq <| LWP.draws mixed (by kernel_rfl) <| kmv rfl <| kca rfl rfl (hS) <| keq rfl rfl (beq_eq_false_iff_ne.2 (by omega)) <| kmv rfl <| K.loadAll rfl rfl rfl (.taken rfl rfl) ?_; refine gca rfl rfl g1 rfl rfl <| K.not rfl rfl (.taken rfl rfl) ?_; refine kpf rfl rfl <| kmv rfl <| K.loadAll rfl rfl rfl (.taken rfl rfl) ?_; refine gca rfl rfl g2 rfl rfl <| K.not rfl rfl (.taken rfl rfl) ?_; refine kpf rfl rfl <| kmv rfl <| K.loadAll rfl rfl rfl (.taken rfl rfl) ?_; refine K.loadAll rfl rfl rfl (.taken rfl rfl) ?_; refine gca rfl rfl hC rfl rfl <| K.gtr rfl rfl (decide_eq_true (by omega)) (.taken rfl rfl) ?_; refine kpf rfl rfl <| kmv rfl <| RunK.passed rfl rfl rfl <| RunK.passed rfl rfl rfl <| RunK.passed rfl rfl rfl <| RunK.passed rfl rfl rfl <| RunK.passed rfl rfl rfl <| RunK.passed rfl rfl rfl <| RunK.passed rfl rfl rfl <| RunK.passed rfl rfl rfl <| kpt rfl rfl <| kas rfl <| RunK.nil <| And.intro (by kernel_rfl) ?_; refine LWP.ret ?_)
          exact ⟨[_], ⟨rfl, trivial⟩, rfl⟩
        · have hc1 : c ≤ 0 := by rcases Int.lt_trichotomy (zv a M) (zv b N) with h | h | h <;> omega
          have hm := clamp_mono k (Int.not_lt.1 hlt)
          obtain ⟨d, hd0, hd⟩ : ∃ d : Int, d ≤ 0 ∧ cmpI (clampK k (zv a M)) (clampK k (zv b N)) = d := ⟨_, (by unfold cmpI; rw [if_neg (Int.not_lt.2 hm)]; split <;> decide), rfl⟩
          have hD := Cmp_q X _ _ (clamp_R k (zv a M)) (clamp_R k (zv b N)) d hd
          (refine LWP.seq <| LWP.draws mixed (by kernel_rfl) <| kmv rfl <| kca rfl rfl (hS) <| keq rfl rfl (beq_eq_false_iff_ne.2 (by omega)) <| kmv rfl <| K.loadAll rfl rfl rfl (.taken rfl rfl) ?_; refine gca rfl rfl g1 rfl rfl <| K.not rfl rfl (.taken rfl rfl) ?_; refine kpf rfl rfl <| kmv rfl <| K.loadAll rfl rfl rfl (.taken rfl rfl) ?_; refine gca rfl rfl g2 rfl rfl <| K.not rfl rfl (.taken rfl rfl) ?_; refine kpf rfl rfl <| kmv rfl <| K.loadAll rfl rfl rfl (.taken rfl rfl) ?_; refine K.loadAll rfl rfl rfl (.taken rfl rfl) ?_; refine gca rfl rfl hC rfl rfl <| K.gtr rfl rfl (decide_eq_false (by omega)) (.taken rfl rfl) ?_; refine kpf rfl rfl <| kmv rfl <| gmv rfl rfl rfl <| K.loadAll rfl rfl rfl (.taken rfl rfl) ?_; refine gca rfl rfl k1 rfl rfl <| gmv rfl rfl rfl <| K.loadAll rfl rfl rfl (.taken rfl rfl) ?_; refine gca rfl rfl k2 rfl rfl <| gca rfl rfl hD rfl rfl <| K.leq rfl rfl (decide_eq_true (by omega)) (.taken rfl rfl) ?_; refine kpf rfl rfl <| kas rfl <| RunK.nil <| And.intro (by kernel_rfl) ?_; refine LWP.ret ?_)
          exact ⟨[_], ⟨rfl, trivial⟩, rfl⟩
end Go.Proofs.Ytfmohdliifmmfaa
