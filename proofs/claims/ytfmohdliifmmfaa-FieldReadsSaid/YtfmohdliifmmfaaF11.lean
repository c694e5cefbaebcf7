/- A piece of a proof over this program: contracts of its functions, and a logic to prove them by. -/
import Derived.Test.YtfmohdliifmmfaaF10
namespace Go.Proofs.Ytfmohdliifmmfaa
open Go Go.Lg Go.Lg.Fld
set_option maxRecDepth 100000
variable (X : Nat → Option Obj)
theorem SQ_zero : S0 = SQ 0 := rfl
/-- what the two Gets answer -/
theorem get_both (k : Int) (l : List UInt8) (hl : l.length ≤ 20) : ∃ (z e : Int) (ok : Bool), PSpec Try.prog X 23 [Ln .i64 k, Ls l] (.tup [SQ z, Sn .i64 e]) ∧ PSpec Try.prog X 24 [Ln .i64 k, Ls l] (.tup [SQ z, Sb ok]) ∧
    (ok = true ∧ e = 0 ∨ ok = false ∧ kW k = 0 ∧ e = 1 ∨ ok = false ∧ 0 < kW k ∧ e = 4) := by
  cases hk : kK k with
  | false =>
    have h0 := kW_no (knot hk)
    have g := Get_arg X k l hk
    have r := refGet_short X k l (by omega)
    rw [SQ_zero] at g r
    exact ⟨0, 1, false, g, r, .inr (.inl ⟨rfl, h0, rfl⟩)⟩
  | true =>
    have hk0 : kW k ≠ 0 := fun e => by rw [kW_zero] at e; rw [hk] at e; cases e
    by_cases hn : l.length = kW k
    · have g := Get_q X k l hk hn
      have r := refGet_q X k l hk hn
      unfold getR at r
      cases hf : fitZ k (nbK k (le l)) with
      | true =>
        rw [hf, if_pos rfl] at g r
        exact ⟨_, 0, true, g, r, .inl ⟨rfl, rfl⟩⟩
      | false =>
        rw [hf, if_neg (by simp), SQ_zero] at g r
        exact ⟨0, 4, false, g, r, .inr (.inr ⟨rfl, by omega, rfl⟩)⟩
    · have g := Get_len X k l hk (by omega) hn
      have r := refGet_short X k l (.inl hn)
      rw [SQ_zero] at g r
      exact ⟨0, 4, false, g, r, .inr (.inr ⟨rfl, by omega, rfl⟩)⟩
set_option maxHeartbeats 3200000 in
theorem freads_law (k : Int) (l n : List UInt8) : PSpec Try.prog X 4 [Ln .i64 k, Ls l, Ls n] (Lb true) := by
  have hw := fawake_spec X
  have hzl : (⟨l.toArray⟩ : ByteArray).size = l.length := rfl
  have hzn : (⟨n.toArray⟩ : ByteArray).size = n.length := rfl
  refine PSpec.intro Try.func4 rfl (by kernel_rfl) rfl rfl ?_
  intro C
  by_cases h1 : 20 < l.length
  · (refine LWP.seq <| LWP.region (by kernel_rfl) <| kas rfl <| RunK.nil <| LWP.seq <| LWP.seq <| LWP.region (by kernel_rfl) <| kca rfl rfl (hw) <| K.not rfl rfl .plain <| RunK.nil <| LWP.condF rfl ?_; refine LWP.skip ?_; refine LWP.seq <| LWP.seq <| LWP.region (by kernel_rfl) <| kmv rfl <| kln rfl <| K.gtr rfl rfl (decide_eq_true (by omega)) .plain <| kmv rfl <| RunK.passed rfl rfl rfl <| RunK.passed rfl rfl rfl <| RunK.passed rfl rfl rfl <| kpt rfl rfl <| RunK.nil <| LWP.condT rfl ?_; refine LWP.seq <| LWP.region (by kernel_rfl) <| kas rfl <| RunK.nil <| LWP.ret ?_)
    exact ⟨[_], ⟨rfl, trivial⟩, rfl⟩
  by_cases h2 : 20 < n.length
  · (refine LWP.seq <| LWP.region (by kernel_rfl) <| kas rfl <| RunK.nil <| LWP.seq <| LWP.seq <| LWP.region (by kernel_rfl) <| kca rfl rfl (hw) <| K.not rfl rfl .plain <| RunK.nil <| LWP.condF rfl ?_; refine LWP.skip ?_; refine LWP.seq <| LWP.seq <| LWP.region (by kernel_rfl) <| kmv rfl <| kln rfl <| K.gtr rfl rfl (decide_eq_false (by omega)) .plain <| kmv rfl <| gmv rfl rfl rfl <| K.lenStr rfl (.taken rfl rfl) ?_; refine K.gtr rfl rfl (decide_eq_true (by omega)) (.taken rfl rfl) ?_; refine kpf rfl rfl <| RunK.nil <| LWP.condT rfl ?_; refine LWP.seq <| LWP.region (by kernel_rfl) <| kas rfl <| RunK.nil <| LWP.ret ?_)
    exact ⟨[_], ⟨rfl, trivial⟩, rfl⟩
  obtain ⟨z, e, ok, hg, hr, hcase⟩ := get_both X k l (by omega)
  have hB := refBytes_spec X k
  have hsame : (ok != (e == 0)) = false := by
    rcases hcase with ⟨rfl, rfl⟩ | ⟨rfl, _, rfl⟩ | ⟨rfl, _, rfl⟩ <;> rfl
  (refine LWP.seq <| LWP.region (by kernel_rfl) <| kas rfl <| RunK.nil <| LWP.seq <| LWP.seq <| LWP.region (by kernel_rfl) <| kca rfl rfl (hw) <| K.not rfl rfl .plain <| RunK.nil <| LWP.condF rfl ?_; refine LWP.skip ?_; refine LWP.seq <| LWP.seq <| LWP.region (by kernel_rfl) <| kmv rfl <| kln rfl <| K.gtr rfl rfl (decide_eq_false (by omega)) .plain <| kmv rfl <| gmv rfl rfl rfl <| K.lenStr rfl (.taken rfl rfl) ?_; refine K.gtr rfl rfl (decide_eq_false (by omega)) (.taken rfl rfl) ?_; refine kpf rfl rfl <| RunK.nil <| LWP.condF rfl ?_; refine LWP.skip ?_; refine LWP.seq <| LWP.region (by kernel_rfl) <| kmv rfl <| kmv rfl <| kca rfl rfl (hg) <| kmv rfl <| kex rfl rfl <| kex rfl rfl <| K.alloc rfl .plain ?_; refine K.storeAll rfl rfl rfl rfl rfl rfl .plain ?_; refine kas rfl <| RunK.nil <| LWP.seq <| LWP.region (by kernel_rfl) <| kmv rfl <| kmv rfl <| kca rfl rfl (hr) <| kmv rfl <| kex rfl rfl <| kex rfl rfl <| K.alloc rfl .plain ?_; refine K.storeAll rfl rfl rfl rfl rfl rfl .plain ?_; refine kas rfl <| RunK.nil <| LWP.seq <| LWP.seq <| LWP.region (by kernel_rfl) <| K.loadAll rfl rfl rfl .plain ?_; refine K.loadAll rfl rfl rfl .plain ?_; refine K.aggEq rfl rfl rfl rfl (by kernel_rfl) (eqQ z z true (decide_eq_true rfl)) (.inr ⟨rfl, rfl⟩) .plain <| kmv rfl <| gmv rfl rfl rfl <| gmv rfl rfl rfl <| K.eql rfl rfl rfl (.taken rfl rfl) ?_; refine K.neqB rfl rfl hsame (.taken rfl rfl) ?_; refine kpf rfl rfl <| RunK.nil <| LWP.condF rfl ?_; refine LWP.skip ?_; refine LWP.seq <| LWP.seq ?_)
  refine LWP.cut (fun σ => σ = ⟨[(0, Ln .i64 k), (2, Ls n)], [], X⟩) ?_ ?_
  · rcases hcase with ⟨rfl, rfl⟩ | ⟨rfl, h0, rfl⟩ | ⟨rfl, h0, rfl⟩
    · (refine LWP.region (by kernel_rfl) <| kmv rfl <| K.not rfl rfl .plain <| RunK.nil <| LWP.condF rfl ?_; refine LWP.skip ?_)
      exact ⟨_, Le.of (by exact ⟨rfl, rfl, trivial⟩) (by exact trivial) (by exact rfl) (by exact rfl) (by exact rfl), rfl⟩
    · rw [h0] at hB
      (refine LWP.region (by kernel_rfl) <| kmv rfl <| K.not rfl rfl .plain <| RunK.nil <| LWP.condT rfl ?_; refine LWP.seq <| LWP.region (by kernel_rfl) <| kmv rfl <| kca rfl rfl (hB) <| keq rfl rfl (beq_iff_eq.2 (by omega)) <| kmv rfl <| gmv rfl rfl rfl <| K.neq rfl rfl ((bne_eq_false_iff_eq.2 (by omega))) (.taken rfl rfl) ?_; refine kpt rfl rfl <| kmv rfl <| gmv rfl rfl rfl <| gca rfl rfl (hB) rfl rfl <| K.gtr rfl rfl (decide_eq_false (by omega)) (.taken rfl rfl) ?_; refine gmv rfl rfl rfl <| RunK.passed rfl rfl rfl <| RunK.passed rfl rfl rfl <| K.pickF rfl rfl (.taken rfl rfl) ?_; refine kpf rfl rfl <| RunK.nil <| LWP.condF rfl ?_; refine LWP.skip ?_)
      exact ⟨_, Le.of (by exact ⟨rfl, rfl, trivial⟩) (by exact trivial) (by exact rfl) (by exact rfl) (by exact rfl), rfl⟩
    · (refine LWP.region (by kernel_rfl) <| kmv rfl <| K.not rfl rfl .plain <| RunK.nil <| LWP.condT rfl ?_; refine LWP.seq <| LWP.region (by kernel_rfl) <| kmv rfl <| kca rfl rfl (hB) <| keq rfl rfl (beq_eq_false_iff_ne.2 (by omega)) <| kmv rfl <| RunK.passed rfl rfl rfl <| RunK.passed rfl rfl rfl <| kpf rfl rfl <| kmv rfl <| gmv rfl rfl rfl <| gca rfl rfl (hB) rfl rfl <| K.gtr rfl rfl (decide_eq_true (by omega)) (.taken rfl rfl) ?_; refine gmv rfl rfl rfl <| gmv rfl rfl rfl <| K.neq rfl rfl ((bne_eq_false_iff_eq.2 (by omega))) (.taken rfl rfl) ?_; refine K.pickT rfl rfl (.taken rfl rfl) ?_; refine kpf rfl rfl <| RunK.nil <| LWP.condF rfl ?_; refine LWP.skip ?_)
      exact ⟨_, Le.of (by exact ⟨rfl, rfl, trivial⟩) (by exact trivial) (by exact rfl) (by exact rfl) (by exact rfl), rfl⟩
  rintro σ rfl
  clear hcase hsame hg hr
  have hN := Named_spec X n
  have hno : ∀ i : Int, kK i = true → kN i ≠ n → named n ≠ i := fun i hi hne e => hne (by
    subst e
    refine named_kN fun h => ?_
    rw [h] at hi
    cases hi)
  have hat : ∀ i : Int, kK i = true → kN i = n → named n = i := fun i hi h => named_at hi h
  have hle := named_le n
  generalize named n = d at *
  (refine LWP.seq <| LWP.region (by kernel_rfl) <| kas rfl <| RunK.nil <| LWP.seq <| LWP.seq <| LWP.region (by kernel_rfl) <| kas rfl <| RunK.nil <| LWP.block ?_)
  refine LWP.loop (fun m σ => ∃ (i : Nat) (wt : Int), 1 ≤ i ∧ i ≤ 11 ∧ m = 11 - i ∧ (d < i → wt = d) ∧ ((i : Int) ≤ d → wt = 0) ∧ σ = ⟨[(2, Ls n), (11, Ln .i64 wt), (12, Ln .i64 (i : Nat))], [], X⟩) 10
    ⟨_, Le.of (by exact ⟨rfl, rfl, rfl, trivial⟩) (by exact trivial) (by exact rfl) (by exact rfl) (by exact rfl), 1, 0, by omega, by omega, by omega, fun h => by omega, fun _ => rfl, rfl⟩ ?_
  rintro m σ ⟨i, wt, hi1, hi2, rfl, hw1, hw2, rfl⟩
  have hnm := refName_spec X (i : Int)
  by_cases h : i ≤ 10
  · have hk : kK (i : Int) = true := by rw [kK_iff]; omega
    by_cases hq : kN (i : Int) = n
    · have hb : (n == kN (i : Int)) = true := by rw [hq]; exact beq_self_eq_true _
      have hd := hat i hk hq
      (refine LWP.seq <| LWP.seq <| LWP.region (by kernel_rfl) <| kmv rfl <| K.leq rfl rfl (decide_eq_true (by omega)) .plain <| RunK.nil <| LWP.condT rfl ?_; refine LWP.skip ?_; refine LWP.seq <| LWP.block <| LWP.seq <| LWP.region (by kernel_rfl) <| kmv rfl <| kmv rfl <| kca rfl rfl (hnm) <| kse rfl rfl (strs_eq hb) <| RunK.nil <| LWP.condT rfl ?_; refine LWP.region (by kernel_rfl) <| kmv rfl <| kas rfl <| RunK.nil <| LWP.region (by kernel_rfl) <| kmv rfl <| kad rfl rfl (wrap_i64 (by omega)) <| kas rfl <| RunK.nil ?_)
      exact ⟨_, _, by omega, Le.of (by exact ⟨rfl, rfl, rfl, trivial⟩) (by exact trivial) (by exact rfl) (by exact rfl) (by exact rfl), i + 1, i, by omega, by omega, rfl, fun _ => hd.symm, fun h => by omega, rfl⟩
    · have hb : (n == kN (i : Int)) = false := beq_eq_false_iff_ne.2 fun e => hq e.symm
      have hd := hno i hk hq
      (refine LWP.seq <| LWP.seq <| LWP.region (by kernel_rfl) <| kmv rfl <| K.leq rfl rfl (decide_eq_true (by omega)) .plain <| RunK.nil <| LWP.condT rfl ?_; refine LWP.skip ?_; refine LWP.seq <| LWP.block <| LWP.seq <| LWP.region (by kernel_rfl) <| kmv rfl <| kmv rfl <| kca rfl rfl (hnm) <| kse rfl rfl (strs_eq hb) <| RunK.nil <| LWP.condF rfl ?_; refine LWP.skip ?_; refine LWP.region (by kernel_rfl) <| kmv rfl <| kad rfl rfl (wrap_i64 (by omega)) <| kas rfl <| RunK.nil ?_)
      exact ⟨_, _, by omega, Le.of (by exact ⟨rfl, rfl, rfl, trivial⟩) (by exact trivial) (by exact rfl) (by exact rfl) (by exact rfl), i + 1, wt, by omega, by omega, rfl, fun h => hw1 (by omega), fun h => hw2 (by omega), rfl⟩
  · have e : wt = d := hw1 (by omega)
    subst e
    (refine LWP.seq <| LWP.seq <| LWP.region (by kernel_rfl) <| kmv rfl <| K.leq rfl rfl (decide_eq_false (by omega)) .plain <| RunK.nil <| LWP.condF rfl ?_; refine LWP.exit <| LWP.seq <| LWP.region (by kernel_rfl) <| kmv rfl <| kca rfl rfl (hN) <| kmv rfl <| kex rfl rfl <| kex rfl rfl <| kas rfl <| kas rfl <| RunK.nil <| LWP.seq <| LWP.region (by kernel_rfl) <| kmv rfl ?_; refine kmv rfl <| keq rfl rfl (beq_self_eq_true _) <| kmv rfl <| gmv rfl rfl rfl <| gmv rfl rfl rfl <| K.neq rfl rfl rfl (.taken rfl rfl) ?_; refine K.eqlB rfl rfl (beq_self_eq_true _) (.taken rfl rfl) ?_; refine kpt rfl rfl <| kas rfl <| RunK.nil <| LWP.ret ?_)
    exact ⟨[_], ⟨rfl, trivial⟩, rfl⟩
end Go.Proofs.Ytfmohdliifmmfaa
