/- A piece of a proof over this program: contracts of its functions, and a logic to prove them by. -/
import Derived.Test.YtfmohdliifmmfaaF5
namespace Go.Proofs.Ytfmohdliifmmfaa
open Go Go.Lg Go.Lg.Fld
set_option maxRecDepth 100000
variable (X : Nat → Option Obj)
theorem bytes_same {k x y : Int} (hk : kK k = true) (hx : fitZ k x = true) (hy : fitZ k y = true) : (leB (kW k) (wdK k x) == leB (kW k) (wdK k y)) = decide (x = y) := by
  by_cases e : x = y
  · subst e; rw [decide_eq_true rfl]; exact beq_self_eq_true _
  · rw [decide_eq_false e]
    refine beq_eq_false_iff_ne.2 fun h => e ?_
    have h2 := congrArg le h
    rw [le_leB _ _ (wd_lt hk x), le_leB _ _ (wd_lt hk y)] at h2
    rw [← nb_wd hk hx, ← nb_wd hk hy, h2]
theorem Get_put (k x : Int) (hk : kK k = true) (hx : fitZ k x = true) : PSpec Try.prog X 23 [Ln .i64 k, Ls (leB (kW k) (wdK k x))] (.tup [SQ x, Sn .i64 0]) := by
  have h := Get_q X k (leB (kW k) (wdK k x)) hk (leB_length _ _)
  rw [le_leB _ _ (wd_lt hk x), nb_wd hk hx, if_pos hx] at h
  exact h
set_option maxHeartbeats 1600000 in
theorem fback_law (k : Int) (a b : Bool) (M N : Int) (hM : In2 M) (hN : In2 N) : PSpec Try.prog X 5 [Ln .i64 k, LI a M, LI b N] (Lb true) := by
  have hw := fawake_spec X
  have hS := fSize_spec X k
  cases hk : kK k with
  | false =>
    rw [kW_no (knot hk)] at hS
    have hF := Fits_no X k a M hk
    refine PSpec.intro Try.func5 rfl (by kernel_rfl) rfl rfl ?_
    intro C
    (refine LWP.seq <| LWP.region (by kernel_rfl) <| K.box rfl rfl rfl .plain <| K.box rfl rfl rfl .plain <| kas rfl <| RunK.nil <| LWP.seq <| LWP.seq <| LWP.region (by kernel_rfl) <| kca rfl rfl (hw) <| K.not rfl rfl .plain <| RunK.nil <| LWP.condF rfl ?_; refine LWP.skip ?_; refine LWP.seq <| LWP.seq <| LWP.region (by kernel_rfl) <| kmv rfl <| kca rfl rfl (hS) <| keq rfl rfl (beq_iff_eq.2 (by omega)) <| RunK.nil <| LWP.condT rfl ?_; refine LWP.seq <| LWP.region (by kernel_rfl) <| kmv rfl <| K.loadAll rfl rfl rfl .plain ?_; refine kca rfl rfl (hF) <| K.not rfl rfl .plain <| kas rfl <| RunK.nil <| LWP.ret ?_)
    exact ⟨[_], ⟨rfl, trivial⟩, rfl⟩
  | true =>
    have hk0 : kW k ≠ 0 := fun e => by rw [kW_zero] at e; rw [hk] at e; cases e
    have c1 := Clamp_any X k a M hM
    have c2 := Clamp_any X k b N hN
    have fx := near_fit k a M
    have fy := near_fit k b N
    generalize nearK k a M = x at *
    generalize nearK k b N = y at *
    have p1 := Put_q X k x hk fx
    have p2 := Put_q X k y hk fy
    have g1 := Get_put X k x hk fx
    have hlen : (⟨(leB (kW k) (wdK k x)).toArray⟩ : ByteArray).size = kW k := leB_length _ _
    have hsame := bytes_same hk fx fy
    generalize leB (kW k) (wdK k x) = s at *
    generalize leB (kW k) (wdK k y) = t at *
    have hf := kfacts k
    have hG := Greatest_spec X k
    have hL := Least_spec X k
    have o1 := Of_spec X 1 (by omega)
    have hU := Add_q X (kA k) 1 (kA_R k) (by unfold R127; omega)
    rw [addR_in (by unfold R127; omega)] at hU
    have hD := Sub_q X (-kB k) 1 (kBn_R k) (by unfold R127; omega)
    rw [addR_in (by unfold R127; omega)] at hD
    have f1 := Fits_q X k (-kB k) hk (kBn_R k) true (by rw [fitZ_iff]; omega)
    have f2 := Fits_q X k (kA k) hk (kA_R k) true (by rw [fitZ_iff]; omega)
    have f3 := Fits_q X k (kA k + 1) hk (by unfold R127; omega) false (by rw [fitZ, decide_eq_false (show ¬ kA k + 1 ≤ kA k by omega), Bool.and_false])
    have f4 := Fits_q X k (-kB k - 1) hk (by unfold R127; omega) false (by rw [fitZ, decide_eq_false (show ¬ -kB k ≤ -kB k - 1 by omega), Bool.false_and])
    have k1 := Clamp_spec X k (kA k + 1) (by unfold R127; omega)
    rw [show clampK k (kA k + 1) = kA k by unfold clampK; rw [if_neg (by omega), if_pos (by omega)]] at k1
    have k2 := Clamp_spec X k (-kB k - 1) (by unfold R127; omega)
    rw [show clampK k (-kB k - 1) = -kB k by unfold clampK; rw [if_pos (by omega)]] at k2
    refine PSpec.intro Try.func5 rfl (by kernel_rfl) rfl rfl ?_
    intro C
    ((refine LWP.seq <| LWP.region (by kernel_rfl) <| K.box rfl rfl rfl .plain <| K.box rfl rfl rfl .plain <| kas rfl <| RunK.nil <| LWP.seq <| LWP.seq <| LWP.region (by kernel_rfl) <| kca rfl rfl (hw) <| K.not rfl rfl .plain <| RunK.nil <| LWP.condF rfl ?_; refine LWP.skip ?_; refine LWP.seq <| LWP.seq <| LWP.region (by kernel_rfl) <| kmv rfl <| kca rfl rfl hS <| keq rfl rfl (beq_eq_false_iff_ne.2 (by omega)) <| RunK.nil <| LWP.condF rfl ?_; refine LWP.skip ?_; refine LWP.seq <| LWP.region (by kernel_rfl) <| kmv rfl <| K.loadAll rfl rfl rfl .plain ?_; refine kca rfl rfl c1 <| K.alloc rfl .plain ?_; refine K.storeAll rfl rfl rfl rfl rfl rfl .plain ?_; refine RunK.nil <| LWP.seq <| LWP.region (by kernel_rfl) <| kmv rfl <| K.loadAll rfl rfl rfl .plain ?_; refine kca rfl rfl c2 <| K.alloc rfl .plain ?_; refine K.storeAll rfl rfl rfl rfl rfl rfl .plain ?_; refine RunK.nil <| LWP.seq <| LWP.region (by kernel_rfl) <| kmv rfl <| K.loadAll rfl rfl rfl .plain ?_; refine kca rfl rfl p1 <| kmv rfl <| kex rfl rfl <| kex rfl rfl <| kas rfl <| kas rfl <| RunK.nil <| LWP.seq <| LWP.region (by kernel_rfl) <| kmv rfl <| K.loadAll rfl rfl rfl .plain ?_); (refine kca rfl rfl p2 <| kmv rfl <| kex rfl rfl <| kex rfl rfl <| kas rfl <| kas rfl <| RunK.nil <| LWP.seq <| LWP.region (by kernel_rfl) <| kmv rfl <| kmv rfl <| kca rfl rfl (g1) <| kmv rfl <| kex rfl rfl ?_; refine kex rfl rfl <| K.alloc rfl .plain ?_; refine K.storeAll rfl rfl rfl rfl rfl rfl .plain ?_; refine kas rfl <| RunK.nil <| LWP.seq <| LWP.seq <| LWP.region (by kernel_rfl) <| kmv rfl <| kne rfl rfl ((bne_eq_false_iff_eq.2 (by omega))) <| kmv rfl <| gmv rfl rfl rfl <| K.neq rfl rfl ((bne_eq_false_iff_eq.2 (by omega))) (.taken rfl rfl) ?_; refine kpf rfl rfl <| kmv rfl <| gmv rfl rfl rfl <| K.neq rfl rfl ((bne_eq_false_iff_eq.2 (by omega))) (.taken rfl rfl) ?_; refine kpf rfl rfl <| kmv rfl <| K.loadAll rfl rfl rfl (.taken rfl rfl) ?_; refine K.loadAll rfl rfl rfl (.taken rfl rfl) ?_; refine K.aggEq rfl rfl rfl rfl (by kernel_rfl) (eqQ x x true (decide_eq_true rfl)) (.inr ⟨rfl, rfl⟩) (.taken rfl rfl) ?_; refine kpf rfl rfl <| kmv rfl <| gmv rfl rfl rfl <| K.lenStr rfl (.taken rfl rfl) ?_; refine gmv rfl rfl rfl <| gca rfl rfl hS rfl rfl <| K.neq rfl rfl ((bne_eq_false_iff_eq.2 (by omega))) (.taken rfl rfl) ?_; refine kpf rfl rfl <| kmv rfl <| gmv rfl rfl rfl <| gmv rfl rfl rfl <| K.strEq rfl rfl (strs_eq hsame) (.taken rfl rfl) ?_; refine K.loadAll rfl rfl rfl (.taken rfl rfl) ?_); (refine K.loadAll rfl rfl rfl (.taken rfl rfl) ?_; refine K.aggEq rfl rfl rfl rfl (by kernel_rfl) (eqQ x y _ rfl) (.inl ⟨rfl, rfl⟩) (.taken rfl rfl) ?_; refine K.neqB rfl rfl (bne_self_eq_false _) (.taken rfl rfl) ?_; refine kpf rfl rfl <| RunK.nil <| LWP.condF rfl ?_; refine LWP.skip ?_; refine LWP.seq <| LWP.region (by kernel_rfl) <| kmv rfl <| kca rfl rfl (hG) <| kca rfl rfl (o1) <| kca rfl rfl (hU) <| kmv rfl <| kex rfl rfl <| kex rfl rfl <| K.alloc rfl .plain ?_; refine K.storeAll rfl rfl rfl rfl rfl rfl .plain ?_; refine kas rfl <| RunK.nil <| LWP.seq <| LWP.region (by kernel_rfl) <| kmv rfl <| kca rfl rfl (hL) <| kca rfl rfl (o1) <| kca rfl rfl (hD) <| kmv rfl <| kex rfl rfl <| kex rfl rfl <| K.alloc rfl .plain ?_; refine K.storeAll rfl rfl rfl rfl rfl rfl .plain ?_; refine kas rfl <| RunK.nil <| LWP.seq <| LWP.region (by kernel_rfl) <| kmv rfl <| kmv rfl <| kca rfl rfl (hL) <| kca rfl rfl f1 <| kmv rfl <| gmv rfl rfl rfl <| gmv rfl rfl rfl <| gca rfl rfl (hG) rfl rfl <| gca rfl rfl f2 rfl rfl <| kpt rfl rfl ?_; refine kmv rfl <| gmv rfl rfl rfl <| K.loadAll rfl rfl rfl (.taken rfl rfl) ?_; refine gca rfl rfl f3 rfl rfl <| K.not rfl rfl (.taken rfl rfl) ?_); (refine kpt rfl rfl <| kmv rfl <| gmv rfl rfl rfl <| K.loadAll rfl rfl rfl (.taken rfl rfl) ?_; refine gca rfl rfl f4 rfl rfl <| K.not rfl rfl (.taken rfl rfl) ?_; refine kpt rfl rfl <| kmv rfl <| gmv rfl rfl rfl <| K.loadAll rfl rfl rfl (.taken rfl rfl) ?_; refine gca rfl rfl k1 rfl rfl <| gmv rfl rfl rfl <| gca rfl rfl (hG) rfl rfl <| K.aggEq rfl rfl rfl rfl (by kernel_rfl) (eqQ (kA k) (kA k) true (decide_eq_true rfl)) (.inl ⟨rfl, rfl⟩) (.taken rfl rfl) ?_; refine kpt rfl rfl <| kmv rfl <| gmv rfl rfl rfl <| K.loadAll rfl rfl rfl (.taken rfl rfl) ?_; refine gca rfl rfl k2 rfl rfl <| gmv rfl rfl rfl <| gca rfl rfl (hL) rfl rfl <| K.aggEq rfl rfl rfl rfl (by kernel_rfl) (eqQ (-kB k) (-kB k) true (decide_eq_true rfl)) (.inl ⟨rfl, rfl⟩) (.taken rfl rfl) ?_; refine kpt rfl rfl <| kas rfl <| RunK.nil <| LWP.ret ?_))
    exact ⟨[_], ⟨rfl, trivial⟩, rfl⟩
end Go.Proofs.Ytfmohdliifmmfaa
