/- A piece of a proof over this program: contracts of its functions, and a logic to prove them by. -/
import Derived.Test.YtimpjdbhalnofaaGreatDoorQ2
import Derived.Test.YtimpjdbhalnofaaGreatDoorQ4
import Derived.Test.YtimpjdbhalnofaaGreatDoorQ5
import Derived.ChangeKeysEq
section
namespace Go.Proofs.YtimpjdbhalnofaaGreatDoor
open Go Go.Lg Go.Lg.Fml Go.Lg.Fld Go.Lg.Arith
set_option maxRecDepth 100000
variable (X : Nat → Option Obj)
theorem eqN {b b' : Bool} {M N : Int} (hM : In2 M) (hN : In2 N) : (b == b' && (M / 18446744073709551616 == N / 18446744073709551616 && M % 18446744073709551616 == N % 18446744073709551616)) = decide (((b, M) : Nm) = (b', N)) := by
  by_cases h : b = b' ∧ M = N
  · obtain ⟨rfl, rfl⟩ := h
    simp
  · rw [decide_eq_false (fun e => h (by simpa using e))]
    cases hc : (b == b' && (M / 18446744073709551616 == N / 18446744073709551616 && M % 18446744073709551616 == N % 18446744073709551616)) with
    | false => rfl
    | true =>
      simp only [Bool.and_eq_true, beq_iff_eq] at hc
      exact absurd ⟨hc.1, by omega⟩ h
theorem eqZ {b : Bool} {M : Int} (hM : In2 M) : (b == false && (M / 18446744073709551616 == 0 && M % 18446744073709551616 == 0)) = decide (((b, M) : Nm) = (false, 0)) := by
  have := eqN (b := b) (b' := false) hM (N := 0) (by show 0 ≤ (0 : Int) ∧ (0 : Int) < _; omega)
  exact this
theorem cmp_lz {u v : Nm} : decide (cmpI (zz u) (zz v) < 0) = decide (zz u < zz v) ∧ decide (0 < cmpI (zz u) (zz v)) = decide (zz v < zz u) := by
  unfold cmpI
  by_cases h : zz u < zz v
  · rw [if_pos h, decide_eq_true h, decide_eq_false (show ¬ zz v < zz u by omega)]
    exact ⟨rfl, rfl⟩
  · rw [if_neg h, decide_eq_false h]
    by_cases h2 : zz v < zz u
    · rw [if_pos h2, decide_eq_true h2]; exact ⟨rfl, rfl⟩
    · rw [if_neg h2, decide_eq_false h2]; exact ⟨rfl, rfl⟩
set_option maxHeartbeats 3200000 in
theorem rNode_do (op : Int) (ho : 5 ≤ op ∧ op ≤ 9) (b0 : Bool) (M0 : Int) (b1 : Bool) (M1 : Int) (ad : Option Addr) (cap : Nat) (hin : NumsIn X ad [(b0, M0), (b1, M1)]) : PSpec Tryz.prog X 67 [Ln .i64 op, Lx ad 2 cap] (exR (nodeX op [(b0, M0), (b1, M1)])) := by
    have hall := hin.all (by show 0 < 2; omega)
    obtain ⟨blk, off, arr, el, fr, rfl, hX, hall⟩ := hall
    obtain ⟨i0, s0, c0⟩ := hall 0 _ _ rfl
    have h0 : off + Int.toNat 0 * 3 = off + 0 * 3 := rfl
    have hb0 : 0 ≤ (0 : Int) ∧ (0 : Int) < (2 : Nat) := by omega
    obtain ⟨i1, s1, c1⟩ := hall 1 _ _ rfl
    have h1 : off + Int.toNat 1 * 3 = off + 1 * 3 := rfl
    have hb1 : 0 ≤ (1 : Int) ∧ (1 : Int) < (2 : Nat) := by omega
    have hD := rDo_spec X op ho (op - 4) rfl (b0, M0) (b1, M1) i0 i1
    have hs : IntKind.i64.wrap (op - 4) = op - 4 := wrap_i64 (by omega)
    rw [show nodeX op [(b0, M0), (b1, M1)] = doX op (b0, M0) (b1, M1) from if_pos ho]
    cases hd : doX op (b0, M0) (b1, M1) with
    | error e =>
      rw [hd] at hD
      refine PSpec.intro Tryz.func67 rfl (by kernel_rfl) rfl rfl ?_
      intro C
      (refine LWP.seq <| rgN <| K.alloc rfl .plain ?_; refine kas rfl <| RunK.nil <| LWP.seq <| LWP.seq <| rgN <| kmv rfl <| K.geq rfl rfl (decide_eq_true (by omega)) .plain <| kmv rfl <| gmv rfl rfl rfl <| K.leq rfl rfl (decide_eq_true (by omega)) (.taken rfl rfl) ?_; refine kpt rfl rfl <| RunK.nil <| LWP.condT rfl ?_; refine LWP.seq <| rgD mixed <| kmv rfl <| K.sub rfl rfl hs .plain <| kmv rfl <| K.indexX rfl rfl SliceT.h hb0 h0 .plain <| K.loadXagg rfl hX (by kernel_rfl) s0 c0 .plain <| kmv rfl <| K.indexX rfl rfl SliceT.h hb1 h1 .plain <| K.loadXagg rfl hX (by kernel_rfl) s1 c1 .plain <| kca rfl rfl (hD) <| kex rfl rfl <| kex rfl rfl <| K.storeAll rfl rfl rfl rfl rfl rfl .plain ?_; refine kas rfl <| RunK.nil <| rgA ?_; refine LWP.ret ?_)
      exact ⟨[_, _], ⟨⟨_, _, rfl, rfl, rfl, .inl ⟨AggT.h, rfl⟩⟩, rfl, trivial⟩, rfl⟩
    | ok v =>
      rw [hd] at hD
      refine PSpec.intro Tryz.func67 rfl (by kernel_rfl) rfl rfl ?_
      intro C
      (refine LWP.seq <| rgN <| K.alloc rfl .plain ?_; refine kas rfl <| RunK.nil <| LWP.seq <| LWP.seq <| rgN <| kmv rfl <| K.geq rfl rfl (decide_eq_true (by omega)) .plain <| kmv rfl <| gmv rfl rfl rfl <| K.leq rfl rfl (decide_eq_true (by omega)) (.taken rfl rfl) ?_; refine kpt rfl rfl <| RunK.nil <| LWP.condT rfl ?_; refine LWP.seq <| rgD mixed <| kmv rfl <| K.sub rfl rfl hs .plain <| kmv rfl <| K.indexX rfl rfl SliceT.h hb0 h0 .plain <| K.loadXagg rfl hX (by kernel_rfl) s0 c0 .plain <| kmv rfl <| K.indexX rfl rfl SliceT.h hb1 h1 .plain <| K.loadXagg rfl hX (by kernel_rfl) s1 c1 .plain <| kca rfl rfl (hD) <| kex rfl rfl <| kex rfl rfl <| K.storeAll rfl rfl rfl rfl rfl rfl .plain ?_; refine kas rfl <| RunK.nil <| rgA ?_; refine LWP.ret ?_)
      exact ⟨[_, _], ⟨⟨_, _, rfl, rfl, rfl, .inl ⟨AggT.h, rfl⟩⟩, rfl, trivial⟩, rfl⟩
set_option maxHeartbeats 3200000 in
theorem rNode_10 (b0 : Bool) (M0 : Int) (ad : Option Addr) (cap : Nat) (hin : NumsIn X ad [(b0, M0)]) : PSpec Tryz.prog X 67 [Ln .i64 10, Lx ad 1 cap] (exR (nodeX 10 [(b0, M0)])) := by
    have hall := hin.all (by show 0 < 1; omega)
    obtain ⟨blk, off, arr, el, fr, rfl, hX, hall⟩ := hall
    obtain ⟨i0, s0, c0⟩ := hall 0 _ _ rfl
    have h0 : off + Int.toNat 0 * 3 = off + 0 * 3 := rfl
    have hb0 : 0 ≤ (0 : Int) ∧ (0 : Int) < (1 : Nat) := by omega
    have hG0 := Good_spec X b0 M0 i0
    cases g0 : formB b0 M0 with
    | false =>
      have hG0 := hG0 false g0
      rw [show nodeX 10 [(b0, M0)] = .error 1 by simp [nodeX, gd, g0]]
      refine PSpec.intro Tryz.func67 rfl (by kernel_rfl) rfl rfl ?_
      intro C
      (refine LWP.seq <| rgN <| K.alloc rfl .plain ?_; refine kas rfl <| RunK.nil <| LWP.seq <| LWP.seq <| rgN <| kmv rfl <| K.geq rfl rfl (r := true) rfl .plain <| kmv rfl <| gmv rfl rfl rfl <| K.leq rfl rfl (r := false) rfl (.taken rfl rfl) ?_; refine kpt rfl rfl <| RunK.nil <| LWP.condF rfl ?_; refine LWP.skip ?_; refine LWP.seq <| LWP.seq <| rgN <| kmv rfl <| keq rfl rfl (r := false) rfl <| RunK.nil <| LWP.condF rfl ?_; refine LWP.skip ?_; refine LWP.seq <| LWP.seq <| rgN <| kmv rfl <| K.indexX rfl rfl SliceT.h hb0 h0 .plain <| K.loadXagg rfl hX (by kernel_rfl) s0 c0 .plain <| kca rfl rfl (hG0) <| K.not rfl rfl .plain <| kmv rfl <| RunK.passed rfl rfl rfl <| RunK.passed rfl rfl rfl <| RunK.passed rfl rfl rfl <| RunK.passed rfl rfl rfl <| RunK.passedU rfl rfl ?_; refine RunK.passedU rfl rfl <| RunK.passedU rfl rfl <| RunK.passedU rfl rfl <| RunK.passedU rfl rfl <| RunK.passed rfl rfl rfl <| kpt rfl rfl <| RunK.nil <| LWP.condT rfl ?_; refine LWP.seq <| rgN <| K.build rfl rfl (by exact rfl) (by exact nl3 rfl rfl rfl rfl) .plain ?_; refine K.storeAll rfl rfl rfl rfl rfl rfl .plain ?_; refine kas rfl <| RunK.nil <| LWP.ret ?_)
      exact ⟨[_, _], ⟨⟨_, _, rfl, rfl, rfl, .inl ⟨AggT.h, rfl⟩⟩, rfl, trivial⟩, rfl⟩
    | true =>
    have hG0 := hG0 true g0
    obtain ⟨e1, r1⟩ := gd_q (u := (b0, M0)) g0 i0
    have hD : PSpec Tryz.prog X 100 [Ln .i64 2, .sv S0, LI b0 M0] (.tup [SQ (-(zz (b0, M0))), Sn .i64 0]) := by
      have hR : R127 (-(zz (b0, M0))) := by unfold R127 at *; omega
      have h := Do_2 X 0 (zz (b0, M0)) (by unfold R127; omega) r1 (-(zz (b0, M0))) (by show 0 - zz (b0, M0) = _; omega)
      rw [addR_in hR, ← e1] at h
      exact h
    rw [show nodeX 10 [(b0, M0)] = .ok (qn (-(zz (b0, M0)))) by simp [nodeX, gd, g0]]
    clear e1 r1
    refine PSpec.intro Tryz.func67 rfl (by kernel_rfl) rfl rfl ?_
    intro C
    (refine LWP.seq <| rgN <| K.alloc rfl .plain ?_; refine kas rfl <| RunK.nil <| LWP.seq <| LWP.seq <| rgN <| kmv rfl <| K.geq rfl rfl (r := true) rfl .plain <| kmv rfl <| gmv rfl rfl rfl <| K.leq rfl rfl (r := false) rfl (.taken rfl rfl) ?_; refine kpt rfl rfl <| RunK.nil <| LWP.condF rfl ?_; refine LWP.skip ?_; refine LWP.seq <| LWP.seq <| rgN <| kmv rfl <| keq rfl rfl (r := false) rfl <| RunK.nil <| LWP.condF rfl ?_; refine LWP.skip ?_; refine LWP.seq <| LWP.seq <| rgN <| kmv rfl <| K.indexX rfl rfl SliceT.h hb0 h0 .plain <| K.loadXagg rfl hX (by kernel_rfl) s0 c0 .plain <| kca rfl rfl (hG0) <| K.not rfl rfl .plain <| kmv rfl <| gmv rfl rfl rfl <| K.lenX rfl SliceT.h rfl (.taken rfl rfl) ?_; refine K.eql rfl rfl (r := false) rfl (.taken rfl rfl) ?_; refine gmv rfl rfl rfl <| RunK.passed rfl rfl rfl <| RunK.passed rfl rfl rfl <| RunK.passed rfl rfl rfl <| RunK.passed rfl rfl rfl <| RunK.passed rfl rfl rfl <| K.pickF rfl rfl (.taken rfl rfl) ?_; refine kpf rfl rfl <| RunK.nil <| LWP.condF rfl ?_; refine LWP.skip ?_; refine LWP.seq <| LWP.seq <| rgN <| kmv rfl <| RunK.nil <| LWP.block <| LWP.seq <| rgN <| keq rfl rfl (r := true) rfl <| kas rfl <| RunK.nil <| LWP.condT rfl ?_; refine LWP.seq <| rgN <| K.build rfl rfl (by exact rfl) (by exact nl3 rfl rfl rfl rfl) .plain ?_; refine kmv rfl <| K.indexX rfl rfl SliceT.h hb0 h0 .plain <| K.loadXagg rfl hX (by kernel_rfl) s0 c0 .plain <| kca rfl rfl (hD) <| kex rfl rfl <| kex rfl rfl <| K.storeAll rfl rfl rfl rfl rfl rfl .plain ?_; refine kas rfl <| RunK.nil <| LWP.ret ?_)
    exact ⟨[_, _], ⟨⟨_, _, rfl, rfl, rfl, .inl ⟨AggT.h, rfl⟩⟩, rfl, trivial⟩, rfl⟩
set_option maxHeartbeats 3200000 in
theorem rNode_15 (b0 : Bool) (M0 : Int) (ad : Option Addr) (cap : Nat) (hin : NumsIn X ad [(b0, M0)]) : PSpec Tryz.prog X 67 [Ln .i64 15, Lx ad 1 cap] (exR (nodeX 15 [(b0, M0)])) := by
    have hall := hin.all (by show 0 < 1; omega)
    obtain ⟨blk, off, arr, el, fr, rfl, hX, hall⟩ := hall
    obtain ⟨i0, s0, c0⟩ := hall 0 _ _ rfl
    have h0 : off + Int.toNat 0 * 3 = off + 0 * 3 := rfl
    have hb0 : 0 ≤ (0 : Int) ∧ (0 : Int) < (1 : Nat) := by omega
    have hG0 := Good_spec X b0 M0 i0
    cases g0 : formB b0 M0 with
    | false =>
      have hG0 := hG0 false g0
      rw [show nodeX 15 [(b0, M0)] = .error 1 by simp [nodeX, gd, g0]]
      refine PSpec.intro Tryz.func67 rfl (by kernel_rfl) rfl rfl ?_
      intro C
      (refine LWP.seq <| rgN <| K.alloc rfl .plain ?_; refine kas rfl <| RunK.nil <| LWP.seq <| LWP.seq <| rgN <| kmv rfl <| K.geq rfl rfl (r := true) rfl .plain <| kmv rfl <| gmv rfl rfl rfl <| K.leq rfl rfl (r := false) rfl (.taken rfl rfl) ?_; refine kpt rfl rfl <| RunK.nil <| LWP.condF rfl ?_; refine LWP.skip ?_; refine LWP.seq <| LWP.seq <| rgN <| kmv rfl <| keq rfl rfl (r := false) rfl <| RunK.nil <| LWP.condF rfl ?_; refine LWP.skip ?_; refine LWP.seq <| LWP.seq <| rgN <| kmv rfl <| K.indexX rfl rfl SliceT.h hb0 h0 .plain <| K.loadXagg rfl hX (by kernel_rfl) s0 c0 .plain <| kca rfl rfl (hG0) <| K.not rfl rfl .plain <| kmv rfl <| RunK.passed rfl rfl rfl <| RunK.passed rfl rfl rfl <| RunK.passed rfl rfl rfl <| RunK.passed rfl rfl rfl <| RunK.passedU rfl rfl ?_; refine RunK.passedU rfl rfl <| RunK.passedU rfl rfl <| RunK.passedU rfl rfl <| RunK.passedU rfl rfl <| RunK.passed rfl rfl rfl <| kpt rfl rfl <| RunK.nil <| LWP.condT rfl ?_; refine LWP.seq <| rgN <| K.build rfl rfl (by exact rfl) (by exact nl3 rfl rfl rfl rfl) .plain ?_; refine K.storeAll rfl rfl rfl rfl rfl rfl .plain ?_; refine kas rfl <| RunK.nil <| LWP.ret ?_)
      exact ⟨[_, _], ⟨⟨_, _, rfl, rfl, rfl, .inl ⟨AggT.h, rfl⟩⟩, rfl, trivial⟩, rfl⟩
    | true =>
    have hG0 := hG0 true g0
    have q := eqI (b := b0) (b' := false) (h := M0 / 18446744073709551616) (h' := 0) (l := M0 % 18446744073709551616) (l' := 0) _ (eqZ i0)
    have hTr := rTruth_spec X (decide (((b0, M0) : Nm) = (false, 0)))
    rw [show nodeX 15 [(b0, M0)] = .ok (truth (decide (((b0, M0) : Nm) = (false, 0)))) by simp [nodeX, gd, g0]]
    generalize decide (((b0, M0) : Nm) = (false, 0)) = z at *
    refine PSpec.intro Tryz.func67 rfl (by kernel_rfl) rfl rfl ?_
    intro C
    (refine LWP.seq <| rgN <| K.alloc rfl .plain ?_; refine kas rfl <| RunK.nil <| LWP.seq <| LWP.seq <| rgN <| kmv rfl <| K.geq rfl rfl (r := true) rfl .plain <| kmv rfl <| gmv rfl rfl rfl <| K.leq rfl rfl (r := false) rfl (.taken rfl rfl) ?_; refine kpt rfl rfl <| RunK.nil <| LWP.condF rfl ?_; refine LWP.skip ?_; refine LWP.seq <| LWP.seq <| rgN <| kmv rfl <| keq rfl rfl (r := false) rfl <| RunK.nil <| LWP.condF rfl ?_; refine LWP.skip ?_; refine LWP.seq <| LWP.seq <| rgN <| kmv rfl <| K.indexX rfl rfl SliceT.h hb0 h0 .plain <| K.loadXagg rfl hX (by kernel_rfl) s0 c0 .plain <| kca rfl rfl (hG0) <| K.not rfl rfl .plain <| kmv rfl <| gmv rfl rfl rfl <| K.lenX rfl SliceT.h rfl (.taken rfl rfl) ?_; refine K.eql rfl rfl (r := false) rfl (.taken rfl rfl) ?_; refine gmv rfl rfl rfl <| RunK.passed rfl rfl rfl <| RunK.passed rfl rfl rfl <| RunK.passed rfl rfl rfl <| RunK.passed rfl rfl rfl <| RunK.passed rfl rfl rfl <| K.pickF rfl rfl (.taken rfl rfl) ?_; refine kpf rfl rfl <| RunK.nil <| LWP.condF rfl ?_; refine LWP.skip ?_; refine LWP.seq <| LWP.seq <| rgN <| kmv rfl <| RunK.nil <| LWP.block <| LWP.seq <| rgN <| keq rfl rfl (r := false) rfl <| kas rfl <| RunK.nil <| LWP.condF rfl ?_; refine LWP.seq <| rgN <| keq rfl rfl (r := false) rfl <| kas rfl <| RunK.nil <| LWP.condF rfl ?_; refine LWP.seq <| rgN <| keq rfl rfl (r := false) rfl <| kas rfl <| RunK.nil <| LWP.condF rfl ?_; refine LWP.seq <| rgN <| keq rfl rfl (r := false) rfl <| kas rfl <| RunK.nil <| LWP.condF rfl ?_; refine LWP.seq <| rgN <| keq rfl rfl (r := false) rfl <| kas rfl <| RunK.nil <| LWP.condF rfl ?_; refine LWP.seq <| rgN <| keq rfl rfl (r := true) rfl <| kas rfl <| RunK.nil <| LWP.condT rfl ?_; refine LWP.seq <| rgN <| kmv rfl <| K.indexX rfl rfl SliceT.h hb0 h0 .plain <| K.loadXagg rfl hX (by kernel_rfl) s0 c0 .plain <| K.build rfl rfl (by exact rfl) (by exact nl3 rfl rfl rfl rfl) .plain ?_; refine K.aggEq rfl rfl rfl rfl (by kernel_rfl) q (.inl ⟨rfl, rfl⟩) .plain <| kca rfl rfl (hTr) <| kex rfl rfl <| kex rfl rfl <| K.storeAll rfl rfl rfl rfl rfl rfl .plain ?_; refine kas rfl <| RunK.nil <| LWP.ret ?_)
    exact ⟨[_, _], ⟨⟨_, _, rfl, rfl, rfl, .inl ⟨AggT.h, rfl⟩⟩, rfl, trivial⟩, rfl⟩
theorem nodeX_11 (b0 b1 : Bool) (M0 M1 : Int) (g0 : formB b0 M0 = true) (g1 : formB b1 M1 = true) : nodeX 11 [(b0, M0), (b1, M1)] = .ok (if zz (b1, M1) < zz (b0, M0) then (b1, M1) else (b0, M0)) := by
  simp [nodeX, gd, g0, g1]
set_option maxHeartbeats 3200000 in
theorem rNode_11 (b0 : Bool) (M0 : Int) (b1 : Bool) (M1 : Int) (ad : Option Addr) (cap : Nat) (hin : NumsIn X ad [(b0, M0), (b1, M1)]) : PSpec Tryz.prog X 67 [Ln .i64 11, Lx ad 2 cap] (exR (nodeX 11 [(b0, M0), (b1, M1)])) := by
    have hall := hin.all (by show 0 < 2; omega)
    obtain ⟨blk, off, arr, el, fr, rfl, hX, hall⟩ := hall
    obtain ⟨i0, s0, c0⟩ := hall 0 _ _ rfl
    have h0 : off + Int.toNat 0 * 3 = off + 0 * 3 := rfl
    have hb0 : 0 ≤ (0 : Int) ∧ (0 : Int) < (2 : Nat) := by omega
    obtain ⟨i1, s1, c1⟩ := hall 1 _ _ rfl
    have h1 : off + Int.toNat 1 * 3 = off + 1 * 3 := rfl
    have hb1 : 0 ≤ (1 : Int) ∧ (1 : Int) < (2 : Nat) := by omega
    have hG0 := Good_spec X b0 M0 i0
    have hG1 := Good_spec X b1 M1 i1
    cases g0 : formB b0 M0 with
    | false =>
      have hG0 := hG0 false g0
      rw [show nodeX 11 [(b0, M0), (b1, M1)] = .error 1 by simp [nodeX, gd, g0]]
      refine PSpec.intro Tryz.func67 rfl (by kernel_rfl) rfl rfl ?_
      intro C
      (refine LWP.seq <| rgN <| K.alloc rfl .plain ?_; refine kas rfl <| RunK.nil <| LWP.seq <| LWP.seq <| rgN <| kmv rfl <| K.geq rfl rfl (r := true) rfl .plain <| kmv rfl <| gmv rfl rfl rfl <| K.leq rfl rfl (r := false) rfl (.taken rfl rfl) ?_; refine kpt rfl rfl <| RunK.nil <| LWP.condF rfl ?_; refine LWP.skip ?_; refine LWP.seq <| LWP.seq <| rgN <| kmv rfl <| keq rfl rfl (r := false) rfl <| RunK.nil <| LWP.condF rfl ?_; refine LWP.skip ?_; refine LWP.seq <| LWP.seq <| rgN <| kmv rfl <| K.indexX rfl rfl SliceT.h hb0 h0 .plain <| K.loadXagg rfl hX (by kernel_rfl) s0 c0 .plain <| kca rfl rfl (hG0) <| K.not rfl rfl .plain <| kmv rfl <| RunK.passed rfl rfl rfl <| RunK.passed rfl rfl rfl <| RunK.passed rfl rfl rfl <| RunK.passed rfl rfl rfl <| RunK.passedU rfl rfl ?_; refine RunK.passedU rfl rfl <| RunK.passedU rfl rfl <| RunK.passedU rfl rfl <| RunK.passedU rfl rfl <| RunK.passed rfl rfl rfl <| kpt rfl rfl <| RunK.nil <| LWP.condT rfl ?_; refine LWP.seq <| rgN <| K.build rfl rfl (by exact rfl) (by exact nl3 rfl rfl rfl rfl) .plain ?_; refine K.storeAll rfl rfl rfl rfl rfl rfl .plain ?_; refine kas rfl <| RunK.nil <| LWP.ret ?_)
      exact ⟨[_, _], ⟨⟨_, _, rfl, rfl, rfl, .inl ⟨AggT.h, rfl⟩⟩, rfl, trivial⟩, rfl⟩
    | true =>
    have hG0 := hG0 true g0
    cases g1 : formB b1 M1 with
    | false =>
      have hG1 := hG1 false g1
      rw [show nodeX 11 [(b0, M0), (b1, M1)] = .error 1 by simp [nodeX, gd, g0, g1]]
      refine PSpec.intro Tryz.func67 rfl (by kernel_rfl) rfl rfl ?_
      intro C
      (refine LWP.seq <| rgN <| K.alloc rfl .plain ?_; refine kas rfl <| RunK.nil <| LWP.seq <| LWP.seq <| rgN <| kmv rfl <| K.geq rfl rfl (r := true) rfl .plain <| kmv rfl <| gmv rfl rfl rfl <| K.leq rfl rfl (r := false) rfl (.taken rfl rfl) ?_; refine kpt rfl rfl <| RunK.nil <| LWP.condF rfl ?_; refine LWP.skip ?_; refine LWP.seq <| LWP.seq <| rgN <| kmv rfl <| keq rfl rfl (r := false) rfl <| RunK.nil <| LWP.condF rfl ?_; refine LWP.skip ?_; refine LWP.seq <| LWP.seq <| rgN <| kmv rfl <| K.indexX rfl rfl SliceT.h hb0 h0 .plain <| K.loadXagg rfl hX (by kernel_rfl) s0 c0 .plain <| kca rfl rfl (hG0) <| K.not rfl rfl .plain <| kmv rfl <| gmv rfl rfl rfl <| K.lenX rfl SliceT.h rfl (.taken rfl rfl) ?_; refine K.eql rfl rfl (r := true) rfl (.taken rfl rfl) ?_; refine gmv rfl rfl rfl <| gmv rfl rfl rfl <| K.indexX rfl rfl SliceT.h hb1 h1 (.taken rfl rfl) ?_; refine K.loadXagg rfl hX (by kernel_rfl) s1 c1 (.taken rfl rfl) ?_; refine gca rfl rfl (hG1) rfl rfl <| K.not rfl rfl (.taken rfl rfl) ?_; refine K.pickT rfl rfl (.taken rfl rfl) ?_; refine kpf rfl rfl <| RunK.nil <| LWP.condT rfl ?_; refine LWP.seq <| rgN <| K.build rfl rfl (by exact rfl) (by exact nl3 rfl rfl rfl rfl) .plain ?_; refine K.storeAll rfl rfl rfl rfl rfl rfl .plain ?_; refine kas rfl <| RunK.nil <| LWP.ret ?_)
      exact ⟨[_, _], ⟨⟨_, _, rfl, rfl, rfl, .inl ⟨AggT.h, rfl⟩⟩, rfl, trivial⟩, rfl⟩
    | true =>
    have hG1 := hG1 true g1
    obtain ⟨e0, r0⟩ := gd_q (u := (b0, M0)) g0 i0
    obtain ⟨e1, r1⟩ := gd_q (u := (b1, M1)) g1 i1
    have hC := RCmp_spec X (zz (b1, M1)) (zz (b0, M0)) r1 r0 _ rfl
    rw [← e0, ← e1] at hC
    obtain ⟨k1, k2⟩ := cmp_lz (u := (b1, M1)) (v := (b0, M0))
    have hk := nodeX_11 b0 b1 M0 M1 g0 g1
    rw [hk]
    clear e0 e1 hk
    by_cases c : zz (b1, M1) < zz (b0, M0)
    · rw [if_pos c]
      rw [decide_eq_true c] at k1
      generalize cmpI (zz (b1, M1)) (zz (b0, M0)) = z at *
      refine PSpec.intro Tryz.func67 rfl (by kernel_rfl) rfl rfl ?_
      intro C
      (refine LWP.seq <| rgN <| K.alloc rfl .plain ?_; refine kas rfl <| RunK.nil <| LWP.seq <| LWP.seq <| rgN <| kmv rfl <| K.geq rfl rfl (r := true) rfl .plain <| kmv rfl <| gmv rfl rfl rfl <| K.leq rfl rfl (r := false) rfl (.taken rfl rfl) ?_; refine kpt rfl rfl <| RunK.nil <| LWP.condF rfl ?_; refine LWP.skip ?_; refine LWP.seq <| LWP.seq <| rgN <| kmv rfl <| keq rfl rfl (r := false) rfl <| RunK.nil <| LWP.condF rfl ?_; refine LWP.skip ?_; refine LWP.seq <| LWP.seq <| rgN <| kmv rfl <| K.indexX rfl rfl SliceT.h hb0 h0 .plain <| K.loadXagg rfl hX (by kernel_rfl) s0 c0 .plain <| kca rfl rfl (hG0) <| K.not rfl rfl .plain <| kmv rfl <| gmv rfl rfl rfl <| K.lenX rfl SliceT.h rfl (.taken rfl rfl) ?_; refine K.eql rfl rfl (r := true) rfl (.taken rfl rfl) ?_; refine gmv rfl rfl rfl <| gmv rfl rfl rfl <| K.indexX rfl rfl SliceT.h hb1 h1 (.taken rfl rfl) ?_; refine K.loadXagg rfl hX (by kernel_rfl) s1 c1 (.taken rfl rfl) ?_; refine gca rfl rfl (hG1) rfl rfl <| K.not rfl rfl (.taken rfl rfl) ?_; refine K.pickT rfl rfl (.taken rfl rfl) ?_; refine kpf rfl rfl <| RunK.nil <| LWP.condF rfl ?_; refine LWP.skip ?_; refine LWP.seq <| LWP.seq <| rgN <| kmv rfl <| RunK.nil <| LWP.block <| LWP.seq <| rgN <| keq rfl rfl (r := false) rfl <| kas rfl <| RunK.nil <| LWP.condF rfl ?_; refine LWP.seq <| rgN <| keq rfl rfl (r := true) rfl <| kas rfl <| RunK.nil <| LWP.condT rfl ?_; refine LWP.seq <| LWP.seq <| rgD mixed <| kmv rfl <| K.indexX rfl rfl SliceT.h hb1 h1 .plain <| K.loadXagg rfl hX (by kernel_rfl) s1 c1 .plain <| kmv rfl <| K.indexX rfl rfl SliceT.h hb0 h0 .plain <| K.loadXagg rfl hX (by kernel_rfl) s0 c0 .plain <| kca rfl rfl (hC) <| klt rfl rfl k1 <| RunK.nil <| rgA ?_; refine LWP.condT rfl ?_; refine LWP.seq <| rgN <| kmv rfl <| K.indexX rfl rfl SliceT.h hb1 h1 .plain <| K.loadXagg rfl hX (by kernel_rfl) s1 c1 .plain <| K.storeAll rfl rfl rfl rfl rfl rfl .plain ?_; refine kas rfl <| RunK.nil <| LWP.ret ?_)
      exact ⟨[_, _], ⟨⟨_, _, rfl, rfl, rfl, .inl ⟨AggT.h, rfl⟩⟩, rfl, trivial⟩, rfl⟩
    · rw [if_neg c]
      rw [decide_eq_false c] at k1
      generalize cmpI (zz (b1, M1)) (zz (b0, M0)) = z at *
      refine PSpec.intro Tryz.func67 rfl (by kernel_rfl) rfl rfl ?_
      intro C
      ((refine LWP.seq <| rgN <| K.alloc rfl .plain ?_; refine kas rfl <| RunK.nil <| LWP.seq <| LWP.seq <| rgN <| kmv rfl <| K.geq rfl rfl (r := true) rfl .plain <| kmv rfl <| gmv rfl rfl rfl <| K.leq rfl rfl (r := false) rfl (.taken rfl rfl) ?_; refine kpt rfl rfl <| RunK.nil <| LWP.condF rfl ?_; refine LWP.skip ?_; refine LWP.seq <| LWP.seq <| rgN <| kmv rfl <| keq rfl rfl (r := false) rfl <| RunK.nil <| LWP.condF rfl ?_; refine LWP.skip ?_; refine LWP.seq <| LWP.seq <| rgN <| kmv rfl <| K.indexX rfl rfl SliceT.h hb0 h0 .plain <| K.loadXagg rfl hX (by kernel_rfl) s0 c0 .plain <| kca rfl rfl (hG0) <| K.not rfl rfl .plain <| kmv rfl <| gmv rfl rfl rfl <| K.lenX rfl SliceT.h rfl (.taken rfl rfl) ?_; refine K.eql rfl rfl (r := true) rfl (.taken rfl rfl) ?_; refine gmv rfl rfl rfl <| gmv rfl rfl rfl <| K.indexX rfl rfl SliceT.h hb1 h1 (.taken rfl rfl) ?_; refine K.loadXagg rfl hX (by kernel_rfl) s1 c1 (.taken rfl rfl) ?_; refine gca rfl rfl (hG1) rfl rfl <| K.not rfl rfl (.taken rfl rfl) ?_; refine K.pickT rfl rfl (.taken rfl rfl) ?_); (refine kpf rfl rfl <| RunK.nil <| LWP.condF rfl ?_; refine LWP.skip ?_; refine LWP.seq <| LWP.seq <| rgN <| kmv rfl <| RunK.nil <| LWP.block <| LWP.seq <| rgN <| keq rfl rfl (r := false) rfl <| kas rfl <| RunK.nil <| LWP.condF rfl ?_; refine LWP.seq <| rgN <| keq rfl rfl (r := true) rfl <| kas rfl <| RunK.nil <| LWP.condT rfl ?_; refine LWP.seq <| LWP.seq <| rgD mixed <| kmv rfl <| K.indexX rfl rfl SliceT.h hb1 h1 .plain <| K.loadXagg rfl hX (by kernel_rfl) s1 c1 .plain <| kmv rfl <| K.indexX rfl rfl SliceT.h hb0 h0 .plain <| K.loadXagg rfl hX (by kernel_rfl) s0 c0 .plain <| kca rfl rfl (hC) <| klt rfl rfl k1 <| RunK.nil <| rgA ?_; refine LWP.condF rfl ?_; refine LWP.skip ?_; refine LWP.seq <| rgN <| kmv rfl <| K.indexX rfl rfl SliceT.h hb0 h0 .plain <| K.loadXagg rfl hX (by kernel_rfl) s0 c0 .plain <| K.storeAll rfl rfl rfl rfl rfl rfl .plain ?_; refine kas rfl <| RunK.nil <| LWP.ret ?_))
      exact ⟨[_, _], ⟨⟨_, _, rfl, rfl, rfl, .inl ⟨AggT.h, rfl⟩⟩, rfl, trivial⟩, rfl⟩
theorem nodeX_12 (b0 b1 : Bool) (M0 M1 : Int) (g0 : formB b0 M0 = true) (g1 : formB b1 M1 = true) : nodeX 12 [(b0, M0), (b1, M1)] = .ok (if zz (b0, M0) < zz (b1, M1) then (b1, M1) else (b0, M0)) := by
  simp [nodeX, gd, g0, g1]
set_option maxHeartbeats 3200000 in
theorem rNode_12 (b0 : Bool) (M0 : Int) (b1 : Bool) (M1 : Int) (ad : Option Addr) (cap : Nat) (hin : NumsIn X ad [(b0, M0), (b1, M1)]) : PSpec Tryz.prog X 67 [Ln .i64 12, Lx ad 2 cap] (exR (nodeX 12 [(b0, M0), (b1, M1)])) := by
    have hall := hin.all (by show 0 < 2; omega)
    obtain ⟨blk, off, arr, el, fr, rfl, hX, hall⟩ := hall
    obtain ⟨i0, s0, c0⟩ := hall 0 _ _ rfl
    have h0 : off + Int.toNat 0 * 3 = off + 0 * 3 := rfl
    have hb0 : 0 ≤ (0 : Int) ∧ (0 : Int) < (2 : Nat) := by omega
    obtain ⟨i1, s1, c1⟩ := hall 1 _ _ rfl
    have h1 : off + Int.toNat 1 * 3 = off + 1 * 3 := rfl
    have hb1 : 0 ≤ (1 : Int) ∧ (1 : Int) < (2 : Nat) := by omega
    have hG0 := Good_spec X b0 M0 i0
    have hG1 := Good_spec X b1 M1 i1
    cases g0 : formB b0 M0 with
    | false =>
      have hG0 := hG0 false g0
      rw [show nodeX 12 [(b0, M0), (b1, M1)] = .error 1 by simp [nodeX, gd, g0]]
      refine PSpec.intro Tryz.func67 rfl (by kernel_rfl) rfl rfl ?_
      intro C
      (refine LWP.seq <| rgN <| K.alloc rfl .plain ?_; refine kas rfl <| RunK.nil <| LWP.seq <| LWP.seq <| rgN <| kmv rfl <| K.geq rfl rfl (r := true) rfl .plain <| kmv rfl <| gmv rfl rfl rfl <| K.leq rfl rfl (r := false) rfl (.taken rfl rfl) ?_; refine kpt rfl rfl <| RunK.nil <| LWP.condF rfl ?_; refine LWP.skip ?_; refine LWP.seq <| LWP.seq <| rgN <| kmv rfl <| keq rfl rfl (r := false) rfl <| RunK.nil <| LWP.condF rfl ?_; refine LWP.skip ?_; refine LWP.seq <| LWP.seq <| rgN <| kmv rfl <| K.indexX rfl rfl SliceT.h hb0 h0 .plain <| K.loadXagg rfl hX (by kernel_rfl) s0 c0 .plain <| kca rfl rfl (hG0) <| K.not rfl rfl .plain <| kmv rfl <| RunK.passed rfl rfl rfl <| RunK.passed rfl rfl rfl <| RunK.passed rfl rfl rfl <| RunK.passed rfl rfl rfl <| RunK.passedU rfl rfl ?_; refine RunK.passedU rfl rfl <| RunK.passedU rfl rfl <| RunK.passedU rfl rfl <| RunK.passedU rfl rfl <| RunK.passed rfl rfl rfl <| kpt rfl rfl <| RunK.nil <| LWP.condT rfl ?_; refine LWP.seq <| rgN <| K.build rfl rfl (by exact rfl) (by exact nl3 rfl rfl rfl rfl) .plain ?_; refine K.storeAll rfl rfl rfl rfl rfl rfl .plain ?_; refine kas rfl <| RunK.nil <| LWP.ret ?_)
      exact ⟨[_, _], ⟨⟨_, _, rfl, rfl, rfl, .inl ⟨AggT.h, rfl⟩⟩, rfl, trivial⟩, rfl⟩
    | true =>
    have hG0 := hG0 true g0
    cases g1 : formB b1 M1 with
    | false =>
      have hG1 := hG1 false g1
      rw [show nodeX 12 [(b0, M0), (b1, M1)] = .error 1 by simp [nodeX, gd, g0, g1]]
      refine PSpec.intro Tryz.func67 rfl (by kernel_rfl) rfl rfl ?_
      intro C
      (refine LWP.seq <| rgN <| K.alloc rfl .plain ?_; refine kas rfl <| RunK.nil <| LWP.seq <| LWP.seq <| rgN <| kmv rfl <| K.geq rfl rfl (r := true) rfl .plain <| kmv rfl <| gmv rfl rfl rfl <| K.leq rfl rfl (r := false) rfl (.taken rfl rfl) ?_; refine kpt rfl rfl <| RunK.nil <| LWP.condF rfl ?_; refine LWP.skip ?_; refine LWP.seq <| LWP.seq <| rgN <| kmv rfl <| keq rfl rfl (r := false) rfl <| RunK.nil <| LWP.condF rfl ?_; refine LWP.skip ?_; refine LWP.seq <| LWP.seq <| rgN <| kmv rfl <| K.indexX rfl rfl SliceT.h hb0 h0 .plain <| K.loadXagg rfl hX (by kernel_rfl) s0 c0 .plain <| kca rfl rfl (hG0) <| K.not rfl rfl .plain <| kmv rfl <| gmv rfl rfl rfl <| K.lenX rfl SliceT.h rfl (.taken rfl rfl) ?_; refine K.eql rfl rfl (r := true) rfl (.taken rfl rfl) ?_; refine gmv rfl rfl rfl <| gmv rfl rfl rfl <| K.indexX rfl rfl SliceT.h hb1 h1 (.taken rfl rfl) ?_; refine K.loadXagg rfl hX (by kernel_rfl) s1 c1 (.taken rfl rfl) ?_; refine gca rfl rfl (hG1) rfl rfl <| K.not rfl rfl (.taken rfl rfl) ?_; refine K.pickT rfl rfl (.taken rfl rfl) ?_; refine kpf rfl rfl <| RunK.nil <| LWP.condT rfl ?_; refine LWP.seq <| rgN <| K.build rfl rfl (by exact rfl) (by exact nl3 rfl rfl rfl rfl) .plain ?_; refine K.storeAll rfl rfl rfl rfl rfl rfl .plain ?_; refine kas rfl <| RunK.nil <| LWP.ret ?_)
      exact ⟨[_, _], ⟨⟨_, _, rfl, rfl, rfl, .inl ⟨AggT.h, rfl⟩⟩, rfl, trivial⟩, rfl⟩
    | true =>
    have hG1 := hG1 true g1
    obtain ⟨e0, r0⟩ := gd_q (u := (b0, M0)) g0 i0
    obtain ⟨e1, r1⟩ := gd_q (u := (b1, M1)) g1 i1
    have hC := RCmp_spec X (zz (b1, M1)) (zz (b0, M0)) r1 r0 _ rfl
    rw [← e0, ← e1] at hC
    obtain ⟨k1, k2⟩ := cmp_lz (u := (b1, M1)) (v := (b0, M0))
    have hk := nodeX_12 b0 b1 M0 M1 g0 g1
    rw [hk]
    clear e0 e1 hk
    by_cases c : zz (b0, M0) < zz (b1, M1)
    · rw [if_pos c]
      rw [decide_eq_true c] at k2
      generalize cmpI (zz (b1, M1)) (zz (b0, M0)) = z at *
      refine PSpec.intro Tryz.func67 rfl (by kernel_rfl) rfl rfl ?_
      intro C
      ((refine LWP.seq <| rgN <| K.alloc rfl .plain ?_; refine kas rfl <| RunK.nil <| LWP.seq <| LWP.seq <| rgN <| kmv rfl <| K.geq rfl rfl (r := true) rfl .plain <| kmv rfl <| gmv rfl rfl rfl <| K.leq rfl rfl (r := false) rfl (.taken rfl rfl) ?_; refine kpt rfl rfl <| RunK.nil <| LWP.condF rfl ?_; refine LWP.skip ?_; refine LWP.seq <| LWP.seq <| rgN <| kmv rfl <| keq rfl rfl (r := false) rfl <| RunK.nil <| LWP.condF rfl ?_; refine LWP.skip ?_; refine LWP.seq <| LWP.seq <| rgN <| kmv rfl <| K.indexX rfl rfl SliceT.h hb0 h0 .plain <| K.loadXagg rfl hX (by kernel_rfl) s0 c0 .plain <| kca rfl rfl (hG0) <| K.not rfl rfl .plain <| kmv rfl <| gmv rfl rfl rfl <| K.lenX rfl SliceT.h rfl (.taken rfl rfl) ?_; refine K.eql rfl rfl (r := true) rfl (.taken rfl rfl) ?_; refine gmv rfl rfl rfl <| gmv rfl rfl rfl <| K.indexX rfl rfl SliceT.h hb1 h1 (.taken rfl rfl) ?_; refine K.loadXagg rfl hX (by kernel_rfl) s1 c1 (.taken rfl rfl) ?_; refine gca rfl rfl (hG1) rfl rfl <| K.not rfl rfl (.taken rfl rfl) ?_; refine K.pickT rfl rfl (.taken rfl rfl) ?_); (refine kpf rfl rfl <| RunK.nil <| LWP.condF rfl ?_; refine LWP.skip ?_; refine LWP.seq <| LWP.seq <| rgN <| kmv rfl <| RunK.nil <| LWP.block <| LWP.seq <| rgN <| keq rfl rfl (r := false) rfl <| kas rfl <| RunK.nil <| LWP.condF rfl ?_; refine LWP.seq <| rgN <| keq rfl rfl (r := false) rfl <| kas rfl <| RunK.nil <| LWP.condF rfl ?_; refine LWP.seq <| rgN <| keq rfl rfl (r := true) rfl <| kas rfl <| RunK.nil <| LWP.condT rfl ?_; refine LWP.seq <| LWP.seq <| rgD mixed <| kmv rfl <| K.indexX rfl rfl SliceT.h hb1 h1 .plain <| K.loadXagg rfl hX (by kernel_rfl) s1 c1 .plain <| kmv rfl <| K.indexX rfl rfl SliceT.h hb0 h0 .plain <| K.loadXagg rfl hX (by kernel_rfl) s0 c0 .plain <| kca rfl rfl (hC) <| K.gtr rfl rfl k2 .plain <| RunK.nil <| rgA ?_; refine LWP.condT rfl ?_; refine LWP.seq <| rgN <| kmv rfl <| K.indexX rfl rfl SliceT.h hb1 h1 .plain <| K.loadXagg rfl hX (by kernel_rfl) s1 c1 .plain <| K.storeAll rfl rfl rfl rfl rfl rfl .plain ?_; refine kas rfl <| RunK.nil <| LWP.ret ?_))
      exact ⟨[_, _], ⟨⟨_, _, rfl, rfl, rfl, .inl ⟨AggT.h, rfl⟩⟩, rfl, trivial⟩, rfl⟩
    · rw [if_neg c]
      rw [decide_eq_false c] at k2
      generalize cmpI (zz (b1, M1)) (zz (b0, M0)) = z at *
      refine PSpec.intro Tryz.func67 rfl (by kernel_rfl) rfl rfl ?_
      intro C
      ((refine LWP.seq <| rgN <| K.alloc rfl .plain ?_; refine kas rfl <| RunK.nil <| LWP.seq <| LWP.seq <| rgN <| kmv rfl <| K.geq rfl rfl (r := true) rfl .plain <| kmv rfl <| gmv rfl rfl rfl <| K.leq rfl rfl (r := false) rfl (.taken rfl rfl) ?_; refine kpt rfl rfl <| RunK.nil <| LWP.condF rfl ?_; refine LWP.skip ?_; refine LWP.seq <| LWP.seq <| rgN <| kmv rfl <| keq rfl rfl (r := false) rfl <| RunK.nil <| LWP.condF rfl ?_; refine LWP.skip ?_; refine LWP.seq <| LWP.seq <| rgN <| kmv rfl <| K.indexX rfl rfl SliceT.h hb0 h0 .plain <| K.loadXagg rfl hX (by kernel_rfl) s0 c0 .plain <| kca rfl rfl (hG0) <| K.not rfl rfl .plain <| kmv rfl <| gmv rfl rfl rfl <| K.lenX rfl SliceT.h rfl (.taken rfl rfl) ?_; refine K.eql rfl rfl (r := true) rfl (.taken rfl rfl) ?_; refine gmv rfl rfl rfl <| gmv rfl rfl rfl <| K.indexX rfl rfl SliceT.h hb1 h1 (.taken rfl rfl) ?_; refine K.loadXagg rfl hX (by kernel_rfl) s1 c1 (.taken rfl rfl) ?_; refine gca rfl rfl (hG1) rfl rfl <| K.not rfl rfl (.taken rfl rfl) ?_; refine K.pickT rfl rfl (.taken rfl rfl) ?_); (refine kpf rfl rfl <| RunK.nil <| LWP.condF rfl ?_; refine LWP.skip ?_; refine LWP.seq <| LWP.seq <| rgN <| kmv rfl <| RunK.nil <| LWP.block <| LWP.seq <| rgN <| keq rfl rfl (r := false) rfl <| kas rfl <| RunK.nil <| LWP.condF rfl ?_; refine LWP.seq <| rgN <| keq rfl rfl (r := false) rfl <| kas rfl <| RunK.nil <| LWP.condF rfl ?_; refine LWP.seq <| rgN <| keq rfl rfl (r := true) rfl <| kas rfl <| RunK.nil <| LWP.condT rfl ?_; refine LWP.seq <| LWP.seq <| rgD mixed <| kmv rfl <| K.indexX rfl rfl SliceT.h hb1 h1 .plain <| K.loadXagg rfl hX (by kernel_rfl) s1 c1 .plain <| kmv rfl <| K.indexX rfl rfl SliceT.h hb0 h0 .plain <| K.loadXagg rfl hX (by kernel_rfl) s0 c0 .plain <| kca rfl rfl (hC) <| K.gtr rfl rfl k2 .plain <| RunK.nil <| rgA ?_; refine LWP.condF rfl ?_; refine LWP.skip ?_; refine LWP.seq <| rgN <| kmv rfl <| K.indexX rfl rfl SliceT.h hb0 h0 .plain <| K.loadXagg rfl hX (by kernel_rfl) s0 c0 .plain <| K.storeAll rfl rfl rfl rfl rfl rfl .plain ?_; refine kas rfl <| RunK.nil <| LWP.ret ?_))
      exact ⟨[_, _], ⟨⟨_, _, rfl, rfl, rfl, .inl ⟨AggT.h, rfl⟩⟩, rfl, trivial⟩, rfl⟩
set_option maxHeartbeats 3200000 in
theorem rNode_13 (b0 : Bool) (M0 : Int) (b1 : Bool) (M1 : Int) (ad : Option Addr) (cap : Nat) (hin : NumsIn X ad [(b0, M0), (b1, M1)]) : PSpec Tryz.prog X 67 [Ln .i64 13, Lx ad 2 cap] (exR (nodeX 13 [(b0, M0), (b1, M1)])) := by
    have hall := hin.all (by show 0 < 2; omega)
    obtain ⟨blk, off, arr, el, fr, rfl, hX, hall⟩ := hall
    obtain ⟨i0, s0, c0⟩ := hall 0 _ _ rfl
    have h0 : off + Int.toNat 0 * 3 = off + 0 * 3 := rfl
    have hb0 : 0 ≤ (0 : Int) ∧ (0 : Int) < (2 : Nat) := by omega
    obtain ⟨i1, s1, c1⟩ := hall 1 _ _ rfl
    have h1 : off + Int.toNat 1 * 3 = off + 1 * 3 := rfl
    have hb1 : 0 ≤ (1 : Int) ∧ (1 : Int) < (2 : Nat) := by omega
    have hG0 := Good_spec X b0 M0 i0
    have hG1 := Good_spec X b1 M1 i1
    cases g0 : formB b0 M0 with
    | false =>
      have hG0 := hG0 false g0
      rw [show nodeX 13 [(b0, M0), (b1, M1)] = .error 1 by simp [nodeX, gd, g0]]
      refine PSpec.intro Tryz.func67 rfl (by kernel_rfl) rfl rfl ?_
      intro C
      (refine LWP.seq <| rgN <| K.alloc rfl .plain ?_; refine kas rfl <| RunK.nil <| LWP.seq <| LWP.seq <| rgN <| kmv rfl <| K.geq rfl rfl (r := true) rfl .plain <| kmv rfl <| gmv rfl rfl rfl <| K.leq rfl rfl (r := false) rfl (.taken rfl rfl) ?_; refine kpt rfl rfl <| RunK.nil <| LWP.condF rfl ?_; refine LWP.skip ?_; refine LWP.seq <| LWP.seq <| rgN <| kmv rfl <| keq rfl rfl (r := false) rfl <| RunK.nil <| LWP.condF rfl ?_; refine LWP.skip ?_; refine LWP.seq <| LWP.seq <| rgN <| kmv rfl <| K.indexX rfl rfl SliceT.h hb0 h0 .plain <| K.loadXagg rfl hX (by kernel_rfl) s0 c0 .plain <| kca rfl rfl (hG0) <| K.not rfl rfl .plain <| kmv rfl <| RunK.passed rfl rfl rfl <| RunK.passed rfl rfl rfl <| RunK.passed rfl rfl rfl <| RunK.passed rfl rfl rfl <| RunK.passedU rfl rfl ?_; refine RunK.passedU rfl rfl <| RunK.passedU rfl rfl <| RunK.passedU rfl rfl <| RunK.passedU rfl rfl <| RunK.passed rfl rfl rfl <| kpt rfl rfl <| RunK.nil <| LWP.condT rfl ?_; refine LWP.seq <| rgN <| K.build rfl rfl (by exact rfl) (by exact nl3 rfl rfl rfl rfl) .plain ?_; refine K.storeAll rfl rfl rfl rfl rfl rfl .plain ?_; refine kas rfl <| RunK.nil <| LWP.ret ?_)
      exact ⟨[_, _], ⟨⟨_, _, rfl, rfl, rfl, .inl ⟨AggT.h, rfl⟩⟩, rfl, trivial⟩, rfl⟩
    | true =>
    have hG0 := hG0 true g0
    cases g1 : formB b1 M1 with
    | false =>
      have hG1 := hG1 false g1
      rw [show nodeX 13 [(b0, M0), (b1, M1)] = .error 1 by simp [nodeX, gd, g0, g1]]
      refine PSpec.intro Tryz.func67 rfl (by kernel_rfl) rfl rfl ?_
      intro C
      (refine LWP.seq <| rgN <| K.alloc rfl .plain ?_; refine kas rfl <| RunK.nil <| LWP.seq <| LWP.seq <| rgN <| kmv rfl <| K.geq rfl rfl (r := true) rfl .plain <| kmv rfl <| gmv rfl rfl rfl <| K.leq rfl rfl (r := false) rfl (.taken rfl rfl) ?_; refine kpt rfl rfl <| RunK.nil <| LWP.condF rfl ?_; refine LWP.skip ?_; refine LWP.seq <| LWP.seq <| rgN <| kmv rfl <| keq rfl rfl (r := false) rfl <| RunK.nil <| LWP.condF rfl ?_; refine LWP.skip ?_; refine LWP.seq <| LWP.seq <| rgN <| kmv rfl <| K.indexX rfl rfl SliceT.h hb0 h0 .plain <| K.loadXagg rfl hX (by kernel_rfl) s0 c0 .plain <| kca rfl rfl (hG0) <| K.not rfl rfl .plain <| kmv rfl <| gmv rfl rfl rfl <| K.lenX rfl SliceT.h rfl (.taken rfl rfl) ?_; refine K.eql rfl rfl (r := true) rfl (.taken rfl rfl) ?_; refine gmv rfl rfl rfl <| gmv rfl rfl rfl <| K.indexX rfl rfl SliceT.h hb1 h1 (.taken rfl rfl) ?_; refine K.loadXagg rfl hX (by kernel_rfl) s1 c1 (.taken rfl rfl) ?_; refine gca rfl rfl (hG1) rfl rfl <| K.not rfl rfl (.taken rfl rfl) ?_; refine K.pickT rfl rfl (.taken rfl rfl) ?_; refine kpf rfl rfl <| RunK.nil <| LWP.condT rfl ?_; refine LWP.seq <| rgN <| K.build rfl rfl (by exact rfl) (by exact nl3 rfl rfl rfl rfl) .plain ?_; refine K.storeAll rfl rfl rfl rfl rfl rfl .plain ?_; refine kas rfl <| RunK.nil <| LWP.ret ?_)
      exact ⟨[_, _], ⟨⟨_, _, rfl, rfl, rfl, .inl ⟨AggT.h, rfl⟩⟩, rfl, trivial⟩, rfl⟩
    | true =>
    have hG1 := hG1 true g1
    have q := eqI (b := b0) (b' := b1) (h := M0 / 18446744073709551616) (h' := M1 / 18446744073709551616) (l := M0 % 18446744073709551616) (l' := M1 % 18446744073709551616) _ (eqN i0 i1)
    have hTr := rTruth_spec X (decide (((b0, M0) : Nm) = (b1, M1)))
    rw [show nodeX 13 [(b0, M0), (b1, M1)] = .ok (truth (decide (((b0, M0) : Nm) = (b1, M1)))) by simp [nodeX, gd, g0, g1]]
    generalize decide (((b0, M0) : Nm) = (b1, M1)) = z at *
    refine PSpec.intro Tryz.func67 rfl (by kernel_rfl) rfl rfl ?_
    intro C
    ((refine LWP.seq <| rgN <| K.alloc rfl .plain ?_; refine kas rfl <| RunK.nil <| LWP.seq <| LWP.seq <| rgN <| kmv rfl <| K.geq rfl rfl (r := true) rfl .plain <| kmv rfl <| gmv rfl rfl rfl <| K.leq rfl rfl (r := false) rfl (.taken rfl rfl) ?_; refine kpt rfl rfl <| RunK.nil <| LWP.condF rfl ?_; refine LWP.skip ?_; refine LWP.seq <| LWP.seq <| rgN <| kmv rfl <| keq rfl rfl (r := false) rfl <| RunK.nil <| LWP.condF rfl ?_; refine LWP.skip ?_; refine LWP.seq <| LWP.seq <| rgN <| kmv rfl <| K.indexX rfl rfl SliceT.h hb0 h0 .plain <| K.loadXagg rfl hX (by kernel_rfl) s0 c0 .plain <| kca rfl rfl (hG0) <| K.not rfl rfl .plain <| kmv rfl <| gmv rfl rfl rfl <| K.lenX rfl SliceT.h rfl (.taken rfl rfl) ?_; refine K.eql rfl rfl (r := true) rfl (.taken rfl rfl) ?_; refine gmv rfl rfl rfl <| gmv rfl rfl rfl <| K.indexX rfl rfl SliceT.h hb1 h1 (.taken rfl rfl) ?_; refine K.loadXagg rfl hX (by kernel_rfl) s1 c1 (.taken rfl rfl) ?_; refine gca rfl rfl (hG1) rfl rfl <| K.not rfl rfl (.taken rfl rfl) ?_; refine K.pickT rfl rfl (.taken rfl rfl) ?_); (refine kpf rfl rfl <| RunK.nil <| LWP.condF rfl ?_; refine LWP.skip ?_; refine LWP.seq <| LWP.seq <| rgN <| kmv rfl <| RunK.nil <| LWP.block <| LWP.seq <| rgN <| keq rfl rfl (r := false) rfl <| kas rfl <| RunK.nil <| LWP.condF rfl ?_; refine LWP.seq <| rgN <| keq rfl rfl (r := false) rfl <| kas rfl <| RunK.nil <| LWP.condF rfl ?_; refine LWP.seq <| rgN <| keq rfl rfl (r := false) rfl <| kas rfl <| RunK.nil <| LWP.condF rfl ?_; refine LWP.seq <| rgN <| keq rfl rfl (r := true) rfl <| kas rfl <| RunK.nil <| LWP.condT rfl ?_; refine LWP.seq <| rgD mixed <| kmv rfl <| K.indexX rfl rfl SliceT.h hb0 h0 .plain <| K.loadXagg rfl hX (by kernel_rfl) s0 c0 .plain <| kmv rfl <| K.indexX rfl rfl SliceT.h hb1 h1 .plain <| K.loadXagg rfl hX (by kernel_rfl) s1 c1 .plain <| K.aggEq rfl rfl rfl rfl (by kernel_rfl) q (.inl ⟨rfl, rfl⟩) .plain <| kca rfl rfl (hTr) <| kex rfl rfl <| kex rfl rfl <| K.storeAll rfl rfl rfl rfl rfl rfl .plain ?_; refine kas rfl <| RunK.nil <| rgA ?_; refine LWP.ret ?_))
    exact ⟨[_, _], ⟨⟨_, _, rfl, rfl, rfl, .inl ⟨AggT.h, rfl⟩⟩, rfl, trivial⟩, rfl⟩
set_option maxHeartbeats 3200000 in
theorem rNode_14 (b0 : Bool) (M0 : Int) (b1 : Bool) (M1 : Int) (ad : Option Addr) (cap : Nat) (hin : NumsIn X ad [(b0, M0), (b1, M1)]) : PSpec Tryz.prog X 67 [Ln .i64 14, Lx ad 2 cap] (exR (nodeX 14 [(b0, M0), (b1, M1)])) := by
    have hall := hin.all (by show 0 < 2; omega)
    obtain ⟨blk, off, arr, el, fr, rfl, hX, hall⟩ := hall
    obtain ⟨i0, s0, c0⟩ := hall 0 _ _ rfl
    have h0 : off + Int.toNat 0 * 3 = off + 0 * 3 := rfl
    have hb0 : 0 ≤ (0 : Int) ∧ (0 : Int) < (2 : Nat) := by omega
    obtain ⟨i1, s1, c1⟩ := hall 1 _ _ rfl
    have h1 : off + Int.toNat 1 * 3 = off + 1 * 3 := rfl
    have hb1 : 0 ≤ (1 : Int) ∧ (1 : Int) < (2 : Nat) := by omega
    have hG0 := Good_spec X b0 M0 i0
    have hG1 := Good_spec X b1 M1 i1
    cases g0 : formB b0 M0 with
    | false =>
      have hG0 := hG0 false g0
      rw [show nodeX 14 [(b0, M0), (b1, M1)] = .error 1 by simp [nodeX, gd, g0]]
      refine PSpec.intro Tryz.func67 rfl (by kernel_rfl) rfl rfl ?_
      intro C
      (refine LWP.seq <| rgN <| K.alloc rfl .plain ?_; refine kas rfl <| RunK.nil <| LWP.seq <| LWP.seq <| rgN <| kmv rfl <| K.geq rfl rfl (r := true) rfl .plain <| kmv rfl <| gmv rfl rfl rfl <| K.leq rfl rfl (r := false) rfl (.taken rfl rfl) ?_; refine kpt rfl rfl <| RunK.nil <| LWP.condF rfl ?_; refine LWP.skip ?_; refine LWP.seq <| LWP.seq <| rgN <| kmv rfl <| keq rfl rfl (r := false) rfl <| RunK.nil <| LWP.condF rfl ?_; refine LWP.skip ?_; refine LWP.seq <| LWP.seq <| rgN <| kmv rfl <| K.indexX rfl rfl SliceT.h hb0 h0 .plain <| K.loadXagg rfl hX (by kernel_rfl) s0 c0 .plain <| kca rfl rfl (hG0) <| K.not rfl rfl .plain <| kmv rfl <| RunK.passed rfl rfl rfl <| RunK.passed rfl rfl rfl <| RunK.passed rfl rfl rfl <| RunK.passed rfl rfl rfl <| RunK.passedU rfl rfl ?_; refine RunK.passedU rfl rfl <| RunK.passedU rfl rfl <| RunK.passedU rfl rfl <| RunK.passedU rfl rfl <| RunK.passed rfl rfl rfl <| kpt rfl rfl <| RunK.nil <| LWP.condT rfl ?_; refine LWP.seq <| rgN <| K.build rfl rfl (by exact rfl) (by exact nl3 rfl rfl rfl rfl) .plain ?_; refine K.storeAll rfl rfl rfl rfl rfl rfl .plain ?_; refine kas rfl <| RunK.nil <| LWP.ret ?_)
      exact ⟨[_, _], ⟨⟨_, _, rfl, rfl, rfl, .inl ⟨AggT.h, rfl⟩⟩, rfl, trivial⟩, rfl⟩
    | true =>
    have hG0 := hG0 true g0
    cases g1 : formB b1 M1 with
    | false =>
      have hG1 := hG1 false g1
      rw [show nodeX 14 [(b0, M0), (b1, M1)] = .error 1 by simp [nodeX, gd, g0, g1]]
      refine PSpec.intro Tryz.func67 rfl (by kernel_rfl) rfl rfl ?_
      intro C
      (refine LWP.seq <| rgN <| K.alloc rfl .plain ?_; refine kas rfl <| RunK.nil <| LWP.seq <| LWP.seq <| rgN <| kmv rfl <| K.geq rfl rfl (r := true) rfl .plain <| kmv rfl <| gmv rfl rfl rfl <| K.leq rfl rfl (r := false) rfl (.taken rfl rfl) ?_; refine kpt rfl rfl <| RunK.nil <| LWP.condF rfl ?_; refine LWP.skip ?_; refine LWP.seq <| LWP.seq <| rgN <| kmv rfl <| keq rfl rfl (r := false) rfl <| RunK.nil <| LWP.condF rfl ?_; refine LWP.skip ?_; refine LWP.seq <| LWP.seq <| rgN <| kmv rfl <| K.indexX rfl rfl SliceT.h hb0 h0 .plain <| K.loadXagg rfl hX (by kernel_rfl) s0 c0 .plain <| kca rfl rfl (hG0) <| K.not rfl rfl .plain <| kmv rfl <| gmv rfl rfl rfl <| K.lenX rfl SliceT.h rfl (.taken rfl rfl) ?_; refine K.eql rfl rfl (r := true) rfl (.taken rfl rfl) ?_; refine gmv rfl rfl rfl <| gmv rfl rfl rfl <| K.indexX rfl rfl SliceT.h hb1 h1 (.taken rfl rfl) ?_; refine K.loadXagg rfl hX (by kernel_rfl) s1 c1 (.taken rfl rfl) ?_; refine gca rfl rfl (hG1) rfl rfl <| K.not rfl rfl (.taken rfl rfl) ?_; refine K.pickT rfl rfl (.taken rfl rfl) ?_; refine kpf rfl rfl <| RunK.nil <| LWP.condT rfl ?_; refine LWP.seq <| rgN <| K.build rfl rfl (by exact rfl) (by exact nl3 rfl rfl rfl rfl) .plain ?_; refine K.storeAll rfl rfl rfl rfl rfl rfl .plain ?_; refine kas rfl <| RunK.nil <| LWP.ret ?_)
      exact ⟨[_, _], ⟨⟨_, _, rfl, rfl, rfl, .inl ⟨AggT.h, rfl⟩⟩, rfl, trivial⟩, rfl⟩
    | true =>
    have hG1 := hG1 true g1
    obtain ⟨e0, r0⟩ := gd_q (u := (b0, M0)) g0 i0
    obtain ⟨e1, r1⟩ := gd_q (u := (b1, M1)) g1 i1
    have hC := RCmp_spec X (zz (b0, M0)) (zz (b1, M1)) r0 r1 _ rfl
    rw [← e0, ← e1] at hC
    obtain ⟨k1, _⟩ := cmp_lz (u := (b0, M0)) (v := (b1, M1))
    have hTr := rTruth_spec X (decide (zz (b0, M0) < zz (b1, M1)))
    rw [show nodeX 14 [(b0, M0), (b1, M1)] = .ok (truth (decide (zz (b0, M0) < zz (b1, M1)))) by simp [nodeX, gd, g0, g1]]
    clear e0 e1
    generalize decide (zz (b0, M0) < zz (b1, M1)) = y at *
    generalize cmpI (zz (b0, M0)) (zz (b1, M1)) = z at *
    refine PSpec.intro Tryz.func67 rfl (by kernel_rfl) rfl rfl ?_
    intro C
    ((refine LWP.seq <| rgN <| K.alloc rfl .plain ?_; refine kas rfl <| RunK.nil <| LWP.seq <| LWP.seq <| rgN <| kmv rfl <| K.geq rfl rfl (r := true) rfl .plain <| kmv rfl <| gmv rfl rfl rfl <| K.leq rfl rfl (r := false) rfl (.taken rfl rfl) ?_; refine kpt rfl rfl <| RunK.nil <| LWP.condF rfl ?_; refine LWP.skip ?_; refine LWP.seq <| LWP.seq <| rgN <| kmv rfl <| keq rfl rfl (r := false) rfl <| RunK.nil <| LWP.condF rfl ?_; refine LWP.skip ?_; refine LWP.seq <| LWP.seq <| rgN <| kmv rfl <| K.indexX rfl rfl SliceT.h hb0 h0 .plain <| K.loadXagg rfl hX (by kernel_rfl) s0 c0 .plain <| kca rfl rfl (hG0) <| K.not rfl rfl .plain <| kmv rfl <| gmv rfl rfl rfl <| K.lenX rfl SliceT.h rfl (.taken rfl rfl) ?_; refine K.eql rfl rfl (r := true) rfl (.taken rfl rfl) ?_; refine gmv rfl rfl rfl <| gmv rfl rfl rfl <| K.indexX rfl rfl SliceT.h hb1 h1 (.taken rfl rfl) ?_; refine K.loadXagg rfl hX (by kernel_rfl) s1 c1 (.taken rfl rfl) ?_; refine gca rfl rfl (hG1) rfl rfl <| K.not rfl rfl (.taken rfl rfl) ?_; refine K.pickT rfl rfl (.taken rfl rfl) ?_); (refine kpf rfl rfl <| RunK.nil <| LWP.condF rfl ?_; refine LWP.skip ?_; refine LWP.seq <| LWP.seq <| rgN <| kmv rfl <| RunK.nil <| LWP.block <| LWP.seq <| rgN <| keq rfl rfl (r := false) rfl <| kas rfl <| RunK.nil <| LWP.condF rfl ?_; refine LWP.seq <| rgN <| keq rfl rfl (r := false) rfl <| kas rfl <| RunK.nil <| LWP.condF rfl ?_; refine LWP.seq <| rgN <| keq rfl rfl (r := false) rfl <| kas rfl <| RunK.nil <| LWP.condF rfl ?_; refine LWP.seq <| rgN <| keq rfl rfl (r := false) rfl <| kas rfl <| RunK.nil <| LWP.condF rfl ?_; refine LWP.seq <| rgN <| keq rfl rfl (r := true) rfl <| kas rfl <| RunK.nil <| LWP.condT rfl ?_; refine LWP.seq <| rgD mixed <| kmv rfl <| K.indexX rfl rfl SliceT.h hb0 h0 .plain <| K.loadXagg rfl hX (by kernel_rfl) s0 c0 .plain <| kmv rfl <| K.indexX rfl rfl SliceT.h hb1 h1 .plain <| K.loadXagg rfl hX (by kernel_rfl) s1 c1 .plain <| kca rfl rfl (hC) <| klt rfl rfl k1 <| kca rfl rfl (hTr) <| kex rfl rfl <| kex rfl rfl <| K.storeAll rfl rfl rfl rfl rfl rfl .plain ?_; refine kas rfl <| RunK.nil <| rgA ?_; refine LWP.ret ?_))
    exact ⟨[_, _], ⟨⟨_, _, rfl, rfl, rfl, .inl ⟨AggT.h, rfl⟩⟩, rfl, trivial⟩, rfl⟩
set_option maxHeartbeats 3200000 in
theorem rNode_16 (b0 : Bool) (M0 : Int) (b1 : Bool) (M1 : Int) (b2 : Bool) (M2 : Int) (ad : Option Addr) (cap : Nat) (hin : NumsIn X ad [(b0, M0), (b1, M1), (b2, M2)]) : PSpec Tryz.prog X 67 [Ln .i64 16, Lx ad 3 cap] (exR (nodeX 16 [(b0, M0), (b1, M1), (b2, M2)])) := by
    have hall := hin.all (by show 0 < 3; omega)
    obtain ⟨blk, off, arr, el, fr, rfl, hX, hall⟩ := hall
    obtain ⟨i0, s0, c0⟩ := hall 0 _ _ rfl
    have h0 : off + Int.toNat 0 * 3 = off + 0 * 3 := rfl
    have hb0 : 0 ≤ (0 : Int) ∧ (0 : Int) < (3 : Nat) := by omega
    obtain ⟨i1, s1, c1⟩ := hall 1 _ _ rfl
    have h1 : off + Int.toNat 1 * 3 = off + 1 * 3 := rfl
    have hb1 : 0 ≤ (1 : Int) ∧ (1 : Int) < (3 : Nat) := by omega
    obtain ⟨i2, s2, c2⟩ := hall 2 _ _ rfl
    have h2 : off + Int.toNat 2 * 3 = off + 2 * 3 := rfl
    have hb2 : 0 ≤ (2 : Int) ∧ (2 : Int) < (3 : Nat) := by omega
    have hG0 := Good_spec X b0 M0 i0
    cases g0 : formB b0 M0 with
    | false =>
      have hG0 := hG0 false g0
      rw [show nodeX 16 [(b0, M0), (b1, M1), (b2, M2)] = .error 1 by simp [nodeX, gd, g0]]
      refine PSpec.intro Tryz.func67 rfl (by kernel_rfl) rfl rfl ?_
      intro C
      (refine LWP.seq <| rgN <| K.alloc rfl .plain ?_; refine kas rfl <| RunK.nil <| LWP.seq <| LWP.seq <| rgN <| kmv rfl <| K.geq rfl rfl (r := true) rfl .plain <| kmv rfl <| gmv rfl rfl rfl <| K.leq rfl rfl (r := false) rfl (.taken rfl rfl) ?_; refine kpt rfl rfl <| RunK.nil <| LWP.condF rfl ?_; refine LWP.skip ?_; refine LWP.seq <| LWP.seq <| rgN <| kmv rfl <| keq rfl rfl (r := false) rfl <| RunK.nil <| LWP.condF rfl ?_; refine LWP.skip ?_; refine LWP.seq <| LWP.seq <| rgN <| kmv rfl <| K.indexX rfl rfl SliceT.h hb0 h0 .plain <| K.loadXagg rfl hX (by kernel_rfl) s0 c0 .plain <| kca rfl rfl (hG0) <| K.not rfl rfl .plain <| kmv rfl <| RunK.passed rfl rfl rfl <| RunK.passed rfl rfl rfl <| RunK.passed rfl rfl rfl <| RunK.passed rfl rfl rfl <| RunK.passedU rfl rfl ?_; refine RunK.passedU rfl rfl <| RunK.passedU rfl rfl <| RunK.passedU rfl rfl <| RunK.passedU rfl rfl <| RunK.passed rfl rfl rfl <| kpt rfl rfl <| RunK.nil <| LWP.condT rfl ?_; refine LWP.seq <| rgN <| K.build rfl rfl (by exact rfl) (by exact nl3 rfl rfl rfl rfl) .plain ?_; refine K.storeAll rfl rfl rfl rfl rfl rfl .plain ?_; refine kas rfl <| RunK.nil <| LWP.ret ?_)
      exact ⟨[_, _], ⟨⟨_, _, rfl, rfl, rfl, .inl ⟨AggT.h, rfl⟩⟩, rfl, trivial⟩, rfl⟩
    | true =>
    have hG0 := hG0 true g0
    have q := eqI (b := b0) (b' := false) (h := M0 / 18446744073709551616) (h' := 0) (l := M0 % 18446744073709551616) (l' := 0) _ (eqZ i0)
    rw [show nodeX 16 [(b0, M0), (b1, M1), (b2, M2)] = .ok (if ((b0, M0) : Nm) = (false, 0) then (b2, M2) else (b1, M1)) by simp [nodeX, gd, g0]]
    by_cases c : ((b0, M0) : Nm) = (false, 0)
    · rw [if_pos c]
      rw [decide_eq_true c] at q
      refine PSpec.intro Tryz.func67 rfl (by kernel_rfl) rfl rfl ?_
      intro C
      ((refine LWP.seq <| rgN <| K.alloc rfl .plain ?_; refine kas rfl <| RunK.nil <| LWP.seq <| LWP.seq <| rgN <| kmv rfl <| K.geq rfl rfl (r := true) rfl .plain <| kmv rfl <| gmv rfl rfl rfl <| K.leq rfl rfl (r := false) rfl (.taken rfl rfl) ?_; refine kpt rfl rfl <| RunK.nil <| LWP.condF rfl ?_; refine LWP.skip ?_; refine LWP.seq <| LWP.seq <| rgN <| kmv rfl <| keq rfl rfl (r := false) rfl <| RunK.nil <| LWP.condF rfl ?_; refine LWP.skip ?_; refine LWP.seq <| LWP.seq <| rgN <| kmv rfl <| K.indexX rfl rfl SliceT.h hb0 h0 .plain <| K.loadXagg rfl hX (by kernel_rfl) s0 c0 .plain <| kca rfl rfl (hG0) <| K.not rfl rfl .plain <| kmv rfl <| gmv rfl rfl rfl <| K.lenX rfl SliceT.h rfl (.taken rfl rfl) ?_; refine K.eql rfl rfl (r := false) rfl (.taken rfl rfl) ?_; refine gmv rfl rfl rfl <| RunK.passed rfl rfl rfl <| RunK.passed rfl rfl rfl <| RunK.passed rfl rfl rfl <| RunK.passed rfl rfl rfl <| RunK.passed rfl rfl rfl <| K.pickF rfl rfl (.taken rfl rfl) ?_; refine kpf rfl rfl <| RunK.nil <| LWP.condF rfl ?_; refine LWP.skip ?_; refine LWP.seq <| LWP.seq <| rgN <| kmv rfl <| RunK.nil <| LWP.block <| LWP.seq <| rgN <| keq rfl rfl (r := false) rfl <| kas rfl <| RunK.nil <| LWP.condF rfl ?_); (refine LWP.seq <| rgN <| keq rfl rfl (r := false) rfl <| kas rfl <| RunK.nil <| LWP.condF rfl ?_; refine LWP.seq <| rgN <| keq rfl rfl (r := false) rfl <| kas rfl <| RunK.nil <| LWP.condF rfl ?_; refine LWP.seq <| rgN <| keq rfl rfl (r := false) rfl <| kas rfl <| RunK.nil <| LWP.condF rfl ?_; refine LWP.seq <| rgN <| keq rfl rfl (r := false) rfl <| kas rfl <| RunK.nil <| LWP.condF rfl ?_; refine LWP.seq <| rgN <| keq rfl rfl (r := false) rfl <| kas rfl <| RunK.nil <| LWP.condF rfl ?_; refine LWP.skip ?_; refine LWP.seq <| LWP.seq <| rgN <| kmv rfl <| K.indexX rfl rfl SliceT.h hb0 h0 .plain <| K.loadXagg rfl hX (by kernel_rfl) s0 c0 .plain <| K.build rfl rfl (by exact rfl) (by exact nl3 rfl rfl rfl rfl) .plain ?_; refine K.aggEq (c := false) rfl rfl rfl rfl (by kernel_rfl) q (.inr ⟨rfl, rfl⟩) .plain <| RunK.nil <| LWP.condF rfl ?_; refine LWP.skip ?_; refine LWP.seq <| rgN <| kmv rfl <| K.indexX rfl rfl SliceT.h hb2 h2 .plain <| K.loadXagg rfl hX (by kernel_rfl) s2 c2 .plain <| K.storeAll rfl rfl rfl rfl rfl rfl .plain ?_; refine kas rfl <| RunK.nil <| LWP.ret ?_))
      exact ⟨[_, _], ⟨⟨_, _, rfl, rfl, rfl, .inl ⟨AggT.h, rfl⟩⟩, rfl, trivial⟩, rfl⟩
    · rw [if_neg c]
      rw [decide_eq_false c] at q
      refine PSpec.intro Tryz.func67 rfl (by kernel_rfl) rfl rfl ?_
      intro C
      ((refine LWP.seq <| rgN <| K.alloc rfl .plain ?_; refine kas rfl <| RunK.nil <| LWP.seq <| LWP.seq <| rgN <| kmv rfl <| K.geq rfl rfl (r := true) rfl .plain <| kmv rfl <| gmv rfl rfl rfl <| K.leq rfl rfl (r := false) rfl (.taken rfl rfl) ?_; refine kpt rfl rfl <| RunK.nil <| LWP.condF rfl ?_; refine LWP.skip ?_; refine LWP.seq <| LWP.seq <| rgN <| kmv rfl <| keq rfl rfl (r := false) rfl <| RunK.nil <| LWP.condF rfl ?_; refine LWP.skip ?_; refine LWP.seq <| LWP.seq <| rgN <| kmv rfl <| K.indexX rfl rfl SliceT.h hb0 h0 .plain <| K.loadXagg rfl hX (by kernel_rfl) s0 c0 .plain <| kca rfl rfl (hG0) <| K.not rfl rfl .plain <| kmv rfl <| gmv rfl rfl rfl <| K.lenX rfl SliceT.h rfl (.taken rfl rfl) ?_; refine K.eql rfl rfl (r := false) rfl (.taken rfl rfl) ?_; refine gmv rfl rfl rfl <| RunK.passed rfl rfl rfl <| RunK.passed rfl rfl rfl <| RunK.passed rfl rfl rfl <| RunK.passed rfl rfl rfl <| RunK.passed rfl rfl rfl <| K.pickF rfl rfl (.taken rfl rfl) ?_; refine kpf rfl rfl <| RunK.nil <| LWP.condF rfl ?_; refine LWP.skip ?_; refine LWP.seq <| LWP.seq <| rgN <| kmv rfl <| RunK.nil <| LWP.block <| LWP.seq <| rgN <| keq rfl rfl (r := false) rfl <| kas rfl <| RunK.nil <| LWP.condF rfl ?_); (refine LWP.seq <| rgN <| keq rfl rfl (r := false) rfl <| kas rfl <| RunK.nil <| LWP.condF rfl ?_; refine LWP.seq <| rgN <| keq rfl rfl (r := false) rfl <| kas rfl <| RunK.nil <| LWP.condF rfl ?_; refine LWP.seq <| rgN <| keq rfl rfl (r := false) rfl <| kas rfl <| RunK.nil <| LWP.condF rfl ?_; refine LWP.seq <| rgN <| keq rfl rfl (r := false) rfl <| kas rfl <| RunK.nil <| LWP.condF rfl ?_; refine LWP.seq <| rgN <| keq rfl rfl (r := false) rfl <| kas rfl <| RunK.nil <| LWP.condF rfl ?_; refine LWP.skip ?_; refine LWP.seq <| LWP.seq <| rgN <| kmv rfl <| K.indexX rfl rfl SliceT.h hb0 h0 .plain <| K.loadXagg rfl hX (by kernel_rfl) s0 c0 .plain <| K.build rfl rfl (by exact rfl) (by exact nl3 rfl rfl rfl rfl) .plain ?_; refine K.aggEq (c := true) rfl rfl rfl rfl (by kernel_rfl) q (.inr ⟨rfl, rfl⟩) .plain <| RunK.nil <| LWP.condT rfl ?_; refine LWP.seq <| rgN <| kmv rfl <| K.indexX rfl rfl SliceT.h hb1 h1 .plain <| K.loadXagg rfl hX (by kernel_rfl) s1 c1 .plain <| K.storeAll rfl rfl rfl rfl rfl rfl .plain ?_; refine kas rfl <| RunK.nil <| LWP.ret ?_))
      exact ⟨[_, _], ⟨⟨_, _, rfl, rfl, rfl, .inl ⟨AggT.h, rfl⟩⟩, rfl, trivial⟩, rfl⟩
set_option maxHeartbeats 3200000 in
theorem rNode_17 (b0 : Bool) (M0 : Int) (b1 : Bool) (M1 : Int) (ad : Option Addr) (cap : Nat) (hin : NumsIn X ad [(b0, M0), (b1, M1)]) : PSpec Tryz.prog X 67 [Ln .i64 17, Lx ad 2 cap] (exR (nodeX 17 [(b0, M0), (b1, M1)])) := by
    have hall := hin.all (by show 0 < 2; omega)
    obtain ⟨blk, off, arr, el, fr, rfl, hX, hall⟩ := hall
    obtain ⟨i0, s0, c0⟩ := hall 0 _ _ rfl
    have h0 : off + Int.toNat 0 * 3 = off + 0 * 3 := rfl
    have hb0 : 0 ≤ (0 : Int) ∧ (0 : Int) < (2 : Nat) := by omega
    obtain ⟨i1, s1, c1⟩ := hall 1 _ _ rfl
    have h1 : off + Int.toNat 1 * 3 = off + 1 * 3 := rfl
    have hb1 : 0 ≤ (1 : Int) ∧ (1 : Int) < (2 : Nat) := by omega
    have hG1 := Good_spec X b1 M1 i1
    cases g1 : formB b1 M1 with
    | false =>
      have hG1 := hG1 false g1
      rw [show nodeX 17 [(b0, M0), (b1, M1)] = .error 1 by simp [nodeX, gd, g1]]
      refine PSpec.intro Tryz.func67 rfl (by kernel_rfl) rfl rfl ?_
      intro C
      (refine LWP.seq <| rgN <| K.alloc rfl .plain ?_; refine kas rfl <| RunK.nil <| LWP.seq <| LWP.seq <| rgN <| kmv rfl <| K.geq rfl rfl (r := true) rfl .plain <| kmv rfl <| gmv rfl rfl rfl <| K.leq rfl rfl (r := false) rfl (.taken rfl rfl) ?_; refine kpt rfl rfl <| RunK.nil <| LWP.condF rfl ?_; refine LWP.skip ?_; refine LWP.seq <| LWP.seq <| rgN <| kmv rfl <| keq rfl rfl (r := true) rfl <| RunK.nil <| LWP.condT rfl ?_; refine LWP.seq <| LWP.seq <| rgN <| kmv rfl <| K.indexX rfl rfl SliceT.h hb1 h1 .plain <| K.loadXagg rfl hX (by kernel_rfl) s1 c1 .plain <| kca rfl rfl (hG1) <| K.not rfl rfl .plain <| RunK.nil <| LWP.condT rfl ?_; refine LWP.seq <| rgN <| K.build rfl rfl (by exact rfl) (by exact nl3 rfl rfl rfl rfl) .plain ?_; refine K.storeAll rfl rfl rfl rfl rfl rfl .plain ?_; refine kas rfl <| RunK.nil <| LWP.ret ?_)
      exact ⟨[_, _], ⟨⟨_, _, rfl, rfl, rfl, .inl ⟨AggT.h, rfl⟩⟩, rfl, trivial⟩, rfl⟩
    | true =>
    have hG1 := hG1 true g1
    have q := eqI (b := b1) (b' := false) (h := M1 / 18446744073709551616) (h' := 0) (l := M1 % 18446744073709551616) (l' := 0) _ (eqZ i1)
    rw [show nodeX 17 [(b0, M0), (b1, M1)] = (if ((b1, M1) : Nm) = (false, 0) then .error 9 else .ok (b0, M0)) by simp [nodeX, gd, g1]]
    by_cases c : ((b1, M1) : Nm) = (false, 0)
    · rw [if_pos c]
      rw [decide_eq_true c] at q
      refine PSpec.intro Tryz.func67 rfl (by kernel_rfl) rfl rfl ?_
      intro C
      (refine LWP.seq <| rgN <| K.alloc rfl .plain ?_; refine kas rfl <| RunK.nil <| LWP.seq <| LWP.seq <| rgN <| kmv rfl <| K.geq rfl rfl (r := true) rfl .plain <| kmv rfl <| gmv rfl rfl rfl <| K.leq rfl rfl (r := false) rfl (.taken rfl rfl) ?_; refine kpt rfl rfl <| RunK.nil <| LWP.condF rfl ?_; refine LWP.skip ?_; refine LWP.seq <| LWP.seq <| rgN <| kmv rfl <| keq rfl rfl (r := true) rfl <| RunK.nil <| LWP.condT rfl ?_; refine LWP.seq <| LWP.seq <| rgN <| kmv rfl <| K.indexX rfl rfl SliceT.h hb1 h1 .plain <| K.loadXagg rfl hX (by kernel_rfl) s1 c1 .plain <| kca rfl rfl (hG1) <| K.not rfl rfl .plain <| RunK.nil <| LWP.condF rfl ?_; refine LWP.skip ?_; refine LWP.seq <| LWP.seq <| rgN <| kmv rfl <| K.indexX rfl rfl SliceT.h hb1 h1 .plain <| K.loadXagg rfl hX (by kernel_rfl) s1 c1 .plain <| K.build rfl rfl (by exact rfl) (by exact nl3 rfl rfl rfl rfl) .plain ?_; refine K.aggEq rfl rfl rfl rfl (by kernel_rfl) q (.inl ⟨rfl, rfl⟩) .plain <| RunK.nil <| LWP.condT rfl ?_; refine LWP.seq <| rgN <| K.build rfl rfl (by exact rfl) (by exact nl3 rfl rfl rfl rfl) .plain ?_; refine K.storeAll rfl rfl rfl rfl rfl rfl .plain ?_; refine kas rfl <| RunK.nil <| LWP.ret ?_)
      exact ⟨[_, _], ⟨⟨_, _, rfl, rfl, rfl, .inl ⟨AggT.h, rfl⟩⟩, rfl, trivial⟩, rfl⟩
    · rw [if_neg c]
      rw [decide_eq_false c] at q
      refine PSpec.intro Tryz.func67 rfl (by kernel_rfl) rfl rfl ?_
      intro C
      (refine LWP.seq <| rgN <| K.alloc rfl .plain ?_; refine kas rfl <| RunK.nil <| LWP.seq <| LWP.seq <| rgN <| kmv rfl <| K.geq rfl rfl (r := true) rfl .plain <| kmv rfl <| gmv rfl rfl rfl <| K.leq rfl rfl (r := false) rfl (.taken rfl rfl) ?_; refine kpt rfl rfl <| RunK.nil <| LWP.condF rfl ?_; refine LWP.skip ?_; refine LWP.seq <| LWP.seq <| rgN <| kmv rfl <| keq rfl rfl (r := true) rfl <| RunK.nil <| LWP.condT rfl ?_; refine LWP.seq <| LWP.seq <| rgN <| kmv rfl <| K.indexX rfl rfl SliceT.h hb1 h1 .plain <| K.loadXagg rfl hX (by kernel_rfl) s1 c1 .plain <| kca rfl rfl (hG1) <| K.not rfl rfl .plain <| RunK.nil <| LWP.condF rfl ?_; refine LWP.skip ?_; refine LWP.seq <| LWP.seq <| rgN <| kmv rfl <| K.indexX rfl rfl SliceT.h hb1 h1 .plain <| K.loadXagg rfl hX (by kernel_rfl) s1 c1 .plain <| K.build rfl rfl (by exact rfl) (by exact nl3 rfl rfl rfl rfl) .plain ?_; refine K.aggEq rfl rfl rfl rfl (by kernel_rfl) q (.inl ⟨rfl, rfl⟩) .plain <| RunK.nil <| LWP.condF rfl ?_; refine LWP.skip ?_; refine LWP.seq <| rgN <| kmv rfl <| K.indexX rfl rfl SliceT.h hb0 h0 .plain <| K.loadXagg rfl hX (by kernel_rfl) s0 c0 .plain <| K.storeAll rfl rfl rfl rfl rfl rfl .plain ?_; refine kas rfl <| RunK.nil <| LWP.ret ?_)
      exact ⟨[_, _], ⟨⟨_, _, rfl, rfl, rfl, .inl ⟨AggT.h, rfl⟩⟩, rfl, trivial⟩, rfl⟩
theorem rNode_spec (op : Int) (a : List Nm) (hl : a.length = takes op) (hpos : 0 < takes op) (ad : Option Addr) (cap : Nat) (hin : NumsIn X ad a) : PSpec Tryz.prog X 67 [Ln .i64 op, Lx ad a.length cap] (exR (nodeX op a)) := by
  have h517 : 5 ≤ op ∧ op ≤ 17 := by
    unfold takes at hpos
    split at hpos
    · omega
    · split at hpos
      · omega
      · split at hpos <;> omega
  have t1 : ∀ {n : Nat} (_ : a.length = n), n = 1 → ∃ b0 M0, a = [(b0, M0)] := fun h e => by
    subst e
    match a, h with
    | [(b0, M0)], _ => exact ⟨_, _, rfl⟩
  have t2 : ∀ {n : Nat} (_ : a.length = n), n = 2 → ∃ b0 M0 b1 M1, a = [(b0, M0), (b1, M1)] := fun h e => by
    subst e
    match a, h with
    | [(b0, M0), (b1, M1)], _ => exact ⟨_, _, _, _, rfl⟩
  have t3 : ∀ {n : Nat} (_ : a.length = n), n = 3 → ∃ b0 M0 b1 M1 b2 M2, a = [(b0, M0), (b1, M1), (b2, M2)] := fun h e => by
    subst e
    match a, h with
    | [(b0, M0), (b1, M1), (b2, M2)], _ => exact ⟨_, _, _, _, _, _, rfl⟩
  by_cases h9 : op ≤ 9
  · obtain ⟨b0, M0, b1, M1, rfl⟩ := t2 hl (by unfold takes; rw [if_neg (by omega), if_neg (by omega), if_pos (by omega)])
    exact rNode_do X op ⟨by omega, h9⟩ b0 M0 b1 M1 ad cap hin
  · rcases (show op = 10 ∨ op = 11 ∨ op = 12 ∨ op = 13 ∨ op = 14 ∨ op = 15 ∨ op = 16 ∨ op = 17 by omega) with rfl | rfl | rfl | rfl | rfl | rfl | rfl | rfl
    · obtain ⟨b0, M0, rfl⟩ := t1 hl rfl
      exact rNode_10 X b0 M0 ad cap hin
    · obtain ⟨b0, M0, b1, M1, rfl⟩ := t2 hl rfl
      exact rNode_11 X b0 M0 b1 M1 ad cap hin
    · obtain ⟨b0, M0, b1, M1, rfl⟩ := t2 hl rfl
      exact rNode_12 X b0 M0 b1 M1 ad cap hin
    · obtain ⟨b0, M0, b1, M1, rfl⟩ := t2 hl rfl
      exact rNode_13 X b0 M0 b1 M1 ad cap hin
    · obtain ⟨b0, M0, b1, M1, rfl⟩ := t2 hl rfl
      exact rNode_14 X b0 M0 b1 M1 ad cap hin
    · obtain ⟨b0, M0, rfl⟩ := t1 hl rfl
      exact rNode_15 X b0 M0 ad cap hin
    · obtain ⟨b0, M0, b1, M1, b2, M2, rfl⟩ := t3 hl rfl
      exact rNode_16 X b0 M0 b1 M1 b2 M2 ad cap hin
    · obtain ⟨b0, M0, b1, M1, rfl⟩ := t2 hl rfl
      exact rNode_17 X b0 M0 b1 M1 ad cap hin
end Go.Proofs.YtimpjdbhalnofaaGreatDoor
end
section
namespace Go.Proofs.YtimpjdbhalnofaaGreatDoor
open Go Go.Lg Go.Lg.Fml Go.Lg.Fld Go.Lg.Arith
set_option maxRecDepth 100000
variable (X : Nat → Option Obj)
def inssV (l : List Ins) : List Value := (l.map insV).flatten
theorem vals_use {bx : List (Nat × Option Box)} : ∀ {l : List Value}, (l.map CV.val).all (CV.inUse bx) = true
  | [] => rfl
  | v :: l => by rw [List.map_cons, List.all_cons, vals_use (l := l)]; rfl
theorem inssV_len (l : List Ins) : ((inssV l).map CV.val).length = l.length * 6 := by
  unfold inssV
  rw [List.length_map]
  induction l with
  | nil => rfl
  | cons x t ih => simp only [List.map_cons, List.flatten_cons, List.length_append, List.length_cons, ih, insV, List.length_nil]; omega
theorem inssV_snoc (l : List Ins) (x : Ins) {cs : List CV} (h : cs = (insV x).map CV.val) : (inssV l).map CV.val ++ cs = (inssV (l ++ [x])).map CV.val := by
  unfold inssV
  rw [h, List.map_append, List.flatten_append, List.map_append]
  simp
theorem ins_in {Y : Nat → Option Obj} {blk : Nat} {arr : Array Value} {el : TypeId} {fr : Nat × Nat} {l : List Ins} (hY : Y blk = some (.cells arr el fr)) (hi : ∀ x ∈ l, smallI x) (hsp : ∃ sp, arr.toList = inssV l ++ sp) : InsIn Y (some ⟨blk, 0, none⟩) l :=
  ⟨rows_in hY (fun r hr => by obtain ⟨x, _, rfl⟩ := List.mem_map.1 hr; rfl) hsp, hi⟩
end Go.Proofs.YtimpjdbhalnofaaGreatDoor
end
section
namespace Go.Proofs.YtimpjdbhalnofaaGreatDoor
open Go Go.Lg Go.Lg.Fml Go.Lg.Fld Go.Lg.Arith Go.Lg.Sg
set_option maxRecDepth 100000
variable (X : Nat → Option Obj)
def nmsV (a : List Nm) : List Value := (a.map nmV).flatten
theorem nmsV_len (a : List Nm) : ((nmsV a).map CV.val).length = a.length * 3 := by
  unfold nmsV
  rw [List.length_map]
  induction a with
  | nil => rfl
  | cons x t ih => simp only [List.map_cons, List.flatten_cons, List.length_append, List.length_cons, ih, nmV, List.length_nil]; omega
theorem nmsV_snoc (a : List Nm) (u : Nm) : (nmsV a).map CV.val ++ [CV.val (.bool u.1), .val (.int .u64 (u.2 / 18446744073709551616)), .val (.int .u64 (u.2 % 18446744073709551616))] = (nmsV (a ++ [u])).map CV.val := by
  unfold nmsV
  rw [List.map_append, List.flatten_append, List.map_append]
  rfl
theorem nms_in {Y : Nat → Option Obj} {blk : Nat} {arr : Array Value} {el : TypeId} {fr : Nat × Nat} {a : List Nm} (hY : Y blk = some (.cells arr el fr)) (hi : ∀ u ∈ a, In2 u.2) (hsp : ∃ sp, arr.toList = nmsV a ++ sp) : NumsIn Y (some ⟨blk, 0, none⟩) a :=
  ⟨rows_in hY (fun r hr => by obtain ⟨x, _, rfl⟩ := List.mem_map.1 hr; rfl) hsp, hi⟩
theorem node_lent {S : Nat → Option (Option Box)} {k : Nat} {a : List Nm} {el : TypeId} {row : Bool} {op : Int} (hl : a.length = takes op) (hpos : 0 < takes op) (hi : ∀ u ∈ a, In2 u.2) (hk : S k = some (some ⟨el, (nmsV a).map .val, row⟩)) :
    ∀ (Y : Nat → Option Obj) (us : List Value), (∀ b o, X b = some o → Y b = some o) → Lent S Y [Ln .i64 op, .sv (.one (.slc k 0 a.length 3))] us → PSpec Tryz.prog Y 67 (us.map toLV) (exR (nodeX op a)) := by
  intro Y us hY hL
  obtain ⟨u1, us1, rfl, h1, u2, us2, rfl, h2, rfl⟩ := hL
  have h1 : u1 = .int .i64 op := h1
  subst h1
  obtain ⟨el', cells, row', hk', blk, cap2, arr, fr, us', sp, rfl, hYb, hc, hfit, harr, hv⟩ := h2
  rw [hk] at hk'
  simp only [Option.some.injEq, Box.mk.injEq] at hk'
  obtain ⟨rfl, rfl, rfl⟩ := hk'
  have := hv (nmsV a) rfl
  subst this
  exact rNode_spec Y op a hl hpos (some ⟨blk, 0, none⟩) cap2 (nms_in hYb hi ⟨sp, harr⟩)
theorem leaf_tree {t : Tr} (ht : t.ok) (h0 : takes t.top.op = 0) (fs : List (List Nm)) (at_ : Int) : t.ev (oneX fs at_) = leafX fs at_ t.top := by
  obtain ⟨h1, _⟩ := ok_args ht
  rw [ev_args, show t.args = [] from List.eq_nil_of_length_eq_zero (by omega)]
  show oneX fs at_ t.top [] = _
  unfold oneX
  rw [if_pos h0]
theorem node_tree {t : Tr} (h0 : takes t.top.op ≠ 0) (fs : List (List Nm)) (at_ : Int) {vs : List Nm} (hv : evL (oneX fs at_) t.args = .ok vs) : t.ev (oneX fs at_) = nodeX t.top.op vs := by
  rw [ev_args, hv]
  show oneX fs at_ t.top vs = _
  unfold oneX
  rw [if_neg h0]
theorem fail_tree {t : Tr} (fs : List (List Nm)) (at_ : Int) {e : Int} (hv : evL (oneX fs at_) t.args = .error e) : t.ev (oneX fs at_) = .error e := by
  rw [ev_args, hv]
theorem qn_in2 {z : Int} (h : R127 z) : In2 (qn z).2 := mg_in2 h
theorem elem_mem {fs : List (List Nm)} {a b : Int} {v : Nm} (h : elemX fs a b = .ok v) : ∃ r ∈ fs, v ∈ r := by
  unfold elemX at h
  by_cases h0 : a < 0 ∨ b < 0
  · rw [if_pos h0] at h; cases h
  · rw [if_neg h0] at h
    cases hr : fs[a.toNat]? with
    | none => rw [hr] at h; cases h
    | some r =>
      rw [hr] at h
      simp only at h
      cases hu : r[b.toNat]? with
      | none => rw [hu] at h; cases h
      | some u =>
        rw [hu] at h
        cases h
        exact ⟨r, List.mem_of_getElem? hr, List.mem_of_getElem? hu⟩
theorem leaf_in2 {fs : List (List Nm)} {at_ : Int} {x : Ins} {v : Nm} (hf : ∀ r ∈ fs, ∀ u ∈ r, In2 u.2) (hx : In2 x.k.2) (hat : at_ < 9223372036854775808) (h : leafX fs at_ x = .ok v) : In2 v.2 := by
  unfold leafX at h
  by_cases h1 : x.op = 1
  · rw [if_pos h1] at h; cases h; exact hx
  · rw [if_neg h1] at h
    by_cases h4 : x.op = 4
    · rw [if_pos h4] at h
      by_cases h0 : at_ < 0
      · rw [if_pos h0] at h; cases h
      · rw [if_neg h0] at h
        cases h
        show 0 ≤ at_ ∧ at_ < _
        omega
    · rw [if_neg h4] at h
      obtain ⟨r, hr, hv⟩ := elem_mem h
      exact hf r hr _ hv
theorem truth_in2 (b : Bool) : In2 (truth b).2 := by
  unfold truth In2
  cases b <;> decide
theorem do_in2 {op : Int} {x y v : Nm} (h : doX op x y = .ok v) : In2 v.2 := by
  unfold doX at h
  split at h
  · cases h
  · split at h
    · cases h
    · split at h
      · rename_i hr; cases h; exact qn_in2 hr
      · cases h
theorem node_in2 {op : Int} {a : List Nm} {v : Nm} (ha : ∀ u ∈ a, In2 u.2) (h : nodeX op a = .ok v) : In2 v.2 := by
  match a, ha with
  | [x], ha =>
    simp only [nodeX] at h
    split at h
    · cases h
    · split at h
      · rename_i hg _
        cases h
        have := (zv_in (ha x (by simp)) (by simpa [gd] using hg)).1
        exact qn_in2 (by unfold R127 at *; show -_ < -(zz x) ∧ -(zz x) < _; unfold zz; omega)
      · cases h; exact truth_in2 _
  | [x, y], ha =>
    simp only [nodeX] at h
    repeat' (split at h)
    all_goals first
      | (cases h; done)
      | exact do_in2 h
      | (cases h; first | exact truth_in2 _ | exact ha _ (by simp) | (split <;> exact ha _ (by simp)))
  | [x, y, z], ha =>
    simp only [nodeX] at h
    split at h
    · cases h
    · cases h; split <;> exact ha _ (by simp)
  | [], ha => cases h
  | _ :: _ :: _ :: _ :: _, ha => cases h
theorem one_in2 {fs : List (List Nm)} {at_ : Int} {x : Ins} {a : List Nm} {v : Nm} (hf : ∀ r ∈ fs, ∀ u ∈ r, In2 u.2) (hx : In2 x.k.2) (hat : at_ < 9223372036854775808) (ha : ∀ u ∈ a, In2 u.2) (h : oneX fs at_ x a = .ok v) : In2 v.2 := by
  unfold oneX at h
  split at h
  · exact leaf_in2 hf hx hat h
  · exact node_in2 ha h
theorem tree_in2 {fs : List (List Nm)} {at_ : Int} (hf : ∀ r ∈ fs, ∀ u ∈ r, In2 u.2) (hat : at_ < 9223372036854775808) : ∀ {t : Tr} {v : Nm}, (∀ x ∈ t.flat, In2 x.k.2) → t.ev (oneX fs at_) = .ok v → In2 v.2
  | .n0 x, v, hx, h => one_in2 hf (hx x (by simp [Tr.flat])) hat (a := []) (fun u hu => by cases hu) h
  | .n1 x a, v, hx, h => by
    simp only [Tr.ev] at h
    cases ha : a.ev (oneX fs at_) with
    | error e => rw [ha] at h; cases h
    | ok u =>
      rw [ha] at h
      have h1 := tree_in2 hf hat (fun y hy => hx y (by simp [Tr.flat, hy])) ha
      exact one_in2 hf (hx x (by simp [Tr.flat])) hat (a := [u]) (fun w hw => by rw [List.mem_singleton.1 hw]; exact h1) h
  | .n2 x a b, v, hx, h => by
    simp only [Tr.ev] at h
    cases ha : a.ev (oneX fs at_) with
    | error e => rw [ha] at h; cases h
    | ok u =>
      rw [ha] at h
      simp only at h
      have h1 := tree_in2 hf hat (fun y hy => hx y (by simp [Tr.flat, hy])) ha
      cases hb : b.ev (oneX fs at_) with
      | error e => rw [hb] at h; cases h
      | ok w =>
        rw [hb] at h
        have h2 := tree_in2 hf hat (fun y hy => hx y (by simp [Tr.flat, hy])) hb
        exact one_in2 hf (hx x (by simp [Tr.flat])) hat (a := [u, w]) (fun q hq => by
          simp only [List.mem_cons, List.not_mem_nil, or_false] at hq
          rcases hq with rfl | rfl
          · exact h1
          · exact h2) h
  | .n3 x a b c, v, hx, h => by
    simp only [Tr.ev] at h
    cases ha : a.ev (oneX fs at_) with
    | error e => rw [ha] at h; cases h
    | ok u =>
      rw [ha] at h
      simp only at h
      have h1 := tree_in2 hf hat (fun y hy => hx y (by simp [Tr.flat, hy])) ha
      cases hb : b.ev (oneX fs at_) with
      | error e => rw [hb] at h; cases h
      | ok w =>
        rw [hb] at h
        simp only at h
        have h2 := tree_in2 hf hat (fun y hy => hx y (by simp [Tr.flat, hy])) hb
        cases hc : c.ev (oneX fs at_) with
        | error e => rw [hc] at h; cases h
        | ok s =>
          rw [hc] at h
          have h3 := tree_in2 hf hat (fun y hy => hx y (by simp [Tr.flat, hy])) hc
          exact one_in2 hf (hx x (by simp [Tr.flat])) hat (a := [u, w, s]) (fun q hq => by
            simp only [List.mem_cons, List.not_mem_nil, or_false] at hq
            rcases hq with rfl | rfl | rfl
            · exact h1
            · exact h2
            · exact h3) h
theorem arg_mem {t : Tr} {a : Tr} (h : a ∈ t.args) : ∀ x ∈ a.flat, x ∈ t.flat := fun x hx => by
  rw [flat_args]
  refine List.mem_append_left _ ?_
  generalize t.args = us at h
  induction us with
  | nil => cases h
  | cons b us ih =>
    rcases List.mem_cons.1 h with rfl | h
    · exact List.mem_append_left _ hx
    · exact List.mem_append_right _ (ih h)
theorem evL_in2 {fs : List (List Nm)} {at_ : Int} (hf : ∀ r ∈ fs, ∀ u ∈ r, In2 u.2) (hat : at_ < 9223372036854775808) : ∀ {us : List Tr} {vs : List Nm}, (∀ a ∈ us, ∀ x ∈ a.flat, In2 x.k.2) → evL (oneX fs at_) us = .ok vs → ∀ v ∈ vs, In2 v.2
  | [], vs, _, h => by simp only [evL, Except.ok.injEq] at h; subst h; intro v hv; cases hv
  | a :: us, vs, hx, h => by
    simp only [evL] at h
    cases ha : a.ev (oneX fs at_) with
    | error e => rw [ha] at h; cases h
    | ok u =>
      rw [ha] at h
      simp only at h
      cases hb : evL (oneX fs at_) us with
      | error e => rw [hb] at h; cases h
      | ok ws =>
        rw [hb] at h
        simp only [Except.ok.injEq] at h
        subst h
        intro v hv
        rcases List.mem_cons.1 hv with rfl | hv
        · exact tree_in2 hf hat (hx a (by simp)) ha
        · exact evL_in2 hf hat (fun b hb x hx' => hx b (by simp [hb]) x hx') hb v hv
end Go.Proofs.YtimpjdbhalnofaaGreatDoor
end
section
namespace Go.Proofs.YtimpjdbhalnofaaGreatDoor
open Go Go.Lg Go.Lg.Fml Go.Lg.Fld Go.Lg.Arith Go.Lg.Sg
set_option maxRecDepth 100000
variable (X : Nat → Option Obj)
theorem ends_cell {p i : Nat} {us : List Tr} {a : Tr} (h : us[i]? = some a) : ((nuV (endsI p us)).map CV.val)[i * 1]? = some (.val (.int .i64 ((p + (flatL (us.take (i + 1))).length - 1 : Nat) : Int))) := by
  refine nu_at ?_
  unfold endsI
  rw [List.getElem?_map, endsL_at h]
  rfl
set_option maxHeartbeats 6400000 in
theorem rTree_spec (l : List Ins) (ad : Option Addr) (cap : Nat) (hin : InsIn X ad l) (hbig : l.length < 1152921504606846976) (hall : ∀ x ∈ l, okI x = true) (fad : Option Addr) (fcap : Nat) (fs : List (List Nm)) (hfs : FssIn X fad fs) (hfl : fs.length < 4611686018427387904) (hrl : ∀ r ∈ fs, r.length < 4611686018427387904) (hf2 : ∀ r ∈ fs, ∀ u ∈ r, In2 u.2) (at_ : Int) (hat : -9223372036854775808 ≤ at_ ∧ at_ < 9223372036854775808) :
    ∀ (n : Nat) (t : Tr) (p : Nat) (e : Int), t.flat.length ≤ n → At l p t → t.ok → e = ((p + t.flat.length : Nat) : Int) - 1 →
      PSpec Tryz.prog X 32 [Lx ad l.length cap, Ln .i64 e, Lx fad fs.length fcap, Ln .i64 at_] (exR (t.ev (oneX fs at_)))
  | 0, t, p, e, hn, _, _, _ => absurd (flat_len t) (by omega)
  | n + 1, t, p, e, hn, hA, ht, he => by
    have hlen := hA.len
    have h1 := flat_len t
    have hfl2 : t.flat.length = (flatL t.args).length + 1 := by rw [flat_args]; simp
    have hal := args_le t
    obtain ⟨htop, hoks⟩ := ok_args ht
    have htl := hA.top
    obtain ⟨blk, off, arr, el, fr, rfl, hX, hsz, hcs, hop⟩ := hin.at htl
    have hT := rTakes_spec X t.top.op
    have hmem := List.mem_of_getElem? htl
    have hio : off + Int.toNat e * 6 = off + (p + t.flat.length - 1) * 6 := by
      have : Int.toNat e = p + t.flat.length - 1 := by omega
      rw [this]
    have hin0 : 0 ≤ e ∧ e < (l.length : Nat) := by omega
    by_cases h0 : takes t.top.op = 0
    · have hL := rLeaf_spec X t.top (hin.small _ hmem) (hall _ hmem) h0 fad fcap fs hfs hfl hrl at_ hat
      rw [leaf_tree ht h0]
      rw [h0] at hT
      cases hlv : leafX fs at_ t.top with
      | error e' =>
        rw [hlv] at hL
        refine PSpec.intro Tryz.func32 rfl (by kernel_rfl) rfl rfl ?_
        intro C
        (refine LWP.seq <| rgN <| K.alloc rfl .plain ?_; refine kas rfl <| RunK.nil <| LWP.seq <| LWP.seq <| rgN <| kmv rfl <| kmv rfl <| K.indexX rfl rfl SliceT.h hin0 hio .plain <| K.fieldAddrX rfl rfl .plain ?_; refine K.loadX rfl hX rfl hop .plain <| kca rfl rfl (hT) <| keq rfl rfl (r := true) rfl <| RunK.nil <| LWP.condT rfl ?_; refine LWP.seq <| rgN <| kmv rfl <| kmv rfl <| K.indexX rfl rfl SliceT.h hin0 hio .plain <| K.loadXagg rfl hX (by kernel_rfl) hsz hcs .plain <| kmv rfl <| kmv rfl <| kca rfl rfl (hL) <| kex rfl rfl <| kex rfl rfl <| K.storeAll rfl rfl rfl rfl rfl rfl .plain ?_; refine kas rfl <| RunK.nil <| LWP.ret ?_)
        exact ⟨[_, _], ⟨⟨_, _, rfl, rfl, rfl, .inl ⟨AggT.h, rfl⟩⟩, rfl, trivial⟩, rfl⟩
      | ok v =>
        rw [hlv] at hL
        refine PSpec.intro Tryz.func32 rfl (by kernel_rfl) rfl rfl ?_
        intro C
        (refine LWP.seq <| rgN <| K.alloc rfl .plain ?_; refine kas rfl <| RunK.nil <| LWP.seq <| LWP.seq <| rgN <| kmv rfl <| kmv rfl <| K.indexX rfl rfl SliceT.h hin0 hio .plain <| K.fieldAddrX rfl rfl .plain ?_; refine K.loadX rfl hX rfl hop .plain <| kca rfl rfl (hT) <| keq rfl rfl (r := true) rfl <| RunK.nil <| LWP.condT rfl ?_; refine LWP.seq <| rgN <| kmv rfl <| kmv rfl <| K.indexX rfl rfl SliceT.h hin0 hio .plain <| K.loadXagg rfl hX (by kernel_rfl) hsz hcs .plain <| kmv rfl <| kmv rfl <| kca rfl rfl (hL) <| kex rfl rfl <| kex rfl rfl <| K.storeAll rfl rfl rfl rfl rfl rfl .plain ?_; refine kas rfl <| RunK.nil <| LWP.ret ?_)
        exact ⟨[_, _], ⟨⟨_, _, rfl, rfl, rfl, .inl ⟨AggT.h, rfl⟩⟩, rfl, trivial⟩, rfl⟩
    have hB := rBranches_spec X l (some ⟨blk, off, none⟩) cap hin hbig hA ht (by omega) e he
    obtain ⟨r, hr⟩ : ∃ r, exR (t.ev (oneX fs at_)) = r := ⟨_, rfl⟩
    have hcl : ∃ a b, r = .tup [a, b] ∧ a.closed = true ∧ b.closed = true := by
      subst hr
      cases t.ev (oneX fs at_) with
      | error e' => exact ⟨_, _, rfl, rfl, rfl⟩
      | ok v => exact ⟨_, _, rfl, rfl, rfl⟩
    rw [hr]
    refine PSpec.intro Tryz.func32 rfl (by kernel_rfl) rfl (by obtain ⟨a, b, rfl, ha, hb⟩ := hcl; show (a.closed && (b.closed && true)) = true; rw [ha, hb]; rfl) ?_
    intro C
    clear hcl
    have hEl := endsI_len p t.args
    rw [hEl] at hB
    (refine LWP.seq <| rgN <| K.alloc rfl .plain ?_; refine kas rfl <| RunK.nil <| LWP.seq <| LWP.seq <| rgN <| kmv rfl <| kmv rfl <| K.indexX rfl rfl SliceT.h hin0 hio .plain <| K.fieldAddrX rfl rfl .plain ?_; refine K.loadX rfl hX rfl hop .plain <| kca rfl rfl (hT) <| keq rfl rfl (r := false) (beq_eq_false_iff_ne.2 (by omega)) <| RunK.nil <| LWP.condF rfl ?_; refine LWP.skip ?_; refine LWP.seq <| rgN <| kmv rfl <| kmv rfl <| K.callMp [(1000001, 500)] (.sv (.one (.slc 500 0 t.args.length))) [nuB 500 (endsI p t.args)] (hB) rfl rfl (by exact trivial) rfl rfl rfl rfl rfl (by exact (.box rfl (Box.ren_vals _ _ _ _) .nil)) .plain <| kas rfl <| RunK.nil <| LWP.seq <| rgN <| K.buildSlc (zs := []) (sz := 3) (e := 30) (by kernel_rfl) rfl rfl rfl rfl rfl rfl .plain <| kas rfl <| RunK.nil <| LWP.seq <| LWP.seq ?_; refine rgN <| kas rfl <| RunK.nil <| LWP.block ?_)
    refine LWP.loop (fun m σ => ∃ (i : Nat) (vs : List Nm) (rw_ : Bool), i ≤ t.args.length ∧ m = t.args.length - i ∧ evL (oneX fs at_) (t.args.take i) = .ok vs ∧ σ = ⟨[(0, Lx (some ⟨blk, off, none⟩) l.length cap), (1, Ln .i64 e), (2, Lx fad fs.length fcap), (3, Ln .i64 at_), (8, Lp 8), (10, .sv (.one (.slc 500 0 t.args.length))), (11, .sv (.one (.slc 501 0 vs.length 3))), (12, Ln .i64 (i : Nat))], [(8, some ⟨30, [.val (.bool false), .val (.int .u64 0), .val (.int .u64 0)], false⟩), nuB 500 (endsI p t.args), (501, some ⟨30, (nmsV vs).map .val, rw_⟩)], X⟩) t.args.length
      ⟨⟨[(0, Lx (some ⟨blk, off, none⟩) l.length cap), (1, Ln .i64 e), (2, Lx fad fs.length fcap), (3, Ln .i64 at_), (8, Lp 8), (10, .sv (.one (.slc 500 0 t.args.length))), (11, .sv (.one (.slc 501 0 0 3))), (12, Ln .i64 (0 : Nat))], [(8, some ⟨30, [.val (.bool false), .val (.int .u64 0), .val (.int .u64 0)], false⟩), nuB 500 (endsI p t.args), (501, some ⟨30, [], false⟩)], X⟩, Le.ofR [(8, 8), (500, 500), (501, 34)] (by exact ⟨rfl, rfl, rfl, rfl, rfl, rfl, rfl, rfl, trivial⟩) (by repeat' (first | exact trivial | refine And.intro ⟨_, rfl, ?_⟩ ?_ | refine And.intro ⟨_, rfl⟩ ?_ | rfl | exact Box.ren_bytes _ _ _ _ | exact Box.ren_vals _ _ _ _ | exact Box.ren_mid rfl)) (by exact rfl) (by exact rfl) (by repeat' (first | refine all_cons_true ?_ ?_ | rfl | exact bytes_inUse | exact vals_inUse | exact mid_inUse rfl)) (by exact rfl) (by exact rfl), 0, [], false, by omega, rfl, rfl, rfl⟩ ?_
    rintro m σ ⟨i, vs, rw_, hi, rfl, hvs, rfl⟩
    have hvl := evL_len hvs
    rw [List.length_take, Nat.min_eq_left hi] at hvl
    have h2vs := evL_in2 hf2 hat.2 (fun a ha x hx => (hin.small x (by
      have hxt := arg_mem (List.mem_of_mem_take ha) x hx
      obtain ⟨pre, suf, e1, _⟩ := hA
      rw [e1]
      exact List.mem_append_right _ (List.mem_append_left _ hxt))).2.2.2) hvs
    by_cases hlt : i < t.args.length
    · obtain ⟨a, ha⟩ : ∃ a, t.args[i]? = some a := ⟨_, List.getElem?_eq_getElem hlt⟩
      obtain ⟨hAa, _⟩ := hA.arg ha
      have hca := ends_cell (p := p) ha
      have htk : t.args.take (i + 1) = t.args.take i ++ [a] := take_snoc ha
      have hft : (flatL (t.args.take (i + 1))).length = (flatL (t.args.take i)).length + a.flat.length := by rw [htk, flatL_app, List.length_append]; simp [flatL]
      have hle : (flatL (t.args.take (i + 1))).length ≤ (flatL t.args).length := by
        conv => rhs; rw [← List.take_append_drop (i + 1) t.args, flatL_app, List.length_append]
        omega
      have ha1 := flat_len a
      have hal2 := hAa.len
      have hrec := rTree_spec l (some ⟨blk, off, none⟩) cap hin hbig hall fad fcap fs hfs hfl hrl hf2 at_ hat n a (p + (flatL (t.args.take i)).length) (((p + (flatL (t.args.take (i + 1))).length - 1 : Nat) : Int)) (by omega) hAa (hoks a (List.mem_of_getElem? ha)) (by omega)
      have hstep := evL_step hvs ha
      generalize ((p + (flatL (t.args.take (i + 1))).length - 1 : Nat) : Int) = v at *
      have hio2 : 0 + Int.toNat (i : Int) * 1 = i * 1 := by simp
      cases hev : a.ev (oneX fs at_) with
      | error e' =>
        rw [hev] at hrec
        have hne := tree_err (hoks a (List.mem_of_getElem? ha)) hev
        rw [fail_tree fs at_ (evL_fail hvs ha hev)] at hr
        subst hr
        (refine LWP.seq <| LWP.seq <| rgN <| kmv rfl <| kmv rfl <| K.lenSlc rfl SliceT.h rfl .plain ?_; refine klt rfl rfl (decide_eq_true (by omega)) <| RunK.nil <| LWP.condT rfl ?_; refine LWP.skip ?_; refine LWP.seq <| LWP.block <| LWP.seq <| rgN <| kmv rfl <| kmv rfl <| kmv rfl <| K.indexSlc rfl rfl (by omega) hio2 .plain ?_; refine kl1 rfl rfl hca <| kmv rfl <| kmv rfl <| kca rfl rfl hrec <| kmv rfl <| kex rfl rfl <| kex rfl rfl <| K.alloc rfl .plain ?_; refine K.storeAll rfl rfl rfl rfl rfl rfl .plain ?_; refine kas rfl <| RunK.nil <| LWP.seq <| LWP.seq <| rgN <| kmv rfl <| kne rfl rfl (bne_iff_ne.2 hne) <| RunK.nil <| LWP.condT rfl ?_; refine LWP.seq <| rgN <| K.build rfl rfl (by exact rfl) (by exact nl3 rfl rfl rfl rfl) .plain ?_; refine kmv rfl <| K.storeAll rfl rfl rfl rfl rfl rfl .plain ?_; refine kas rfl <| RunK.nil <| LWP.ret ?_)
        exact ⟨[_, _], ⟨⟨_, _, rfl, rfl, rfl, .inl ⟨AggT.h, rfl⟩⟩, rfl, trivial⟩, rfl⟩
      | ok u =>
        rw [hev] at hrec hstep
        simp only at hstep
        have hadd : IntKind.i64.wrap ((i : Int) + 1) = ((i + 1 : Nat) : Int) := by rw [wrap_i64 (by omega)]; omega
        have hnl : vs.length + 1 = (vs ++ [u]).length := by rw [List.length_append]; rfl
        have hl3 := nmsV_len vs
        have hv3 : vs.length ≤ 3 := by omega
        have hnc := nmsV_snoc vs u
        (refine LWP.seq <| LWP.seq <| rgN <| kmv rfl <| kmv rfl <| K.lenSlc rfl SliceT.h rfl .plain ?_; refine klt rfl rfl (decide_eq_true (by omega)) <| RunK.nil <| LWP.condT rfl ?_; refine LWP.skip ?_; refine LWP.seq <| LWP.block <| LWP.seq <| rgN <| kmv rfl <| kmv rfl <| kmv rfl <| K.indexSlc rfl rfl (by omega) hio2 .plain ?_; refine kl1 rfl rfl hca <| kmv rfl <| kmv rfl <| kca rfl rfl hrec <| kmv rfl <| kex rfl rfl <| kex rfl rfl <| K.alloc rfl .plain ?_; refine K.storeAll rfl rfl rfl rfl rfl rfl .plain ?_; refine kas rfl <| RunK.nil <| LWP.seq <| LWP.seq <| rgN <| kmv rfl <| kne rfl rfl (r := false) rfl <| RunK.nil <| LWP.condF rfl ?_; refine LWP.skip ?_; refine rgN <| kmv rfl <| K.loadAll rfl rfl rfl .plain ?_; refine K.buildSlc (zs := [Value.bool false, .int .u64 0, .int .u64 0]) (sz := 3) (e := 30) (cs' := [.val (.bool u.1), .val (.int .u64 (u.2 / 18446744073709551616)), .val (.int .u64 (u.2 % 18446744073709551616))]) (by kernel_rfl) rfl rfl rfl rfl rfl rfl .plain <| K.appendSlc (by_ := 24) (e2 := 30) (l2 := [.val (.bool u.1), .val (.int .u64 (u.2 / 18446744073709551616)), .val (.int .u64 (u.2 % 18446744073709551616))]) (nl := (vs ++ [u]).length) (nc := (nmsV (vs ++ [u])).map .val) rfl rfl hl3 rfl rfl (Nat.le_refl _) rfl rfl (by kernel_rfl) (by kernel_rfl) (by omega) (by omega) rfl hnl hnc .plain <| kas rfl <| RunK.nil <| rgN <| kmv rfl <| kad rfl rfl hadd <| kas rfl <| RunK.nil ?_)
        exact ⟨_, ⟨[(0, Lx (some ⟨blk, off, none⟩) l.length cap), (1, Ln .i64 e), (2, Lx fad fs.length fcap), (3, Ln .i64 at_), (8, Lp 8), (10, .sv (.one (.slc 500 0 t.args.length))), (11, .sv (.one (.slc 501 0 (vs ++ [u]).length 3))), (12, Ln .i64 (i + 1 : Nat))], [(8, some ⟨30, [.val (.bool false), .val (.int .u64 0), .val (.int .u64 0)], false⟩), nuB 500 (endsI p t.args), (501, some ⟨30, (nmsV (vs ++ [u])).map .val, true⟩)], X⟩, by omega, Le.ofR [(8, 8), (500, 500), (501, 59)] (by exact ⟨rfl, rfl, rfl, rfl, rfl, rfl, rfl, rfl, trivial⟩) (by repeat' (first | exact trivial | refine And.intro ⟨_, rfl, ?_⟩ ?_ | refine And.intro ⟨_, rfl⟩ ?_ | rfl | exact Box.ren_bytes _ _ _ _ | exact Box.ren_vals _ _ _ _ | exact Box.ren_mid rfl)) (by exact rfl) (by exact rfl) (by repeat' (first | refine all_cons_true ?_ ?_ | rfl | exact bytes_inUse | exact vals_inUse | exact mid_inUse rfl)) (by exact rfl) (by exact rfl), i + 1, vs ++ [u], true, by omega, rfl, hstep, rfl⟩
    · have e2 : i = t.args.length := by omega
      subst e2
      rw [List.take_length] at hvs
      rw [node_tree h0 fs at_ hvs] at hr
      have hN := fun S el row hk => node_lent X (S := S) (k := 501) (a := vs) (el := el) (row := row) (op := t.top.op) (by omega) (by omega) h2vs hk
      cases hnv : nodeX t.top.op vs with
      | error e' =>
        rw [hnv] at hr hN
        subst hr
        (refine LWP.seq <| LWP.seq <| rgN <| kmv rfl <| kmv rfl <| K.lenSlc rfl SliceT.h rfl .plain ?_; refine klt rfl rfl (decide_eq_false (by omega)) <| RunK.nil <| LWP.condF rfl ?_; refine LWP.exit <| LWP.seq <| rgN <| kmv rfl <| kmv rfl <| K.indexX rfl rfl SliceT.h hin0 hio .plain <| K.fieldAddrX rfl rfl .plain ?_; refine K.loadX rfl hX rfl hop .plain <| kmv rfl <| K.callX [501] rfl rfl rfl (hN _ _ _ rfl) .plain ?_; refine kex rfl rfl <| kex rfl rfl <| K.storeAll rfl rfl rfl rfl rfl rfl .plain ?_; refine kas rfl <| RunK.nil <| LWP.ret ?_)
        exact ⟨[_, _], ⟨⟨_, _, rfl, rfl, rfl, .inl ⟨AggT.h, rfl⟩⟩, rfl, trivial⟩, rfl⟩
      | ok v =>
        rw [hnv] at hr hN
        subst hr
        (refine LWP.seq <| LWP.seq <| rgN <| kmv rfl <| kmv rfl <| K.lenSlc rfl SliceT.h rfl .plain ?_; refine klt rfl rfl (decide_eq_false (by omega)) <| RunK.nil <| LWP.condF rfl ?_; refine LWP.exit <| LWP.seq <| rgN <| kmv rfl <| kmv rfl <| K.indexX rfl rfl SliceT.h hin0 hio .plain <| K.fieldAddrX rfl rfl .plain ?_; refine K.loadX rfl hX rfl hop .plain <| kmv rfl <| K.callX [501] rfl rfl rfl (hN _ _ _ rfl) .plain ?_; refine kex rfl rfl <| kex rfl rfl <| K.storeAll rfl rfl rfl rfl rfl rfl .plain ?_; refine kas rfl <| RunK.nil <| LWP.ret ?_)
        exact ⟨[_, _], ⟨⟨_, _, rfl, rfl, rfl, .inl ⟨AggT.h, rfl⟩⟩, rfl, trivial⟩, rfl⟩
set_option maxHeartbeats 3200000 in
theorem rEval_spec (l : List Ins) (ad : Option Addr) (cap : Nat) (hin : InsIn X ad l) (hbig : l.length < 1152921504606846976) (fad : Option Addr) (fcap : Nat) (fs : List (List Nm)) (hfs : FssIn X fad fs) (hfl : fs.length < 4611686018427387904) (hrl : ∀ r ∈ fs, r.length < 4611686018427387904) (hf2 : ∀ r ∈ fs, ∀ u ∈ r, In2 u.2) (at_ : Int) (hat : -9223372036854775808 ≤ at_ ∧ at_ < 9223372036854775808) :
    PSpec Tryz.prog X 12 [Lx ad l.length cap, Lx fad fs.length fcap, Ln .i64 at_] (exR (evX l fs at_)) := by
  have hC := rCheck11 X l ad cap hin (by omega)
  by_cases hz : chkX l = 0
  · obtain ⟨t, ht, hl⟩ := parse (chkX_zero hz).2
    have hA : At l 0 t := ⟨[], [], by rw [← hl]; simp, rfl⟩
    have hT := rTree_spec X l ad cap hin hbig (chkX_ok hz) fad fcap fs hfs hfl hrl hf2 at_ hat t.flat.length t 0 ((l.length : Int) - 1) (Nat.le_refl _) hA ht (by rw [hl]; omega)
    have h64 := (chkX_zero hz).1
    have hsub : IntKind.i64.wrap ((l.length : Int) - 1) = (l.length : Int) - 1 := wrap_i64 (by omega)
    rw [evX_tree hz ht hl]
    rw [hz] at hC
    cases hev : t.ev (oneX fs at_) with
    | error e =>
      have hne := tree_err ht hev
      rw [hev] at hT
      refine PSpec.intro Tryz.func12 rfl (by kernel_rfl) rfl rfl ?_
      intro C
      (refine LWP.seq <| rgN <| K.alloc rfl .plain ?_; refine kas rfl <| RunK.nil <| LWP.seq <| LWP.seq <| rgN <| kmv rfl <| kca rfl rfl (hC) <| kas rfl <| RunK.nil <| LWP.seq <| rgN <| kmv rfl <| kne rfl rfl (r := false) rfl <| RunK.nil ?_; refine LWP.condF rfl ?_; refine LWP.skip ?_; refine LWP.seq <| rgN <| kmv rfl <| kmv rfl <| K.lenX rfl SliceT.h rfl .plain ?_; refine K.sub rfl rfl hsub .plain <| kmv rfl <| kmv rfl <| kca rfl rfl (hT) <| kmv rfl <| kex rfl rfl <| kex rfl rfl <| K.alloc rfl .plain ?_; refine K.storeAll rfl rfl rfl rfl rfl rfl .plain ?_; refine kas rfl <| RunK.nil <| LWP.seq <| LWP.seq <| rgN <| kmv rfl <| keq rfl rfl (r := false) (beq_eq_false_iff_ne.2 hne) <| kmv rfl <| RunK.passed rfl rfl rfl <| RunK.passed rfl rfl rfl <| RunK.passed rfl rfl rfl <| kpf rfl rfl <| RunK.nil <| LWP.condF rfl ?_; refine LWP.skip ?_; refine LWP.seq <| rgN <| K.loadAll rfl rfl rfl .plain ?_; refine kmv rfl <| K.storeAll rfl rfl rfl rfl rfl rfl .plain ?_; refine kas rfl <| RunK.nil <| LWP.ret ?_)
      exact ⟨[_, _], ⟨⟨_, _, rfl, rfl, rfl, .inl ⟨AggT.h, rfl⟩⟩, rfl, trivial⟩, rfl⟩
    | ok v =>
      have hv2 := tree_in2 hf2 hat.2 (fun x hx => (hin.small x (by rw [← hl]; exact hx)).2.2.2) hev
      rw [hev] at hT
      simp only
      cases hg : gd v with
      | true =>
        have hG := Good_spec X v.1 v.2 hv2 true hg
        rw [if_pos rfl]
        refine PSpec.intro Tryz.func12 rfl (by kernel_rfl) rfl rfl ?_
        intro C
        (refine LWP.seq <| rgN <| K.alloc rfl .plain ?_; refine kas rfl <| RunK.nil <| LWP.seq <| LWP.seq <| rgN <| kmv rfl <| kca rfl rfl (hC) <| kas rfl <| RunK.nil <| LWP.seq <| rgN <| kmv rfl <| kne rfl rfl (r := false) rfl <| RunK.nil ?_; refine LWP.condF rfl ?_; refine LWP.skip ?_; refine LWP.seq <| rgN <| kmv rfl <| kmv rfl <| K.lenX rfl SliceT.h rfl .plain ?_; refine K.sub rfl rfl hsub .plain <| kmv rfl <| kmv rfl <| kca rfl rfl (hT) <| kmv rfl <| kex rfl rfl <| kex rfl rfl <| K.alloc rfl .plain ?_; refine K.storeAll rfl rfl rfl rfl rfl rfl .plain ?_; refine kas rfl <| RunK.nil <| LWP.seq <| LWP.seq <| rgN <| kmv rfl <| keq rfl rfl (r := true) rfl <| kmv rfl <| K.loadAll rfl rfl rfl (.taken rfl rfl) ?_; refine gca rfl rfl (hG) rfl rfl <| K.not rfl rfl (.taken rfl rfl) ?_; refine kpt rfl rfl <| RunK.nil <| LWP.condF rfl ?_; refine LWP.skip ?_; refine LWP.seq <| rgN <| K.loadAll rfl rfl rfl .plain ?_; refine kmv rfl <| K.storeAll rfl rfl rfl rfl rfl rfl .plain ?_; refine kas rfl <| RunK.nil <| LWP.ret ?_)
        exact ⟨[_, _], ⟨⟨_, _, rfl, rfl, rfl, .inl ⟨AggT.h, rfl⟩⟩, rfl, trivial⟩, rfl⟩
      | false =>
        have hG := Good_spec X v.1 v.2 hv2 false hg
        rw [if_neg (by decide)]
        refine PSpec.intro Tryz.func12 rfl (by kernel_rfl) rfl rfl ?_
        intro C
        (refine LWP.seq <| rgN <| K.alloc rfl .plain ?_; refine kas rfl <| RunK.nil <| LWP.seq <| LWP.seq <| rgN <| kmv rfl <| kca rfl rfl (hC) <| kas rfl <| RunK.nil <| LWP.seq <| rgN <| kmv rfl <| kne rfl rfl (r := false) rfl <| RunK.nil ?_; refine LWP.condF rfl ?_; refine LWP.skip ?_; refine LWP.seq <| rgN <| kmv rfl <| kmv rfl <| K.lenX rfl SliceT.h rfl .plain ?_; refine K.sub rfl rfl hsub .plain <| kmv rfl <| kmv rfl <| kca rfl rfl (hT) <| kmv rfl <| kex rfl rfl <| kex rfl rfl <| K.alloc rfl .plain ?_; refine K.storeAll rfl rfl rfl rfl rfl rfl .plain ?_; refine kas rfl <| RunK.nil <| LWP.seq <| LWP.seq <| rgN <| kmv rfl <| keq rfl rfl (r := true) rfl <| kmv rfl <| K.loadAll rfl rfl rfl (.taken rfl rfl) ?_; refine gca rfl rfl (hG) rfl rfl <| K.not rfl rfl (.taken rfl rfl) ?_; refine kpt rfl rfl <| RunK.nil <| LWP.condT rfl ?_; refine LWP.seq <| rgN <| K.build rfl rfl (by exact rfl) (by exact nl3 rfl rfl rfl rfl) .plain ?_; refine K.storeAll rfl rfl rfl rfl rfl rfl .plain ?_; refine kas rfl <| RunK.nil <| LWP.ret ?_)
        exact ⟨[_, _], ⟨⟨_, _, rfl, rfl, rfl, .inl ⟨AggT.h, rfl⟩⟩, rfl, trivial⟩, rfl⟩
  · have e : evX l fs at_ = .error (chkX l) := if_neg hz
    rw [e]
    refine PSpec.intro Tryz.func12 rfl (by kernel_rfl) rfl rfl ?_
    intro C
    (refine LWP.seq <| rgN <| K.alloc rfl .plain ?_; refine kas rfl <| RunK.nil <| LWP.seq <| LWP.seq <| rgN <| kmv rfl <| kca rfl rfl (hC) <| kas rfl <| RunK.nil <| LWP.seq <| rgN <| kmv rfl <| kne rfl rfl (bne_iff_ne.2 hz) <| RunK.nil ?_; refine LWP.condT rfl ?_; refine LWP.seq <| rgN <| K.build rfl rfl (by exact rfl) (by exact nl3 rfl rfl rfl rfl) .plain ?_; refine kmv rfl <| K.storeAll rfl rfl rfl rfl rfl rfl .plain ?_; refine kas rfl <| RunK.nil <| LWP.ret ?_)
    exact ⟨[_, _], ⟨⟨_, _, rfl, rfl, rfl, .inl ⟨AggT.h, rfl⟩⟩, rfl, trivial⟩, rfl⟩
end Go.Proofs.YtimpjdbhalnofaaGreatDoor
end
section
namespace Go.Lg
open Go Go.RowKit Go.Lg.Dig
theorem eqItems_ints {P : Program} (w : World) (d : Nat) {e : TypeId} (he : P.plainKey e = true) (hu : P.underlying e = some (.int .i64)) (xs ys : Array Value) (f g : Nat → Nat) : ∀ (is : List Nat),
    (∀ i ∈ is, xs[i]? = some (.int .i64 (f i : Nat)) ∧ ys[i]? = some (.int .i64 (g i : Nat))) → (Op.eqItems (d + 1) e 1 xs ys is).run P w = .ok (is.all fun i => f i == g i) w
  | [], _ => by simp [Op.eqItems]
  | i :: is, h => by
    obtain ⟨h1, h2⟩ := h i (by simp)
    have ih := eqItems_ints w d he hu xs ys f g is (fun j hj => h j (by simp [hj]))
    have p1 := run_part_plain (xs := xs) (off := i) w he h1
    have p2 := run_part_plain (xs := ys) (off := i) w he h2
    have p3 := run_equalIn_int w d e .i64 .i64 ((f i : Nat) : Int) ((g i : Nat) : Int) hu
    have e3 : (((f i : Nat) : Int) == ((g i : Nat) : Int)) = (f i == g i) := by
      by_cases c : f i = g i
      · simp [c]
      · rw [beq_eq_false_iff_ne.2 c, beq_eq_false_iff_ne.2 (by omega)]
    rw [e3] at p3
    simp only [Op.eqItems, Sem.run_bind, Nat.mul_one, p1, p2, p3, Result.andThen_ok, List.all_cons]
    cases hb : (f i == g i) with
    | false => simp
    | true => simpa using ih
theorem valsOf_dv : ∀ (l : List Nat), valsOf (l.map dv) = some (l.map fun d => .int .i64 (d : Nat))
  | [] => rfl
  | d :: l => by
    rw [List.map_cons, List.map_cons]
    show (valsOf (l.map dv)).map _ = _
    rw [valsOf_dv l]; rfl
theorem num_tail {b : Bool} {f : Nat → Nat} : ((num b f).drop (0 + 1)).take 40 = (dlf f).map dv := by
  have h : ((dlf f).map dv).length = 40 := by simp [dlf]
  show ((dlf f).map dv).take 40 = _
  rw [List.take_of_length_le (by omega)]
theorem num_ble {b : Bool} {f : Nat → Nat} : Nat.ble (0 + 1 + 40) (num b f).length = true := by rw [num_length]; rfl
theorem digits_zero {n : Nat} : ∀ (k : Nat), (∀ i, i < k → dg n i = 0) → n % 256 ^ k = 0
  | 0, _ => by rw [Nat.pow_zero, Nat.mod_one]
  | k + 1, h => by rw [mod_next, digits_zero k (fun i hi => h i (by omega)), h k (by omega)]; omega
theorem zero_all {n : Nat} (h : n < 256 ^ 40) : ((List.range 40).all fun i => dg n i == (fun _ => 0) i) = (n == 0) := by
  by_cases c : n = 0
  · subst c
    simp [dg_zero]
  · rw [beq_eq_false_iff_ne.2 c, List.all_eq_false]
    apply Classical.byContradiction
    intro hn
    have h0 := digits_zero (n := n) 40 (fun i hi => Classical.byContradiction fun hd => hn ⟨i, List.mem_range.2 hi, by simpa using hd⟩)
    rw [Nat.mod_eq_of_lt h] at h0
    exact c h0
end Go.Lg
namespace Go.Proofs.YtimpjdbhalnofaaGreatDoor
open Go Go.Lg Go.Lg.Arith Go.Lg.Dec Go.Lg.Dig Go.RowKit
variable (X : Nat → Option Obj)
theorem eq_zero (n : Nat) (h : n < T40) (w : World) :
    (Op.equalIn 10000 158 (.agg ((dlf (dg n)).map fun d => (.int .i64 (d : Nat) : Value)).toArray) (.agg ((dlf (fun _ => 0)).map fun d => (.int .i64 (d : Nat) : Value)).toArray)).run Tryz.prog w = .ok (n == 0) w := by
  obtain ⟨inf, hinf⟩ : ∃ inf, Tryz.prog.info? 3 = some inf := Option.isSome_iff_exists.1 (by kernel_rfl)
  rw [show (10000 : Nat) = 9998 + 1 + 1 from rfl, run_equalIn_array w (9998 + 1) _ _ Tryz.underlying158 hinf]
  rw [show Tryz.prog.cellsOf 3 = 1 by kernel_rfl]
  rw [eqItems_ints w 9998 (by kernel_rfl) Tryz.underlying3 _ _ (dg n) (fun _ => 0) (List.range 40)]
  · rw [zero_all h]
  · intro i hi
    have hi' := List.mem_range.1 hi
    exact ⟨by simp [dlf, hi'], by simp [dlf, hi']⟩
instance : ArrB Tryz.prog 158 (List.replicate 40 (.int .i64 0)) 1 := ⟨by kernel_rfl⟩
theorem Zero_spec (b : Bool) (n : Nat) (h : n < T40) : PSpec Tryz.prog X 109 [LN b (dg n)] (Lb (n == 0)) := by
  refine PSpec.intro Tryz.func109 rfl (by kernel_rfl) rfl rfl ?_
  intro C
  (refine LWP.seq <| rgN <| K.box rfl rfl rfl .plain <| kas rfl <| RunK.nil <| LWP.seq <| rgN <| kfa rfl rfl ?_; refine K.loadPart rfl rfl num_ble num_tail .plain ?_; refine K.buildArr (cs' := (dlf fun _ => 0).map dv) rfl rfl (by exact rfl) rfl .plain ?_; refine K.aggEq rfl rfl (valsOf_dv _) (valsOf_dv (dlf fun _ => 0)) (by kernel_rfl) (eq_zero n h) (.inl ⟨rfl, rfl⟩) .plain <| kas rfl <| RunK.nil <| LWP.ret ?_)
  exact ⟨[_], ⟨rfl, trivial⟩, rfl⟩
end Go.Proofs.YtimpjdbhalnofaaGreatDoor
end
section
namespace Go.Proofs.YtimpjdbhalnofaaGreatDoor
open Go Go.Lg Go.Lg.Arith Go.Lg.Dec Go.Lg.Dig Go.RowKit
variable (X : Nat → Option Obj)
theorem num_ten : (num false (fun _ => 0)).set (1 + 0 * 1) (dv 10) = num false (dg 10) := by
  rw [num_set (i := 0) (d := 10) (by omega)]
  refine num_congr fun j _ => ?_
  by_cases c : j = 0
  · subst c; rfl
  · rw [if_neg c, dg_high (n := 10) (Nat.lt_of_lt_of_le (by decide) (Nat.pow_le_pow_right (show 0 < 256 by decide) (show 1 ≤ j by omega)))]
theorem bc_digit (n : Nat) : bc (UInt8.ofNat (48 + n % 10)) = .val (.int .u8 (48 + ((n % 10 : Nat) : Int))) := by
  unfold bc
  have : (UInt8.ofNat (48 + n % 10)).toNat = 48 + n % 10 := by
    rw [UInt8.toNat_ofNat']
    exact Nat.mod_eq_of_lt (by omega)
  rw [this]
  congr 2
structure Half (M n : Nat) (s : List UInt8) : Prop where
  more : s = [] ∨ n ≠ 0 → Lib.decDigits M = Lib.decDigits n ++ s
  done : s ≠ [] → n = 0 → Lib.decDigits M = s
theorem Half.next {M n : Nat} {s : List UInt8} (h : Half M n s) (hc : s = [] ∨ n ≠ 0) : Half M (n / 10) (UInt8.ofNat (48 + n % 10) :: s) := by
  have hm := h.more hc
  by_cases h10 : n < 10
  · have e : Lib.decDigits n = [UInt8.ofNat (48 + n % 10)] := by rw [Lib.decDigits_one h10, Nat.mod_eq_of_lt h10]
    rw [e] at hm
    exact ⟨fun hq => by rcases hq with hq | hq; (cases hq); (exact absurd (show n / 10 = 0 by omega) hq), fun _ _ => hm⟩
  · have e : Lib.decDigits n = Lib.decDigits (n / 10) ++ [UInt8.ofNat (48 + n % 10)] := by
      conv => lhs; rw [Lib.decDigits, dif_neg h10]
    rw [e, List.append_assoc] at hm
    exact ⟨fun _ => hm, fun _ hq => by omega⟩
theorem Half.len {M n : Nat} {s : List UInt8} (h : Half M n s) : s.length ≤ (Lib.decDigits M).length := by
  by_cases hc : s = [] ∨ n ≠ 0
  · rw [h.more hc, List.length_append]; omega
  · rw [h.done (fun e => hc (.inl e)) (Classical.byContradiction fun e => hc (.inr e))]; exact Nat.le_refl _
set_option maxHeartbeats 6400000 in
theorem RText_false (x : Int) (hx : R127 x) (hn : decide (x < 0) = false) : PSpec Tryz.prog X 71 [LQ x] (Ls (textQ x)) := by
  have hG := Good_spec X _ _ (mg_in2 hx) true (formB_q hx)
  have hF := From_q X x hx
  have hM := mg_128 hx
  have hlen : (Lib.decDigits (mg x).toNat).length ≤ 39 := by
    rw [Lib.decDigits_length]
    have := mg_lim hx
    have := mg_nonneg x
    exact nDigits_le 38 _ (by omega)
  have hT : textQ x = (if false = true then [45] else []) ++ Lib.decDigits (mg x).toNat := by
    unfold textQ
    first
    | (have := of_decide_eq_true hn; rw [if_pos this]; rfl)
    | (have := of_decide_eq_false hn; rw [if_neg this]; rfl)
  rw [hT]
  unfold LQ at hF ⊢
  rw [hn] at hG hF ⊢
  generalize (mg x).toNat = M at *
  refine PSpec.intro Tryz.func71 rfl (by kernel_rfl) rfl rfl ?_
  intro C
  (refine LWP.seq <| rgN <| K.box rfl rfl rfl .plain <| kas rfl <| RunK.nil <| LWP.seq <| LWP.seq <| rgN <| K.loadAll rfl rfl rfl .plain ?_; refine kca rfl rfl (hG) <| K.not rfl rfl .plain <| RunK.nil <| LWP.condF rfl ?_; refine LWP.skip ?_; refine LWP.seq <| rgN <| K.loadAll rfl rfl rfl .plain ?_; refine kca rfl rfl (hF) <| K.alloc rfl .plain ?_; refine K.storeAll rfl rfl rfl rfl rfl rfl .plain ?_; refine RunK.nil <| LWP.seq <| rgN <| kfa rfl rfl ?_; refine K.storeOne rfl rfl rfl rfl num_blt0 num_sign .plain <| RunK.nil <| LWP.seq <| rgN <| K.build rfl rfl (by exact rfl) (by exact rfl) .plain ?_; refine K.alloc rfl .plain ?_; refine K.storeAll rfl rfl rfl rfl rfl rfl .plain ?_; refine RunK.nil <| LWP.seq <| rgN <| kfa rfl rfl ?_; refine K.indexArr rfl rfl (by omega) rfl .plain ?_; refine K.storeOne rfl rfl rfl rfl (num_blt (f := fun _ => 0) (i := 0) (by omega)) num_ten .plain <| RunK.nil <| LWP.seq <| rgN <| kas rfl <| RunK.nil <| LWP.seq <| LWP.block ?_)
  refine LWP.loop (fun m σ => ∃ (N : Nat) (s : List UInt8), N < 340282366920938463463374607431768211456 ∧ Half M N s ∧ m = N + (if s = [] then 1 else 0) ∧ σ = ⟨[(1, .sv (.one (.ptr 1 0))), (3, .sv (.one (.ptr 3 0))), (4, .sv (.one (.ptr 4 0))), (5, Ls s)], [(1, some { elem := 30, cells := [.val (.bool false), .val (.int .u64 (mg x / 18446744073709551616)), .val (.int .u64 (mg x % 18446744073709551616))] }), (3, some { elem := 160, cells := num false (dg N) }), (4, some { elem := 160, cells := num false (dg 10) })], X⟩) (M + 1)
    ⟨_, Le.of (by exact ⟨rfl, rfl, rfl, rfl, trivial⟩) (by exact ⟨rfl, rfl, rfl, trivial⟩) (by exact rfl) (by exact rfl) (by exact rfl), M, [], hM, ⟨fun _ => (List.append_nil _).symm, fun h => absurd rfl h⟩, rfl, rfl⟩ ?_
  rintro m σ ⟨N, s, hN, hH, rfl, rfl⟩
  have hN40 := lim40 hN
  have hsl := hH.len
  have hs1 : (⟨s.toArray⟩ : ByteArray).size = s.length := rfl
  by_cases hgo : s = [] ∨ N ≠ 0
  · have hdv := Parted_spec X false false N 10 hN40 (by decide) (by decide)
    have hZ := Zero_spec X false N hN40
    have hnx := hH.next hgo
    have hdig : dg (N % 10) 0 = N % 10 := by unfold dg; rw [Nat.pow_zero, Nat.div_one]; omega
    have hat : (num false (dg (N % 10)))[1 + 0 * 1]? = some (dv (N % 10)) := by rw [num_at (by omega), hdig]
    have hl : ([CV.val (.int .u8 (48 + ((N % 10 : Nat) : Int)))].drop 0).take 1 = [UInt8.ofNat (48 + N % 10)].map bc := by
      rw [List.map_cons, bc_digit]; rfl
    have hq : N / 10 ≤ N := Nat.div_le_self _ _
    have hr10 : N % 10 < 10 := Nat.mod_lt _ (by decide)
    have hsz1 : (⟨[UInt8.ofNat (48 + N % 10)].toArray⟩ : ByteArray).size = 1 := rfl
    have hcase : ((s == []) = true) ∨ ((s == []) = false ∧ (N == 0) = false) := by
      cases s with
      | nil => exact .inl rfl
      | cons a b => exact .inr ⟨rfl, beq_eq_false_iff_ne.2 (by rcases hgo with h | h; (cases h); (exact h))⟩
    have hdec : N / 10 + (if (UInt8.ofNat (48 + N % 10) :: s) = [] then 1 else 0) < N + (if s = [] then 1 else 0) := by
      rw [if_neg (by simp)]
      rcases hgo with h | h
      · rw [if_pos h]; omega
      · omega
    rcases hcase with he | ⟨he, hz⟩
    · (refine LWP.seq <| LWP.seq <| rgN <| kmv rfl <| kse rfl rfl (strs_eq he) <| kmv rfl <| RunK.passed rfl rfl rfl <| RunK.passed rfl rfl rfl <| RunK.passed rfl rfl rfl <| kpt rfl rfl <| RunK.nil <| LWP.condT rfl ?_; refine LWP.skip ?_; refine LWP.block <| LWP.seq <| rgN <| K.loadAll rfl rfl rfl .plain ?_; refine K.loadAll rfl rfl rfl .plain ?_; refine kca rfl rfl (hdv) <| kmv rfl <| kex rfl rfl <| kex rfl rfl <| K.alloc rfl .plain ?_; refine K.alloc rfl .plain ?_; refine K.storeAll rfl rfl rfl rfl rfl rfl .plain ?_; refine K.storeAll rfl rfl rfl rfl rfl rfl .plain ?_; refine RunK.nil <| LWP.seq <| rgN <| kfa rfl rfl ?_; refine K.indexArr rfl rfl (by omega) rfl .plain ?_; refine kl1 rfl rfl hat <| kad rfl rfl (wrap_i64 (by omega)) <| kcv rfl (by exact wrap_u8 (by omega)) ?_; refine K.buildSlc (zs := [.int .u8 0]) (sz := 1) (e := 5) (by kernel_rfl) rfl rfl rfl rfl rfl rfl .plain <| K.convStr rfl rfl (by kernel_rfl) StrT.u (Nat.le_refl _) hl .plain <| kmv rfl <| K.strAdd rfl rfl (by omega) (str_add _ _) .plain <| kas rfl <| RunK.nil <| rgN <| K.loadAll rfl rfl rfl .plain ?_; refine K.storeAll rfl rfl rfl rfl rfl rfl .plain ?_; refine RunK.nil ?_)
      exact ⟨_, _, hdec, Le.of (by exact ⟨rfl, rfl, rfl, rfl, trivial⟩) (by exact ⟨rfl, rfl, rfl, trivial⟩) (by exact rfl) (by exact rfl) (by exact rfl), N / 10, _, by omega, hnx, rfl, rfl⟩
    · rw [hz] at hZ
      (refine LWP.seq <| LWP.seq <| rgN <| kmv rfl <| kse rfl rfl (strs_eq he) <| kmv rfl <| K.loadAll rfl rfl rfl (.taken rfl rfl) ?_; refine gca rfl rfl (hZ) rfl rfl <| K.not rfl rfl (.taken rfl rfl) ?_; refine kpf rfl rfl <| RunK.nil <| LWP.condT rfl ?_; refine LWP.skip ?_; refine LWP.block <| LWP.seq <| rgN <| K.loadAll rfl rfl rfl .plain ?_; refine K.loadAll rfl rfl rfl .plain ?_; refine kca rfl rfl (hdv) <| kmv rfl <| kex rfl rfl <| kex rfl rfl <| K.alloc rfl .plain ?_; refine K.alloc rfl .plain ?_; refine K.storeAll rfl rfl rfl rfl rfl rfl .plain ?_; refine K.storeAll rfl rfl rfl rfl rfl rfl .plain ?_; refine RunK.nil <| LWP.seq <| rgN <| kfa rfl rfl ?_; refine K.indexArr rfl rfl (by omega) rfl .plain ?_; refine kl1 rfl rfl hat <| kad rfl rfl (wrap_i64 (by omega)) <| kcv rfl (by exact wrap_u8 (by omega)) ?_; refine K.buildSlc (zs := [.int .u8 0]) (sz := 1) (e := 5) (by kernel_rfl) rfl rfl rfl rfl rfl rfl .plain <| K.convStr rfl rfl (by kernel_rfl) StrT.u (Nat.le_refl _) hl .plain <| kmv rfl <| K.strAdd rfl rfl (by omega) (str_add _ _) .plain <| kas rfl <| RunK.nil <| rgN <| K.loadAll rfl rfl rfl .plain ?_; refine K.storeAll rfl rfl rfl rfl rfl rfl .plain ?_; refine RunK.nil ?_)
      exact ⟨_, _, hdec, Le.of (by exact ⟨rfl, rfl, rfl, rfl, trivial⟩) (by exact ⟨rfl, rfl, rfl, trivial⟩) (by exact rfl) (by exact rfl) (by exact rfl), N / 10, _, by omega, hnx, rfl, rfl⟩
  · have hne : s ≠ [] := fun e => hgo (.inl e)
    have hz : N = 0 := Classical.byContradiction fun e => hgo (.inr e)
    subst hz
    have hd := hH.done hne rfl
    have he : (s == []) = false := beq_eq_false_iff_ne.2 hne
    have hZ := Zero_spec X false 0 hN40
    have hs39 : (⟨s.toArray⟩ : ByteArray).size ≤ 39 := by omega
    rw [hd]
    (refine LWP.seq <| LWP.seq <| rgN <| kmv rfl <| kse rfl rfl (strs_eq he) <| kmv rfl <| K.loadAll rfl rfl rfl (.taken rfl rfl) ?_; refine gca rfl rfl (hZ) rfl rfl <| K.not rfl rfl (.taken rfl rfl) ?_; refine kpf rfl rfl <| RunK.nil <| LWP.condF rfl ?_; refine LWP.exit <| LWP.seq <| LWP.seq <| rgN <| kfa rfl rfl ?_; refine kl1 rfl rfl rfl <| RunK.nil <| LWP.condF rfl ?_; refine LWP.skip ?_; refine LWP.seq <| rgN <| kmv rfl <| kas rfl <| RunK.nil <| LWP.ret ?_)
    exact ⟨[_], ⟨rfl, trivial⟩, rfl⟩
theorem RText_true (x : Int) (hx : R127 x) (hn : decide (x < 0) = true) : PSpec Tryz.prog X 71 [LQ x] (Ls (textQ x)) := by
  have hG := Good_spec X _ _ (mg_in2 hx) true (formB_q hx)
  have hF := From_q X x hx
  have hM := mg_128 hx
  have hlen : (Lib.decDigits (mg x).toNat).length ≤ 39 := by
    rw [Lib.decDigits_length]
    have := mg_lim hx
    have := mg_nonneg x
    exact nDigits_le 38 _ (by omega)
  have hT : textQ x = (if true = true then [45] else []) ++ Lib.decDigits (mg x).toNat := by
    unfold textQ
    first
    | (have := of_decide_eq_true hn; rw [if_pos this]; rfl)
    | (have := of_decide_eq_false hn; rw [if_neg this]; rfl)
  rw [hT]
  unfold LQ at hF ⊢
  rw [hn] at hG hF ⊢
  generalize (mg x).toNat = M at *
  refine PSpec.intro Tryz.func71 rfl (by kernel_rfl) rfl rfl ?_
  intro C
  (refine LWP.seq <| rgN <| K.box rfl rfl rfl .plain <| kas rfl <| RunK.nil <| LWP.seq <| LWP.seq <| rgN <| K.loadAll rfl rfl rfl .plain ?_; refine kca rfl rfl (hG) <| K.not rfl rfl .plain <| RunK.nil <| LWP.condF rfl ?_; refine LWP.skip ?_; refine LWP.seq <| rgN <| K.loadAll rfl rfl rfl .plain ?_; refine kca rfl rfl (hF) <| K.alloc rfl .plain ?_; refine K.storeAll rfl rfl rfl rfl rfl rfl .plain ?_; refine RunK.nil <| LWP.seq <| rgN <| kfa rfl rfl ?_; refine K.storeOne rfl rfl rfl rfl num_blt0 num_sign .plain <| RunK.nil <| LWP.seq <| rgN <| K.build rfl rfl (by exact rfl) (by exact rfl) .plain ?_; refine K.alloc rfl .plain ?_; refine K.storeAll rfl rfl rfl rfl rfl rfl .plain ?_; refine RunK.nil <| LWP.seq <| rgN <| kfa rfl rfl ?_; refine K.indexArr rfl rfl (by omega) rfl .plain ?_; refine K.storeOne rfl rfl rfl rfl (num_blt (f := fun _ => 0) (i := 0) (by omega)) num_ten .plain <| RunK.nil <| LWP.seq <| rgN <| kas rfl <| RunK.nil <| LWP.seq <| LWP.block ?_)
  refine LWP.loop (fun m σ => ∃ (N : Nat) (s : List UInt8), N < 340282366920938463463374607431768211456 ∧ Half M N s ∧ m = N + (if s = [] then 1 else 0) ∧ σ = ⟨[(1, .sv (.one (.ptr 1 0))), (3, .sv (.one (.ptr 3 0))), (4, .sv (.one (.ptr 4 0))), (5, Ls s)], [(1, some { elem := 30, cells := [.val (.bool true), .val (.int .u64 (mg x / 18446744073709551616)), .val (.int .u64 (mg x % 18446744073709551616))] }), (3, some { elem := 160, cells := num false (dg N) }), (4, some { elem := 160, cells := num false (dg 10) })], X⟩) (M + 1)
    ⟨_, Le.of (by exact ⟨rfl, rfl, rfl, rfl, trivial⟩) (by exact ⟨rfl, rfl, rfl, trivial⟩) (by exact rfl) (by exact rfl) (by exact rfl), M, [], hM, ⟨fun _ => (List.append_nil _).symm, fun h => absurd rfl h⟩, rfl, rfl⟩ ?_
  rintro m σ ⟨N, s, hN, hH, rfl, rfl⟩
  have hN40 := lim40 hN
  have hsl := hH.len
  have hs1 : (⟨s.toArray⟩ : ByteArray).size = s.length := rfl
  by_cases hgo : s = [] ∨ N ≠ 0
  · have hdv := Parted_spec X false false N 10 hN40 (by decide) (by decide)
    have hZ := Zero_spec X false N hN40
    have hnx := hH.next hgo
    have hdig : dg (N % 10) 0 = N % 10 := by unfold dg; rw [Nat.pow_zero, Nat.div_one]; omega
    have hat : (num false (dg (N % 10)))[1 + 0 * 1]? = some (dv (N % 10)) := by rw [num_at (by omega), hdig]
    have hl : ([CV.val (.int .u8 (48 + ((N % 10 : Nat) : Int)))].drop 0).take 1 = [UInt8.ofNat (48 + N % 10)].map bc := by
      rw [List.map_cons, bc_digit]; rfl
    have hq : N / 10 ≤ N := Nat.div_le_self _ _
    have hr10 : N % 10 < 10 := Nat.mod_lt _ (by decide)
    have hsz1 : (⟨[UInt8.ofNat (48 + N % 10)].toArray⟩ : ByteArray).size = 1 := rfl
    have hcase : ((s == []) = true) ∨ ((s == []) = false ∧ (N == 0) = false) := by
      cases s with
      | nil => exact .inl rfl
      | cons a b => exact .inr ⟨rfl, beq_eq_false_iff_ne.2 (by rcases hgo with h | h; (cases h); (exact h))⟩
    have hdec : N / 10 + (if (UInt8.ofNat (48 + N % 10) :: s) = [] then 1 else 0) < N + (if s = [] then 1 else 0) := by
      rw [if_neg (by simp)]
      rcases hgo with h | h
      · rw [if_pos h]; omega
      · omega
    rcases hcase with he | ⟨he, hz⟩
    · (refine LWP.seq <| LWP.seq <| rgN <| kmv rfl <| kse rfl rfl (strs_eq he) <| kmv rfl <| RunK.passed rfl rfl rfl <| RunK.passed rfl rfl rfl <| RunK.passed rfl rfl rfl <| kpt rfl rfl <| RunK.nil <| LWP.condT rfl ?_; refine LWP.skip ?_; refine LWP.block <| LWP.seq <| rgN <| K.loadAll rfl rfl rfl .plain ?_; refine K.loadAll rfl rfl rfl .plain ?_; refine kca rfl rfl (hdv) <| kmv rfl <| kex rfl rfl <| kex rfl rfl <| K.alloc rfl .plain ?_; refine K.alloc rfl .plain ?_; refine K.storeAll rfl rfl rfl rfl rfl rfl .plain ?_; refine K.storeAll rfl rfl rfl rfl rfl rfl .plain ?_; refine RunK.nil <| LWP.seq <| rgN <| kfa rfl rfl ?_; refine K.indexArr rfl rfl (by omega) rfl .plain ?_; refine kl1 rfl rfl hat <| kad rfl rfl (wrap_i64 (by omega)) <| kcv rfl (by exact wrap_u8 (by omega)) ?_; refine K.buildSlc (zs := [.int .u8 0]) (sz := 1) (e := 5) (by kernel_rfl) rfl rfl rfl rfl rfl rfl .plain <| K.convStr rfl rfl (by kernel_rfl) StrT.u (Nat.le_refl _) hl .plain <| kmv rfl <| K.strAdd rfl rfl (by omega) (str_add _ _) .plain <| kas rfl <| RunK.nil <| rgN <| K.loadAll rfl rfl rfl .plain ?_; refine K.storeAll rfl rfl rfl rfl rfl rfl .plain ?_; refine RunK.nil ?_)
      exact ⟨_, _, hdec, Le.of (by exact ⟨rfl, rfl, rfl, rfl, trivial⟩) (by exact ⟨rfl, rfl, rfl, trivial⟩) (by exact rfl) (by exact rfl) (by exact rfl), N / 10, _, by omega, hnx, rfl, rfl⟩
    · rw [hz] at hZ
      (refine LWP.seq <| LWP.seq <| rgN <| kmv rfl <| kse rfl rfl (strs_eq he) <| kmv rfl <| K.loadAll rfl rfl rfl (.taken rfl rfl) ?_; refine gca rfl rfl (hZ) rfl rfl <| K.not rfl rfl (.taken rfl rfl) ?_; refine kpf rfl rfl <| RunK.nil <| LWP.condT rfl ?_; refine LWP.skip ?_; refine LWP.block <| LWP.seq <| rgN <| K.loadAll rfl rfl rfl .plain ?_; refine K.loadAll rfl rfl rfl .plain ?_; refine kca rfl rfl (hdv) <| kmv rfl <| kex rfl rfl <| kex rfl rfl <| K.alloc rfl .plain ?_; refine K.alloc rfl .plain ?_; refine K.storeAll rfl rfl rfl rfl rfl rfl .plain ?_; refine K.storeAll rfl rfl rfl rfl rfl rfl .plain ?_; refine RunK.nil <| LWP.seq <| rgN <| kfa rfl rfl ?_; refine K.indexArr rfl rfl (by omega) rfl .plain ?_; refine kl1 rfl rfl hat <| kad rfl rfl (wrap_i64 (by omega)) <| kcv rfl (by exact wrap_u8 (by omega)) ?_; refine K.buildSlc (zs := [.int .u8 0]) (sz := 1) (e := 5) (by kernel_rfl) rfl rfl rfl rfl rfl rfl .plain <| K.convStr rfl rfl (by kernel_rfl) StrT.u (Nat.le_refl _) hl .plain <| kmv rfl <| K.strAdd rfl rfl (by omega) (str_add _ _) .plain <| kas rfl <| RunK.nil <| rgN <| K.loadAll rfl rfl rfl .plain ?_; refine K.storeAll rfl rfl rfl rfl rfl rfl .plain ?_; refine RunK.nil ?_)
      exact ⟨_, _, hdec, Le.of (by exact ⟨rfl, rfl, rfl, rfl, trivial⟩) (by exact ⟨rfl, rfl, rfl, trivial⟩) (by exact rfl) (by exact rfl) (by exact rfl), N / 10, _, by omega, hnx, rfl, rfl⟩
  · have hne : s ≠ [] := fun e => hgo (.inl e)
    have hz : N = 0 := Classical.byContradiction fun e => hgo (.inr e)
    subst hz
    have hd := hH.done hne rfl
    have he : (s == []) = false := beq_eq_false_iff_ne.2 hne
    have hZ := Zero_spec X false 0 hN40
    have hs39 : (⟨s.toArray⟩ : ByteArray).size ≤ 39 := by omega
    rw [hd]
    (refine LWP.seq <| LWP.seq <| rgN <| kmv rfl <| kse rfl rfl (strs_eq he) <| kmv rfl <| K.loadAll rfl rfl rfl (.taken rfl rfl) ?_; refine gca rfl rfl (hZ) rfl rfl <| K.not rfl rfl (.taken rfl rfl) ?_; refine kpf rfl rfl <| RunK.nil <| LWP.condF rfl ?_; refine LWP.exit <| LWP.seq <| LWP.seq <| rgN <| kfa rfl rfl ?_; refine kl1 rfl rfl rfl <| RunK.nil <| LWP.condT rfl ?_; refine rgN <| kmv rfl <| K.strAdd rfl rfl (Nat.le_trans (Nat.add_le_add_left hs39 _) (by decide)) (str_add [45] _) .plain <| kas rfl <| RunK.nil <| LWP.seq <| rgN <| kmv rfl <| kas rfl <| RunK.nil <| LWP.ret ?_)
    exact ⟨[_], ⟨rfl, trivial⟩, rfl⟩
theorem RText_spec (x : Int) (hx : R127 x) : PSpec Tryz.prog X 71 [LQ x] (Ls (textQ x)) := by
  cases h : decide (x < 0) with
  | false => exact RText_false X x hx h
  | true => exact RText_true X x hx h
end Go.Proofs.YtimpjdbhalnofaaGreatDoor
end
section
namespace Go.Lg.Fml
end Go.Lg.Fml
namespace Go.Proofs.YtimpjdbhalnofaaGreatDoor
open Go Go.Lg Go.Lg.Fml Go.Lg.Fld Go.Lg.Arith Go.Lg.Sg
set_option maxRecDepth 100000
variable (X : Nat → Option Obj)
instance : ArrB Tryz.prog 121 (List.replicate 18 (.string ⟨#[]⟩)) 1 := ⟨by kernel_rfl⟩
theorem joinS_snoc : ∀ (l : List (List UInt8)) (x : List UInt8), joinS (l ++ [x]) = if l = [] then x else (joinS l ++ [44]) ++ x
  | [], x => rfl
  | [a], x => rfl
  | a :: b :: t, x => by
    have h := joinS_snoc (b :: t) x
    rw [if_neg (by simp)] at h ⊢
    simp only [List.cons_append, joinS] at h ⊢
    rw [h]
    simp only [List.append_assoc]
def wdsX : List (List UInt8) := [[], [], [], [], [], [97, 100, 100], [115, 117, 98], [109, 117, 108], [113, 117, 111], [114, 101, 109], [110, 101, 103], [108, 101, 97, 115, 116], [103, 114, 101, 97, 116], [115, 97, 109, 101], [108, 101, 115, 115], [110, 111, 116], [112, 105, 99, 107], [110, 101, 101, 100]]
theorem word_at {op : Int} (h : 5 ≤ op ∧ op ≤ 17) : (wdsX.map fun l => CV.val (.string ⟨l.toArray⟩))[op.toNat]? = some (CV.val (.string ⟨(wordX op).toArray⟩)) := by
  rcases (show op = 5 ∨ op = 6 ∨ op = 7 ∨ op = 8 ∨ op = 9 ∨ op = 10 ∨ op = 11 ∨ op = 12 ∨ op = 13 ∨ op = 14 ∨ op = 15 ∨ op = 16 ∨ op = 17 by omega) with rfl | rfl | rfl | rfl | rfl | rfl | rfl | rfl | rfl | rfl | rfl | rfl | rfl <;> rfl
theorem word_len (op : Int) : (wordX op).length ≤ 5 := by
  have key : ∀ (c : Prop) [Decidable c] (a b : List UInt8), a.length ≤ 5 → b.length ≤ 5 → (if c then a else b).length ≤ 5 := fun c _ a b h1 h2 => by
    by_cases h : c
    · rw [if_pos h]; exact h1
    · rw [if_neg h]; exact h2
  unfold wordX
  repeat (refine key _ _ _ (by decide) ?_)
  decide
theorem evL_txt : ∀ us : List Tr, evL oneS us = .ok (us.map Tr.txt)
  | [] => rfl
  | a :: us => by simp only [evL, ev_txt a, evL_txt us, List.map_cons]
theorem txt_top (t : Tr) : Tr.txt t = if takes t.top.op = 0 then leafS t.top else ((wordX t.top.op ++ [40]) ++ joinS (t.args.map Tr.txt)) ++ [41] := by
  have h := ev_txt t
  rw [ev_args, evL_txt] at h
  simp only [oneS, Except.ok.injEq] at h
  exact h.symm
theorem joinS_len : ∀ {l : List (List UInt8)} {n : Nat}, l.length ≤ 3 → (l.map List.length).sum ≤ n → (joinS l).length ≤ n + 2
  | [], n, _, h => by simp [joinS]
  | [a], n, _, h => by simp [joinS] at h ⊢; omega
  | [a, b], n, _, h => by simp [joinS] at h ⊢; omega
  | [a, b, c], n, _, h => by simp [joinS] at h ⊢; omega
  | _ :: _ :: _ :: _ :: _, n, hl, h => by simp at hl
theorem textQ_len {z : Int} (h : R127 z) : (textQ z).length ≤ 40 := by
  have h1 : (Lib.decDigits (mg z).toNat).length ≤ 39 := by
    rw [Lib.decDigits_length]
    have := mg_lim h
    exact Dec.nDigits_le 38 _ (by omega)
  unfold textQ
  split
  · rw [List.length_cons]; omega
  · omega
theorem leafS_len {x : Ins} (hx : okI x = true) (h2 : In2 x.k.2) : (leafS x).length ≤ 50 := by
  obtain ⟨_, hg, ha, hb⟩ := okI_facts hx
  unfold leafS dg1
  have la := Lib.itoa_length_le x.a (by omega) (by omega)
  have lb := Lib.itoa_length_le x.b (by omega) (by omega)
  have hq := textQ_len (zv_in h2 hg).1
  split
  · exact Nat.le_trans hq (by decide)
  · split
    · simp only [List.length_append, List.length_singleton]; omega
    · split
      · simp only [List.length_append, List.length_singleton]; omega
      · simp
theorem txt_len : ∀ {t : Tr}, t.ok → (∀ x ∈ t.flat, okI x = true ∧ In2 x.k.2) → (Tr.txt t).length ≤ 50 * t.flat.length
  | .n0 x, ht, h => by
    rw [txt_top, if_pos (show takes (Tr.n0 x).top.op = 0 from ht)]
    have := h x (by simp [Tr.flat])
    have := leafS_len this.1 this.2
    simp only [Tr.top, Tr.flat, List.length_singleton]; omega
  | .n1 x a, ht, h => by
    have h1 := txt_len ht.2 (fun y hy => h y (by simp [Tr.flat, hy]))
    have hw := word_len x.op
    have hj := joinS_len (l := [Tr.txt a]) (n := (Tr.txt a).length) (by simp) (by simp)
    rw [txt_top, if_neg (show ¬ takes (Tr.n1 x a).top.op = 0 by show ¬ takes x.op = 0; rw [ht.1]; decide)]
    simp only [Tr.args, Tr.top, List.map_cons, List.map_nil, List.length_append, List.length_singleton, Tr.flat] at hj ⊢
    omega
  | .n2 x a b, ht, h => by
    have h1 := txt_len ht.2.1 (fun y hy => h y (by simp [Tr.flat, hy]))
    have h2 := txt_len ht.2.2 (fun y hy => h y (by simp [Tr.flat, hy]))
    have hw := word_len x.op
    have hj := joinS_len (l := [Tr.txt a, Tr.txt b]) (n := (Tr.txt a).length + (Tr.txt b).length) (by simp) (by simp)
    rw [txt_top, if_neg (show ¬ takes (Tr.n2 x a b).top.op = 0 by show ¬ takes x.op = 0; rw [ht.1]; decide)]
    simp only [Tr.args, Tr.top, List.map_cons, List.map_nil, List.length_append, List.length_singleton, Tr.flat] at hj ⊢
    omega
  | .n3 x a b c, ht, h => by
    have h1 := txt_len ht.2.1 (fun y hy => h y (by simp [Tr.flat, hy]))
    have h2 := txt_len ht.2.2.1 (fun y hy => h y (by simp [Tr.flat, hy]))
    have h3 := txt_len ht.2.2.2 (fun y hy => h y (by simp [Tr.flat, hy]))
    have hw := word_len x.op
    have hj := joinS_len (l := [Tr.txt a, Tr.txt b, Tr.txt c]) (n := (Tr.txt a).length + ((Tr.txt b).length + (Tr.txt c).length)) (by simp) (by simp)
    rw [txt_top, if_neg (show ¬ takes (Tr.n3 x a b c).top.op = 0 by show ¬ takes x.op = 0; rw [ht.1]; decide)]
    simp only [Tr.args, Tr.top, List.map_cons, List.map_nil, List.length_append, List.length_singleton, Tr.flat] at hj ⊢
    omega
end Go.Proofs.YtimpjdbhalnofaaGreatDoor
end
section
namespace Go.Proofs.YtimpjdbhalnofaaGreatDoor
open Go Go.Lg Go.Lg.Fml Go.Lg.Fld Go.Lg.Arith Go.Lg.Sg
set_option maxRecDepth 100000
variable (X : Nat → Option Obj)
theorem joinS_le : ∀ {l : List (List UInt8)}, l.length ≤ 3 → (∀ a ∈ l, a.length ≤ 3200) → (joinS l).length ≤ 9602
  | [], _, h => by simp [joinS]
  | [a], _, h => by have := h a (by simp); simp only [joinS]; omega
  | [a, b], _, h => by have := h a (by simp); have := h b (by simp); simp only [joinS, List.length_append, List.length_singleton]; omega
  | [a, b, c], _, h => by have := h a (by simp); have := h b (by simp); have := h c (by simp); simp only [joinS, List.length_append, List.length_singleton]; omega
  | _ :: _ :: _ :: _ :: _, hl, h => by simp at hl
theorem ends_cell2 {p i : Nat} {us : List Tr} {a : Tr} (h : us[i]? = some a) : ((nuV (endsI p us)).map CV.val)[i * 1]? = some (.val (.int .i64 ((p + (flatL (us.take (i + 1))).length - 1 : Nat) : Int))) := by
  refine nu_at ?_
  unfold endsI
  rw [List.getElem?_map, endsL_at h]
  rfl
theorem takes_leaf {x : Ins} (hx : okI x = true) (h0 : takes x.op = 0) : x.op = 1 ∨ x.op = 2 ∨ x.op = 3 ∨ x.op = 4 := by
  obtain ⟨h1, _⟩ := okI_facts hx
  unfold takes at h0
  split at h0
  · omega
  · split at h0
    · omega
    · split at h0 <;> omega
theorem takes_node {x : Ins} (hx : okI x = true) (h0 : takes x.op ≠ 0) : 5 ≤ x.op ∧ x.op ≤ 17 := by
  obtain ⟨h1, _⟩ := okI_facts hx
  refine ⟨?_, h1.2⟩
  unfold takes at h0
  split at h0
  · omega
  · split at h0
    · omega
    · split at h0 <;> omega
set_option maxHeartbeats 6400000 in
theorem rshow_spec (l : List Ins) (ad : Option Addr) (cap : Nat) (hin : InsIn X ad l) (h64 : l.length ≤ 64) (hall : ∀ x ∈ l, okI x = true) :
    ∀ (n : Nat) (t : Tr) (p : Nat) (e : Int), t.flat.length ≤ n → At l p t → t.ok → e = ((p + t.flat.length : Nat) : Int) - 1 →
      PSpec Tryz.prog X 38 [Lx ad l.length cap, Ln .i64 e] (Ls (Tr.txt t))
  | 0, t, p, e, hn, _, _, _ => absurd (flat_len t) (by omega)
  | n + 1, t, p, e, hn, hA, ht, he => by
    have hlen := hA.len
    have h1 := flat_len t
    have hfl2 : t.flat.length = (flatL t.args).length + 1 := by rw [flat_args]; simp
    have hal := args_le t
    obtain ⟨htop, hoks⟩ := ok_args ht
    have htl := hA.top
    obtain ⟨blk, off, arr, el, fr, rfl, hX, hsz, hcs, hop⟩ := hin.at htl
    have hmem := List.mem_of_getElem? htl
    have hok := hall _ hmem
    obtain ⟨h17, hgk, ha7, hb7⟩ := okI_facts hok
    have h2 := (hin.small _ hmem).2.2.2
    have hio : off + Int.toNat e * 6 = off + (p + t.flat.length - 1) * 6 := by
      have : Int.toNat e = p + t.flat.length - 1 := by omega
      rw [this]
    have hin0 : 0 ≤ e ∧ e < (l.length : Nat) := by omega
    rw [txt_top]
    by_cases h0 : takes t.top.op = 0
    · rw [if_pos h0]
      have hdA := rDigits_spec X t.top.a (by omega) (by omega)
      have hdB := rDigits_spec X t.top.b (by omega) (by omega)
      have lA := Lib.itoa_length_le t.top.a (by omega) (by omega)
      have lB := Lib.itoa_length_le t.top.b (by omega) (by omega)
      have hlf : ∀ a b : List UInt8, ([102] ++ a) ++ ([46] ++ b) = (([102] ++ a) ++ [46]) ++ b := fun a b => by simp only [List.append_assoc]
      rcases takes_leaf hok h0 with c | c | c | c
      · obtain ⟨e1, r1⟩ : LI t.top.k.1 t.top.k.2 = LQ (zz t.top.k) ∧ R127 (zz t.top.k) := ⟨LI_q h2 hgk, (zv_in h2 hgk).1⟩
        have hTx := RText_spec X (zz t.top.k) r1
        rw [← e1] at hTx
        rw [show leafS t.top = textQ (zz t.top.k) from if_pos c]
        generalize textQ (zz t.top.k) = s at *
        clear e1 r1
        refine PSpec.intro Tryz.func38 rfl (by kernel_rfl) rfl rfl ?_
        intro C
        (refine LWP.seq <| rgN <| kas rfl <| RunK.nil <| LWP.seq <| rgN <| kmv rfl <| kmv rfl <| K.indexX rfl rfl SliceT.h hin0 hio .plain <| K.loadXagg rfl hX (by kernel_rfl) hsz hcs .plain <| K.alloc rfl .plain ?_; refine K.storeAll rfl rfl rfl rfl rfl rfl .plain ?_; refine RunK.nil <| LWP.seq <| LWP.seq <| rgN <| kfa rfl rfl ?_; refine kl1 rfl rfl rfl <| RunK.nil <| LWP.block <| LWP.seq <| rgN <| keq rfl rfl (r := true) (beq_iff_eq.2 c) <| kas rfl <| RunK.nil <| LWP.condT rfl ?_; refine LWP.seq <| rgN <| kfa rfl rfl ?_; refine K.loadPart rfl rfl rfl (by exact nl3 rfl rfl rfl rfl) .plain ?_; refine kca rfl rfl (hTx) <| kas rfl <| RunK.nil <| LWP.ret ?_)
        exact ⟨[_], ⟨rfl, trivial⟩, rfl⟩
      · rw [show leafS t.top = ([102] ++ dg1 t.top.a) ++ ([46] ++ dg1 t.top.b) by unfold leafS; rw [if_neg (by omega), if_pos c], hlf]
        unfold dg1
        generalize Lib.itoa t.top.a = sa at *
        generalize Lib.itoa t.top.b = sb at *
        have g1 : (⟨([102] : List UInt8).toArray⟩ : ByteArray).size + (⟨sa.toArray⟩ : ByteArray).size ≤ 9223372036854775807 := by show 1 + sa.length ≤ _; omega
        have g2 : (⟨(([102] : List UInt8) ++ sa).toArray⟩ : ByteArray).size + (⟨([46] : List UInt8).toArray⟩ : ByteArray).size ≤ 9223372036854775807 := by show (([102] : List UInt8) ++ sa).length + 1 ≤ _; rw [List.length_append]; simp only [List.length_singleton]; omega
        have g3 : (⟨((([102] : List UInt8) ++ sa) ++ [46]).toArray⟩ : ByteArray).size + (⟨sb.toArray⟩ : ByteArray).size ≤ 9223372036854775807 := by show ((([102] : List UInt8) ++ sa) ++ [46]).length + sb.length ≤ _; rw [List.length_append, List.length_append]; simp only [List.length_singleton]; omega
        refine PSpec.intro Tryz.func38 rfl (by kernel_rfl) rfl rfl ?_
        intro C
        (refine LWP.seq <| rgN <| kas rfl <| RunK.nil <| LWP.seq <| rgN <| kmv rfl <| kmv rfl <| K.indexX rfl rfl SliceT.h hin0 hio .plain <| K.loadXagg rfl hX (by kernel_rfl) hsz hcs .plain <| K.alloc rfl .plain ?_; refine K.storeAll rfl rfl rfl rfl rfl rfl .plain ?_; refine RunK.nil <| LWP.seq <| LWP.seq <| rgN <| kfa rfl rfl ?_; refine kl1 rfl rfl rfl <| RunK.nil <| LWP.block <| LWP.seq <| rgN <| keq rfl rfl (r := false) (beq_eq_false_iff_ne.2 (by omega)) <| kas rfl <| RunK.nil <| LWP.condF rfl ?_; refine LWP.seq <| rgN <| keq rfl rfl (r := true) (beq_iff_eq.2 c) <| kas rfl <| RunK.nil <| LWP.condT rfl ?_; refine LWP.seq <| rgD mixed <| kfa rfl rfl ?_; refine kl1 rfl rfl rfl <| kca rfl rfl hdA <| K.strAdd rfl rfl g1 (str_add [102] sa) .plain <| K.strAdd rfl rfl g2 (str_add ([102] ++ sa) [46]) .plain <| kfa rfl rfl ?_; refine kl1 rfl rfl rfl <| kca rfl rfl hdB <| K.strAdd rfl rfl g3 (str_add (([102] ++ sa) ++ [46]) sb) .plain <| kas rfl <| RunK.nil <| rgA ?_; refine LWP.ret ?_)
        exact ⟨[_], ⟨rfl, trivial⟩, rfl⟩
      · rw [show leafS t.top = ([102] ++ dg1 t.top.a) ++ [64] by unfold leafS; rw [if_neg (by omega), if_neg (by omega), if_pos c]]
        unfold dg1
        generalize Lib.itoa t.top.a = sa at *
        have g1 : (⟨([102] : List UInt8).toArray⟩ : ByteArray).size + (⟨sa.toArray⟩ : ByteArray).size ≤ 9223372036854775807 := by show 1 + sa.length ≤ _; omega
        have g2 : (⟨(([102] : List UInt8) ++ sa).toArray⟩ : ByteArray).size + (⟨([64] : List UInt8).toArray⟩ : ByteArray).size ≤ 9223372036854775807 := by show (([102] : List UInt8) ++ sa).length + 1 ≤ _; rw [List.length_append]; simp only [List.length_singleton]; omega
        refine PSpec.intro Tryz.func38 rfl (by kernel_rfl) rfl rfl ?_
        intro C
        (refine LWP.seq <| rgN <| kas rfl <| RunK.nil <| LWP.seq <| rgN <| kmv rfl <| kmv rfl <| K.indexX rfl rfl SliceT.h hin0 hio .plain <| K.loadXagg rfl hX (by kernel_rfl) hsz hcs .plain <| K.alloc rfl .plain ?_; refine K.storeAll rfl rfl rfl rfl rfl rfl .plain ?_; refine RunK.nil <| LWP.seq <| LWP.seq <| rgN <| kfa rfl rfl ?_; refine kl1 rfl rfl rfl <| RunK.nil <| LWP.block <| LWP.seq <| rgN <| keq rfl rfl (r := false) (beq_eq_false_iff_ne.2 (by omega)) <| kas rfl <| RunK.nil <| LWP.condF rfl ?_; refine LWP.seq <| rgN <| keq rfl rfl (r := false) (beq_eq_false_iff_ne.2 (by omega)) <| kas rfl <| RunK.nil <| LWP.condF rfl ?_; refine LWP.seq <| rgN <| keq rfl rfl (r := true) (beq_iff_eq.2 c) <| kas rfl <| RunK.nil <| LWP.condT rfl ?_; refine LWP.seq <| rgN <| kfa rfl rfl ?_; refine kl1 rfl rfl rfl <| kca rfl rfl hdA <| K.strAdd rfl rfl g1 (str_add [102] sa) .plain <| K.strAdd rfl rfl g2 (str_add ([102] ++ sa) [64]) .plain <| kas rfl <| RunK.nil <| LWP.ret ?_)
        exact ⟨[_], ⟨rfl, trivial⟩, rfl⟩
      · rw [show leafS t.top = [64] by unfold leafS; rw [if_neg (by omega), if_neg (by omega), if_neg (by omega)]]
        refine PSpec.intro Tryz.func38 rfl (by kernel_rfl) rfl rfl ?_
        intro C
        (refine LWP.seq <| rgN <| kas rfl <| RunK.nil <| LWP.seq <| rgN <| kmv rfl <| kmv rfl <| K.indexX rfl rfl SliceT.h hin0 hio .plain <| K.loadXagg rfl hX (by kernel_rfl) hsz hcs .plain <| K.alloc rfl .plain ?_; refine K.storeAll rfl rfl rfl rfl rfl rfl .plain ?_; refine RunK.nil <| LWP.seq <| LWP.seq <| rgN <| kfa rfl rfl ?_; refine kl1 rfl rfl rfl <| RunK.nil <| LWP.block <| LWP.seq <| rgN <| keq rfl rfl (r := false) (beq_eq_false_iff_ne.2 (by omega)) <| kas rfl <| RunK.nil <| LWP.condF rfl ?_; refine LWP.seq <| rgN <| keq rfl rfl (r := false) (beq_eq_false_iff_ne.2 (by omega)) <| kas rfl <| RunK.nil <| LWP.condF rfl ?_; refine LWP.seq <| rgN <| keq rfl rfl (r := false) (beq_eq_false_iff_ne.2 (by omega)) <| kas rfl <| RunK.nil <| LWP.condF rfl ?_; refine LWP.seq <| rgN <| keq rfl rfl (r := true) (beq_iff_eq.2 c) <| kas rfl <| RunK.nil <| LWP.condT rfl ?_; refine LWP.seq <| rgN <| kas rfl <| RunK.nil <| LWP.ret ?_)
        exact ⟨[_], ⟨rfl, trivial⟩, rfl⟩
    rw [if_neg h0]
    have h517 := takes_node hok h0
    have hB := rBranches_spec X l (some ⟨blk, off, none⟩) cap hin (by omega) hA ht (by omega) e he
    have hEl := endsI_len p t.args
    rw [hEl] at hB
    have hw := word_at h517
    have hwl := word_len t.top.op
    have hix : 0 + Int.toNat t.top.op * 1 = t.top.op.toNat := by omega
    have htx : ∀ a ∈ t.args, (Tr.txt a).length ≤ 3200 := fun a ha => by
      have hm : ∀ x ∈ a.flat, x ∈ l := fun x hx => by
        obtain ⟨pre, suf, e1, _⟩ := hA
        rw [e1]
        refine List.mem_append_right _ (List.mem_append_left _ ?_)
        rw [flat_args]
        refine List.mem_append_left _ ?_
        clear hB hEl htop hal hfl2 hoks htl hX hsz hcs hop hok h0 h17 hgk ha7 hb7 h2 hw hix h517 hwl hmem
        generalize t.args = us at ha
        induction us with
        | nil => cases ha
        | cons b us ih =>
          rcases List.mem_cons.1 ha with rfl | ha
          · exact List.mem_append_left _ hx
          · exact List.mem_append_right _ (ih ha)
      have := txt_len (hoks a ha) (fun x hx => ⟨hall x (hm x hx), (hin.small x (hm x hx)).2.2.2⟩)
      have : a.flat.length ≤ 64 := by
        obtain ⟨i, hi, e2⟩ := List.getElem_of_mem ha
        have := (hA.arg (i := i) (a := a) (by rw [List.getElem?_eq_getElem hi, e2])).1.len
        omega
      omega
    generalize hW : wordX t.top.op ++ [40] = W at *
    have hWl : W.length ≤ 6 := by rw [← hW, List.length_append]; simp only [List.length_singleton]; omega
    have g1 : (⟨(wordX t.top.op).toArray⟩ : ByteArray).size + (⟨([40] : List UInt8).toArray⟩ : ByteArray).size ≤ 9223372036854775807 := by show (wordX t.top.op).length + 1 ≤ _; omega
    have hWs : (⟨(wordX t.top.op).toArray⟩ : ByteArray) ++ ⟨([40] : List UInt8).toArray⟩ = ⟨W.toArray⟩ := by rw [str_add, hW]
    refine PSpec.intro Tryz.func38 rfl (by kernel_rfl) rfl rfl ?_
    intro C
    have hW0 : W = W ++ joinS ((t.args.map Tr.txt).take 0) := by rw [List.take_zero]; show W = W ++ []; rw [List.append_nil]
    (refine LWP.seq <| rgN <| kas rfl <| RunK.nil <| LWP.seq <| rgN <| kmv rfl <| kmv rfl <| K.indexX rfl rfl SliceT.h hin0 hio .plain <| K.loadXagg rfl hX (by kernel_rfl) hsz hcs .plain <| K.alloc rfl .plain ?_; refine K.storeAll rfl rfl rfl rfl rfl rfl .plain ?_; refine RunK.nil <| LWP.seq <| LWP.seq <| rgN <| kfa rfl rfl ?_; refine kl1 rfl rfl rfl <| RunK.nil <| LWP.block <| LWP.seq <| rgN <| keq rfl rfl (r := false) (beq_eq_false_iff_ne.2 (by omega)) <| kas rfl <| RunK.nil <| LWP.condF rfl ?_; refine LWP.seq <| rgN <| keq rfl rfl (r := false) (beq_eq_false_iff_ne.2 (by omega)) <| kas rfl <| RunK.nil <| LWP.condF rfl ?_; refine LWP.seq <| rgN <| keq rfl rfl (r := false) (beq_eq_false_iff_ne.2 (by omega)) <| kas rfl <| RunK.nil <| LWP.condF rfl ?_; refine LWP.seq <| rgN <| keq rfl rfl (r := false) (beq_eq_false_iff_ne.2 (by omega)) <| kas rfl <| RunK.nil <| LWP.condF rfl ?_; refine LWP.skip ?_; refine LWP.seq <| rgN <| K.buildArr rfl rfl (by exact rfl) rfl .plain ?_; refine K.alloc rfl .plain ?_; refine K.storeAll rfl rfl rfl rfl rfl rfl .plain ?_; refine RunK.nil <| LWP.seq <| rgN <| kfa rfl rfl ?_; refine kl1 rfl rfl rfl <| K.indexArr rfl rfl (by omega) hix .plain ?_; refine kl1 rfl rfl hw <| K.strAdd rfl rfl g1 hWs .plain <| kas rfl <| RunK.nil <| LWP.seq <| rgN <| kmv rfl <| kmv rfl <| K.callMp [(1000001, 500)] (.sv (.one (.slc 500 0 t.args.length))) [nuB 500 (endsI p t.args)] (hB) rfl rfl (by exact trivial) rfl rfl rfl rfl rfl (by exact (.box rfl (Box.ren_vals _ _ _ _) .nil)) .plain <| kas rfl <| RunK.nil <| LWP.seq <| LWP.seq <| rgN ?_; refine kas rfl <| RunK.nil <| LWP.block ?_)
    refine LWP.loop (fun m σ => ∃ i : Nat, i ≤ t.args.length ∧ m = t.args.length - i ∧ σ = ⟨[(0, Lx (some ⟨blk, off, none⟩) l.length cap), (7, Ls (W ++ joinS ((t.args.map Tr.txt).take i))), (8, .sv (.one (.slc 500 0 t.args.length))), (9, Ln .i64 (i : Nat))], [nuB 500 (endsI p t.args)], X⟩) t.args.length
      ⟨⟨[(0, Lx (some ⟨blk, off, none⟩) l.length cap), (7, Ls W), (8, .sv (.one (.slc 500 0 t.args.length))), (9, Ln .i64 (0 : Nat))], [nuB 500 (endsI p t.args)], X⟩, Le.ofR [(500, 500)] (by exact ⟨rfl, rfl, rfl, rfl, trivial⟩) (by repeat' (first | exact trivial | refine And.intro ⟨_, rfl, ?_⟩ ?_ | refine And.intro ⟨_, rfl⟩ ?_ | rfl | exact Box.ren_bytes _ _ _ _ | exact Box.ren_vals _ _ _ _ | exact Box.ren_mid rfl)) (by exact rfl) (by exact rfl) (by repeat' (first | refine all_cons_true ?_ ?_ | rfl | exact bytes_inUse | exact vals_inUse | exact mid_inUse rfl)) (by exact rfl) (by exact rfl), 0, by omega, rfl, by rw [← hW0]⟩ ?_
    rintro m σ ⟨i, hi, rfl, rfl⟩
    have hjl : (joinS ((t.args.map Tr.txt).take i)).length ≤ 9602 := joinS_le (by rw [List.length_take, List.length_map]; omega) (fun a ha => by
      obtain ⟨b, hb, rfl⟩ := List.mem_map.1 (List.mem_of_mem_take ha)
      exact htx b hb)
    by_cases hlt : i < t.args.length
    · obtain ⟨a, ha⟩ : ∃ a, t.args[i]? = some a := ⟨_, List.getElem?_eq_getElem hlt⟩
      obtain ⟨hAa, _⟩ := hA.arg ha
      have hca := ends_cell2 (p := p) ha
      have htk : t.args.take (i + 1) = t.args.take i ++ [a] := take_snoc ha
      have hft : (flatL (t.args.take (i + 1))).length = (flatL (t.args.take i)).length + a.flat.length := by rw [htk, flatL_app, List.length_append]; simp [flatL]
      have hle : (flatL (t.args.take (i + 1))).length ≤ (flatL t.args).length := by
        conv => rhs; rw [← List.take_append_drop (i + 1) t.args, flatL_app, List.length_append]
        omega
      have ha1 := flat_len a
      have hal2 := hAa.len
      have hrec := rshow_spec l (some ⟨blk, off, none⟩) cap hin h64 hall n a (p + (flatL (t.args.take i)).length) (((p + (flatL (t.args.take (i + 1))).length - 1 : Nat) : Int)) (by omega) hAa (hoks a (List.mem_of_getElem? ha)) (by omega)
      have hta := htx a (List.mem_of_getElem? ha)
      have hnext : joinS ((t.args.map Tr.txt).take (i + 1)) = if (t.args.map Tr.txt).take i = [] then Tr.txt a else (joinS ((t.args.map Tr.txt).take i) ++ [44]) ++ Tr.txt a := by
        rw [take_snoc (f := Tr.txt a) (by rw [List.getElem?_map, ha]; rfl), joinS_snoc]
      generalize ((p + (flatL (t.args.take (i + 1))).length - 1 : Nat) : Int) = v at *
      have hio2 : 0 + Int.toNat (i : Int) * 1 = i * 1 := by simp
      have hadd : IntKind.i64.wrap ((i : Int) + 1) = ((i + 1 : Nat) : Int) := by rw [wrap_i64 (by omega)]; omega
      by_cases hi0 : i = 0
      · subst hi0
        rw [List.take_zero, if_pos rfl] at hnext
        have e0 : W ++ joinS ((t.args.map Tr.txt).take 0) = W := hW0.symm
        rw [e0]
        have g2 : (⟨W.toArray⟩ : ByteArray).size + (⟨(Tr.txt a).toArray⟩ : ByteArray).size ≤ 9223372036854775807 := by show W.length + (Tr.txt a).length ≤ _; omega
        have hs2 : (⟨W.toArray⟩ : ByteArray) ++ ⟨(Tr.txt a).toArray⟩ = ⟨(W ++ joinS ((t.args.map Tr.txt).take (0 + 1))).toArray⟩ := by rw [str_add, hnext]
        (refine LWP.seq <| LWP.seq <| rgN <| kmv rfl <| kmv rfl <| K.lenSlc rfl SliceT.h rfl .plain ?_; refine klt rfl rfl (decide_eq_true (by omega)) <| RunK.nil <| LWP.condT rfl ?_; refine LWP.skip ?_; refine LWP.seq <| LWP.block <| LWP.seq <| LWP.seq <| rgN <| kmv rfl <| K.gtr rfl rfl (r := false) rfl .plain <| RunK.nil <| LWP.condF rfl ?_; refine LWP.skip ?_; refine rgN <| kmv rfl <| kmv rfl <| kmv rfl <| kmv rfl <| K.indexSlc rfl rfl (by omega) hio2 .plain ?_; refine kl1 rfl rfl hca <| kca rfl rfl hrec <| K.strAdd rfl rfl g2 hs2 .plain <| kas rfl <| RunK.nil <| rgN <| kmv rfl <| kad rfl rfl hadd <| kas rfl <| RunK.nil ?_)
        exact ⟨_, ⟨[(0, Lx (some ⟨blk, off, none⟩) l.length cap), (7, Ls (W ++ joinS ((t.args.map Tr.txt).take (0 + 1)))), (8, .sv (.one (.slc 500 0 t.args.length))), (9, Ln .i64 (0 + 1 : Nat))], [nuB 500 (endsI p t.args)], X⟩, by omega, Le.of (by exact ⟨rfl, rfl, rfl, rfl, trivial⟩) (by exact ⟨rfl, trivial⟩) (by exact rfl) (by exact rfl) (by repeat' (first | refine all_cons_true ?_ ?_ | rfl | exact bytes_inUse | exact vals_inUse | exact mid_inUse rfl)), 0 + 1, by omega, rfl, rfl⟩
      · rw [if_neg (by
          intro e3
          have := congrArg List.length e3
          rw [List.length_take, List.length_map, List.length_nil] at this
          omega)] at hnext
        generalize joinS ((t.args.map Tr.txt).take i) = J at *
        have g2 : (⟨(W ++ J).toArray⟩ : ByteArray).size + (⟨([44] : List UInt8).toArray⟩ : ByteArray).size ≤ 9223372036854775807 := by show (W ++ J).length + 1 ≤ _; rw [List.length_append]; omega
        have g3 : (⟨((W ++ J) ++ [44]).toArray⟩ : ByteArray).size + (⟨(Tr.txt a).toArray⟩ : ByteArray).size ≤ 9223372036854775807 := by show ((W ++ J) ++ [44]).length + (Tr.txt a).length ≤ _; rw [List.length_append, List.length_append]; simp only [List.length_singleton]; omega
        have hs3 : (⟨((W ++ J) ++ [44]).toArray⟩ : ByteArray) ++ ⟨(Tr.txt a).toArray⟩ = ⟨(W ++ joinS ((t.args.map Tr.txt).take (i + 1))).toArray⟩ := by rw [str_add, hnext]; simp only [List.append_assoc]
        (refine LWP.seq <| LWP.seq <| rgN <| kmv rfl <| kmv rfl <| K.lenSlc rfl SliceT.h rfl .plain ?_; refine klt rfl rfl (decide_eq_true (by omega)) <| RunK.nil <| LWP.condT rfl ?_; refine LWP.skip ?_; refine LWP.seq <| LWP.block <| LWP.seq <| LWP.seq <| rgN <| kmv rfl <| K.gtr rfl rfl (decide_eq_true (by omega)) .plain <| RunK.nil <| LWP.condT rfl ?_; refine rgN <| kmv rfl <| K.strAdd rfl rfl g2 (str_add (W ++ J) [44]) .plain <| kas rfl <| RunK.nil <| rgN <| kmv rfl <| kmv rfl <| kmv rfl <| kmv rfl <| K.indexSlc rfl rfl (by omega) hio2 .plain ?_; refine kl1 rfl rfl hca <| kca rfl rfl hrec <| K.strAdd rfl rfl g3 hs3 .plain <| kas rfl <| RunK.nil <| rgN <| kmv rfl <| kad rfl rfl hadd <| kas rfl <| RunK.nil ?_)
        exact ⟨_, ⟨[(0, Lx (some ⟨blk, off, none⟩) l.length cap), (7, Ls (W ++ joinS ((t.args.map Tr.txt).take (i + 1)))), (8, .sv (.one (.slc 500 0 t.args.length))), (9, Ln .i64 (i + 1 : Nat))], [nuB 500 (endsI p t.args)], X⟩, by omega, Le.of (by exact ⟨rfl, rfl, rfl, rfl, trivial⟩) (by exact ⟨rfl, trivial⟩) (by exact rfl) (by exact rfl) (by repeat' (first | refine all_cons_true ?_ ?_ | rfl | exact bytes_inUse | exact vals_inUse | exact mid_inUse rfl)), i + 1, by omega, rfl, rfl⟩
    · have e2 : i = t.args.length := by omega
      subst e2
      have hta : (t.args.map Tr.txt).take t.args.length = t.args.map Tr.txt := List.take_of_length_le (by rw [List.length_map]; exact Nat.le_refl _)
      rw [hta] at hjl ⊢
      generalize joinS (t.args.map Tr.txt) = J at *
      have g2 : (⟨(W ++ J).toArray⟩ : ByteArray).size + (⟨([41] : List UInt8).toArray⟩ : ByteArray).size ≤ 9223372036854775807 := by show (W ++ J).length + 1 ≤ _; rw [List.length_append]; omega
      (refine LWP.seq <| LWP.seq <| rgN <| kmv rfl <| kmv rfl <| K.lenSlc rfl SliceT.h rfl .plain ?_; refine klt rfl rfl (decide_eq_false (by omega)) <| RunK.nil <| LWP.condF rfl ?_; refine LWP.exit <| LWP.seq <| rgN <| kmv rfl <| K.strAdd rfl rfl g2 (str_add (W ++ J) [41]) .plain <| kas rfl <| RunK.nil <| LWP.ret ?_)
      exact ⟨[_], ⟨rfl, trivial⟩, rfl⟩
set_option maxHeartbeats 1600000 in
theorem rShow11 (l : List Ins) (ad : Option Addr) (cap : Nat) (hin : InsIn X ad l) (hbig : l.length < 1152921504606846976) : PSpec Tryz.prog X 16 [Lx ad l.length cap] (Ls (showX l)) := by
  have hC := rCheck11 X l ad cap hin (by omega)
  by_cases hz : chkX l = 0
  · obtain ⟨t, ht, hl⟩ := parse (chkX_zero hz).2
    have hA : At l 0 t := ⟨[], [], by rw [← hl]; simp, rfl⟩
    have h64 := (chkX_zero hz).1
    have hT := rshow_spec X l ad cap hin h64 (chkX_ok hz) t.flat.length t 0 ((l.length : Int) - 1) (Nat.le_refl _) hA ht (by rw [hl]; omega)
    have hsub : IntKind.i64.wrap ((l.length : Int) - 1) = (l.length : Int) - 1 := wrap_i64 (by omega)
    rw [showX_tree hz ht hl]
    rw [hz] at hC
    refine PSpec.intro Tryz.func16 rfl (by kernel_rfl) rfl rfl ?_
    intro C
    (refine LWP.seq <| rgN <| kas rfl <| RunK.nil <| LWP.seq <| LWP.seq <| rgN <| kmv rfl <| kca rfl rfl (hC) <| kne rfl rfl (r := false) rfl <| RunK.nil <| LWP.condF rfl ?_; refine LWP.skip ?_; refine LWP.seq <| rgN <| kmv rfl <| kmv rfl <| K.lenX rfl SliceT.h rfl .plain ?_; refine K.sub rfl rfl hsub .plain <| kca rfl rfl (hT) <| kas rfl <| RunK.nil <| LWP.ret ?_)
    exact ⟨[_], ⟨rfl, trivial⟩, rfl⟩
  · rw [show showX l = [] from if_neg hz]
    refine PSpec.intro Tryz.func16 rfl (by kernel_rfl) rfl rfl ?_
    intro C
    (refine LWP.seq <| rgN <| kas rfl <| RunK.nil <| LWP.seq <| LWP.seq <| rgN <| kmv rfl <| kca rfl rfl (hC) <| kne rfl rfl (bne_iff_ne.2 hz) <| RunK.nil <| LWP.condT rfl ?_; refine LWP.seq <| rgN <| kas rfl <| RunK.nil <| LWP.ret ?_)
    exact ⟨[_], ⟨rfl, trivial⟩, rfl⟩
end Go.Proofs.YtimpjdbhalnofaaGreatDoor
end
section
namespace Go.Proofs.YtimpjdbhalnofaaGreatDoor
open Go Go.Lg Go.Lg.Fml Go.Lg.Fld Go.Lg.Arith
set_option maxRecDepth 100000
def exV : Except Int Nm → Nm
  | .ok v => v
  | .error _ => (false, 0)
def exE : Except Int Nm → Int
  | .ok _ => 0
  | .error e => e
theorem exR_eq (r : Except Int Nm) : exR r = .tup [SI (exV r).1 (exV r).2, Sn .i64 (exE r)] := by cases r <;> rfl
variable (X : Nat → Option Obj)
theorem addR_ex (z : Int) : addR z = exR (if R127 z then Except.ok (qn z) else Except.error 3 : Except Int Nm) := by
  by_cases h : R127 z
  · rw [addR_in h, if_pos h]; rfl
  · rw [addR_out h, if_neg h]; rfl
theorem wAdd_do (u v : Nm) (hu : In2 u.2) (hv : In2 v.2) : PSpec Tryz.prog X 22 [LI u.1 u.2, LI v.1 v.2] (exR (doX 5 u v)) := by
  cases hg : (gd u && gd v) with
  | false =>
    rw [doX_bad hg]
    exact Add_arg X u.1 v.1 u.2 v.2 hu hv hg
  | true =>
    obtain ⟨gu, gv⟩ := Bool.and_eq_true_iff.1 hg
    obtain ⟨e1, r1⟩ := gd_q gu hu
    obtain ⟨e2, r2⟩ := gd_q gv hv
    rw [e1, e2]
    unfold doX
    rw [hg, if_neg (by decide), if_neg (by omega), show arith 5 (zz u) (zz v) = zz u + zz v from rfl, ← addR_ex]
    exact Add_q X (zz u) (zz v) r1 r2
theorem wSub_do (u v : Nm) (hu : In2 u.2) (hv : In2 v.2) : PSpec Tryz.prog X 23 [LI u.1 u.2, LI v.1 v.2] (exR (doX 6 u v)) := by
  cases hg : (gd u && gd v) with
  | false =>
    rw [doX_bad hg]
    exact Sub_arg X u.1 v.1 u.2 v.2 hu hv hg
  | true =>
    obtain ⟨gu, gv⟩ := Bool.and_eq_true_iff.1 hg
    obtain ⟨e1, r1⟩ := gd_q gu hu
    obtain ⟨e2, r2⟩ := gd_q gv hv
    rw [e1, e2]
    unfold doX
    rw [hg, if_neg (by decide), if_neg (by omega), show arith 6 (zz u) (zz v) = zz u - zz v from rfl, ← addR_ex]
    exact Sub_q X (zz u) (zz v) r1 r2
theorem wMul_do (u v : Nm) (hu : In2 u.2) (hv : In2 v.2) : PSpec Tryz.prog X 24 [LI u.1 u.2, LI v.1 v.2] (exR (doX 7 u v)) := by
  cases hg : (gd u && gd v) with
  | false =>
    rw [doX_bad hg]
    exact Mul_arg X u.1 v.1 u.2 v.2 hu hv hg
  | true =>
    obtain ⟨gu, gv⟩ := Bool.and_eq_true_iff.1 hg
    obtain ⟨e1, r1⟩ := gd_q gu hu
    obtain ⟨e2, r2⟩ := gd_q gv hv
    rw [e1, e2]
    unfold doX
    rw [hg, if_neg (by decide), if_neg (by omega), show arith 7 (zz u) (zz v) = zz u * zz v from rfl, ← addR_ex]
    exact Mul_q X (zz u) (zz v) r1 r2
theorem wQuo_do (u v : Nm) (hu : In2 u.2) (hv : In2 v.2) : PSpec Tryz.prog X 25 [LI u.1 u.2, LI v.1 v.2] (exR (doX 8 u v)) := by
  cases hg : (gd u && gd v) with
  | false =>
    rw [doX_bad hg]
    exact Quo_arg X u.1 v.1 u.2 v.2 hu hv (by rw [show (formB u.1 u.2 && formB v.1 v.2) = false from hg]; rfl)
  | true =>
    obtain ⟨gu, gv⟩ := Bool.and_eq_true_iff.1 hg
    obtain ⟨e1, r1⟩ := gd_q gu hu
    obtain ⟨e2, r2⟩ := gd_q gv hv
    by_cases h0 : zz v = 0
    · have hv0 : v.2 = 0 := by
        have h1 : zv v.1 v.2 = 0 := h0
        have h2 := hv
        unfold zv at h1
        unfold In2 at h2
        split at h1 <;> omega
      rw [show doX 8 u v = .error 1 by unfold doX; rw [hg, if_neg (by decide), if_pos ⟨by decide, h0⟩]]
      exact Quo_arg X u.1 v.1 u.2 v.2 hu hv (by rw [hv0]; simp)
    · have hq := (parts_facts r1 r2 h0).1
      rw [e1, e2]
      unfold doX
      rw [hg, if_neg (by decide), if_neg (fun h => h0 h.2), show arith 8 (zz u) (zz v) = (zz u).tdiv (zz v) from rfl, if_pos hq]
      exact Quo_q X (zz u) (zz v) r1 r2 h0
theorem wRem_do (u v : Nm) (hu : In2 u.2) (hv : In2 v.2) : PSpec Tryz.prog X 26 [LI u.1 u.2, LI v.1 v.2] (exR (doX 9 u v)) := by
  cases hg : (gd u && gd v) with
  | false =>
    rw [doX_bad hg]
    exact Rem_arg X u.1 v.1 u.2 v.2 hu hv (by rw [show (formB u.1 u.2 && formB v.1 v.2) = false from hg]; rfl)
  | true =>
    obtain ⟨gu, gv⟩ := Bool.and_eq_true_iff.1 hg
    obtain ⟨e1, r1⟩ := gd_q gu hu
    obtain ⟨e2, r2⟩ := gd_q gv hv
    by_cases h0 : zz v = 0
    · have hv0 : v.2 = 0 := by
        have h1 : zv v.1 v.2 = 0 := h0
        have h2 := hv
        unfold zv at h1
        unfold In2 at h2
        split at h1 <;> omega
      rw [show doX 9 u v = .error 1 by unfold doX; rw [hg, if_neg (by decide), if_pos ⟨by decide, h0⟩]]
      exact Rem_arg X u.1 v.1 u.2 v.2 hu hv (by rw [hv0]; simp)
    · have hq := (parts_facts r1 r2 h0).2.1
      rw [e1, e2]
      unfold doX
      rw [hg, if_neg (by decide), if_neg (fun h => h0 h.2), show arith 9 (zz u) (zz v) = (zz u).tmod (zz v) from rfl, if_pos hq]
      exact Rem_q X (zz u) (zz v) r1 r2 h0
def truX (x y : Nm) (b : Bool) : Except Int Nm := if (gd x && gd y) = false then .error 1 else .ok (truth b)
def sameX (x y : Nm) : Except Int Nm := truX x y (decide (x = y))
def lessX (x y : Nm) : Except Int Nm := truX x y (decide (zz x < zz y))
def pickX (x y z : Nm) : Except Int Nm := if gd x = false then .error 1 else .ok (if x = (false, 0) then z else y)
def needX (x y : Nm) : Except Int Nm := if gd y = false then .error 1 else if y = (false, 0) then .error 9 else .ok x
theorem tForm (x : Nm) (hx : In2 x.2) (r : Bool) (h : gd x = r) : PSpec Tryz.prog X 31 [LI x.1 x.2] (Lb r) := Form_spec X _ _ hx r h
theorem tTruth (x y : Nm) (hx : In2 x.2) (hy : In2 y.2) (b : Bool) : PSpec Tryz.prog X 124 [LI x.1 x.2, LI y.1 y.2, Lb b] (exR (truX x y b)) := by
  cases h1 : gd x with
  | false =>
    have f1 := tForm X x hx false h1
    rw [show truX x y b = .error 1 by unfold truX; rw [h1]; rfl]
    refine PSpec.intro Tryz.func124 rfl (by kernel_rfl) rfl rfl ?_
    intro C
    (refine LWP.seq <| rgN <| K.box rfl rfl rfl .plain <| K.box rfl rfl rfl .plain <| K.alloc rfl .plain ?_; refine kas rfl <| RunK.nil <| LWP.seq <| LWP.block <| LWP.seq <| rgN <| K.loadAll rfl rfl rfl .plain ?_; refine kca rfl rfl f1 <| K.not rfl rfl .plain <| kmv rfl <| RunK.passed rfl rfl rfl <| RunK.passed rfl rfl rfl <| RunK.passed rfl rfl rfl <| kpt rfl rfl <| kas rfl <| RunK.nil <| LWP.condT rfl ?_; refine LWP.seq <| rgN <| K.build rfl rfl (by exact rfl) (by exact nl3 rfl rfl rfl rfl) .plain ?_; refine K.storeAll rfl rfl rfl rfl rfl rfl .plain ?_; refine kas rfl <| RunK.nil <| LWP.ret ?_)
    exact ⟨[_, _], ⟨⟨_, _, rfl, rfl, rfl, .inl ⟨AggT.h, rfl⟩⟩, rfl, trivial⟩, rfl⟩
  | true =>
  have f1 := tForm X x hx true h1
  cases h2 : gd y with
  | false =>
    have f2 := tForm X y hy false h2
    rw [show truX x y b = .error 1 by unfold truX; rw [h1, h2]; rfl]
    refine PSpec.intro Tryz.func124 rfl (by kernel_rfl) rfl rfl ?_
    intro C
    (refine LWP.seq <| rgN <| K.box rfl rfl rfl .plain <| K.box rfl rfl rfl .plain <| K.alloc rfl .plain ?_; refine kas rfl <| RunK.nil <| LWP.seq <| LWP.block <| LWP.seq <| rgN <| K.loadAll rfl rfl rfl .plain ?_; refine kca rfl rfl f1 <| K.not rfl rfl .plain <| kmv rfl <| K.loadAll rfl rfl rfl (.taken rfl rfl) ?_; refine gca rfl rfl f2 rfl rfl <| K.not rfl rfl (.taken rfl rfl) ?_; refine kpf rfl rfl <| kas rfl <| RunK.nil <| LWP.condT rfl ?_; refine LWP.seq <| rgN <| K.build rfl rfl (by exact rfl) (by exact nl3 rfl rfl rfl rfl) .plain ?_; refine K.storeAll rfl rfl rfl rfl rfl rfl .plain ?_; refine kas rfl <| RunK.nil <| LWP.ret ?_)
    exact ⟨[_, _], ⟨⟨_, _, rfl, rfl, rfl, .inl ⟨AggT.h, rfl⟩⟩, rfl, trivial⟩, rfl⟩
  | true =>
  have f2 := tForm X y hy true h2
  rw [show truX x y b = .ok (truth b) by unfold truX; rw [h1, h2]; rfl]
  cases b with
  | true =>
    have hO := Of_spec X 1 (by omega)
    refine PSpec.intro Tryz.func124 rfl (by kernel_rfl) rfl rfl ?_
    intro C
    (refine LWP.seq <| rgN <| K.box rfl rfl rfl .plain <| K.box rfl rfl rfl .plain <| K.alloc rfl .plain ?_; refine kas rfl <| RunK.nil <| LWP.seq <| LWP.block <| LWP.seq <| rgN <| K.loadAll rfl rfl rfl .plain ?_; refine kca rfl rfl f1 <| K.not rfl rfl .plain <| kmv rfl <| K.loadAll rfl rfl rfl (.taken rfl rfl) ?_; refine gca rfl rfl f2 rfl rfl <| K.not rfl rfl (.taken rfl rfl) ?_; refine kpf rfl rfl <| kas rfl <| RunK.nil <| LWP.condF rfl ?_; refine LWP.seq <| rgN <| kmv rfl <| kas rfl <| RunK.nil <| LWP.condT rfl ?_; refine LWP.seq <| rgN <| kca rfl rfl (hO) <| K.storeAll rfl rfl rfl rfl rfl rfl .plain ?_; refine kas rfl <| RunK.nil <| LWP.ret ?_)
    exact ⟨[_, _], ⟨⟨_, _, rfl, rfl, rfl, .inl ⟨AggT.h, rfl⟩⟩, rfl, trivial⟩, rfl⟩
  | false =>
    have hO := Of_spec X 0 (by omega)
    refine PSpec.intro Tryz.func124 rfl (by kernel_rfl) rfl rfl ?_
    intro C
    (refine LWP.seq <| rgN <| K.box rfl rfl rfl .plain <| K.box rfl rfl rfl .plain <| K.alloc rfl .plain ?_; refine kas rfl <| RunK.nil <| LWP.seq <| LWP.block <| LWP.seq <| rgN <| K.loadAll rfl rfl rfl .plain ?_; refine kca rfl rfl f1 <| K.not rfl rfl .plain <| kmv rfl <| K.loadAll rfl rfl rfl (.taken rfl rfl) ?_; refine gca rfl rfl f2 rfl rfl <| K.not rfl rfl (.taken rfl rfl) ?_; refine kpf rfl rfl <| kas rfl <| RunK.nil <| LWP.condF rfl ?_; refine LWP.seq <| rgN <| kmv rfl <| kas rfl <| RunK.nil <| LWP.condF rfl ?_; refine LWP.skip ?_; refine LWP.seq <| rgN <| kca rfl rfl (hO) <| K.storeAll rfl rfl rfl rfl rfl rfl .plain ?_; refine kas rfl <| RunK.nil <| LWP.ret ?_)
    exact ⟨[_, _], ⟨⟨_, _, rfl, rfl, rfl, .inl ⟨AggT.h, rfl⟩⟩, rfl, trivial⟩, rfl⟩
theorem tSame (x y : Nm) (hx : In2 x.2) (hy : In2 y.2) : PSpec Tryz.prog X 94 [LI x.1 x.2, LI y.1 y.2] (exR (sameX x y)) := by
  have q := eqI (b := x.1) (b' := y.1) (h := x.2 / 18446744073709551616) (h' := y.2 / 18446744073709551616) (l := x.2 % 18446744073709551616) (l' := y.2 % 18446744073709551616) _ (eqN hx hy)
  unfold sameX
  have hT := tTruth X x y hx hy (decide (x = y))
  rw [show decide (((x.1, x.2) : Nm) = (y.1, y.2)) = decide (x = y) from rfl] at q
  generalize decide (x = y) = z at *
  rw [exR_eq] at hT ⊢
  generalize exE (truX x y z) = e at *
  generalize exV (truX x y z) = v at *
  obtain ⟨vb, vN⟩ := v
  refine PSpec.intro Tryz.func94 rfl (by kernel_rfl) rfl rfl ?_
  intro C
  (refine LWP.seq <| rgN <| K.box rfl rfl rfl .plain <| K.box rfl rfl rfl .plain <| K.alloc rfl .plain ?_; refine kas rfl <| RunK.nil <| LWP.seq <| rgD mixed <| K.loadAll rfl rfl rfl .plain ?_; refine K.loadAll rfl rfl rfl .plain ?_; refine K.loadAll rfl rfl rfl .plain ?_; refine K.loadAll rfl rfl rfl .plain ?_; refine K.aggEq rfl rfl rfl rfl (by kernel_rfl) q (.inl ⟨rfl, rfl⟩) .plain <| kca rfl rfl (hT) <| kex rfl rfl <| kex rfl rfl <| K.storeAll rfl rfl rfl rfl rfl rfl .plain ?_; refine kas rfl <| RunK.nil <| rgA ?_; refine LWP.ret ?_)
  exact ⟨[_, _], ⟨⟨_, _, rfl, rfl, rfl, .inl ⟨AggT.h, rfl⟩⟩, rfl, trivial⟩, rfl⟩
theorem tCmp (x y : Nm) (hx : In2 x.2) (hy : In2 y.2) : ∃ r : Int, PSpec Tryz.prog X 125 [LI x.1 x.2, LI y.1 y.2] (Ln .i64 r) ∧ ((gd x && gd y) = true → decide (r < 0) = decide (zz x < zz y)) := by
  cases h : (gd x && gd y) with
  | false => exact ⟨0, Cmp_bad X _ _ _ _ hx hy h, fun h' => by cases h'⟩
  | true =>
    obtain ⟨gx, gy⟩ := Bool.and_eq_true_iff.1 h
    obtain ⟨e1, r1⟩ := gd_q gx hx
    obtain ⟨e2, r2⟩ := gd_q gy hy
    refine ⟨cmpI (zz x) (zz y), ?_, fun _ => (cmp_lz (u := x) (v := y)).1⟩
    rw [e1, e2]
    exact Cmp_q X _ _ r1 r2 _ rfl
theorem tLess (x y : Nm) (hx : In2 x.2) (hy : In2 y.2) : PSpec Tryz.prog X 92 [LI x.1 x.2, LI y.1 y.2] (exR (lessX x y)) := by
  obtain ⟨r, hC, hr⟩ := tCmp X x y hx hy
  have hT := tTruth X x y hx hy (decide (r < 0))
  have e : truX x y (decide (r < 0)) = lessX x y := by
    unfold lessX
    cases h : (gd x && gd y) with
    | false => unfold truX; rw [h]; rfl
    | true => rw [hr h]
  rw [e] at hT
  rw [exR_eq] at hT ⊢
  generalize exE (lessX x y) = e at *
  generalize exV (lessX x y) = v at *
  obtain ⟨vb, vN⟩ := v
  refine PSpec.intro Tryz.func92 rfl (by kernel_rfl) rfl rfl ?_
  intro C
  (refine LWP.seq <| rgN <| K.box rfl rfl rfl .plain <| K.box rfl rfl rfl .plain <| K.alloc rfl .plain ?_; refine kas rfl <| RunK.nil <| LWP.seq <| rgD mixed <| K.loadAll rfl rfl rfl .plain ?_; refine K.loadAll rfl rfl rfl .plain ?_; refine K.loadAll rfl rfl rfl .plain ?_; refine K.loadAll rfl rfl rfl .plain ?_; refine kca rfl rfl (hC) <| klt rfl rfl rfl <| kca rfl rfl (hT) <| kex rfl rfl <| kex rfl rfl <| K.storeAll rfl rfl rfl rfl rfl rfl .plain ?_; refine kas rfl <| RunK.nil <| rgA ?_; refine LWP.ret ?_)
  exact ⟨[_, _], ⟨⟨_, _, rfl, rfl, rfl, .inl ⟨AggT.h, rfl⟩⟩, rfl, trivial⟩, rfl⟩
theorem sgn_qn {x : Nm} (hx : In2 x.2) (g : gd x = true) : sgnI (zz x) = 0 ↔ x = (false, 0) := by
  obtain ⟨e1, r1⟩ := gd_q g hx
  have h := eqZ (b := x.1) hx
  obtain ⟨b, N⟩ := x
  unfold In2 at hx
  unfold gd formB at g
  unfold sgnI zz zv at *
  simp only at *
  constructor
  · intro h0
    have hN : N = 0 := by
      cases b <;> simp only [Bool.false_eq_true, if_false, if_true] at h0 <;> (repeat' split at h0) <;> omega
    subst hN
    cases b with
    | false => rfl
    | true => simp at g
  · intro e
    cases e
    rfl
theorem tSign (x : Nm) (hx : In2 x.2) (g : gd x = true) : ∃ s : Int, PSpec Tryz.prog X 128 [LI x.1 x.2] (Ln .i64 s) ∧ (s = 0 ↔ x = (false, 0)) := by
  obtain ⟨e1, r1⟩ := gd_q g hx
  exact ⟨sgnI (zz x), by rw [e1]; exact Sign_q X _ r1 _ rfl, sgn_qn hx g⟩
theorem tPick (x y z : Nm) (hx : In2 x.2) : PSpec Tryz.prog X 96 [LI x.1 x.2, LI y.1 y.2, LI z.1 z.2] (exR (pickX x y z)) := by
  cases h1 : gd x with
  | false =>
    have f1 := tForm X x hx false h1
    rw [show pickX x y z = .error 1 by unfold pickX; rw [h1]; rfl]
    refine PSpec.intro Tryz.func96 rfl (by kernel_rfl) rfl rfl ?_
    intro C
    (refine LWP.seq <| rgN <| K.box rfl rfl rfl .plain <| K.box rfl rfl rfl .plain <| K.box rfl rfl rfl .plain <| K.alloc rfl .plain ?_; refine kas rfl <| RunK.nil <| LWP.seq <| LWP.block <| LWP.seq <| rgN <| K.loadAll rfl rfl rfl .plain ?_; refine kca rfl rfl (f1) <| K.not rfl rfl .plain <| kas rfl <| RunK.nil <| LWP.condT rfl ?_; refine LWP.seq <| rgN <| K.build rfl rfl (by exact rfl) (by exact nl3 rfl rfl rfl rfl) .plain ?_; refine K.storeAll rfl rfl rfl rfl rfl rfl .plain ?_; refine kas rfl <| RunK.nil <| LWP.ret ?_)
    exact ⟨[_, _], ⟨⟨_, _, rfl, rfl, rfl, .inl ⟨AggT.h, rfl⟩⟩, rfl, trivial⟩, rfl⟩
  | true =>
  have f1 := tForm X x hx true h1
  obtain ⟨s, hS, hs⟩ := tSign X x hx h1
  by_cases c : x = (false, 0)
  · rw [show pickX x y z = .ok z by unfold pickX; rw [h1, if_neg (by decide), if_pos c]]
    have c := hs.2 c
    subst c
    refine PSpec.intro Tryz.func96 rfl (by kernel_rfl) rfl rfl ?_
    intro C
    (refine LWP.seq <| rgN <| K.box rfl rfl rfl .plain <| K.box rfl rfl rfl .plain <| K.box rfl rfl rfl .plain <| K.alloc rfl .plain ?_; refine kas rfl <| RunK.nil <| LWP.seq <| LWP.block <| LWP.seq <| rgN <| K.loadAll rfl rfl rfl .plain ?_; refine kca rfl rfl (f1) <| K.not rfl rfl .plain <| kas rfl <| RunK.nil <| LWP.condF rfl ?_; refine LWP.seq <| rgN <| K.loadAll rfl rfl rfl .plain ?_; refine kca rfl rfl (hS) <| kne rfl rfl (r := false) rfl <| kas rfl <| RunK.nil <| LWP.condF rfl ?_; refine LWP.skip ?_; refine LWP.seq <| rgN <| K.loadAll rfl rfl rfl .plain ?_; refine K.storeAll rfl rfl rfl rfl rfl rfl .plain ?_; refine kas rfl <| RunK.nil <| LWP.ret ?_)
    exact ⟨[_, _], ⟨⟨_, _, rfl, rfl, rfl, .inl ⟨AggT.h, rfl⟩⟩, rfl, trivial⟩, rfl⟩
  · rw [show pickX x y z = .ok y by unfold pickX; rw [h1, if_neg (by decide), if_neg c]]
    have c : s ≠ 0 := fun h => c (hs.1 h)
    refine PSpec.intro Tryz.func96 rfl (by kernel_rfl) rfl rfl ?_
    intro C
    (refine LWP.seq <| rgN <| K.box rfl rfl rfl .plain <| K.box rfl rfl rfl .plain <| K.box rfl rfl rfl .plain <| K.alloc rfl .plain ?_; refine kas rfl <| RunK.nil <| LWP.seq <| LWP.block <| LWP.seq <| rgN <| K.loadAll rfl rfl rfl .plain ?_; refine kca rfl rfl (f1) <| K.not rfl rfl .plain <| kas rfl <| RunK.nil <| LWP.condF rfl ?_; refine LWP.seq <| rgN <| K.loadAll rfl rfl rfl .plain ?_; refine kca rfl rfl (hS) <| kne rfl rfl (r := true) (bne_iff_ne.2 c) <| kas rfl <| RunK.nil <| LWP.condT rfl ?_; refine LWP.seq <| rgN <| K.loadAll rfl rfl rfl .plain ?_; refine K.storeAll rfl rfl rfl rfl rfl rfl .plain ?_; refine kas rfl <| RunK.nil <| LWP.ret ?_)
    exact ⟨[_, _], ⟨⟨_, _, rfl, rfl, rfl, .inl ⟨AggT.h, rfl⟩⟩, rfl, trivial⟩, rfl⟩
theorem tNeed (x y : Nm) (hy : In2 y.2) : PSpec Tryz.prog X 97 [LI x.1 x.2, LI y.1 y.2] (exR (needX x y)) := by
  cases h1 : gd y with
  | false =>
    have f1 := tForm X y hy false h1
    rw [show needX x y = .error 1 by unfold needX; rw [h1]; rfl]
    refine PSpec.intro Tryz.func97 rfl (by kernel_rfl) rfl rfl ?_
    intro C
    (refine LWP.seq <| rgN <| K.box rfl rfl rfl .plain <| K.box rfl rfl rfl .plain <| K.alloc rfl .plain ?_; refine kas rfl <| RunK.nil <| LWP.seq <| LWP.block <| LWP.seq <| rgN <| K.loadAll rfl rfl rfl .plain ?_; refine kca rfl rfl (f1) <| K.not rfl rfl .plain <| kas rfl <| RunK.nil <| LWP.condT rfl ?_; refine LWP.seq <| rgN <| K.build rfl rfl (by exact rfl) (by exact nl3 rfl rfl rfl rfl) .plain ?_; refine K.storeAll rfl rfl rfl rfl rfl rfl .plain ?_; refine kas rfl <| RunK.nil <| LWP.ret ?_)
    exact ⟨[_, _], ⟨⟨_, _, rfl, rfl, rfl, .inl ⟨AggT.h, rfl⟩⟩, rfl, trivial⟩, rfl⟩
  | true =>
  have f1 := tForm X y hy true h1
  obtain ⟨s, hS, hs⟩ := tSign X y hy h1
  by_cases c : y = (false, 0)
  · rw [show needX x y = .error 9 by unfold needX; rw [h1, if_neg (by decide), if_pos c]]
    have c := hs.2 c
    subst c
    refine PSpec.intro Tryz.func97 rfl (by kernel_rfl) rfl rfl ?_
    intro C
    (refine LWP.seq <| rgN <| K.box rfl rfl rfl .plain <| K.box rfl rfl rfl .plain <| K.alloc rfl .plain ?_; refine kas rfl <| RunK.nil <| LWP.seq <| LWP.block <| LWP.seq <| rgN <| K.loadAll rfl rfl rfl .plain ?_; refine kca rfl rfl (f1) <| K.not rfl rfl .plain <| kas rfl <| RunK.nil <| LWP.condF rfl ?_; refine LWP.seq <| rgN <| K.loadAll rfl rfl rfl .plain ?_; refine kca rfl rfl (hS) <| keq rfl rfl (r := true) rfl <| kas rfl <| RunK.nil <| LWP.condT rfl ?_; refine LWP.seq <| rgN <| K.build rfl rfl (by exact rfl) (by exact nl3 rfl rfl rfl rfl) .plain ?_; refine K.storeAll rfl rfl rfl rfl rfl rfl .plain ?_; refine kas rfl <| RunK.nil <| LWP.ret ?_)
    exact ⟨[_, _], ⟨⟨_, _, rfl, rfl, rfl, .inl ⟨AggT.h, rfl⟩⟩, rfl, trivial⟩, rfl⟩
  · rw [show needX x y = .ok x by unfold needX; rw [h1, if_neg (by decide), if_neg c]]
    have c : s ≠ 0 := fun h => c (hs.1 h)
    refine PSpec.intro Tryz.func97 rfl (by kernel_rfl) rfl rfl ?_
    intro C
    (refine LWP.seq <| rgN <| K.box rfl rfl rfl .plain <| K.box rfl rfl rfl .plain <| K.alloc rfl .plain ?_; refine kas rfl <| RunK.nil <| LWP.seq <| LWP.block <| LWP.seq <| rgN <| K.loadAll rfl rfl rfl .plain ?_; refine kca rfl rfl (f1) <| K.not rfl rfl .plain <| kas rfl <| RunK.nil <| LWP.condF rfl ?_; refine LWP.seq <| rgN <| K.loadAll rfl rfl rfl .plain ?_; refine kca rfl rfl (hS) <| keq rfl rfl (r := false) (beq_eq_false_iff_ne.2 c) <| kas rfl <| RunK.nil <| LWP.condF rfl ?_; refine LWP.skip ?_; refine LWP.seq <| rgN <| K.loadAll rfl rfl rfl .plain ?_; refine K.storeAll rfl rfl rfl rfl rfl rfl .plain ?_; refine kas rfl <| RunK.nil <| LWP.ret ?_)
    exact ⟨[_, _], ⟨⟨_, _, rfl, rfl, rfl, .inl ⟨AggT.h, rfl⟩⟩, rfl, trivial⟩, rfl⟩
end Go.Proofs.YtimpjdbhalnofaaGreatDoor
end
section
namespace Go.Lg
open Go Go.RowKit
section
variable {P : Program} {n : Nat} {ops os : List Oper} {acc : List Eff} {K : List Eff → St → Prop} {s : List (Nat × LV)} {bx : List (Nat × Option Box)} {X : Nat → Option Obj} {σ : St}
theorem LOK.makeSlc0 {d m : Nat} {t e : TypeId} {x y : Operand} {ty : TypeId} {pos : String} {after_ : Array Edge} {g : Option (Nat × Bool)} {kl kc : IntKind} {zs : List Value} {sz : Nat} {bytes : Nat}
    (hx : σ.ev x = some (.sv (.one (.val (.int kl 0))))) (hy : σ.ev y = some (.sv (.one (.val (.int kc (m : Nat)))))) (hst : slcBuild P t m = some (zs, sz, e)) (hby : (P.info? e).map (·.bytes) = some bytes) (hfit : bytes * m ≤ 281474976710656 ∧ m < 9223372036854775808)
    (hk : σ.fresh d = true) : LOK P n ops ⟨some d, .makeSlice t x y, ty, pos, after_, g⟩ σ ⟨[(d, .sv (.one (.slc d 0 0 sz)))], [], [(d, some ⟨e, [], true⟩)]⟩ :=
  LOK.make fun σ' ha C ι a w hr => by
    have hk' : σ'.stat d = none := (ha.stat d (.inr (by simp))).trans (St.fresh_none hk)
    have hlt := St.fresh_lt hk
    have h1 : a.eval x = .int kl 0 := hr.ev ((ha.ev (x := x) (by simp [Op.operands])).trans hx)
    have h2 : a.eval y = .int kc (m : Nat) := hr.ev ((ha.ev (x := y) (by simp [Op.operands])).trans hy)
    unfold slcBuild at hst
    cases hu : P.underlying t with
    | none => simp [hu] at hst
    | some dd =>
      cases dd <;> simp only [hu] at hst <;> try (simp at hst; done)
      rename_i e'
      cases hie : P.info? e' with
      | none => simp [hie] at hst
      | some ie =>
        cases hz : ie.zero with
        | none => simp [hie, hz] at hst
        | some z =>
          simp only [hie, hz] at hst
          by_cases hbig : m * ie.size > 2 ^ 24
          · rw [if_pos hbig] at hst; cases hst
          · rw [if_neg hbig] at hst
            simp only [Option.some.injEq, Prod.mk.injEq] at hst
            obtain ⟨e1, e2, e3⟩ := hst
            subst e3
            rw [hie] at hby
            simp only [Option.map_some, Option.some.injEq] at hby
            have hbb : (ie.bytes : Int) * ((m : Nat) : Int) ≤ 281474976710656 := by
              rw [hby, ← Int.natCast_mul]
              have := hfit.1
              omega
            have hrun := run_make (P := P) w t e' ie z hu hie hz kl kc 0 (m : Nat) (Int.le_refl _) (by omega) hbb (by have := hfit.2; omega)
            simp only [Int.toNat_natCast, Int.toNat_zero] at hrun
            have hmc : madeCells z.cells (m * ie.size) = zs.toArray := by
              unfold madeCells
              rw [range_map, ← e1]
            rw [hmc] at hrun
            refine ⟨.slice (some ⟨w.heap.size, 0, none⟩) 0 m, w.alloc (.cells zs.toArray e'), put1 ι d (w.heap.size, zs.toArray.size), ?_, ?_, ?_⟩
            · simp only [execOp, h1, h2, Sem.run_bind, hrun, Result.andThen_ok, Sem.run_pure]
            · exact hr.new hlt hk' (b := ⟨e', [], true⟩) ⟨[], zs, by simp, trivial⟩
            · have hl : zs.length = m * sz := by rw [← e1, ← e2]; simp
              simp [LV.rel, SV.rel, CV.rel, stat_cons, put1, hl]
theorem K.makeSlc0 {d m : Nat} {t e : TypeId} {x y : Operand} {ty : TypeId} {pos : String} {after_ : Array Edge} {g : Option (Nat × Bool)} {kl kc : IntKind} {zs : List Value} {sz : Nat} {bytes : Nat}
    (hx : (⟨s, bx, X⟩ : St).ev x = some (.sv (.one (.val (.int kl 0))))) (hy : (⟨s, bx, X⟩ : St).ev y = some (.sv (.one (.val (.int kc (m : Nat)))))) (hst : slcBuild P t m = some (zs, sz, e)) (hby : (P.info? e).map (·.bytes) = some bytes) (hfit : bytes * m ≤ 281474976710656 ∧ m < 9223372036854775808)
    (hk : (⟨s, bx, X⟩ : St).fresh d = true) (hw : Want ops s g) (kont : RunK P n ops os ⟨(d, .sv (.one (.slc d 0 0 sz))) :: s, (d, some ⟨e, [], true⟩) :: bx, X⟩ (⟨[(d, .sv (.one (.slc d 0 0 sz)))], [], [(d, some ⟨e, [], true⟩)]⟩ :: acc) K) :
    RunK P n ops (⟨some d, .makeSlice t x y, ty, pos, after_, g⟩ :: os) ⟨s, bx, X⟩ acc K := RunK.gen hw (LOK.makeSlc0 hx hy hst hby hfit hk) kont
end
end Go.Lg
end
