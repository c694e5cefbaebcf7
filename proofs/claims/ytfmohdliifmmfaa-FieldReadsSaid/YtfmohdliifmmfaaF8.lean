/- A piece of a proof over this program: contracts of its functions, and a logic to prove them by. -/
import Derived.Test.YtfmohdliifmmfaaF5
import Derived.Test.YtfmohdliifmmfaaW34
namespace Go.Lg.Fld
open Go Go.Lg
abbrev tabW : List CV := [.val (.int .i64 0), .val (.int .i64 1), .val (.int .i64 1), .val (.int .i64 2), .val (.int .i64 4), .val (.int .i64 8), .val (.int .i64 1), .val (.int .i64 2), .val (.int .i64 4), .val (.int .i64 8), .val (.int .i64 8)]
abbrev tabN : List CV := [.val (.string ⟨#[]⟩), .val (.string ⟨#[98, 111, 111, 108]⟩), .val (.string ⟨#[105, 56]⟩), .val (.string ⟨#[105, 49, 54]⟩), .val (.string ⟨#[105, 51, 50]⟩), .val (.string ⟨#[105, 54, 52]⟩), .val (.string ⟨#[117, 56]⟩), .val (.string ⟨#[117, 49, 54]⟩), .val (.string ⟨#[117, 51, 50]⟩), .val (.string ⟨#[117, 54, 52]⟩), .val (.string ⟨#[114, 101, 102]⟩)]
abbrev tabB : List CV := [.val (.int .u64 0), .val (.int .u64 0), .val (.int .u64 128), .val (.int .u64 32768), .val (.int .u64 2147483648), .val (.int .u64 9223372036854775808), .val (.int .u64 0), .val (.int .u64 0), .val (.int .u64 0), .val (.int .u64 0), .val (.int .u64 0)]
abbrev tabA : List CV := [.val (.int .u64 0), .val (.int .u64 1), .val (.int .u64 127), .val (.int .u64 32767), .val (.int .u64 2147483647), .val (.int .u64 9223372036854775807), .val (.int .u64 255), .val (.int .u64 65535), .val (.int .u64 4294967295), .val (.int .u64 18446744073709551615), .val (.int .u64 18446744073709551615)]
theorem tabW_at {k : Int} (h : kK k = true) : tabW[0 + k.toNat * 1]? = some (.val (.int .i64 (kW k : Nat))) := by
  rcases kin h with rfl | rfl | rfl | rfl | rfl | rfl | rfl | rfl | rfl | rfl <;> rfl
theorem tabN_at {k : Int} (h : kK k = true) : tabN[0 + k.toNat * 1]? = some (.val (.string ⟨(kN k).toArray⟩)) := by
  rcases kin h with rfl | rfl | rfl | rfl | rfl | rfl | rfl | rfl | rfl | rfl <;> rfl
theorem tabB_at {k : Int} (h : kK k = true) : tabB[0 + k.toNat * 1]? = some (.val (.int .u64 (kB k))) := by
  rcases kin h with rfl | rfl | rfl | rfl | rfl | rfl | rfl | rfl | rfl | rfl <;> rfl
theorem tabA_at {k : Int} (h : kK k = true) : tabA[0 + k.toNat * 1]? = some (.val (.int .u64 (kA k))) := by
  rcases kin h with rfl | rfl | rfl | rfl | rfl | rfl | rfl | rfl | rfl | rfl <;> rfl
end Go.Lg.Fld
namespace Go.Proofs.Ytfmohdliifmmfaa
open Go Go.Lg Go.Lg.Fld
set_option maxRecDepth 100000
variable (X : Nat → Option Obj)
instance : ArrB Try.prog 55 (List.replicate 11 (.int .i64 0)) 1 := ⟨by kernel_rfl⟩
instance : ArrB Try.prog 56 (List.replicate 11 (.string ⟨#[]⟩)) 1 := ⟨by kernel_rfl⟩
instance : ArrB Try.prog 51 (List.replicate 11 (.int .u64 0)) 1 := ⟨by kernel_rfl⟩
theorem refBytes_spec (k : Int) : PSpec Try.prog X 11 [Ln .i64 k] (Ln .i64 (kW k : Nat)) := by
  refine PSpec.intro Try.func11 rfl (by kernel_rfl) rfl rfl ?_
  intro C
  cases hk : kK k with
  | false =>
    rcases knot hk with h | h
    · rw [kW_no (.inl h)]
      (refine LWP.seq <| LWP.region (by kernel_rfl) <| kas rfl <| RunK.nil <| LWP.seq <| LWP.seq <| LWP.region (by kernel_rfl) <| kmv rfl <| klt rfl rfl (decide_eq_true (by omega)) <| kmv rfl <| RunK.passed rfl rfl rfl <| RunK.passed rfl rfl rfl <| kpt rfl rfl <| RunK.nil ?_; refine LWP.condT rfl ?_; refine LWP.seq <| LWP.region (by kernel_rfl) <| kas rfl <| RunK.nil <| LWP.ret ?_)
      exact ⟨[_], ⟨rfl, trivial⟩, rfl⟩
    · rw [kW_no (.inr h)]
      (refine LWP.seq <| LWP.region (by kernel_rfl) <| kas rfl <| RunK.nil <| LWP.seq <| LWP.seq <| LWP.region (by kernel_rfl) <| kmv rfl <| klt rfl rfl (decide_eq_false (by omega)) <| kmv rfl <| gmv rfl rfl rfl <| K.gtr rfl rfl (decide_eq_true (by omega)) (.taken rfl rfl) ?_; refine kpf rfl rfl <| RunK.nil <| LWP.condT rfl ?_; refine LWP.seq <| LWP.region (by kernel_rfl) <| kas rfl <| RunK.nil <| LWP.ret ?_)
      exact ⟨[_], ⟨rfl, trivial⟩, rfl⟩
  | true =>
    have hb := (kK_iff k).1 hk
    (refine LWP.seq <| LWP.region (by kernel_rfl) <| kas rfl <| RunK.nil <| LWP.seq <| LWP.seq <| LWP.region (by kernel_rfl) <| kmv rfl <| klt rfl rfl (decide_eq_false (by omega)) <| kmv rfl <| gmv rfl rfl rfl <| K.gtr rfl rfl (decide_eq_false (by omega)) (.taken rfl rfl) ?_; refine kpf rfl rfl <| RunK.nil <| LWP.condF rfl ?_; refine LWP.skip ?_; refine LWP.seq <| LWP.region (by kernel_rfl) <| K.buildArr (cs' := tabW) rfl rfl (by exact rfl) rfl .plain ?_; refine K.alloc rfl .plain ?_; refine K.storeAll rfl rfl rfl rfl rfl rfl .plain ?_; refine RunK.nil <| LWP.seq <| LWP.region (by kernel_rfl) <| kmv rfl <| K.indexArr rfl rfl (by omega) rfl .plain ?_; refine kl1 rfl rfl (tabW_at hk) <| kas rfl <| RunK.nil <| LWP.ret ?_)
    exact ⟨[_], ⟨rfl, trivial⟩, rfl⟩
theorem refName_spec (k : Int) : PSpec Try.prog X 13 [Ln .i64 k] (Ls (kN k)) := by
  refine PSpec.intro Try.func13 rfl (by kernel_rfl) rfl rfl ?_
  intro C
  cases hk : kK k with
  | false =>
    rcases knot hk with h | h
    · rw [kN_no (.inl h)]
      (refine LWP.seq <| LWP.region (by kernel_rfl) <| kas rfl <| RunK.nil <| LWP.seq <| LWP.seq <| LWP.region (by kernel_rfl) <| kmv rfl <| klt rfl rfl (decide_eq_true (by omega)) <| kmv rfl <| RunK.passed rfl rfl rfl <| RunK.passed rfl rfl rfl <| kpt rfl rfl <| RunK.nil ?_; refine LWP.condT rfl ?_; refine LWP.seq <| LWP.region (by kernel_rfl) <| kas rfl <| RunK.nil <| LWP.ret ?_)
      exact ⟨[_], ⟨rfl, trivial⟩, rfl⟩
    · rw [kN_no (.inr h)]
      (refine LWP.seq <| LWP.region (by kernel_rfl) <| kas rfl <| RunK.nil <| LWP.seq <| LWP.seq <| LWP.region (by kernel_rfl) <| kmv rfl <| klt rfl rfl (decide_eq_false (by omega)) <| kmv rfl <| gmv rfl rfl rfl <| K.gtr rfl rfl (decide_eq_true (by omega)) (.taken rfl rfl) ?_; refine kpf rfl rfl <| RunK.nil <| LWP.condT rfl ?_; refine LWP.seq <| LWP.region (by kernel_rfl) <| kas rfl <| RunK.nil <| LWP.ret ?_)
      exact ⟨[_], ⟨rfl, trivial⟩, rfl⟩
  | true =>
    have hb := (kK_iff k).1 hk
    (refine LWP.seq <| LWP.region (by kernel_rfl) <| kas rfl <| RunK.nil <| LWP.seq <| LWP.seq <| LWP.region (by kernel_rfl) <| kmv rfl <| klt rfl rfl (decide_eq_false (by omega)) <| kmv rfl <| gmv rfl rfl rfl <| K.gtr rfl rfl (decide_eq_false (by omega)) (.taken rfl rfl) ?_; refine kpf rfl rfl <| RunK.nil <| LWP.condF rfl ?_; refine LWP.skip ?_; refine LWP.seq <| LWP.region (by kernel_rfl) <| K.buildArr (cs' := tabN) rfl rfl (by exact rfl) rfl .plain ?_; refine K.alloc rfl .plain ?_; refine K.storeAll rfl rfl rfl rfl rfl rfl .plain ?_; refine RunK.nil <| LWP.seq <| LWP.region (by kernel_rfl) <| kmv rfl <| K.indexArr rfl rfl (by omega) rfl .plain ?_; refine kl1 rfl rfl (tabN_at hk) <| kas rfl <| RunK.nil <| LWP.ret ?_)
    exact ⟨[_], ⟨rfl, trivial⟩, rfl⟩
theorem SQ_pos {p : Int} (h : 0 ≤ p ∧ p < 18446744073709551616) : SQ p = .agg [.val (.bool false), .val (.int .u64 0), .val (.int .u64 p)] := by
  unfold SQ SI
  rw [mg_pos h.1, decide_eq_false (by omega), show p / 18446744073709551616 = 0 by omega, show p % 18446744073709551616 = p by omega]
theorem SQ_neg {p : Int} (h : 0 < p ∧ p < 18446744073709551616) : SQ (-p) = .agg [.val (.bool true), .val (.int .u64 0), .val (.int .u64 p)] := by
  unfold SQ SI
  rw [mg_neg (by omega), decide_eq_true (by omega), Int.neg_neg, show p / 18446744073709551616 = 0 by omega, show p % 18446744073709551616 = p by omega]
theorem SQ_low (k : Int) : SQ (-kB k) = .agg [.val (.bool (decide (0 < kB k))), .val (.int .u64 0), .val (.int .u64 (kB k))] := by
  have hb := kfacts k
  by_cases h : 0 < kB k
  · rw [SQ_neg ⟨h, by omega⟩, decide_eq_true h]
  · rw [decide_eq_false h, show -kB k = kB k by omega, SQ_pos ⟨by omega, by omega⟩]
theorem Bounds_spec (k : Int) : PSpec Try.prog X 9 [Ln .i64 k] (.tup [SQ (-kB k), SQ (kA k)]) := by
  have hf := kfacts k
  rw [SQ_low k, SQ_pos ⟨hf.2.2.1, hf.2.2.2.1⟩]
  refine PSpec.intro Try.func9 rfl (by kernel_rfl) rfl rfl ?_
  intro C
  cases hk : kK k with
  | false =>
    rw [kB_no (knot hk), kA_no (knot hk)]
    rcases knot hk with h | h
    · (refine LWP.seq <| LWP.region (by kernel_rfl) <| K.alloc rfl .plain ?_; refine K.alloc rfl .plain ?_; refine RunK.nil <| LWP.seq <| LWP.seq <| LWP.region (by kernel_rfl) <| kmv rfl <| klt rfl rfl (decide_eq_true (by omega)) <| kmv rfl <| RunK.passed rfl rfl rfl <| RunK.passed rfl rfl rfl <| kpt rfl rfl <| RunK.nil <| LWP.condT rfl ?_; refine LWP.seq <| LWP.region (by kernel_rfl) <| K.build rfl rfl (by exact rfl) (by exact nl3 rfl rfl rfl rfl) .plain ?_; refine K.build rfl rfl (by exact rfl) (by exact nl3 rfl rfl rfl rfl) .plain ?_; refine K.storeAll rfl rfl rfl rfl rfl rfl .plain ?_; refine K.storeAll rfl rfl rfl rfl rfl rfl .plain ?_; refine RunK.nil <| LWP.ret ?_)
      exact ⟨[_, _], ⟨⟨_, _, rfl, rfl, rfl, .inl ⟨AggT.h, rfl⟩⟩, ⟨_, _, rfl, rfl, rfl, .inl ⟨AggT.h, rfl⟩⟩, trivial⟩, rfl⟩
    · (refine LWP.seq <| LWP.region (by kernel_rfl) <| K.alloc rfl .plain ?_; refine K.alloc rfl .plain ?_; refine RunK.nil <| LWP.seq <| LWP.seq <| LWP.region (by kernel_rfl) <| kmv rfl <| klt rfl rfl (decide_eq_false (by omega)) <| kmv rfl <| gmv rfl rfl rfl <| K.gtr rfl rfl (decide_eq_true (by omega)) (.taken rfl rfl) ?_; refine kpf rfl rfl <| RunK.nil <| LWP.condT rfl ?_; refine LWP.seq <| LWP.region (by kernel_rfl) <| K.build rfl rfl (by exact rfl) (by exact nl3 rfl rfl rfl rfl) .plain ?_; refine K.build rfl rfl (by exact rfl) (by exact nl3 rfl rfl rfl rfl) .plain ?_; refine K.storeAll rfl rfl rfl rfl rfl rfl .plain ?_; refine K.storeAll rfl rfl rfl rfl rfl rfl .plain ?_; refine RunK.nil <| LWP.ret ?_)
      exact ⟨[_, _], ⟨⟨_, _, rfl, rfl, rfl, .inl ⟨AggT.h, rfl⟩⟩, ⟨_, _, rfl, rfl, rfl, .inl ⟨AggT.h, rfl⟩⟩, trivial⟩, rfl⟩
  | true =>
    have hb := (kK_iff k).1 hk
    (refine LWP.seq <| LWP.region (by kernel_rfl) <| K.alloc rfl .plain ?_; refine K.alloc rfl .plain ?_; refine RunK.nil <| LWP.seq <| LWP.seq <| LWP.region (by kernel_rfl) <| kmv rfl <| klt rfl rfl (decide_eq_false (by omega)) <| kmv rfl <| gmv rfl rfl rfl <| K.gtr rfl rfl (decide_eq_false (by omega)) (.taken rfl rfl) ?_; refine kpf rfl rfl <| RunK.nil <| LWP.condF rfl ?_; refine LWP.skip ?_; refine LWP.seq <| LWP.region (by kernel_rfl) <| K.buildArr (cs' := tabB) rfl rfl (by exact rfl) rfl .plain ?_; refine K.alloc rfl .plain ?_; refine K.storeAll rfl rfl rfl rfl rfl rfl .plain ?_; refine RunK.nil <| LWP.seq <| LWP.region (by kernel_rfl) <| K.buildArr (cs' := tabA) rfl rfl (by exact rfl) rfl .plain ?_; refine K.alloc rfl .plain ?_; refine K.storeAll rfl rfl rfl rfl rfl rfl .plain ?_; refine RunK.nil <| LWP.seq <| LWP.draws mixed (by kernel_rfl) <| kmv rfl <| K.indexArr rfl rfl (by omega) rfl .plain ?_; refine kl1 rfl rfl (tabB_at hk) <| K.gtr rfl rfl rfl .plain <| kmv rfl <| K.indexArr rfl rfl (by omega) rfl .plain ?_; refine kl1 rfl rfl (tabB_at hk) <| K.build rfl rfl (by exact rfl) (by exact nl3 rfl rfl rfl rfl) .plain ?_; refine kmv rfl <| K.indexArr rfl rfl (by omega) rfl .plain ?_; refine kl1 rfl rfl (tabA_at hk) <| K.build rfl rfl (by exact rfl) (by exact nl3 rfl rfl rfl rfl) .plain ?_; refine K.storeAll rfl rfl rfl rfl rfl rfl .plain ?_; refine K.storeAll rfl rfl rfl rfl rfl rfl .plain ?_; refine RunK.nil <| And.intro (by kernel_rfl) ?_; refine LWP.ret ?_)
    exact ⟨[_, _], ⟨⟨_, _, rfl, rfl, rfl, .inl ⟨AggT.h, rfl⟩⟩, ⟨_, _, rfl, rfl, rfl, .inl ⟨AggT.h, rfl⟩⟩, trivial⟩, rfl⟩
theorem cmp_le (x y : Int) (h : x ≤ y) : ∃ r, cmpI x y = r ∧ r ≤ 0 := ⟨_, rfl, by unfold cmpI; rw [if_neg (Int.not_lt.2 h)]; split <;> decide⟩
theorem cmp_ge (x y : Int) (h : y ≤ x) : ∃ r, cmpI x y = r ∧ 0 ≤ r := ⟨_, rfl, by unfold cmpI; rw [if_neg (Int.not_lt.2 h)]; split <;> decide⟩
theorem cmp_lt (x y : Int) (h : x < y) : cmpI x y = -1 := by unfold cmpI; rw [if_pos h]
theorem cmp_gt (x y : Int) (h : y < x) : cmpI x y = 1 := by unfold cmpI; rw [if_neg (Int.not_lt.2 (Int.le_of_lt h)), if_pos h]
theorem refFits_spec (k : Int) (b : Bool) (N : Int) (hN : In2 N) (r : Bool) (hr : fitB k b N = r) : PSpec Try.prog X 16 [Ln .i64 k, LI b N] (Lb r) := by
  subst hr
  have hB := refBytes_spec X k
  have hBd := Bounds_spec X k
  have hG := Good_spec X b N hN _ rfl
  unfold fitB
  refine PSpec.intro Try.func16 rfl (by kernel_rfl) rfl rfl ?_
  intro C
  cases hk : kK k with
  | false =>
    rw [kW_no (knot hk)] at hB
    (refine LWP.seq <| LWP.region (by kernel_rfl) <| K.box rfl rfl rfl .plain <| kas rfl <| RunK.nil <| LWP.seq <| LWP.seq <| LWP.region (by kernel_rfl) <| kmv rfl <| kca rfl rfl (hB) <| keq rfl rfl (beq_iff_eq.2 (by omega)) <| kmv rfl <| RunK.passed rfl rfl rfl <| RunK.passed rfl rfl rfl ?_; refine RunK.passed rfl rfl rfl <| kpt rfl rfl <| RunK.nil <| LWP.condT rfl ?_; refine LWP.seq <| LWP.region (by kernel_rfl) <| kas rfl <| RunK.nil <| LWP.ret ?_)
    exact ⟨[_], ⟨rfl, trivial⟩, rfl⟩
  | true =>
    have hk0 : kW k ≠ 0 := fun e => by rw [kW_zero] at e; rw [hk] at e; cases e
    cases hf : formB b N with
    | false =>
      rw [hf] at hG
      (refine LWP.seq <| LWP.region (by kernel_rfl) <| K.box rfl rfl rfl .plain <| kas rfl <| RunK.nil <| LWP.seq <| LWP.seq <| LWP.region (by kernel_rfl) <| kmv rfl <| kca rfl rfl (hB) <| keq rfl rfl (beq_eq_false_iff_ne.2 (by omega)) <| kmv rfl <| K.loadAll rfl rfl rfl (.taken rfl rfl) ?_; refine gca rfl rfl (hG) rfl rfl <| K.not rfl rfl (.taken rfl rfl) ?_; refine kpf rfl rfl <| RunK.nil <| LWP.condT rfl ?_; refine LWP.seq <| LWP.region (by kernel_rfl) <| kas rfl <| RunK.nil <| LWP.ret ?_)
      exact ⟨[_], ⟨rfl, trivial⟩, rfl⟩
    | true =>
      rw [hf] at hG
      have hR := (zv_in hN hf).1
      rw [LI_q hN hf] at hG ⊢
      generalize zv b N = x at *
      have c1 := RCmp_spec X x (-kB k) hR (kBn_R k)
      have c2 := RCmp_spec X x (kA k) hR (kA_R k)
      by_cases h1 : -kB k ≤ x
      · obtain ⟨r, hr, hr0⟩ := cmp_ge x (-kB k) h1
        have c1' := c1 r hr
        by_cases h2 : x ≤ kA k
        · obtain ⟨s, hs, hs0⟩ := cmp_le x (kA k) h2
          have c2' := c2 s hs
          rw [(fitZ_iff k x).2 ⟨h1, h2⟩]
          (refine LWP.seq <| LWP.region (by kernel_rfl) <| K.box rfl rfl rfl .plain <| kas rfl <| RunK.nil <| LWP.seq <| LWP.seq <| LWP.region (by kernel_rfl) <| kmv rfl <| kca rfl rfl (hB) <| keq rfl rfl (beq_eq_false_iff_ne.2 (by omega)) <| kmv rfl <| K.loadAll rfl rfl rfl (.taken rfl rfl) ?_; refine gca rfl rfl (hG) rfl rfl <| K.not rfl rfl (.taken rfl rfl) ?_; refine kpf rfl rfl <| RunK.nil <| LWP.condF rfl ?_; refine LWP.skip ?_; refine LWP.seq <| LWP.region (by kernel_rfl) <| kmv rfl <| kca rfl rfl (hBd) <| kmv rfl <| kex rfl rfl <| kex rfl rfl <| K.alloc rfl .plain ?_; refine K.alloc rfl .plain ?_; refine K.storeAll rfl rfl rfl rfl rfl rfl .plain ?_; refine K.storeAll rfl rfl rfl rfl rfl rfl .plain ?_; refine RunK.nil <| LWP.seq <| LWP.region (by kernel_rfl) <| K.loadAll rfl rfl rfl .plain ?_; refine K.loadAll rfl rfl rfl .plain ?_; refine kca rfl rfl c1' <| K.geq rfl rfl (decide_eq_true (by omega)) .plain <| kmv rfl <| K.loadAll rfl rfl rfl (.taken rfl rfl) ?_; refine K.loadAll rfl rfl rfl (.taken rfl rfl) ?_; refine gca rfl rfl c2' rfl rfl <| K.leq rfl rfl (decide_eq_true (by omega)) (.taken rfl rfl) ?_; refine kpt rfl rfl <| kas rfl <| RunK.nil <| LWP.ret ?_)
          exact ⟨[_], ⟨rfl, trivial⟩, rfl⟩
        · have c2' := c2 1 (cmp_gt x (kA k) (by omega))
          rw [show fitZ k x = false by rw [fitZ, decide_eq_false h2, Bool.and_false]]
          (refine LWP.seq <| LWP.region (by kernel_rfl) <| K.box rfl rfl rfl .plain <| kas rfl <| RunK.nil <| LWP.seq <| LWP.seq <| LWP.region (by kernel_rfl) <| kmv rfl <| kca rfl rfl (hB) <| keq rfl rfl (beq_eq_false_iff_ne.2 (by omega)) <| kmv rfl <| K.loadAll rfl rfl rfl (.taken rfl rfl) ?_; refine gca rfl rfl (hG) rfl rfl <| K.not rfl rfl (.taken rfl rfl) ?_; refine kpf rfl rfl <| RunK.nil <| LWP.condF rfl ?_; refine LWP.skip ?_; refine LWP.seq <| LWP.region (by kernel_rfl) <| kmv rfl <| kca rfl rfl (hBd) <| kmv rfl <| kex rfl rfl <| kex rfl rfl <| K.alloc rfl .plain ?_; refine K.alloc rfl .plain ?_; refine K.storeAll rfl rfl rfl rfl rfl rfl .plain ?_; refine K.storeAll rfl rfl rfl rfl rfl rfl .plain ?_; refine RunK.nil <| LWP.seq <| LWP.region (by kernel_rfl) <| K.loadAll rfl rfl rfl .plain ?_; refine K.loadAll rfl rfl rfl .plain ?_; refine kca rfl rfl c1' <| K.geq rfl rfl (decide_eq_true (by omega)) .plain <| kmv rfl <| K.loadAll rfl rfl rfl (.taken rfl rfl) ?_; refine K.loadAll rfl rfl rfl (.taken rfl rfl) ?_; refine gca rfl rfl c2' rfl rfl <| K.leq rfl rfl (decide_eq_false (by omega)) (.taken rfl rfl) ?_; refine kpt rfl rfl <| kas rfl <| RunK.nil <| LWP.ret ?_)
          exact ⟨[_], ⟨rfl, trivial⟩, rfl⟩
      · have c1' := c1 (-1) (cmp_lt x (-kB k) (by omega))
        rw [show fitZ k x = false by rw [fitZ, decide_eq_false h1, Bool.false_and]]
        (refine LWP.seq <| LWP.region (by kernel_rfl) <| K.box rfl rfl rfl .plain <| kas rfl <| RunK.nil <| LWP.seq <| LWP.seq <| LWP.region (by kernel_rfl) <| kmv rfl <| kca rfl rfl (hB) <| keq rfl rfl (beq_eq_false_iff_ne.2 (by omega)) <| kmv rfl <| K.loadAll rfl rfl rfl (.taken rfl rfl) ?_; refine gca rfl rfl (hG) rfl rfl <| K.not rfl rfl (.taken rfl rfl) ?_; refine kpf rfl rfl <| RunK.nil <| LWP.condF rfl ?_; refine LWP.skip ?_; refine LWP.seq <| LWP.region (by kernel_rfl) <| kmv rfl <| kca rfl rfl (hBd) <| kmv rfl <| kex rfl rfl <| kex rfl rfl <| K.alloc rfl .plain ?_; refine K.alloc rfl .plain ?_; refine K.storeAll rfl rfl rfl rfl rfl rfl .plain ?_; refine K.storeAll rfl rfl rfl rfl rfl rfl .plain ?_; refine RunK.nil <| LWP.seq <| LWP.region (by kernel_rfl) <| K.loadAll rfl rfl rfl .plain ?_; refine K.loadAll rfl rfl rfl .plain ?_; refine kca rfl rfl c1' <| K.geq rfl rfl (decide_eq_false (by omega)) .plain <| kmv rfl <| RunK.passed rfl rfl rfl <| RunK.passed rfl rfl rfl <| RunK.passed rfl rfl rfl <| RunK.passed rfl rfl rfl <| kpf rfl rfl <| kas rfl <| RunK.nil <| LWP.ret ?_)
        exact ⟨[_], ⟨rfl, trivial⟩, rfl⟩
end Go.Proofs.Ytfmohdliifmmfaa
