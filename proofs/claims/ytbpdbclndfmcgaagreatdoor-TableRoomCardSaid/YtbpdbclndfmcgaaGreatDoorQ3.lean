/- A piece of a proof over this program: contracts of its functions, and a logic to prove them by. -/
import Derived.Test.YtbpdbclndfmcgaaGreatDoorQ2
import Derived.Lib.AppendZerosOnto
import Derived.Lib.TrimByte
section
namespace Go.Proofs.YtbpdbclndfmcgaaGreatDoor
open Go Go.Lg
variable (X : Nat → Option Obj)
theorem isNaN_spec (a : Int) : PSpec Tryz.prog X 164 [Ln .u64 a] (Lb false) := by
  refine PSpec.intro Tryz.func164 rfl (by kernel_rfl) rfl rfl ?_
  intro C
  (refine LWP.seq <| rgN <| kas rfl <| RunK.nil <| LWP.seq <| rgN <| kmv rfl <| kmv rfl <| kne rfl rfl ((bne_eq_false_iff_eq.2 (by omega))) <| kas rfl <| RunK.nil <| LWP.ret ?_)
  exact ⟨[_], ⟨rfl, trivial⟩, rfl⟩
def cmpI (a b : Int) : Int := if a < b then -1 else if b < a then 1 else 0
theorem Compare_spec (a b : Int) (r : Int) (hr : cmpI a b = r) : PSpec Tryz.prog X 160 [Ln .u64 a, Ln .u64 b] (Ln .i64 r) := by
  subst hr
  refine PSpec.intro Tryz.func160 rfl (by kernel_rfl) rfl rfl ?_
  intro C
  by_cases h : a < b
  · (refine LWP.seq <| rgN <| kas rfl <| RunK.nil <| LWP.seq <| rgN <| kmv rfl <| kca rfl rfl (isNaN_spec _ _) <| kas rfl <| RunK.nil <| LWP.seq <| rgN <| kmv rfl <| kca rfl rfl (isNaN_spec _ _) ?_; refine kas rfl <| RunK.nil <| LWP.seq <| LWP.seq <| rgN <| kmv rfl <| RunK.nil <| LWP.condF rfl ?_; refine LWP.skip ?_; refine LWP.seq <| LWP.seq <| rgN <| kmv rfl <| RunK.nil <| LWP.condF rfl ?_; refine LWP.skip ?_; refine LWP.seq <| LWP.seq <| rgN <| kmv rfl <| kmv rfl <| klt rfl rfl (decide_eq_true (by omega)) <| RunK.nil <| LWP.condT rfl ?_; refine LWP.seq <| rgN <| kas rfl <| RunK.nil <| LWP.ret ?_)
    exact ⟨[_], ⟨rfl, trivial⟩, by simp [cmpI, h, resOf]⟩
  · by_cases h' : b < a
    · (refine LWP.seq <| rgN <| kas rfl <| RunK.nil <| LWP.seq <| rgN <| kmv rfl <| kca rfl rfl (isNaN_spec _ _) <| kas rfl <| RunK.nil <| LWP.seq <| rgN <| kmv rfl <| kca rfl rfl (isNaN_spec _ _) ?_; refine kas rfl <| RunK.nil <| LWP.seq <| LWP.seq <| rgN <| kmv rfl <| RunK.nil <| LWP.condF rfl ?_; refine LWP.skip ?_; refine LWP.seq <| LWP.seq <| rgN <| kmv rfl <| RunK.nil <| LWP.condF rfl ?_; refine LWP.skip ?_; refine LWP.seq <| LWP.seq <| rgN <| kmv rfl <| kmv rfl <| klt rfl rfl (decide_eq_false (by omega)) <| RunK.nil <| LWP.condF rfl ?_; refine LWP.skip ?_; refine LWP.seq <| LWP.seq <| rgN <| kmv rfl <| kmv rfl <| K.gtr rfl rfl (decide_eq_true (by omega)) .plain <| RunK.nil <| LWP.condT rfl ?_; refine LWP.seq <| rgN <| kas rfl <| RunK.nil <| LWP.ret ?_)
      exact ⟨[_], ⟨rfl, trivial⟩, by simp [cmpI, h, h', resOf]⟩
    · (refine LWP.seq <| rgN <| kas rfl <| RunK.nil <| LWP.seq <| rgN <| kmv rfl <| kca rfl rfl (isNaN_spec _ _) <| kas rfl <| RunK.nil <| LWP.seq <| rgN <| kmv rfl <| kca rfl rfl (isNaN_spec _ _) ?_; refine kas rfl <| RunK.nil <| LWP.seq <| LWP.seq <| rgN <| kmv rfl <| RunK.nil <| LWP.condF rfl ?_; refine LWP.skip ?_; refine LWP.seq <| LWP.seq <| rgN <| kmv rfl <| RunK.nil <| LWP.condF rfl ?_; refine LWP.skip ?_; refine LWP.seq <| LWP.seq <| rgN <| kmv rfl <| kmv rfl <| klt rfl rfl (decide_eq_false (by omega)) <| RunK.nil <| LWP.condF rfl ?_; refine LWP.skip ?_; refine LWP.seq <| LWP.seq <| rgN <| kmv rfl <| kmv rfl <| K.gtr rfl rfl (decide_eq_false (by omega)) .plain <| RunK.nil <| LWP.condF rfl ?_; refine LWP.skip ?_; refine LWP.seq <| rgN <| kas rfl <| RunK.nil <| LWP.ret ?_)
      exact ⟨[_], ⟨rfl, trivial⟩, by simp [cmpI, h, h', resOf]⟩
theorem compare_spec (M N : Int) (r : Int) (hr : cmpI M N = r) : PSpec Tryz.prog X 153 [LZ M, LZ N] (Ln .i64 r) := by
  refine PSpec.intro Tryz.func153 rfl (by kernel_rfl) rfl rfl ?_
  intro C
  by_cases h : M / 18446744073709551616 = N / 18446744073709551616
  · (refine LWP.seq <| rgN <| K.box rfl rfl rfl .plain <| K.box rfl rfl rfl .plain <| kas rfl <| RunK.nil <| LWP.seq <| LWP.seq <| rgN <| kfa rfl rfl ?_; refine kl1 rfl rfl rfl <| kfa rfl rfl ?_; refine kl1 rfl rfl rfl <| kne rfl rfl ((bne_eq_false_iff_eq.2 (by omega))) <| RunK.nil <| LWP.condF rfl ?_; refine LWP.skip ?_; refine LWP.seq <| rgN <| kfa rfl rfl ?_; refine kl1 rfl rfl rfl <| kfa rfl rfl ?_; refine kl1 rfl rfl rfl <| kca rfl rfl (Compare_spec _ _ _ r (by subst hr; unfold cmpI; (repeat' split) <;> omega)) <| kas rfl <| RunK.nil <| LWP.ret ?_)
    exact ⟨[_], ⟨rfl, trivial⟩, rfl⟩
  · (refine LWP.seq <| rgN <| K.box rfl rfl rfl .plain <| K.box rfl rfl rfl .plain <| kas rfl <| RunK.nil <| LWP.seq <| LWP.seq <| rgN <| kfa rfl rfl ?_; refine kl1 rfl rfl rfl <| kfa rfl rfl ?_; refine kl1 rfl rfl rfl <| kne rfl rfl (bne_iff_ne.2 (by omega)) <| RunK.nil <| LWP.condT rfl ?_; refine LWP.seq <| rgN <| kfa rfl rfl ?_; refine kl1 rfl rfl rfl <| kfa rfl rfl ?_; refine kl1 rfl rfl rfl <| kca rfl rfl (Compare_spec _ _ _ r (by subst hr; unfold cmpI; (repeat' split) <;> omega)) <| kas rfl <| RunK.nil <| LWP.ret ?_)
    exact ⟨[_], ⟨rfl, trivial⟩, rfl⟩
abbrev S0 : SV := .agg [.val (.bool false), .val (.int .u64 0), .val (.int .u64 0)]
def Lim (N : Int) : Prop := 0 ≤ N ∧ N < 170141183460469231731687303715884105728
theorem formB_lim {b : Bool} {N : Int} (hN : In2 N) (h : formB b N = true) : Lim N ∧ (b = true → N ≠ 0) := by
  simp only [formB, Bool.and_eq_true, decide_eq_true_eq, Bool.not_eq_true', Bool.and_eq_false_iff, beq_eq_false_iff_ne] at h
  refine ⟨⟨hN.1, h.1⟩, fun hb => ?_⟩
  rcases h.2 with h2 | h2
  · rw [hb] at h2; simp at h2
  · exact h2
end Go.Proofs.YtbpdbclndfmcgaaGreatDoor
end
section
namespace Go.Proofs.YtbpdbclndfmcgaaGreatDoor
open Go Go.Lg
variable (X : Nat → Option Obj)
def mg (z : Int) : Int := if z < 0 then -z else z
def R127 (z : Int) : Prop := -170141183460469231731687303715884105728 < z ∧ z < 170141183460469231731687303715884105728
abbrev LQ (z : Int) : LV := LI (decide (z < 0)) (mg z)
theorem mg_neg {z : Int} (h : z < 0) : mg z = -z := if_pos h
theorem mg_pos {z : Int} (h : 0 ≤ z) : mg z = z := if_neg (by omega)
theorem mg_in2 {z : Int} (h : R127 z) : In2 (mg z) := by unfold mg In2 R127 at *; split <;> omega
theorem mg_lim {z : Int} (h : R127 z) : mg z < 170141183460469231731687303715884105728 := by unfold mg R127 at *; split <;> omega
theorem formB_q {z : Int} (h : R127 z) : formB (decide (z < 0)) (mg z) = true := by
  have := mg_lim h
  simp only [formB, decide_eq_true this, Bool.true_and, Bool.not_eq_true', Bool.and_eq_false_iff, decide_eq_false_iff_not, beq_eq_false_iff_ne]
  unfold mg
  split <;> omega
theorem both_q {x y : Int} (hx : R127 x) (hy : R127 y) : (formB (decide (x < 0)) (mg x) && formB (decide (y < 0)) (mg y)) = true := by rw [formB_q hx, formB_q hy]; rfl
def zv (b : Bool) (N : Int) : Int := if b = true then -N else N
theorem zv_in {b : Bool} {N : Int} (hN : In2 N) (h : formB b N = true) : R127 (zv b N) ∧ decide (zv b N < 0) = b ∧ mg (zv b N) = N := by
  obtain ⟨⟨h0, h1⟩, h2⟩ := formB_lim hN h
  cases b
  · refine ⟨?_, ?_, ?_⟩ <;> simp only [zv, Bool.false_eq_true, if_false, R127, mg, decide_eq_false_iff_not]
    · omega
    · omega
    · exact if_neg (by omega)
  · have := h2 rfl
    refine ⟨?_, ?_, ?_⟩ <;> simp only [zv, if_true, R127, mg, decide_eq_true_eq]
    · omega
    · omega
    · rw [if_pos (by omega)]; omega
theorem LI_q {b : Bool} {N : Int} (hN : In2 N) (h : formB b N = true) : LI b N = LQ (zv b N) := by
  obtain ⟨_, h1, h2⟩ := zv_in hN h
  unfold LQ
  rw [h1, h2]
theorem sg_q {b : Bool} {N z : Int} (hN : 0 ≤ N) (h : zv b N = z) : sg b N = decide (z < 0) ∧ N = mg z := by
  subst h
  cases b
  · simp only [zv, sg, Bool.false_and, Bool.false_eq_true, if_false, mg]
    exact ⟨(decide_eq_false (by omega)).symm, (if_neg (by omega)).symm⟩
  · simp only [zv, sg, Bool.true_and, if_true, mg]
    refine ⟨?_, by split <;> omega⟩
    by_cases h0 : N = 0
    · subst h0; rfl
    · rw [show (N == 0) = false from beq_eq_false_iff_ne.2 h0, decide_eq_true (by omega)]; rfl
theorem Neg_q (x : Int) (hx : R127 x) : PSpec Tryz.prog X 137 [LQ x] (LQ (-x)) := by
  have h1 := mg_in2 hx
  have hn := number_spec X (!decide (x < 0)) (mg x) h1 (decide (-x < 0)) (by
    have := sg_q (b := !decide (x < 0)) (N := mg x) (z := -x) h1.1 (by unfold zv mg; by_cases c : x < 0 <;> simp [c])
    exact this.1)
  have e : mg (-x) = mg x := by unfold mg; (repeat' split) <;> omega
  refine PSpec.intro Tryz.func137 rfl (by kernel_rfl) rfl rfl ?_
  intro C
  (refine LWP.seq <| rgN <| K.box rfl rfl rfl .plain <| K.alloc rfl .plain ?_; refine RunK.nil <| LWP.seq <| LWP.seq <| rgN <| K.loadAll rfl rfl rfl .plain ?_; refine kca rfl rfl (Form_spec _ _ _ h1 true (formB_q hx)) <| K.not rfl rfl .plain <| RunK.nil <| LWP.condF rfl ?_; refine LWP.skip ?_; refine LWP.seq <| rgD mixed <| kfa rfl rfl ?_; refine kl1 rfl rfl rfl <| K.not rfl rfl .plain <| K.loadAll rfl rfl rfl .plain ?_; refine kca rfl rfl (sizeOf_spec _ _ _ _) <| kca rfl rfl (hn) <| K.storeAll rfl rfl rfl rfl rfl rfl .plain ?_; refine RunK.nil <| rgA ?_; refine LWP.ret ?_)
  unfold LQ
  rw [e]
  exact ⟨[_], ⟨⟨_, _, rfl, rfl, rfl, .inl ⟨AggT.h, rfl⟩⟩, trivial⟩, rfl⟩
theorem Cmp_q (x y : Int) (hx : R127 x) (hy : R127 y) (r : Int) (hr : cmpI x y = r) : PSpec Tryz.prog X 136 [LQ x, LQ y] (Ln .i64 r) := by
  have hB := bothForm_spec X _ _ _ _ (mg_in2 hx) (mg_in2 hy) true (both_q hx hy)
  refine PSpec.intro Tryz.func136 rfl (by kernel_rfl) rfl rfl ?_
  intro C
  by_cases cx : x < 0 <;> by_cases cy : y < 0
  all_goals
    unfold LQ at hB ⊢
    simp only [cx, cy, decide_true, decide_false] at hB ⊢
  · have e : cmpI (mg y) (mg x) = r := by rw [mg_neg cx, mg_neg cy, ← hr]; unfold cmpI; (repeat' split) <;> omega
    (refine LWP.seq <| rgN <| K.box rfl rfl rfl .plain <| K.box rfl rfl rfl .plain <| kas rfl <| RunK.nil <| LWP.seq <| LWP.block <| LWP.seq <| rgN <| K.loadAll rfl rfl rfl .plain ?_; refine K.loadAll rfl rfl rfl .plain ?_; refine kca rfl rfl (hB) <| K.not rfl rfl .plain <| kas rfl <| RunK.nil <| LWP.condF rfl ?_; refine LWP.seq <| rgN <| kfa rfl rfl ?_; refine kl1 rfl rfl rfl <| kmv rfl <| K.fieldAddr rfl rfl (.taken rfl rfl) ?_; refine K.loadOne rfl rfl rfl (.taken rfl rfl) ?_; refine kpt rfl rfl <| kas rfl <| RunK.nil <| LWP.condT rfl ?_; refine LWP.seq <| rgD mixed <| K.loadAll rfl rfl rfl .plain ?_; refine kca rfl rfl (sizeOf_spec _ _ _ _) <| K.loadAll rfl rfl rfl .plain ?_; refine kca rfl rfl (sizeOf_spec _ _ _ _) <| kca rfl rfl (compare_spec _ _ _ r e) <| kas rfl <| RunK.nil <| rgA ?_; refine LWP.ret ?_)
    exact ⟨[_], ⟨rfl, trivial⟩, rfl⟩
  · have e : r = -1 := by rw [← hr]; unfold cmpI; rw [if_pos (by omega)]
    subst e
    (refine LWP.seq <| rgN <| K.box rfl rfl rfl .plain <| K.box rfl rfl rfl .plain <| kas rfl <| RunK.nil <| LWP.seq <| LWP.block <| LWP.seq <| rgN <| K.loadAll rfl rfl rfl .plain ?_; refine K.loadAll rfl rfl rfl .plain ?_; refine kca rfl rfl (hB) <| K.not rfl rfl .plain <| kas rfl <| RunK.nil <| LWP.condF rfl ?_; refine LWP.seq <| rgN <| kfa rfl rfl ?_; refine kl1 rfl rfl rfl <| kmv rfl <| K.fieldAddr rfl rfl (.taken rfl rfl) ?_; refine K.loadOne rfl rfl rfl (.taken rfl rfl) ?_; refine kpt rfl rfl <| kas rfl <| RunK.nil <| LWP.condF rfl ?_; refine LWP.seq <| rgN <| kfa rfl rfl ?_; refine kl1 rfl rfl rfl <| kas rfl <| RunK.nil <| LWP.condT rfl ?_; refine LWP.seq <| rgN <| kas rfl <| RunK.nil <| LWP.ret ?_)
    exact ⟨[_], ⟨rfl, trivial⟩, rfl⟩
  · have e : r = 1 := by rw [← hr]; unfold cmpI; rw [if_neg (by omega), if_pos (by omega)]
    subst e
    (refine LWP.seq <| rgN <| K.box rfl rfl rfl .plain <| K.box rfl rfl rfl .plain <| kas rfl <| RunK.nil <| LWP.seq <| LWP.block <| LWP.seq <| rgN <| K.loadAll rfl rfl rfl .plain ?_; refine K.loadAll rfl rfl rfl .plain ?_; refine kca rfl rfl (hB) <| K.not rfl rfl .plain <| kas rfl <| RunK.nil <| LWP.condF rfl ?_; refine LWP.seq <| rgN <| kfa rfl rfl ?_; refine kl1 rfl rfl rfl <| kmv rfl <| RunK.passed rfl rfl rfl <| RunK.passed rfl rfl rfl <| kpf rfl rfl <| kas rfl <| RunK.nil <| LWP.condF rfl ?_; refine LWP.seq <| rgN <| kfa rfl rfl ?_; refine kl1 rfl rfl rfl <| kas rfl <| RunK.nil <| LWP.condF rfl ?_; refine LWP.seq <| rgN <| kfa rfl rfl ?_; refine kl1 rfl rfl rfl <| kas rfl <| RunK.nil <| LWP.condT rfl ?_; refine LWP.seq <| rgN <| kas rfl <| RunK.nil <| LWP.ret ?_)
    exact ⟨[_], ⟨rfl, trivial⟩, rfl⟩
  · have e : cmpI (mg x) (mg y) = r := by rw [mg_pos (Int.not_lt.1 cx), mg_pos (Int.not_lt.1 cy), ← hr]
    (refine LWP.seq <| rgN <| K.box rfl rfl rfl .plain <| K.box rfl rfl rfl .plain <| kas rfl <| RunK.nil <| LWP.seq <| LWP.block <| LWP.seq <| rgN <| K.loadAll rfl rfl rfl .plain ?_; refine K.loadAll rfl rfl rfl .plain ?_; refine kca rfl rfl (hB) <| K.not rfl rfl .plain <| kas rfl <| RunK.nil <| LWP.condF rfl ?_; refine LWP.seq <| rgN <| kfa rfl rfl ?_; refine kl1 rfl rfl rfl <| kmv rfl <| RunK.passed rfl rfl rfl <| RunK.passed rfl rfl rfl <| kpf rfl rfl <| kas rfl <| RunK.nil <| LWP.condF rfl ?_; refine LWP.seq <| rgN <| kfa rfl rfl ?_; refine kl1 rfl rfl rfl <| kas rfl <| RunK.nil <| LWP.condF rfl ?_; refine LWP.seq <| rgN <| kfa rfl rfl ?_; refine kl1 rfl rfl rfl <| kas rfl <| RunK.nil <| LWP.condF rfl ?_; refine LWP.skip ?_; refine LWP.seq <| rgD mixed <| K.loadAll rfl rfl rfl .plain ?_; refine kca rfl rfl (sizeOf_spec _ _ _ _) <| K.loadAll rfl rfl rfl .plain ?_; refine kca rfl rfl (sizeOf_spec _ _ _ _) <| kca rfl rfl (compare_spec _ _ _ r e) <| kas rfl <| RunK.nil <| rgA ?_; refine LWP.ret ?_)
    exact ⟨[_], ⟨rfl, trivial⟩, rfl⟩
end Go.Proofs.YtbpdbclndfmcgaaGreatDoor
end
section
namespace Go.Proofs.YtbpdbclndfmcgaaGreatDoor
open Go Go.Lg Go.Lg.Arith Go.RowKit
variable (X : Nat → Option Obj)
theorem OfWord_spec (n : Int) : PSpec Tryz.prog X 63 [Ln .u64 n] (.sv (.agg [.val (.bool false), .val (.int .u64 0), .val (.int .u64 n)])) := by
  refine PSpec.intro Tryz.func63 rfl (by kernel_rfl) rfl rfl ?_
  intro C
  (refine LWP.seq <| rgN <| K.alloc rfl .plain ?_; refine RunK.nil <| LWP.seq <| rgN <| kmv rfl <| K.build rfl rfl (by exact rfl) (by exact nl3 rfl rfl rfl rfl) .plain ?_; refine K.storeAll rfl rfl rfl rfl rfl rfl .plain ?_; refine RunK.nil <| LWP.ret ?_)
  exact ⟨[_], ⟨⟨_, _, rfl, rfl, rfl, .inl ⟨AggT.h, rfl⟩⟩, trivial⟩, rfl⟩
theorem Of_spec (n : Int) (hn : -9223372036854775808 ≤ n ∧ n < 9223372036854775808) : PSpec Tryz.prog X 35 [Ln .i64 n] (LQ n) := by
  refine PSpec.intro Tryz.func35 rfl (by kernel_rfl) rfl rfl ?_
  intro C
  by_cases c : n < 0
  · have w1 : IntKind.u64.wrap n = n + 18446744073709551616 := by rw [IntKind.wrap_u64]; omega
    have w2 : IntKind.u64.wrap (0 - (n + 18446744073709551616)) = -n := by rw [IntKind.wrap_u64]; omega
    (refine LWP.seq <| rgN <| K.alloc rfl .plain ?_; refine RunK.nil <| LWP.seq <| LWP.seq <| rgN <| kmv rfl <| klt rfl rfl (decide_eq_true (by omega)) <| RunK.nil <| LWP.condT rfl ?_; refine LWP.seq <| rgN <| kmv rfl <| kcv rfl w1 ?_; refine K.neg rfl w2 .plain <| K.build rfl rfl (by exact rfl) (by exact nl3 rfl rfl rfl rfl) .plain ?_; refine K.storeAll rfl rfl rfl rfl rfl rfl .plain ?_; refine RunK.nil <| LWP.ret ?_)
    refine ⟨[_], ⟨⟨_, _, rfl, rfl, rfl, .inl ⟨AggT.h, rfl⟩⟩, trivial⟩, ?_⟩
    unfold LQ LI
    rw [mg_neg c, decide_eq_true c, show -n / 18446744073709551616 = 0 by omega, show -n % 18446744073709551616 = -n by omega]
    rfl
  · (refine LWP.seq <| rgN <| K.alloc rfl .plain ?_; refine RunK.nil <| LWP.seq <| LWP.seq <| rgN <| kmv rfl <| klt rfl rfl (decide_eq_false (by omega)) <| RunK.nil <| LWP.condF rfl ?_; refine LWP.skip ?_; refine LWP.seq <| rgN <| kmv rfl <| kcv rfl (by exact wrap_u64 (by omega)) ?_; refine kca rfl rfl (OfWord_spec _ _) <| K.storeAll rfl rfl rfl rfl rfl rfl .plain ?_; refine RunK.nil <| LWP.ret ?_)
    refine ⟨[_], ⟨⟨_, _, rfl, rfl, rfl, .inl ⟨AggT.h, rfl⟩⟩, trivial⟩, ?_⟩
    unfold LQ LI
    rw [mg_pos (by omega), decide_eq_false c, show n / 18446744073709551616 = 0 by omega, show n % 18446744073709551616 = n by omega]
    rfl
theorem eqI {b b' : Bool} {h l h' l' : Int} (r : Bool) (hr : (b == b' && (h == h' && l == l')) = r) (w : World) :
    (Op.equalIn 10000 82 (.agg [.bool b, .int .u64 h, .int .u64 l].toArray) (.agg [.bool b', .int .u64 h', .int .u64 l'].toArray)).run Tryz.prog w = .ok r w := by
  subst hr
  rw [show (10000 : Nat) = 9999 + 1 from rfl, run_equalIn_agg w 9999 82 _ _ (by kernel_rfl) (by kernel_rfl)]
  simp only [Program.fieldsOf, Tryz.underlying82]
  go_simp
  cases b <;> cases b' <;> by_cases h1 : h = h' <;> by_cases h2 : l = l' <;> simp [h1, h2]
theorem eqQ (x y : Int) (r : Bool) (hr : decide (x = y) = r) (w : World) :
    (Op.equalIn 10000 82 (.agg [.bool (decide (x < 0)), .int .u64 (mg x / 18446744073709551616), .int .u64 (mg x % 18446744073709551616)].toArray)
      (.agg [.bool (decide (y < 0)), .int .u64 (mg y / 18446744073709551616), .int .u64 (mg y % 18446744073709551616)].toArray)).run Tryz.prog w = .ok r w := by
  refine eqI r ?_ w
  rw [← hr]
  by_cases e : x = y
  · subst e; simp
  · rw [decide_eq_false e]
    have h : ¬ ((decide (x < 0) = decide (y < 0)) ∧ mg x / 18446744073709551616 = mg y / 18446744073709551616 ∧ mg x % 18446744073709551616 = mg y % 18446744073709551616) := by
      rintro ⟨h1, h2, h3⟩
      have : mg x = mg y := by omega
      unfold mg at this
      by_cases cx : x < 0 <;> by_cases cy : y < 0 <;> simp only [cx, cy, decide_true, decide_false, if_true, if_false] at h1 this <;> first | omega | cases h1
    cases hc : (decide (x < 0) == decide (y < 0) && (mg x / 18446744073709551616 == mg y / 18446744073709551616 && mg x % 18446744073709551616 == mg y % 18446744073709551616)) with
    | false => rfl
    | true =>
      simp only [Bool.and_eq_true, beq_iff_eq] at hc
      exact absurd hc h
end Go.Proofs.YtbpdbclndfmcgaaGreatDoor
end
section
namespace Go.Proofs.YtbpdbclndfmcgaaGreatDoor
open Go Go.Lg
variable (X : Nat → Option Obj)
def isW (n : Int) : Bool := decide (n = 1) || (decide (n = 2) || (decide (n = 4) || decide (n = 8)))
theorem isWidth_spec (n : Int) (r : Bool) (hr : isW n = r) : PSpec Tryz.prog X 120 [Ln .i64 n] (Lb r) := by
  refine PSpec.intro Tryz.func120 rfl (by kernel_rfl) rfl rfl ?_
  intro C
  subst hr
  by_cases h1 : n = 1
  · (refine LWP.seq <| rgN <| kas rfl <| RunK.nil <| LWP.seq <| rgN <| kmv rfl <| keq rfl rfl (beq_iff_eq.2 (by omega)) <| kmv rfl <| RunK.passed rfl rfl rfl <| RunK.passed rfl rfl rfl <| kpt rfl rfl <| kmv rfl <| RunK.passed rfl rfl rfl ?_; refine RunK.passed rfl rfl rfl <| kpt rfl rfl <| kmv rfl <| RunK.passed rfl rfl rfl <| RunK.passed rfl rfl rfl <| kpt rfl rfl <| kas rfl <| RunK.nil <| LWP.ret ?_)
    exact ⟨[_], ⟨rfl, trivial⟩, by unfold isW; rw [decide_eq_true h1]; rfl⟩
  · by_cases h2 : n = 2
    · (refine LWP.seq <| rgN <| kas rfl <| RunK.nil <| LWP.seq <| rgN <| kmv rfl <| keq rfl rfl (beq_eq_false_iff_ne.2 (by omega)) <| kmv rfl <| gmv rfl rfl rfl <| K.eql rfl rfl (beq_iff_eq.2 (by omega)) (.taken rfl rfl) ?_; refine kpf rfl rfl <| kmv rfl <| RunK.passed rfl rfl rfl <| RunK.passed rfl rfl rfl <| kpt rfl rfl <| kmv rfl <| RunK.passed rfl rfl rfl <| RunK.passed rfl rfl rfl <| kpt rfl rfl <| kas rfl <| RunK.nil <| LWP.ret ?_)
      exact ⟨[_], ⟨rfl, trivial⟩, by unfold isW; rw [decide_eq_false h1, decide_eq_true h2]; rfl⟩
    · by_cases h4 : n = 4
      · (refine LWP.seq <| rgN <| kas rfl <| RunK.nil <| LWP.seq <| rgN <| kmv rfl <| keq rfl rfl (beq_eq_false_iff_ne.2 (by omega)) <| kmv rfl <| gmv rfl rfl rfl <| K.eql rfl rfl (beq_eq_false_iff_ne.2 (by omega)) (.taken rfl rfl) ?_; refine kpf rfl rfl <| kmv rfl <| gmv rfl rfl rfl <| K.eql rfl rfl (beq_iff_eq.2 (by omega)) (.taken rfl rfl) ?_; refine kpf rfl rfl <| kmv rfl <| RunK.passed rfl rfl rfl <| RunK.passed rfl rfl rfl <| kpt rfl rfl <| kas rfl <| RunK.nil <| LWP.ret ?_)
        exact ⟨[_], ⟨rfl, trivial⟩, by unfold isW; rw [decide_eq_false h1, decide_eq_false h2, decide_eq_true h4]; rfl⟩
      · by_cases h8 : n = 8
        · (refine LWP.seq <| rgN <| kas rfl <| RunK.nil <| LWP.seq <| rgN <| kmv rfl <| keq rfl rfl (beq_eq_false_iff_ne.2 (by omega)) <| kmv rfl <| gmv rfl rfl rfl <| K.eql rfl rfl (beq_eq_false_iff_ne.2 (by omega)) (.taken rfl rfl) ?_; refine kpf rfl rfl <| kmv rfl <| gmv rfl rfl rfl <| K.eql rfl rfl (beq_eq_false_iff_ne.2 (by omega)) (.taken rfl rfl) ?_; refine kpf rfl rfl <| kmv rfl <| gmv rfl rfl rfl <| K.eql rfl rfl (beq_iff_eq.2 (by omega)) (.taken rfl rfl) ?_; refine kpf rfl rfl <| kas rfl <| RunK.nil <| LWP.ret ?_)
          exact ⟨[_], ⟨rfl, trivial⟩, by unfold isW; rw [decide_eq_false h1, decide_eq_false h2, decide_eq_false h4, decide_eq_true h8]; rfl⟩
        · (refine LWP.seq <| rgN <| kas rfl <| RunK.nil <| LWP.seq <| rgN <| kmv rfl <| keq rfl rfl (beq_eq_false_iff_ne.2 (by omega)) <| kmv rfl <| gmv rfl rfl rfl <| K.eql rfl rfl (beq_eq_false_iff_ne.2 (by omega)) (.taken rfl rfl) ?_; refine kpf rfl rfl <| kmv rfl <| gmv rfl rfl rfl <| K.eql rfl rfl (beq_eq_false_iff_ne.2 (by omega)) (.taken rfl rfl) ?_; refine kpf rfl rfl <| kmv rfl <| gmv rfl rfl rfl <| K.eql rfl rfl (beq_eq_false_iff_ne.2 (by omega)) (.taken rfl rfl) ?_; refine kpf rfl rfl <| kas rfl <| RunK.nil <| LWP.ret ?_)
          exact ⟨[_], ⟨rfl, trivial⟩, by unfold isW; rw [decide_eq_false h1, decide_eq_false h2, decide_eq_false h4, decide_eq_false h8]; rfl⟩
end Go.Proofs.YtbpdbclndfmcgaaGreatDoor
end
section
namespace Go.Lg
open Go
def le : List UInt8 → Nat
  | [] => 0
  | c :: t => c.toNat + 256 * le t
def leB : Nat → Nat → List UInt8
  | 0, _ => []
  | k + 1, n => UInt8.ofNat (n % 256) :: leB k (n / 256)
theorem leB_length : ∀ (k n : Nat), (leB k n).length = k
  | 0, _ => rfl
  | k + 1, n => by simp [leB, leB_length k]
theorem leB_get : ∀ (k n i : Nat), i < k → (leB k n)[i]? = some (UInt8.ofNat (n / 256 ^ i % 256))
  | 0, _, _, h => by omega
  | k + 1, n, 0, _ => by simp [leB]
  | k + 1, n, i + 1, h => by
    simp only [leB, List.getElem?_cons_succ]
    rw [leB_get k (n / 256) i (by omega), Nat.pow_succ, Nat.mul_comm, Nat.div_div_eq_div_mul]
def lo (w n i : Nat) : List UInt8 := (leB w n).take i ++ List.replicate (w - i) 0
theorem lo_set {w n i : Nat} (h : i < w) : (((lo w n i).map bc).set (0 + i * 1) (bc (UInt8.ofNat (n / 256 ^ i % 256)))) = (lo w n (i + 1)).map bc := by
  rw [Nat.zero_add, Nat.mul_one, ← List.map_set]
  congr 1
  unfold lo
  have hl : ((leB w n).take i).length = i := by rw [List.length_take, leB_length]; omega
  rw [List.set_append_right _ _ (by omega), hl, Nat.sub_self, List.take_add_one, leB_get w n i h]
  have : w - i = (w - (i + 1)) + 1 := by omega
  rw [this, List.replicate_succ]
  simp
theorem lo_len (w n i : Nat) (h : i ≤ w) : ((lo w n i).map bc).length = w := by
  unfold lo
  rw [List.length_map, List.length_append, List.length_take, leB_length, List.length_replicate]
  omega
theorem lo_all (w n : Nat) : lo w n w = leB w n := by
  unfold lo
  rw [Nat.sub_self, List.take_of_length_le (by rw [leB_length]; exact Nat.le_refl _)]
  simp
end Go.Lg
namespace Go.Proofs.YtbpdbclndfmcgaaGreatDoor
open Go Go.Lg
variable (X : Nat → Option Obj)
theorem p256 (i : Nat) : (256 : Nat) ^ i = 2 ^ (8 * i) := by rw [Nat.pow_mul]
end Go.Proofs.YtbpdbclndfmcgaaGreatDoor
end
section
namespace Go.Proofs.YtbpdbclndfmcgaaGreatDoor
open Go Go.Lg
variable (X : Nat → Option Obj)
theorem low_1 (n : Nat) (hn : n < 18446744073709551616) : PSpec Tryz.prog X 122 [Ln .i64 1, Ln .u64 (n : Nat)] (Ls (leB 1 n)) := by
  refine PSpec.intro Tryz.func122 rfl (by kernel_rfl) rfl rfl ?_
  intro C
  (refine LWP.seq <| rgN <| kas rfl <| RunK.nil <| LWP.seq <| rgN <| kmv rfl <| K.makeSlc (m := 1) (zs := List.replicate 1 (.int .u8 0)) (sz := 1) (e := 5) (bytes := 1) (zc := (lo 1 n 0).map bc) rfl rfl (by kernel_rfl) (by kernel_rfl) (by decide) rfl rfl .plain <| kas rfl <| RunK.nil <| LWP.seq <| LWP.seq <| rgN <| kmv rfl ?_; refine K.lenSlc rfl SliceT.h rfl .plain ?_; refine kmv rfl <| RunK.nil <| LWP.block ?_)
  refine LWP.loop (fun m σ => ∃ i : Nat, i ≤ 1 ∧ m = 1 - i ∧ σ = ⟨[(1, Ln .u64 (n : Nat)), (5, .sv (.one (.slc 8 0 1))), (10, Ln .i64 1), (11, Ln .i64 (i : Nat))], [(8, some ⟨5, (lo 1 n i).map bc, false⟩)], X⟩) 1
    ⟨_, Le.of (by exact ⟨rfl, rfl, rfl, rfl, trivial⟩) (by exact ⟨rfl, trivial⟩) (by exact rfl) (by exact rfl) (by repeat' (first | refine all_cons_true ?_ ?_ | rfl | exact bytes_inUse | exact vals_inUse | exact mid_inUse rfl)), 0, Nat.zero_le _, rfl, rfl⟩ ?_
  rintro m σ ⟨i, hi, rfl, rfl⟩
  by_cases hlt : i < 1
  · have w8 : IntKind.i64.wrap (8 * (i : Int)) = ((8 * i : Nat) : Int) := by rw [wrap_i64 (by omega)]; omega
    have ed : ((n : Nat) : Int) / 2 ^ (8 * i) = ((n / 256 ^ i : Nat) : Int) := by rw [p256, Int.natCast_ediv, Int.natCast_pow]; rfl
    have hs := (shr_s (a := ((n : Nat) : Int)) (s := 8 * i) (by omega)).trans ed
    have hv : IntKind.u8.wrap ((n / 256 ^ i : Nat) : Int) = ((UInt8.ofNat (n / 256 ^ i % 256)).toNat : Nat) := by
      rw [UInt8.toNat_ofNat', Nat.mod_eq_of_lt (Nat.mod_lt _ (by decide)), IntKind.wrap_u8]
      omega
    have hbl : Nat.blt (0 + i * 1) ((lo 1 n i).map bc).length = true := by rw [lo_len _ _ _ hi, Nat.blt_eq]; omega
    (refine LWP.seq <| rgN <| klt rfl rfl (decide_eq_true (by omega)) <| RunK.nil <| LWP.seq <| LWP.condT rfl ?_; refine LWP.skip ?_; refine LWP.seq <| LWP.block <| LWP.seq <| rgN <| kmv rfl <| kas rfl <| RunK.nil <| rgN <| kmv rfl <| kmv rfl <| kmv rfl <| kmv rfl <| K.mul rfl rfl w8 .plain <| K.shr rfl rfl (by omega) hs .plain ?_; refine kcv rfl hv ?_; refine K.indexSlc rfl rfl (by omega) rfl .plain ?_; refine K.storeOne rfl rfl rfl rfl hbl (lo_set hlt) .plain <| RunK.nil <| rgN <| kad rfl rfl (wrap_i64 (by omega)) <| kmv rfl <| RunK.nil ?_)
    exact ⟨_, _, by omega, Le.of (by exact ⟨rfl, rfl, rfl, rfl, trivial⟩) (by exact ⟨rfl, trivial⟩) (by exact rfl) (by exact rfl) (by repeat' (first | refine all_cons_true ?_ ?_ | rfl | exact bytes_inUse | exact vals_inUse | exact mid_inUse rfl)), i + 1, by omega, rfl, rfl⟩
  · have e : i = 1 := by omega
    subst e
    have hlen : 0 + 1 ≤ ((lo 1 n 1).map bc).length := by rw [lo_len _ _ _ (Nat.le_refl _)]; omega
    have hcut : (((lo 1 n 1).map bc).drop 0).take 1 = (leB 1 n).map bc := by
      rw [List.drop_zero, List.take_of_length_le (by rw [lo_len _ _ _ (Nat.le_refl _)]; exact Nat.le_refl _), lo_all]
    (refine LWP.seq <| rgN <| klt rfl rfl (decide_eq_false (by omega)) <| RunK.nil <| LWP.seq <| LWP.condF rfl ?_; refine LWP.exit <| LWP.seq <| rgN <| kmv rfl <| K.convStr rfl rfl (by kernel_rfl) StrT.u hlen hcut .plain <| kas rfl <| RunK.nil <| LWP.ret ?_)
    exact ⟨[_], ⟨rfl, trivial⟩, rfl⟩
theorem low_2 (n : Nat) (hn : n < 18446744073709551616) : PSpec Tryz.prog X 122 [Ln .i64 2, Ln .u64 (n : Nat)] (Ls (leB 2 n)) := by
  refine PSpec.intro Tryz.func122 rfl (by kernel_rfl) rfl rfl ?_
  intro C
  (refine LWP.seq <| rgN <| kas rfl <| RunK.nil <| LWP.seq <| rgN <| kmv rfl <| K.makeSlc (m := 2) (zs := List.replicate 2 (.int .u8 0)) (sz := 1) (e := 5) (bytes := 1) (zc := (lo 2 n 0).map bc) rfl rfl (by kernel_rfl) (by kernel_rfl) (by decide) rfl rfl .plain <| kas rfl <| RunK.nil <| LWP.seq <| LWP.seq <| rgN <| kmv rfl ?_; refine K.lenSlc rfl SliceT.h rfl .plain ?_; refine kmv rfl <| RunK.nil <| LWP.block ?_)
  refine LWP.loop (fun m σ => ∃ i : Nat, i ≤ 2 ∧ m = 2 - i ∧ σ = ⟨[(1, Ln .u64 (n : Nat)), (5, .sv (.one (.slc 8 0 2))), (10, Ln .i64 2), (11, Ln .i64 (i : Nat))], [(8, some ⟨5, (lo 2 n i).map bc, false⟩)], X⟩) 2
    ⟨_, Le.of (by exact ⟨rfl, rfl, rfl, rfl, trivial⟩) (by exact ⟨rfl, trivial⟩) (by exact rfl) (by exact rfl) (by repeat' (first | refine all_cons_true ?_ ?_ | rfl | exact bytes_inUse | exact vals_inUse | exact mid_inUse rfl)), 0, Nat.zero_le _, rfl, rfl⟩ ?_
  rintro m σ ⟨i, hi, rfl, rfl⟩
  by_cases hlt : i < 2
  · have w8 : IntKind.i64.wrap (8 * (i : Int)) = ((8 * i : Nat) : Int) := by rw [wrap_i64 (by omega)]; omega
    have ed : ((n : Nat) : Int) / 2 ^ (8 * i) = ((n / 256 ^ i : Nat) : Int) := by rw [p256, Int.natCast_ediv, Int.natCast_pow]; rfl
    have hs := (shr_s (a := ((n : Nat) : Int)) (s := 8 * i) (by omega)).trans ed
    have hv : IntKind.u8.wrap ((n / 256 ^ i : Nat) : Int) = ((UInt8.ofNat (n / 256 ^ i % 256)).toNat : Nat) := by
      rw [UInt8.toNat_ofNat', Nat.mod_eq_of_lt (Nat.mod_lt _ (by decide)), IntKind.wrap_u8]
      omega
    have hbl : Nat.blt (0 + i * 1) ((lo 2 n i).map bc).length = true := by rw [lo_len _ _ _ hi, Nat.blt_eq]; omega
    (refine LWP.seq <| rgN <| klt rfl rfl (decide_eq_true (by omega)) <| RunK.nil <| LWP.seq <| LWP.condT rfl ?_; refine LWP.skip ?_; refine LWP.seq <| LWP.block <| LWP.seq <| rgN <| kmv rfl <| kas rfl <| RunK.nil <| rgN <| kmv rfl <| kmv rfl <| kmv rfl <| kmv rfl <| K.mul rfl rfl w8 .plain <| K.shr rfl rfl (by omega) hs .plain ?_; refine kcv rfl hv ?_; refine K.indexSlc rfl rfl (by omega) rfl .plain ?_; refine K.storeOne rfl rfl rfl rfl hbl (lo_set hlt) .plain <| RunK.nil <| rgN <| kad rfl rfl (wrap_i64 (by omega)) <| kmv rfl <| RunK.nil ?_)
    exact ⟨_, _, by omega, Le.of (by exact ⟨rfl, rfl, rfl, rfl, trivial⟩) (by exact ⟨rfl, trivial⟩) (by exact rfl) (by exact rfl) (by repeat' (first | refine all_cons_true ?_ ?_ | rfl | exact bytes_inUse | exact vals_inUse | exact mid_inUse rfl)), i + 1, by omega, rfl, rfl⟩
  · have e : i = 2 := by omega
    subst e
    have hlen : 0 + 2 ≤ ((lo 2 n 2).map bc).length := by rw [lo_len _ _ _ (Nat.le_refl _)]; omega
    have hcut : (((lo 2 n 2).map bc).drop 0).take 2 = (leB 2 n).map bc := by
      rw [List.drop_zero, List.take_of_length_le (by rw [lo_len _ _ _ (Nat.le_refl _)]; exact Nat.le_refl _), lo_all]
    (refine LWP.seq <| rgN <| klt rfl rfl (decide_eq_false (by omega)) <| RunK.nil <| LWP.seq <| LWP.condF rfl ?_; refine LWP.exit <| LWP.seq <| rgN <| kmv rfl <| K.convStr rfl rfl (by kernel_rfl) StrT.u hlen hcut .plain <| kas rfl <| RunK.nil <| LWP.ret ?_)
    exact ⟨[_], ⟨rfl, trivial⟩, rfl⟩
theorem low_4 (n : Nat) (hn : n < 18446744073709551616) : PSpec Tryz.prog X 122 [Ln .i64 4, Ln .u64 (n : Nat)] (Ls (leB 4 n)) := by
  refine PSpec.intro Tryz.func122 rfl (by kernel_rfl) rfl rfl ?_
  intro C
  (refine LWP.seq <| rgN <| kas rfl <| RunK.nil <| LWP.seq <| rgN <| kmv rfl <| K.makeSlc (m := 4) (zs := List.replicate 4 (.int .u8 0)) (sz := 1) (e := 5) (bytes := 1) (zc := (lo 4 n 0).map bc) rfl rfl (by kernel_rfl) (by kernel_rfl) (by decide) rfl rfl .plain <| kas rfl <| RunK.nil <| LWP.seq <| LWP.seq <| rgN <| kmv rfl ?_; refine K.lenSlc rfl SliceT.h rfl .plain ?_; refine kmv rfl <| RunK.nil <| LWP.block ?_)
  refine LWP.loop (fun m σ => ∃ i : Nat, i ≤ 4 ∧ m = 4 - i ∧ σ = ⟨[(1, Ln .u64 (n : Nat)), (5, .sv (.one (.slc 8 0 4))), (10, Ln .i64 4), (11, Ln .i64 (i : Nat))], [(8, some ⟨5, (lo 4 n i).map bc, false⟩)], X⟩) 4
    ⟨_, Le.of (by exact ⟨rfl, rfl, rfl, rfl, trivial⟩) (by exact ⟨rfl, trivial⟩) (by exact rfl) (by exact rfl) (by repeat' (first | refine all_cons_true ?_ ?_ | rfl | exact bytes_inUse | exact vals_inUse | exact mid_inUse rfl)), 0, Nat.zero_le _, rfl, rfl⟩ ?_
  rintro m σ ⟨i, hi, rfl, rfl⟩
  by_cases hlt : i < 4
  · have w8 : IntKind.i64.wrap (8 * (i : Int)) = ((8 * i : Nat) : Int) := by rw [wrap_i64 (by omega)]; omega
    have ed : ((n : Nat) : Int) / 2 ^ (8 * i) = ((n / 256 ^ i : Nat) : Int) := by rw [p256, Int.natCast_ediv, Int.natCast_pow]; rfl
    have hs := (shr_s (a := ((n : Nat) : Int)) (s := 8 * i) (by omega)).trans ed
    have hv : IntKind.u8.wrap ((n / 256 ^ i : Nat) : Int) = ((UInt8.ofNat (n / 256 ^ i % 256)).toNat : Nat) := by
      rw [UInt8.toNat_ofNat', Nat.mod_eq_of_lt (Nat.mod_lt _ (by decide)), IntKind.wrap_u8]
      omega
    have hbl : Nat.blt (0 + i * 1) ((lo 4 n i).map bc).length = true := by rw [lo_len _ _ _ hi, Nat.blt_eq]; omega
    (refine LWP.seq <| rgN <| klt rfl rfl (decide_eq_true (by omega)) <| RunK.nil <| LWP.seq <| LWP.condT rfl ?_; refine LWP.skip ?_; refine LWP.seq <| LWP.block <| LWP.seq <| rgN <| kmv rfl <| kas rfl <| RunK.nil <| rgN <| kmv rfl <| kmv rfl <| kmv rfl <| kmv rfl <| K.mul rfl rfl w8 .plain <| K.shr rfl rfl (by omega) hs .plain ?_; refine kcv rfl hv ?_; refine K.indexSlc rfl rfl (by omega) rfl .plain ?_; refine K.storeOne rfl rfl rfl rfl hbl (lo_set hlt) .plain <| RunK.nil <| rgN <| kad rfl rfl (wrap_i64 (by omega)) <| kmv rfl <| RunK.nil ?_)
    exact ⟨_, _, by omega, Le.of (by exact ⟨rfl, rfl, rfl, rfl, trivial⟩) (by exact ⟨rfl, trivial⟩) (by exact rfl) (by exact rfl) (by repeat' (first | refine all_cons_true ?_ ?_ | rfl | exact bytes_inUse | exact vals_inUse | exact mid_inUse rfl)), i + 1, by omega, rfl, rfl⟩
  · have e : i = 4 := by omega
    subst e
    have hlen : 0 + 4 ≤ ((lo 4 n 4).map bc).length := by rw [lo_len _ _ _ (Nat.le_refl _)]; omega
    have hcut : (((lo 4 n 4).map bc).drop 0).take 4 = (leB 4 n).map bc := by
      rw [List.drop_zero, List.take_of_length_le (by rw [lo_len _ _ _ (Nat.le_refl _)]; exact Nat.le_refl _), lo_all]
    (refine LWP.seq <| rgN <| klt rfl rfl (decide_eq_false (by omega)) <| RunK.nil <| LWP.seq <| LWP.condF rfl ?_; refine LWP.exit <| LWP.seq <| rgN <| kmv rfl <| K.convStr rfl rfl (by kernel_rfl) StrT.u hlen hcut .plain <| kas rfl <| RunK.nil <| LWP.ret ?_)
    exact ⟨[_], ⟨rfl, trivial⟩, rfl⟩
theorem low_8 (n : Nat) (hn : n < 18446744073709551616) : PSpec Tryz.prog X 122 [Ln .i64 8, Ln .u64 (n : Nat)] (Ls (leB 8 n)) := by
  refine PSpec.intro Tryz.func122 rfl (by kernel_rfl) rfl rfl ?_
  intro C
  (refine LWP.seq <| rgN <| kas rfl <| RunK.nil <| LWP.seq <| rgN <| kmv rfl <| K.makeSlc (m := 8) (zs := List.replicate 8 (.int .u8 0)) (sz := 1) (e := 5) (bytes := 1) (zc := (lo 8 n 0).map bc) rfl rfl (by kernel_rfl) (by kernel_rfl) (by decide) rfl rfl .plain <| kas rfl <| RunK.nil <| LWP.seq <| LWP.seq <| rgN <| kmv rfl ?_; refine K.lenSlc rfl SliceT.h rfl .plain ?_; refine kmv rfl <| RunK.nil <| LWP.block ?_)
  refine LWP.loop (fun m σ => ∃ i : Nat, i ≤ 8 ∧ m = 8 - i ∧ σ = ⟨[(1, Ln .u64 (n : Nat)), (5, .sv (.one (.slc 8 0 8))), (10, Ln .i64 8), (11, Ln .i64 (i : Nat))], [(8, some ⟨5, (lo 8 n i).map bc, false⟩)], X⟩) 8
    ⟨_, Le.of (by exact ⟨rfl, rfl, rfl, rfl, trivial⟩) (by exact ⟨rfl, trivial⟩) (by exact rfl) (by exact rfl) (by repeat' (first | refine all_cons_true ?_ ?_ | rfl | exact bytes_inUse | exact vals_inUse | exact mid_inUse rfl)), 0, Nat.zero_le _, rfl, rfl⟩ ?_
  rintro m σ ⟨i, hi, rfl, rfl⟩
  by_cases hlt : i < 8
  · have w8 : IntKind.i64.wrap (8 * (i : Int)) = ((8 * i : Nat) : Int) := by rw [wrap_i64 (by omega)]; omega
    have ed : ((n : Nat) : Int) / 2 ^ (8 * i) = ((n / 256 ^ i : Nat) : Int) := by rw [p256, Int.natCast_ediv, Int.natCast_pow]; rfl
    have hs := (shr_s (a := ((n : Nat) : Int)) (s := 8 * i) (by omega)).trans ed
    have hv : IntKind.u8.wrap ((n / 256 ^ i : Nat) : Int) = ((UInt8.ofNat (n / 256 ^ i % 256)).toNat : Nat) := by
      rw [UInt8.toNat_ofNat', Nat.mod_eq_of_lt (Nat.mod_lt _ (by decide)), IntKind.wrap_u8]
      omega
    have hbl : Nat.blt (0 + i * 1) ((lo 8 n i).map bc).length = true := by rw [lo_len _ _ _ hi, Nat.blt_eq]; omega
    (refine LWP.seq <| rgN <| klt rfl rfl (decide_eq_true (by omega)) <| RunK.nil <| LWP.seq <| LWP.condT rfl ?_; refine LWP.skip ?_; refine LWP.seq <| LWP.block <| LWP.seq <| rgN <| kmv rfl <| kas rfl <| RunK.nil <| rgN <| kmv rfl <| kmv rfl <| kmv rfl <| kmv rfl <| K.mul rfl rfl w8 .plain <| K.shr rfl rfl (by omega) hs .plain ?_; refine kcv rfl hv ?_; refine K.indexSlc rfl rfl (by omega) rfl .plain ?_; refine K.storeOne rfl rfl rfl rfl hbl (lo_set hlt) .plain <| RunK.nil <| rgN <| kad rfl rfl (wrap_i64 (by omega)) <| kmv rfl <| RunK.nil ?_)
    exact ⟨_, _, by omega, Le.of (by exact ⟨rfl, rfl, rfl, rfl, trivial⟩) (by exact ⟨rfl, trivial⟩) (by exact rfl) (by exact rfl) (by repeat' (first | refine all_cons_true ?_ ?_ | rfl | exact bytes_inUse | exact vals_inUse | exact mid_inUse rfl)), i + 1, by omega, rfl, rfl⟩
  · have e : i = 8 := by omega
    subst e
    have hlen : 0 + 8 ≤ ((lo 8 n 8).map bc).length := by rw [lo_len _ _ _ (Nat.le_refl _)]; omega
    have hcut : (((lo 8 n 8).map bc).drop 0).take 8 = (leB 8 n).map bc := by
      rw [List.drop_zero, List.take_of_length_le (by rw [lo_len _ _ _ (Nat.le_refl _)]; exact Nat.le_refl _), lo_all]
    (refine LWP.seq <| rgN <| klt rfl rfl (decide_eq_false (by omega)) <| RunK.nil <| LWP.seq <| LWP.condF rfl ?_; refine LWP.exit <| LWP.seq <| rgN <| kmv rfl <| K.convStr rfl rfl (by kernel_rfl) StrT.u hlen hcut .plain <| kas rfl <| RunK.nil <| LWP.ret ?_)
    exact ⟨[_], ⟨rfl, trivial⟩, rfl⟩
end Go.Proofs.YtbpdbclndfmcgaaGreatDoor
end
section
namespace Go.Proofs.YtbpdbclndfmcgaaGreatDoor
open Go Go.Lg
variable (X : Nat → Option Obj)
abbrev w0 (k : Nat) : List (Nat × Option Box) := [(k, some ⟨178, [.val (.pointer none), .val (.int .i64 0)], false⟩)]
abbrev w1 (k ks kb : Nat) (l : List UInt8) : List (Nat × Option Box) :=
  [(k, some ⟨178, [.ptr ks 0, .val (.int .i64 (l.length : Nat))], false⟩), (ks, some ⟨198, [.slc kb 0 l.length], false⟩), (kb, some ⟨5, l.map bc, true⟩)]
theorem String_0 : MSpec Tryz.prog X 107 [Lp 1000000] (w0 1000000) (Ls []) (w0 1000000) := by
  refine MSpec.intro Tryz.func107 rfl (by kernel_rfl) rfl rfl rfl rfl rfl ?_
  intro C
  (refine LWP.seq <| rgN <| kas rfl <| RunK.nil <| LWP.seq <| LWP.seq <| rgN <| kmv rfl <| K.ptrNil rfl (by kernel_rfl) (.inl ⟨rfl, rfl⟩) .plain <| kmv rfl <| gmv rfl rfl rfl <| K.nilCheck rfl (.taken rfl rfl) ?_; refine K.fieldAddr rfl rfl (.taken rfl rfl) ?_; refine K.loadOne rfl rfl rfl (.taken rfl rfl) ?_; refine K.nilNil rfl (by kernel_rfl) (.inl ⟨rfl, rfl⟩) (.taken rfl rfl) ?_; refine kpf rfl rfl <| RunK.nil <| LWP.condT rfl ?_; refine LWP.seq <| rgN <| kas rfl <| RunK.nil <| LWP.ret ?_)
  exact ⟨[], ⟨[_], ⟨rfl, trivial⟩, rfl⟩, ⟨⟨_, rfl, rfl⟩, trivial⟩, rfl, rfl⟩
theorem String_1 (l : List UInt8) : MSpec Tryz.prog X 107 [Lp 1000000] (w1 1000000 1000001 1000002 l) (Ls l) (w1 1000000 1000001 1000002 l) := by
  refine MSpec.intro Tryz.func107 rfl (by kernel_rfl) rfl rfl (by repeat' (first | refine all_cons_true ?_ ?_ | rfl | exact bytes_inUse | exact vals_inUse | exact mid_inUse rfl)) rfl rfl ?_
  intro C
  have hlen : 0 + l.length ≤ (l.map bc).length := by rw [List.length_map]; omega
  have hcut : ((l.map bc).drop 0).take l.length = l.map bc := by rw [List.drop_zero, List.take_of_length_le (by rw [List.length_map]; exact Nat.le_refl _)]
  (refine LWP.seq <| rgN <| kas rfl <| RunK.nil <| LWP.seq <| LWP.seq <| rgN <| kmv rfl <| K.ptrNil rfl (by kernel_rfl) (.inl ⟨rfl, rfl⟩) .plain <| kmv rfl <| gmv rfl rfl rfl <| K.nilCheck rfl (.taken rfl rfl) ?_; refine K.fieldAddr rfl rfl (.taken rfl rfl) ?_; refine K.loadOne rfl rfl rfl (.taken rfl rfl) ?_; refine K.ptrNil rfl (by kernel_rfl) (.inl ⟨rfl, rfl⟩) (.taken rfl rfl) ?_; refine kpf rfl rfl <| RunK.nil <| LWP.condF rfl ?_; refine LWP.skip ?_; refine LWP.seq <| rgD mixed <| kmv rfl <| K.nilCheck rfl .plain <| kfa rfl rfl ?_; refine kl1 rfl rfl rfl <| K.nilCheck rfl .plain <| kfa rfl rfl ?_; refine kl1 rfl rfl rfl <| kmv rfl <| K.nilCheck rfl .plain <| kfa rfl rfl ?_; refine kl1 rfl rfl rfl <| K.cutSlc rfl rfl SliceT.h (Nat.le_refl _) .plain <| K.convStr rfl rfl (by kernel_rfl) StrT.u hlen hcut .plain <| kas rfl <| RunK.nil <| rgA ?_; refine LWP.ret ?_)
  exact ⟨[], ⟨[_], ⟨rfl, trivial⟩, rfl⟩, (by repeat' (first | exact trivial | refine And.intro ⟨_, rfl, ?_⟩ ?_ | refine And.intro ⟨_, rfl⟩ ?_ | rfl | exact Box.ren_bytes _ _ _ _ | exact Box.ren_vals _ _ _ _ | exact Box.ren_mid rfl)), rfl, rfl⟩
theorem WRaw_0 (s : List UInt8) (hs : s.length < 1000000000) : MSpec Tryz.prog X 121 [Lp 1000000, Ls s] (w0 1000000) (Lb true) (w1 1000000 1000001 1000002 s) := by
  refine MSpec.intro Tryz.func121 rfl (by kernel_rfl) rfl rfl (by repeat' (first | refine all_cons_true ?_ ?_ | rfl | exact bytes_inUse | exact vals_inUse | exact mid_inUse rfl)) rfl rfl ?_
  intro C
  (refine LWP.seq <| rgN <| kas rfl <| RunK.nil <| LWP.seq <| LWP.seq <| rgN <| kmv rfl <| K.ptrNil rfl (by kernel_rfl) (.inl ⟨rfl, rfl⟩) .plain <| RunK.nil <| LWP.condF rfl ?_; refine LWP.skip ?_; refine LWP.seq <| LWP.seq <| rgD mixed <| kmv rfl <| K.nilCheck rfl .plain <| kfa rfl rfl ?_; refine kl1 rfl rfl rfl <| K.nilNil rfl (by kernel_rfl) (.inl ⟨rfl, rfl⟩) .plain <| kmv rfl <| RunK.passed rfl rfl rfl <| RunK.passed rfl rfl rfl <| RunK.passed rfl rfl rfl <| RunK.passed rfl rfl rfl <| RunK.passed rfl rfl rfl <| RunK.passed rfl rfl rfl <| RunK.passed rfl rfl rfl <| RunK.passed rfl rfl rfl <| RunK.passed rfl rfl rfl <| RunK.passed rfl rfl rfl <| RunK.passed rfl rfl rfl ?_; refine RunK.passed rfl rfl rfl <| RunK.passed rfl rfl rfl <| kpt rfl rfl <| RunK.nil <| rgA ?_; refine LWP.condT rfl ?_; refine rgN <| kmv rfl <| kmv rfl <| K.callM [] (w0 1000000) (String_0 X) rfl rfl (by exact (And.intro ⟨_, rfl, rfl⟩ trivial)) (by exact (all_cons_true (all_cons_true rfl (all_cons_true rfl rfl)) rfl)) rfl rfl rfl rfl (by exact (.box rfl rfl .nil)) .plain <| K.strBytes (e := 5) rfl StrT.u (by kernel_rfl) (by kernel_rfl) rfl .plain <| K.build rfl rfl (by exact rfl) (by exact nl1 rfl rfl) .plain ?_; refine K.box rfl rfl rfl .plain <| K.nilCheck rfl .plain <| kfa rfl rfl ?_; refine K.storeOne rfl rfl rfl rfl rfl (nl2 rfl rfl rfl) .plain <| RunK.nil <| LWP.seq <| rgD mixed <| kmv rfl <| K.nilCheck rfl .plain <| kfa rfl rfl ?_; refine kl1 rfl rfl rfl <| kmv rfl <| K.nilCheck rfl .plain <| kfa rfl rfl ?_; refine kl1 rfl rfl rfl <| K.nilCheck rfl .plain <| kfa rfl rfl ?_; refine kl1 rfl rfl rfl <| kmv rfl <| K.appendStr (by_ := 1) rfl rfl rfl rfl (by kernel_rfl) StrT.u (by simp only [List.length_nil]; omega) (by simp only [List.length_nil]; omega) rfl (Nat.zero_add _) (List.nil_append _) .plain <| K.nilCheck rfl .plain <| kfa rfl rfl ?_; refine K.storeOne rfl rfl rfl rfl rfl (nl1 rfl rfl) .plain <| RunK.nil <| rgA ?_; refine LWP.seq <| rgN <| kmv rfl <| kmv rfl <| K.nilCheck rfl .plain <| kfa rfl rfl ?_; refine kl1 rfl rfl rfl <| K.nilCheck rfl .plain <| kfa rfl rfl ?_; refine kl1 rfl rfl rfl <| K.lenSlc rfl SliceT.h rfl .plain ?_; refine K.nilCheck rfl .plain <| kfa rfl rfl ?_; refine K.storeOne rfl rfl rfl rfl rfl (nl2 rfl rfl rfl) .plain <| RunK.nil <| LWP.seq <| rgN <| kas rfl <| RunK.nil <| LWP.ret ?_)
  exact ⟨[(1000001, 32), (1000002, 47)], ⟨[_], ⟨rfl, trivial⟩, rfl⟩, (by repeat' (first | exact trivial | refine And.intro ⟨_, rfl, ?_⟩ ?_ | refine And.intro ⟨_, rfl⟩ ?_ | rfl | exact Box.ren_bytes _ _ _ _ | exact Box.ren_vals _ _ _ _ | exact Box.ren_mid rfl)), rfl, rfl⟩
end Go.Proofs.YtbpdbclndfmcgaaGreatDoor
end
section
namespace Go.Proofs.YtbpdbclndfmcgaaGreatDoor
open Go Go.Lg
variable (X : Nat → Option Obj)
theorem oshr_1 (n : Nat) : ((n : Nat) : Int).fdiv (2 ^ (min (((8 * 1 : Nat) : Int)).toNat IntKind.u64.bits)) = ((n / 256 ^ 1 : Nat) : Int) := by
  have ed : ((n : Nat) : Int) / 2 ^ (8 * 1) = ((n / 256 ^ 1 : Nat) : Int) := by rw [p256, Int.natCast_ediv, Int.natCast_pow]; rfl
  exact (shr_s (a := ((n : Nat) : Int)) (s := 8 * 1) (by omega)).trans ed
theorem WNum_0_1 (n : Nat) (hn : n < 18446744073709551616) (h : n < 256 ^ 1) : MSpec Tryz.prog X 105 [Lp 1000000, Ln .i64 1, Ln .u64 (n : Nat)] (w0 1000000) (Lb true) (w1 1000000 1000001 1000002 (leB 1 n)) := by
  refine MSpec.intro Tryz.func105 rfl (by kernel_rfl) rfl rfl (by repeat' (first | refine all_cons_true ?_ ?_ | rfl | exact bytes_inUse | exact vals_inUse | exact mid_inUse rfl)) rfl rfl ?_
  intro C
  have hz : ((n / 256 ^ 1 : Nat) : Int) = 0 := by rw [Nat.div_eq_of_lt h]; rfl
  have hs := (oshr_1 n).trans hz
  (refine LWP.seq <| rgN <| kas rfl <| RunK.nil <| LWP.seq <| LWP.seq <| rgN <| kmv rfl <| kca rfl rfl (isWidth_spec X _ true rfl) <| K.not rfl rfl .plain <| kmv rfl <| gmv rfl rfl rfl <| gmv rfl rfl rfl <| K.mul rfl rfl (c := ((8 * 1 : Nat) : Int)) rfl (.taken rfl rfl) ?_; refine K.shr rfl rfl (by decide) hs (.taken rfl rfl) ?_; refine K.neq rfl rfl ((bne_eq_false_iff_eq.2 (by omega))) (.taken rfl rfl) ?_; refine kpf rfl rfl <| RunK.nil <| LWP.condF rfl ?_; refine LWP.skip ?_; refine LWP.seq <| rgN <| kmv rfl <| kmv rfl <| kmv rfl <| kca rfl rfl (low_1 X n hn) <| K.callM [(1000001, 501), (1000002, 502)] (w1 1000000 501 502 (leB 1 n)) (WRaw_0 X _ (by rw [leB_length]; decide)) rfl rfl (by exact (And.intro ⟨_, rfl, rfl⟩ trivial)) (by exact (all_cons_true (all_cons_true rfl (all_cons_true rfl rfl)) rfl)) rfl rfl rfl rfl (by exact (.box rfl rfl (.box rfl rfl (.box rfl rfl .nil)))) .plain <| kas rfl <| RunK.nil <| LWP.ret ?_)
  exact ⟨[(1000001, 501), (1000002, 502)], ⟨[_], ⟨rfl, trivial⟩, rfl⟩, (by repeat' (first | exact trivial | refine And.intro ⟨_, rfl, ?_⟩ ?_ | refine And.intro ⟨_, rfl⟩ ?_ | rfl | exact Box.ren_bytes _ _ _ _ | exact Box.ren_vals _ _ _ _ | exact Box.ren_mid rfl)), rfl, rfl⟩
theorem oshr_2 (n : Nat) : ((n : Nat) : Int).fdiv (2 ^ (min (((8 * 2 : Nat) : Int)).toNat IntKind.u64.bits)) = ((n / 256 ^ 2 : Nat) : Int) := by
  have ed : ((n : Nat) : Int) / 2 ^ (8 * 2) = ((n / 256 ^ 2 : Nat) : Int) := by rw [p256, Int.natCast_ediv, Int.natCast_pow]; rfl
  exact (shr_s (a := ((n : Nat) : Int)) (s := 8 * 2) (by omega)).trans ed
theorem WNum_0_2 (n : Nat) (hn : n < 18446744073709551616) (h : n < 256 ^ 2) : MSpec Tryz.prog X 105 [Lp 1000000, Ln .i64 2, Ln .u64 (n : Nat)] (w0 1000000) (Lb true) (w1 1000000 1000001 1000002 (leB 2 n)) := by
  refine MSpec.intro Tryz.func105 rfl (by kernel_rfl) rfl rfl (by repeat' (first | refine all_cons_true ?_ ?_ | rfl | exact bytes_inUse | exact vals_inUse | exact mid_inUse rfl)) rfl rfl ?_
  intro C
  have hz : ((n / 256 ^ 2 : Nat) : Int) = 0 := by rw [Nat.div_eq_of_lt h]; rfl
  have hs := (oshr_2 n).trans hz
  (refine LWP.seq <| rgN <| kas rfl <| RunK.nil <| LWP.seq <| LWP.seq <| rgN <| kmv rfl <| kca rfl rfl (isWidth_spec X _ true rfl) <| K.not rfl rfl .plain <| kmv rfl <| gmv rfl rfl rfl <| gmv rfl rfl rfl <| K.mul rfl rfl (c := ((8 * 2 : Nat) : Int)) rfl (.taken rfl rfl) ?_; refine K.shr rfl rfl (by decide) hs (.taken rfl rfl) ?_; refine K.neq rfl rfl ((bne_eq_false_iff_eq.2 (by omega))) (.taken rfl rfl) ?_; refine kpf rfl rfl <| RunK.nil <| LWP.condF rfl ?_; refine LWP.skip ?_; refine LWP.seq <| rgN <| kmv rfl <| kmv rfl <| kmv rfl <| kca rfl rfl (low_2 X n hn) <| K.callM [(1000001, 501), (1000002, 502)] (w1 1000000 501 502 (leB 2 n)) (WRaw_0 X _ (by rw [leB_length]; decide)) rfl rfl (by exact (And.intro ⟨_, rfl, rfl⟩ trivial)) (by exact (all_cons_true (all_cons_true rfl (all_cons_true rfl rfl)) rfl)) rfl rfl rfl rfl (by exact (.box rfl rfl (.box rfl rfl (.box rfl rfl .nil)))) .plain <| kas rfl <| RunK.nil <| LWP.ret ?_)
  exact ⟨[(1000001, 501), (1000002, 502)], ⟨[_], ⟨rfl, trivial⟩, rfl⟩, (by repeat' (first | exact trivial | refine And.intro ⟨_, rfl, ?_⟩ ?_ | refine And.intro ⟨_, rfl⟩ ?_ | rfl | exact Box.ren_bytes _ _ _ _ | exact Box.ren_vals _ _ _ _ | exact Box.ren_mid rfl)), rfl, rfl⟩
theorem oshr_4 (n : Nat) : ((n : Nat) : Int).fdiv (2 ^ (min (((8 * 4 : Nat) : Int)).toNat IntKind.u64.bits)) = ((n / 256 ^ 4 : Nat) : Int) := by
  have ed : ((n : Nat) : Int) / 2 ^ (8 * 4) = ((n / 256 ^ 4 : Nat) : Int) := by rw [p256, Int.natCast_ediv, Int.natCast_pow]; rfl
  exact (shr_s (a := ((n : Nat) : Int)) (s := 8 * 4) (by omega)).trans ed
theorem WNum_0_4 (n : Nat) (hn : n < 18446744073709551616) (h : n < 256 ^ 4) : MSpec Tryz.prog X 105 [Lp 1000000, Ln .i64 4, Ln .u64 (n : Nat)] (w0 1000000) (Lb true) (w1 1000000 1000001 1000002 (leB 4 n)) := by
  refine MSpec.intro Tryz.func105 rfl (by kernel_rfl) rfl rfl (by repeat' (first | refine all_cons_true ?_ ?_ | rfl | exact bytes_inUse | exact vals_inUse | exact mid_inUse rfl)) rfl rfl ?_
  intro C
  have hz : ((n / 256 ^ 4 : Nat) : Int) = 0 := by rw [Nat.div_eq_of_lt h]; rfl
  have hs := (oshr_4 n).trans hz
  (refine LWP.seq <| rgN <| kas rfl <| RunK.nil <| LWP.seq <| LWP.seq <| rgN <| kmv rfl <| kca rfl rfl (isWidth_spec X _ true rfl) <| K.not rfl rfl .plain <| kmv rfl <| gmv rfl rfl rfl <| gmv rfl rfl rfl <| K.mul rfl rfl (c := ((8 * 4 : Nat) : Int)) rfl (.taken rfl rfl) ?_; refine K.shr rfl rfl (by decide) hs (.taken rfl rfl) ?_; refine K.neq rfl rfl ((bne_eq_false_iff_eq.2 (by omega))) (.taken rfl rfl) ?_; refine kpf rfl rfl <| RunK.nil <| LWP.condF rfl ?_; refine LWP.skip ?_; refine LWP.seq <| rgN <| kmv rfl <| kmv rfl <| kmv rfl <| kca rfl rfl (low_4 X n hn) <| K.callM [(1000001, 501), (1000002, 502)] (w1 1000000 501 502 (leB 4 n)) (WRaw_0 X _ (by rw [leB_length]; decide)) rfl rfl (by exact (And.intro ⟨_, rfl, rfl⟩ trivial)) (by exact (all_cons_true (all_cons_true rfl (all_cons_true rfl rfl)) rfl)) rfl rfl rfl rfl (by exact (.box rfl rfl (.box rfl rfl (.box rfl rfl .nil)))) .plain <| kas rfl <| RunK.nil <| LWP.ret ?_)
  exact ⟨[(1000001, 501), (1000002, 502)], ⟨[_], ⟨rfl, trivial⟩, rfl⟩, (by repeat' (first | exact trivial | refine And.intro ⟨_, rfl, ?_⟩ ?_ | refine And.intro ⟨_, rfl⟩ ?_ | rfl | exact Box.ren_bytes _ _ _ _ | exact Box.ren_vals _ _ _ _ | exact Box.ren_mid rfl)), rfl, rfl⟩
theorem oshr_8 (n : Nat) : ((n : Nat) : Int).fdiv (2 ^ (min (((8 * 8 : Nat) : Int)).toNat IntKind.u64.bits)) = ((n / 256 ^ 8 : Nat) : Int) := by
  have ed : ((n : Nat) : Int) / 2 ^ (8 * 8) = ((n / 256 ^ 8 : Nat) : Int) := by rw [p256, Int.natCast_ediv, Int.natCast_pow]; rfl
  exact (shr_s (a := ((n : Nat) : Int)) (s := 8 * 8) (by omega)).trans ed
theorem WNum_0_8 (n : Nat) (hn : n < 18446744073709551616) (h : n < 256 ^ 8) : MSpec Tryz.prog X 105 [Lp 1000000, Ln .i64 8, Ln .u64 (n : Nat)] (w0 1000000) (Lb true) (w1 1000000 1000001 1000002 (leB 8 n)) := by
  refine MSpec.intro Tryz.func105 rfl (by kernel_rfl) rfl rfl (by repeat' (first | refine all_cons_true ?_ ?_ | rfl | exact bytes_inUse | exact vals_inUse | exact mid_inUse rfl)) rfl rfl ?_
  intro C
  have hz : ((n / 256 ^ 8 : Nat) : Int) = 0 := by rw [Nat.div_eq_of_lt h]; rfl
  have hs := (oshr_8 n).trans hz
  (refine LWP.seq <| rgN <| kas rfl <| RunK.nil <| LWP.seq <| LWP.seq <| rgN <| kmv rfl <| kca rfl rfl (isWidth_spec X _ true rfl) <| K.not rfl rfl .plain <| kmv rfl <| gmv rfl rfl rfl <| gmv rfl rfl rfl <| K.mul rfl rfl (c := ((8 * 8 : Nat) : Int)) rfl (.taken rfl rfl) ?_; refine K.shr rfl rfl (by decide) hs (.taken rfl rfl) ?_; refine K.neq rfl rfl ((bne_eq_false_iff_eq.2 (by omega))) (.taken rfl rfl) ?_; refine kpf rfl rfl <| RunK.nil <| LWP.condF rfl ?_; refine LWP.skip ?_; refine LWP.seq <| rgN <| kmv rfl <| kmv rfl <| kmv rfl <| kca rfl rfl (low_8 X n hn) <| K.callM [(1000001, 501), (1000002, 502)] (w1 1000000 501 502 (leB 8 n)) (WRaw_0 X _ (by rw [leB_length]; decide)) rfl rfl (by exact (And.intro ⟨_, rfl, rfl⟩ trivial)) (by exact (all_cons_true (all_cons_true rfl (all_cons_true rfl rfl)) rfl)) rfl rfl rfl rfl (by exact (.box rfl rfl (.box rfl rfl (.box rfl rfl .nil)))) .plain <| kas rfl <| RunK.nil <| LWP.ret ?_)
  exact ⟨[(1000001, 501), (1000002, 502)], ⟨[_], ⟨rfl, trivial⟩, rfl⟩, (by repeat' (first | exact trivial | refine And.intro ⟨_, rfl, ?_⟩ ?_ | refine And.intro ⟨_, rfl⟩ ?_ | rfl | exact Box.ren_bytes _ _ _ _ | exact Box.ren_vals _ _ _ _ | exact Box.ren_mid rfl)), rfl, rfl⟩
end Go.Proofs.YtbpdbclndfmcgaaGreatDoor
end
section
namespace Go.Lg.Fld
open Go Go.Lg
def kN (k : Int) : List UInt8 := if k = 1 then [98, 111, 111, 108] else if k = 2 then [105, 56] else if k = 3 then [105, 49, 54] else if k = 4 then [105, 51, 50] else if k = 5 then [105, 54, 52] else if k = 6 then [117, 56] else if k = 7 then [117, 49, 54] else if k = 8 then [117, 51, 50] else if k = 9 then [117, 54, 52] else if k = 10 then [114, 101, 102] else []
def kW (k : Int) : Nat := if k = 1 then 1 else if k = 2 then 1 else if k = 3 then 2 else if k = 4 then 4 else if k = 5 then 8 else if k = 6 then 1 else if k = 7 then 2 else if k = 8 then 4 else if k = 9 then 8 else if k = 10 then 8 else 0
def kB (k : Int) : Int := if k = 1 then 0 else if k = 2 then 128 else if k = 3 then 32768 else if k = 4 then 2147483648 else if k = 5 then 9223372036854775808 else if k = 6 then 0 else if k = 7 then 0 else if k = 8 then 0 else if k = 9 then 0 else if k = 10 then 0 else 0
def kA (k : Int) : Int := if k = 1 then 1 else if k = 2 then 127 else if k = 3 then 32767 else if k = 4 then 2147483647 else if k = 5 then 9223372036854775807 else if k = 6 then 255 else if k = 7 then 65535 else if k = 8 then 4294967295 else if k = 9 then 18446744073709551615 else if k = 10 then 18446744073709551615 else 0
def kK (k : Int) : Bool := decide (1 ≤ k) && decide (k ≤ 10)
theorem kcases (k : Int) : k = 1 ∨ k = 2 ∨ k = 3 ∨ k = 4 ∨ k = 5 ∨ k = 6 ∨ k = 7 ∨ k = 8 ∨ k = 9 ∨ k = 10 ∨ (k < 1 ∨ 10 < k) := by omega
theorem kin {k : Int} (h : kK k = true) : k = 1 ∨ k = 2 ∨ k = 3 ∨ k = 4 ∨ k = 5 ∨ k = 6 ∨ k = 7 ∨ k = 8 ∨ k = 9 ∨ k = 10 := by
  simp only [kK, Bool.and_eq_true, decide_eq_true_eq] at h; omega
theorem knot {k : Int} (h : kK k = false) : k < 1 ∨ 10 < k := by
  by_cases h1 : 1 ≤ k <;> by_cases h2 : k ≤ 10 <;> first | omega | (rw [kK, decide_eq_true h1, decide_eq_true h2] at h; cases h)
theorem kN_no {k : Int} (h : k < 1 ∨ 10 < k) : kN k = [] := by
  unfold kN
  rw [if_neg (show ¬ k = 1 by omega), if_neg (show ¬ k = 2 by omega), if_neg (show ¬ k = 3 by omega), if_neg (show ¬ k = 4 by omega), if_neg (show ¬ k = 5 by omega), if_neg (show ¬ k = 6 by omega), if_neg (show ¬ k = 7 by omega), if_neg (show ¬ k = 8 by omega), if_neg (show ¬ k = 9 by omega), if_neg (show ¬ k = 10 by omega)]
theorem kW_no {k : Int} (h : k < 1 ∨ 10 < k) : kW k = 0 := by
  unfold kW
  rw [if_neg (show ¬ k = 1 by omega), if_neg (show ¬ k = 2 by omega), if_neg (show ¬ k = 3 by omega), if_neg (show ¬ k = 4 by omega), if_neg (show ¬ k = 5 by omega), if_neg (show ¬ k = 6 by omega), if_neg (show ¬ k = 7 by omega), if_neg (show ¬ k = 8 by omega), if_neg (show ¬ k = 9 by omega), if_neg (show ¬ k = 10 by omega)]
theorem kB_no {k : Int} (h : k < 1 ∨ 10 < k) : kB k = 0 := by
  unfold kB
  rw [if_neg (show ¬ k = 1 by omega), if_neg (show ¬ k = 2 by omega), if_neg (show ¬ k = 3 by omega), if_neg (show ¬ k = 4 by omega), if_neg (show ¬ k = 5 by omega), if_neg (show ¬ k = 6 by omega), if_neg (show ¬ k = 7 by omega), if_neg (show ¬ k = 8 by omega), if_neg (show ¬ k = 9 by omega), if_neg (show ¬ k = 10 by omega)]
theorem kA_no {k : Int} (h : k < 1 ∨ 10 < k) : kA k = 0 := by
  unfold kA
  rw [if_neg (show ¬ k = 1 by omega), if_neg (show ¬ k = 2 by omega), if_neg (show ¬ k = 3 by omega), if_neg (show ¬ k = 4 by omega), if_neg (show ¬ k = 5 by omega), if_neg (show ¬ k = 6 by omega), if_neg (show ¬ k = 7 by omega), if_neg (show ¬ k = 8 by omega), if_neg (show ¬ k = 9 by omega), if_neg (show ¬ k = 10 by omega)]
theorem kfacts (k : Int) : 0 ≤ kB k ∧ kB k ≤ 9223372036854775808 ∧ 0 ≤ kA k ∧ kA k < 18446744073709551616 ∧ kW k ≤ 8 := by
  rcases kcases k with rfl | rfl | rfl | rfl | rfl | rfl | rfl | rfl | rfl | rfl | h
  all_goals first | (rw [kW_no h, kB_no h, kA_no h]; omega) | decide
theorem kW_in {k : Int} (h : kK k = true) : kW k = 1 ∨ kW k = 2 ∨ kW k = 4 ∨ kW k = 8 := by
  rcases kin h with rfl | rfl | rfl | rfl | rfl | rfl | rfl | rfl | rfl | rfl <;> decide
theorem kW_zero (k : Int) : kW k = 0 ↔ kK k = false := by
  cases h : kK k with
  | false => simp [kW_no (knot h)]
  | true => rcases kW_in h with e | e | e | e <;> simp [e]
end Go.Lg.Fld
namespace Go.Proofs.YtbpdbclndfmcgaaGreatDoor
open Go Go.Lg Go.Lg.Fld
set_option maxRecDepth 100000
variable (X : Nat → Option Obj)
theorem shapeOf_spec (k : Int) : PSpec Tryz.prog X 99 [Ln .i64 k] (.sv (.agg [.val (.string ⟨(kN k).toArray⟩), .val (.int .i64 (kW k : Nat)), .val (.int .u64 (kB k)), .val (.int .u64 (kA k))])) := by
  refine PSpec.intro Tryz.func99 rfl (by kernel_rfl) rfl rfl ?_
  intro C
  rcases kcases k with rfl | rfl | rfl | rfl | rfl | rfl | rfl | rfl | rfl | rfl | h
  · (refine LWP.seq <| rgN <| K.alloc rfl .plain ?_; refine RunK.nil <| LWP.seq <| LWP.seq <| rgN <| kmv rfl <| RunK.nil <| LWP.block <| LWP.seq <| rgN <| keq rfl rfl (beq_iff_eq.2 (by omega)) <| kas rfl <| RunK.nil <| LWP.condT rfl ?_; refine LWP.seq <| rgN <| K.build rfl rfl (by exact rfl) (by exact nl4 rfl rfl rfl rfl rfl) .plain ?_; refine K.storeAll rfl rfl rfl rfl rfl rfl .plain ?_; refine RunK.nil <| LWP.ret ?_)
    exact ⟨[_], ⟨⟨_, _, rfl, rfl, rfl, .inl ⟨AggT.h, rfl⟩⟩, trivial⟩, rfl⟩
  · (refine LWP.seq <| rgN <| K.alloc rfl .plain ?_; refine RunK.nil <| LWP.seq <| LWP.seq <| rgN <| kmv rfl <| RunK.nil <| LWP.block <| LWP.seq <| rgN <| keq rfl rfl (beq_eq_false_iff_ne.2 (by omega)) <| kas rfl <| RunK.nil <| LWP.condF rfl ?_; refine LWP.seq <| rgN <| keq rfl rfl (beq_iff_eq.2 (by omega)) <| kas rfl <| RunK.nil <| LWP.condT rfl ?_; refine LWP.seq <| rgN <| K.build rfl rfl (by exact rfl) (by exact nl4 rfl rfl rfl rfl rfl) .plain ?_; refine K.storeAll rfl rfl rfl rfl rfl rfl .plain ?_; refine RunK.nil <| LWP.ret ?_)
    exact ⟨[_], ⟨⟨_, _, rfl, rfl, rfl, .inl ⟨AggT.h, rfl⟩⟩, trivial⟩, rfl⟩
  · (refine LWP.seq <| rgN <| K.alloc rfl .plain ?_; refine RunK.nil <| LWP.seq <| LWP.seq <| rgN <| kmv rfl <| RunK.nil <| LWP.block <| LWP.seq <| rgN <| keq rfl rfl (beq_eq_false_iff_ne.2 (by omega)) <| kas rfl <| RunK.nil <| LWP.condF rfl ?_; refine LWP.seq <| rgN <| keq rfl rfl (beq_eq_false_iff_ne.2 (by omega)) <| kas rfl <| RunK.nil <| LWP.condF rfl ?_; refine LWP.seq <| rgN <| keq rfl rfl (beq_iff_eq.2 (by omega)) <| kas rfl <| RunK.nil <| LWP.condT rfl ?_; refine LWP.seq <| rgN <| K.build rfl rfl (by exact rfl) (by exact nl4 rfl rfl rfl rfl rfl) .plain ?_; refine K.storeAll rfl rfl rfl rfl rfl rfl .plain ?_; refine RunK.nil <| LWP.ret ?_)
    exact ⟨[_], ⟨⟨_, _, rfl, rfl, rfl, .inl ⟨AggT.h, rfl⟩⟩, trivial⟩, rfl⟩
  · (refine LWP.seq <| rgN <| K.alloc rfl .plain ?_; refine RunK.nil <| LWP.seq <| LWP.seq <| rgN <| kmv rfl <| RunK.nil <| LWP.block <| LWP.seq <| rgN <| keq rfl rfl (beq_eq_false_iff_ne.2 (by omega)) <| kas rfl <| RunK.nil <| LWP.condF rfl ?_; refine LWP.seq <| rgN <| keq rfl rfl (beq_eq_false_iff_ne.2 (by omega)) <| kas rfl <| RunK.nil <| LWP.condF rfl ?_; refine LWP.seq <| rgN <| keq rfl rfl (beq_eq_false_iff_ne.2 (by omega)) <| kas rfl <| RunK.nil <| LWP.condF rfl ?_; refine LWP.seq <| rgN <| keq rfl rfl (beq_iff_eq.2 (by omega)) <| kas rfl <| RunK.nil <| LWP.condT rfl ?_; refine LWP.seq <| rgN <| K.build rfl rfl (by exact rfl) (by exact nl4 rfl rfl rfl rfl rfl) .plain ?_; refine K.storeAll rfl rfl rfl rfl rfl rfl .plain ?_; refine RunK.nil <| LWP.ret ?_)
    exact ⟨[_], ⟨⟨_, _, rfl, rfl, rfl, .inl ⟨AggT.h, rfl⟩⟩, trivial⟩, rfl⟩
  · (refine LWP.seq <| rgN <| K.alloc rfl .plain ?_; refine RunK.nil <| LWP.seq <| LWP.seq <| rgN <| kmv rfl <| RunK.nil <| LWP.block <| LWP.seq <| rgN <| keq rfl rfl (beq_eq_false_iff_ne.2 (by omega)) <| kas rfl <| RunK.nil <| LWP.condF rfl ?_; refine LWP.seq <| rgN <| keq rfl rfl (beq_eq_false_iff_ne.2 (by omega)) <| kas rfl <| RunK.nil <| LWP.condF rfl ?_; refine LWP.seq <| rgN <| keq rfl rfl (beq_eq_false_iff_ne.2 (by omega)) <| kas rfl <| RunK.nil <| LWP.condF rfl ?_; refine LWP.seq <| rgN <| keq rfl rfl (beq_eq_false_iff_ne.2 (by omega)) <| kas rfl <| RunK.nil <| LWP.condF rfl ?_; refine LWP.seq <| rgN <| keq rfl rfl (beq_iff_eq.2 (by omega)) <| kas rfl <| RunK.nil <| LWP.condT rfl ?_; refine LWP.seq <| rgN <| K.build rfl rfl (by exact rfl) (by exact nl4 rfl rfl rfl rfl rfl) .plain ?_; refine K.storeAll rfl rfl rfl rfl rfl rfl .plain ?_; refine RunK.nil <| LWP.ret ?_)
    exact ⟨[_], ⟨⟨_, _, rfl, rfl, rfl, .inl ⟨AggT.h, rfl⟩⟩, trivial⟩, rfl⟩
  · (refine LWP.seq <| rgN <| K.alloc rfl .plain ?_; refine RunK.nil <| LWP.seq <| LWP.seq <| rgN <| kmv rfl <| RunK.nil <| LWP.block <| LWP.seq <| rgN <| keq rfl rfl (beq_eq_false_iff_ne.2 (by omega)) <| kas rfl <| RunK.nil <| LWP.condF rfl ?_; refine LWP.seq <| rgN <| keq rfl rfl (beq_eq_false_iff_ne.2 (by omega)) <| kas rfl <| RunK.nil <| LWP.condF rfl ?_; refine LWP.seq <| rgN <| keq rfl rfl (beq_eq_false_iff_ne.2 (by omega)) <| kas rfl <| RunK.nil <| LWP.condF rfl ?_; refine LWP.seq <| rgN <| keq rfl rfl (beq_eq_false_iff_ne.2 (by omega)) <| kas rfl <| RunK.nil <| LWP.condF rfl ?_; refine LWP.seq <| rgN <| keq rfl rfl (beq_eq_false_iff_ne.2 (by omega)) <| kas rfl <| RunK.nil <| LWP.condF rfl ?_; refine LWP.seq <| rgN <| keq rfl rfl (beq_iff_eq.2 (by omega)) <| kas rfl <| RunK.nil <| LWP.condT rfl ?_; refine LWP.seq <| rgN <| K.build rfl rfl (by exact rfl) (by exact nl4 rfl rfl rfl rfl rfl) .plain ?_; refine K.storeAll rfl rfl rfl rfl rfl rfl .plain ?_; refine RunK.nil <| LWP.ret ?_)
    exact ⟨[_], ⟨⟨_, _, rfl, rfl, rfl, .inl ⟨AggT.h, rfl⟩⟩, trivial⟩, rfl⟩
  · (refine LWP.seq <| rgN <| K.alloc rfl .plain ?_; refine RunK.nil <| LWP.seq <| LWP.seq <| rgN <| kmv rfl <| RunK.nil <| LWP.block <| LWP.seq <| rgN <| keq rfl rfl (beq_eq_false_iff_ne.2 (by omega)) <| kas rfl <| RunK.nil <| LWP.condF rfl ?_; refine LWP.seq <| rgN <| keq rfl rfl (beq_eq_false_iff_ne.2 (by omega)) <| kas rfl <| RunK.nil <| LWP.condF rfl ?_; refine LWP.seq <| rgN <| keq rfl rfl (beq_eq_false_iff_ne.2 (by omega)) <| kas rfl <| RunK.nil <| LWP.condF rfl ?_; refine LWP.seq <| rgN <| keq rfl rfl (beq_eq_false_iff_ne.2 (by omega)) <| kas rfl <| RunK.nil <| LWP.condF rfl ?_; refine LWP.seq <| rgN <| keq rfl rfl (beq_eq_false_iff_ne.2 (by omega)) <| kas rfl <| RunK.nil <| LWP.condF rfl ?_; refine LWP.seq <| rgN <| keq rfl rfl (beq_eq_false_iff_ne.2 (by omega)) <| kas rfl <| RunK.nil <| LWP.condF rfl ?_; refine LWP.seq <| rgN <| keq rfl rfl (beq_iff_eq.2 (by omega)) <| kas rfl <| RunK.nil <| LWP.condT rfl ?_; refine LWP.seq <| rgN <| K.build rfl rfl (by exact rfl) (by exact nl4 rfl rfl rfl rfl rfl) .plain ?_; refine K.storeAll rfl rfl rfl rfl rfl rfl .plain ?_; refine RunK.nil <| LWP.ret ?_)
    exact ⟨[_], ⟨⟨_, _, rfl, rfl, rfl, .inl ⟨AggT.h, rfl⟩⟩, trivial⟩, rfl⟩
  · (refine LWP.seq <| rgN <| K.alloc rfl .plain ?_; refine RunK.nil <| LWP.seq <| LWP.seq <| rgN <| kmv rfl <| RunK.nil <| LWP.block <| LWP.seq <| rgN <| keq rfl rfl (beq_eq_false_iff_ne.2 (by omega)) <| kas rfl <| RunK.nil <| LWP.condF rfl ?_; refine LWP.seq <| rgN <| keq rfl rfl (beq_eq_false_iff_ne.2 (by omega)) <| kas rfl <| RunK.nil <| LWP.condF rfl ?_; refine LWP.seq <| rgN <| keq rfl rfl (beq_eq_false_iff_ne.2 (by omega)) <| kas rfl <| RunK.nil <| LWP.condF rfl ?_; refine LWP.seq <| rgN <| keq rfl rfl (beq_eq_false_iff_ne.2 (by omega)) <| kas rfl <| RunK.nil <| LWP.condF rfl ?_; refine LWP.seq <| rgN <| keq rfl rfl (beq_eq_false_iff_ne.2 (by omega)) <| kas rfl <| RunK.nil <| LWP.condF rfl ?_; refine LWP.seq <| rgN <| keq rfl rfl (beq_eq_false_iff_ne.2 (by omega)) <| kas rfl <| RunK.nil <| LWP.condF rfl ?_; refine LWP.seq <| rgN <| keq rfl rfl (beq_eq_false_iff_ne.2 (by omega)) <| kas rfl <| RunK.nil <| LWP.condF rfl ?_; refine LWP.seq <| rgN <| keq rfl rfl (beq_iff_eq.2 (by omega)) <| kas rfl <| RunK.nil <| LWP.condT rfl ?_; refine LWP.seq <| rgN <| K.build rfl rfl (by exact rfl) (by exact nl4 rfl rfl rfl rfl rfl) .plain ?_; refine K.storeAll rfl rfl rfl rfl rfl rfl .plain ?_; refine RunK.nil <| LWP.ret ?_)
    exact ⟨[_], ⟨⟨_, _, rfl, rfl, rfl, .inl ⟨AggT.h, rfl⟩⟩, trivial⟩, rfl⟩
  · (refine LWP.seq <| rgN <| K.alloc rfl .plain ?_; refine RunK.nil <| LWP.seq <| LWP.seq <| rgN <| kmv rfl <| RunK.nil <| LWP.block <| LWP.seq <| rgN <| keq rfl rfl (beq_eq_false_iff_ne.2 (by omega)) <| kas rfl <| RunK.nil <| LWP.condF rfl ?_; refine LWP.seq <| rgN <| keq rfl rfl (beq_eq_false_iff_ne.2 (by omega)) <| kas rfl <| RunK.nil <| LWP.condF rfl ?_; refine LWP.seq <| rgN <| keq rfl rfl (beq_eq_false_iff_ne.2 (by omega)) <| kas rfl <| RunK.nil <| LWP.condF rfl ?_; refine LWP.seq <| rgN <| keq rfl rfl (beq_eq_false_iff_ne.2 (by omega)) <| kas rfl <| RunK.nil <| LWP.condF rfl ?_; refine LWP.seq <| rgN <| keq rfl rfl (beq_eq_false_iff_ne.2 (by omega)) <| kas rfl <| RunK.nil <| LWP.condF rfl ?_; refine LWP.seq <| rgN <| keq rfl rfl (beq_eq_false_iff_ne.2 (by omega)) <| kas rfl <| RunK.nil <| LWP.condF rfl ?_; refine LWP.seq <| rgN <| keq rfl rfl (beq_eq_false_iff_ne.2 (by omega)) <| kas rfl <| RunK.nil <| LWP.condF rfl ?_; refine LWP.seq <| rgN <| keq rfl rfl (beq_eq_false_iff_ne.2 (by omega)) <| kas rfl <| RunK.nil <| LWP.condF rfl ?_; refine LWP.seq <| rgN <| keq rfl rfl (beq_iff_eq.2 (by omega)) <| kas rfl <| RunK.nil <| LWP.condT rfl ?_; refine LWP.seq <| rgN <| K.build rfl rfl (by exact rfl) (by exact nl4 rfl rfl rfl rfl rfl) .plain ?_; refine K.storeAll rfl rfl rfl rfl rfl rfl .plain ?_; refine RunK.nil <| LWP.ret ?_)
    exact ⟨[_], ⟨⟨_, _, rfl, rfl, rfl, .inl ⟨AggT.h, rfl⟩⟩, trivial⟩, rfl⟩
  · (refine LWP.seq <| rgN <| K.alloc rfl .plain ?_; refine RunK.nil <| LWP.seq <| LWP.seq <| rgN <| kmv rfl <| RunK.nil <| LWP.block <| LWP.seq <| rgN <| keq rfl rfl (beq_eq_false_iff_ne.2 (by omega)) <| kas rfl <| RunK.nil <| LWP.condF rfl ?_; refine LWP.seq <| rgN <| keq rfl rfl (beq_eq_false_iff_ne.2 (by omega)) <| kas rfl <| RunK.nil <| LWP.condF rfl ?_; refine LWP.seq <| rgN <| keq rfl rfl (beq_eq_false_iff_ne.2 (by omega)) <| kas rfl <| RunK.nil <| LWP.condF rfl ?_; refine LWP.seq <| rgN <| keq rfl rfl (beq_eq_false_iff_ne.2 (by omega)) <| kas rfl <| RunK.nil <| LWP.condF rfl ?_; refine LWP.seq <| rgN <| keq rfl rfl (beq_eq_false_iff_ne.2 (by omega)) <| kas rfl <| RunK.nil <| LWP.condF rfl ?_; refine LWP.seq <| rgN <| keq rfl rfl (beq_eq_false_iff_ne.2 (by omega)) <| kas rfl <| RunK.nil <| LWP.condF rfl ?_; refine LWP.seq <| rgN <| keq rfl rfl (beq_eq_false_iff_ne.2 (by omega)) <| kas rfl <| RunK.nil <| LWP.condF rfl ?_; refine LWP.seq <| rgN <| keq rfl rfl (beq_eq_false_iff_ne.2 (by omega)) <| kas rfl <| RunK.nil <| LWP.condF rfl ?_; refine LWP.seq <| rgN <| keq rfl rfl (beq_eq_false_iff_ne.2 (by omega)) <| kas rfl <| RunK.nil <| LWP.condF rfl ?_; refine LWP.seq <| rgN <| keq rfl rfl (beq_iff_eq.2 (by omega)) <| kas rfl <| RunK.nil <| LWP.condT rfl ?_; refine LWP.seq <| rgN <| K.build rfl rfl (by exact rfl) (by exact nl4 rfl rfl rfl rfl rfl) .plain ?_; refine K.storeAll rfl rfl rfl rfl rfl rfl .plain ?_; refine RunK.nil <| LWP.ret ?_)
    exact ⟨[_], ⟨⟨_, _, rfl, rfl, rfl, .inl ⟨AggT.h, rfl⟩⟩, trivial⟩, rfl⟩
  · rw [kN_no h, kW_no h, kB_no h, kA_no h]
    (refine LWP.seq <| rgN <| K.alloc rfl .plain ?_; refine RunK.nil <| LWP.seq <| LWP.seq <| rgN <| kmv rfl <| RunK.nil <| LWP.block <| LWP.seq <| rgN <| keq rfl rfl (beq_eq_false_iff_ne.2 (by omega)) <| kas rfl <| RunK.nil <| LWP.condF rfl ?_; refine LWP.seq <| rgN <| keq rfl rfl (beq_eq_false_iff_ne.2 (by omega)) <| kas rfl <| RunK.nil <| LWP.condF rfl ?_; refine LWP.seq <| rgN <| keq rfl rfl (beq_eq_false_iff_ne.2 (by omega)) <| kas rfl <| RunK.nil <| LWP.condF rfl ?_; refine LWP.seq <| rgN <| keq rfl rfl (beq_eq_false_iff_ne.2 (by omega)) <| kas rfl <| RunK.nil <| LWP.condF rfl ?_; refine LWP.seq <| rgN <| keq rfl rfl (beq_eq_false_iff_ne.2 (by omega)) <| kas rfl <| RunK.nil <| LWP.condF rfl ?_; refine LWP.seq <| rgN <| keq rfl rfl (beq_eq_false_iff_ne.2 (by omega)) <| kas rfl <| RunK.nil <| LWP.condF rfl ?_; refine LWP.seq <| rgN <| keq rfl rfl (beq_eq_false_iff_ne.2 (by omega)) <| kas rfl <| RunK.nil <| LWP.condF rfl ?_; refine LWP.seq <| rgN <| keq rfl rfl (beq_eq_false_iff_ne.2 (by omega)) <| kas rfl <| RunK.nil <| LWP.condF rfl ?_; refine LWP.seq <| rgN <| keq rfl rfl (beq_eq_false_iff_ne.2 (by omega)) <| kas rfl <| RunK.nil <| LWP.condF rfl ?_; refine LWP.seq <| rgN <| keq rfl rfl (beq_eq_false_iff_ne.2 (by omega)) <| kas rfl <| RunK.nil <| LWP.condF rfl ?_; refine LWP.skip ?_; refine LWP.seq <| rgN <| K.build rfl rfl (by exact rfl) (by exact nl4 rfl rfl rfl rfl rfl) .plain ?_; refine K.storeAll rfl rfl rfl rfl rfl rfl .plain ?_; refine RunK.nil <| LWP.ret ?_)
    exact ⟨[_], ⟨⟨_, _, rfl, rfl, rfl, .inl ⟨AggT.h, rfl⟩⟩, trivial⟩, rfl⟩
theorem fSize_spec (k : Int) : PSpec Tryz.prog X 74 [Ln .i64 k] (Ln .i64 (kW k : Nat)) := by
  refine PSpec.intro Tryz.func74 rfl (by kernel_rfl) rfl rfl ?_
  intro C
  (refine LWP.seq <| rgN <| kas rfl <| RunK.nil <| LWP.seq <| rgN <| kmv rfl <| kca rfl rfl (shapeOf_spec X k) <| K.fieldOne rfl Tryz.underlying170 rfl (by kernel_rfl) rfl .plain <| kas rfl <| RunK.nil <| LWP.ret ?_)
  exact ⟨[_], ⟨rfl, trivial⟩, rfl⟩
theorem OfWord_q (n : Int) (hn : 0 ≤ n ∧ n < 18446744073709551616) : PSpec Tryz.prog X 63 [Ln .u64 n] (LQ n) := by
  have h := OfWord_spec X n
  unfold LQ LI
  rw [mg_pos hn.1, decide_eq_false (by omega), show n / 18446744073709551616 = 0 by omega, show n % 18446744073709551616 = n by omega]
  exact h
theorem Greatest_spec (k : Int) : PSpec Tryz.prog X 134 [Ln .i64 k] (LQ (kA k)) := by
  obtain ⟨_, _, h2, h3, _⟩ := kfacts k
  refine PSpec.intro Tryz.func134 rfl (by kernel_rfl) rfl rfl ?_
  intro C
  (refine LWP.seq <| rgN <| K.alloc rfl .plain ?_; refine RunK.nil <| LWP.seq <| rgN <| kmv rfl <| kca rfl rfl (shapeOf_spec X k) <| K.fieldOne rfl Tryz.underlying170 rfl (by kernel_rfl) rfl .plain <| kca rfl rfl (OfWord_q X (kA k) ⟨h2, h3⟩) <| K.storeAll rfl rfl rfl rfl rfl rfl .plain ?_; refine RunK.nil <| LWP.ret ?_)
  exact ⟨[_], ⟨⟨_, _, rfl, rfl, rfl, .inl ⟨AggT.h, rfl⟩⟩, trivial⟩, rfl⟩
theorem kB_R (k : Int) : R127 (kB k) := by
  have := kfacts k
  unfold R127; omega
theorem kBn_R (k : Int) : R127 (-kB k) := by
  have := kfacts k
  unfold R127; omega
theorem kA_R (k : Int) : R127 (kA k) := by
  have := kfacts k
  unfold R127; omega
theorem Least_spec (k : Int) : PSpec Tryz.prog X 133 [Ln .i64 k] (LQ (-kB k)) := by
  obtain ⟨h0, h1, _⟩ := kfacts k
  refine PSpec.intro Tryz.func133 rfl (by kernel_rfl) rfl rfl ?_
  intro C
  (refine LWP.seq <| rgN <| K.alloc rfl .plain ?_; refine RunK.nil <| LWP.seq <| rgN <| kmv rfl <| kca rfl rfl (shapeOf_spec X k) <| K.fieldOne rfl Tryz.underlying170 rfl (by kernel_rfl) rfl .plain <| kca rfl rfl (OfWord_q X (kB k) ⟨h0, by omega⟩) <| kca rfl rfl (Neg_q X (kB k) (kB_R k)) <| K.storeAll rfl rfl rfl rfl rfl rfl .plain ?_; refine RunK.nil <| LWP.ret ?_)
  exact ⟨[_], ⟨⟨_, _, rfl, rfl, rfl, .inl ⟨AggT.h, rfl⟩⟩, trivial⟩, rfl⟩
theorem isKind_spec (k : Int) (r : Bool) (hr : kK k = r) : PSpec Tryz.prog X 104 [Ln .i64 k] (Lb r) := by
  subst hr
  refine PSpec.intro Tryz.func104 rfl (by kernel_rfl) rfl rfl ?_
  intro C
  by_cases h1 : 1 ≤ k
  · (refine LWP.seq <| rgN <| kas rfl <| RunK.nil <| LWP.seq <| rgN <| kmv rfl <| K.leq rfl rfl (decide_eq_true (by omega)) .plain <| kmv rfl <| gmv rfl rfl rfl <| K.leq rfl rfl rfl (.taken rfl rfl) ?_; refine kpt rfl rfl <| kas rfl <| RunK.nil <| LWP.ret ?_)
    exact ⟨[_], ⟨rfl, trivial⟩, by unfold kK; rw [decide_eq_true h1]; rfl⟩
  · (refine LWP.seq <| rgN <| kas rfl <| RunK.nil <| LWP.seq <| rgN <| kmv rfl <| K.leq rfl rfl (decide_eq_false (by omega)) .plain <| kmv rfl <| RunK.passed rfl rfl rfl <| RunK.passed rfl rfl rfl <| kpf rfl rfl <| kas rfl <| RunK.nil ?_; refine LWP.ret ?_)
    exact ⟨[_], ⟨rfl, trivial⟩, by unfold kK; rw [decide_eq_false h1]; rfl⟩
end Go.Proofs.YtbpdbclndfmcgaaGreatDoor
end
section
namespace Go.Lg.Fld
open Go Go.Lg
def clampK (k x : Int) : Int := if x < -kB k then -kB k else if kA k < x then kA k else x
def fitZ (k x : Int) : Bool := decide (-kB k ≤ x) && decide (x ≤ kA k)
theorem fitZ_iff (k x : Int) : fitZ k x = true ↔ -kB k ≤ x ∧ x ≤ kA k := by simp only [fitZ, Bool.and_eq_true, decide_eq_true_eq]
theorem clamp_same (k x : Int) : decide (clampK k x = x) = fitZ k x := by
  obtain ⟨h0, _, h2, _, _⟩ := kfacts k
  rw [Bool.eq_iff_iff, decide_eq_true_eq, fitZ_iff]
  unfold clampK
  (repeat' split) <;> omega
end Go.Lg.Fld
namespace Go.Proofs.YtbpdbclndfmcgaaGreatDoor
open Go Go.Lg Go.Lg.Fld
set_option maxRecDepth 100000
variable (X : Nat → Option Obj)
theorem Clamp_bad (k : Int) (b : Bool) (N : Int) (hN : In2 N) (hf : formB b N = false) : PSpec Tryz.prog X 119 [Ln .i64 k, LI b N] (.sv S0) := by
  refine PSpec.intro Tryz.func119 rfl (by kernel_rfl) rfl rfl ?_
  intro C
  (refine LWP.seq <| rgN <| K.box rfl rfl rfl .plain <| K.alloc rfl .plain ?_; refine RunK.nil <| LWP.seq <| rgN <| kmv rfl <| kca rfl rfl (Least_spec X k) <| kmv rfl <| kca rfl rfl (Greatest_spec X k) <| K.alloc rfl .plain ?_; refine K.alloc rfl .plain ?_; refine K.storeAll rfl rfl rfl rfl rfl rfl .plain ?_; refine K.storeAll rfl rfl rfl rfl rfl rfl .plain ?_; refine RunK.nil <| LWP.seq <| LWP.block <| LWP.seq <| rgN <| K.loadAll rfl rfl rfl .plain ?_; refine kca rfl rfl (Form_spec X b N hN false hf) <| K.not rfl rfl .plain <| kas rfl <| RunK.nil <| LWP.condT rfl ?_; refine LWP.seq <| rgN <| K.build rfl rfl (by exact rfl) (by exact nl3 rfl rfl rfl rfl) .plain ?_; refine K.storeAll rfl rfl rfl rfl rfl rfl .plain ?_; refine RunK.nil <| LWP.ret ?_)
  exact ⟨[_], ⟨⟨_, _, rfl, rfl, rfl, .inl ⟨AggT.h, rfl⟩⟩, trivial⟩, rfl⟩
theorem Clamp_spec (k x : Int) (hx : R127 x) : PSpec Tryz.prog X 119 [Ln .i64 k, LQ x] (LQ (clampK k x)) := by
  have hF := Form_spec X (decide (x < 0)) (mg x) (mg_in2 hx) true (formB_q hx)
  have c1 := Cmp_q X x (-kB k) hx (kBn_R k)
  have c2 := Cmp_q X x (kA k) hx (kA_R k)
  have hL := Least_spec X k
  have hG := Greatest_spec X k
  have hk := kfacts k
  refine PSpec.intro Tryz.func119 rfl (by kernel_rfl) rfl rfl ?_
  intro C
  by_cases h1 : x < -kB k
  · have e : clampK k x = -kB k := if_pos h1
    rw [e]
    have c1' := c1 (-1) (by unfold cmpI; rw [if_pos h1])
    (refine LWP.seq <| rgN <| K.box rfl rfl rfl .plain <| K.alloc rfl .plain ?_; refine RunK.nil <| LWP.seq <| rgN <| kmv rfl <| kca rfl rfl (hL) <| kmv rfl <| kca rfl rfl (hG) <| K.alloc rfl .plain ?_; refine K.alloc rfl .plain ?_; refine K.storeAll rfl rfl rfl rfl rfl rfl .plain ?_; refine K.storeAll rfl rfl rfl rfl rfl rfl .plain ?_; refine RunK.nil <| LWP.seq <| LWP.block <| LWP.seq <| rgN <| K.loadAll rfl rfl rfl .plain ?_; refine kca rfl rfl (hF) <| K.not rfl rfl .plain <| kas rfl <| RunK.nil <| LWP.condF rfl ?_; refine LWP.seq <| rgN <| K.loadAll rfl rfl rfl .plain ?_; refine K.loadAll rfl rfl rfl .plain ?_; refine kca rfl rfl (c1') <| klt rfl rfl (decide_eq_true (by omega)) <| kas rfl <| RunK.nil <| LWP.condT rfl ?_; refine LWP.seq <| rgN <| K.loadAll rfl rfl rfl .plain ?_; refine K.storeAll rfl rfl rfl rfl rfl rfl .plain ?_; refine RunK.nil <| LWP.ret ?_)
    exact ⟨[_], ⟨⟨_, _, rfl, rfl, rfl, .inl ⟨AggT.h, rfl⟩⟩, trivial⟩, rfl⟩
  · have c1' : ∃ r : Int, 0 ≤ r ∧ cmpI x (-kB k) = r := ⟨_, (by unfold cmpI; rw [if_neg h1]; split <;> decide), rfl⟩
    obtain ⟨r, hr0, hr⟩ := c1'
    have c1' := c1 r hr
    by_cases h2 : kA k < x
    · have e : clampK k x = kA k := by unfold clampK; rw [if_neg h1, if_pos h2]
      rw [e]
      have c2' := c2 1 (by unfold cmpI; rw [if_neg (show ¬ x < kA k by omega), if_pos h2])
      (refine LWP.seq <| rgN <| K.box rfl rfl rfl .plain <| K.alloc rfl .plain ?_; refine RunK.nil <| LWP.seq <| rgN <| kmv rfl <| kca rfl rfl (hL) <| kmv rfl <| kca rfl rfl (hG) <| K.alloc rfl .plain ?_; refine K.alloc rfl .plain ?_; refine K.storeAll rfl rfl rfl rfl rfl rfl .plain ?_; refine K.storeAll rfl rfl rfl rfl rfl rfl .plain ?_; refine RunK.nil <| LWP.seq <| LWP.block <| LWP.seq <| rgN <| K.loadAll rfl rfl rfl .plain ?_; refine kca rfl rfl (hF) <| K.not rfl rfl .plain <| kas rfl <| RunK.nil <| LWP.condF rfl ?_; refine LWP.seq <| rgN <| K.loadAll rfl rfl rfl .plain ?_; refine K.loadAll rfl rfl rfl .plain ?_; refine kca rfl rfl c1' <| klt rfl rfl (decide_eq_false (by omega)) <| kas rfl <| RunK.nil <| LWP.condF rfl ?_; refine LWP.seq <| rgN <| K.loadAll rfl rfl rfl .plain ?_; refine K.loadAll rfl rfl rfl .plain ?_; refine kca rfl rfl c2' <| K.gtr rfl rfl (decide_eq_true (by omega)) .plain <| kas rfl <| RunK.nil <| LWP.condT rfl ?_; refine LWP.seq <| rgN <| K.loadAll rfl rfl rfl .plain ?_; refine K.storeAll rfl rfl rfl rfl rfl rfl .plain ?_; refine RunK.nil <| LWP.ret ?_)
      exact ⟨[_], ⟨⟨_, _, rfl, rfl, rfl, .inl ⟨AggT.h, rfl⟩⟩, trivial⟩, rfl⟩
    · have e : clampK k x = x := by unfold clampK; rw [if_neg h1, if_neg h2]
      rw [e]
      obtain ⟨s, hs0, hs⟩ : ∃ s : Int, s ≤ 0 ∧ cmpI x (kA k) = s := ⟨_, (by unfold cmpI; rw [if_neg h2]; split <;> decide), rfl⟩
      have c2' := c2 s hs
      (refine LWP.seq <| rgN <| K.box rfl rfl rfl .plain <| K.alloc rfl .plain ?_; refine RunK.nil <| LWP.seq <| rgN <| kmv rfl <| kca rfl rfl (hL) <| kmv rfl <| kca rfl rfl (hG) <| K.alloc rfl .plain ?_; refine K.alloc rfl .plain ?_; refine K.storeAll rfl rfl rfl rfl rfl rfl .plain ?_; refine K.storeAll rfl rfl rfl rfl rfl rfl .plain ?_; refine RunK.nil <| LWP.seq <| LWP.block <| LWP.seq <| rgN <| K.loadAll rfl rfl rfl .plain ?_; refine kca rfl rfl (hF) <| K.not rfl rfl .plain <| kas rfl <| RunK.nil <| LWP.condF rfl ?_; refine LWP.seq <| rgN <| K.loadAll rfl rfl rfl .plain ?_; refine K.loadAll rfl rfl rfl .plain ?_; refine kca rfl rfl c1' <| klt rfl rfl (decide_eq_false (by omega)) <| kas rfl <| RunK.nil <| LWP.condF rfl ?_; refine LWP.seq <| rgN <| K.loadAll rfl rfl rfl .plain ?_; refine K.loadAll rfl rfl rfl .plain ?_; refine kca rfl rfl c2' <| K.gtr rfl rfl (decide_eq_false (by omega)) .plain <| kas rfl <| RunK.nil <| LWP.condF rfl ?_; refine LWP.skip ?_; refine LWP.seq <| rgN <| K.loadAll rfl rfl rfl .plain ?_; refine K.storeAll rfl rfl rfl rfl rfl rfl .plain ?_; refine RunK.nil <| LWP.ret ?_)
      exact ⟨[_], ⟨⟨_, _, rfl, rfl, rfl, .inl ⟨AggT.h, rfl⟩⟩, trivial⟩, rfl⟩
def fitB (k : Int) (b : Bool) (N : Int) : Bool := kK k && (formB b N && fitZ k (zv b N))
theorem Fits_no (k : Int) (b : Bool) (N : Int) (hk : kK k = false) : PSpec Tryz.prog X 103 [Ln .i64 k, LI b N] (Lb false) := by
  refine PSpec.intro Tryz.func103 rfl (by kernel_rfl) rfl rfl ?_
  intro C
  (refine LWP.seq <| rgN <| K.box rfl rfl rfl .plain <| kas rfl <| RunK.nil <| LWP.seq <| rgD mixed <| kmv rfl <| kca rfl rfl (isKind_spec X k false hk) <| kmv rfl <| RunK.passed rfl rfl rfl <| RunK.passed rfl rfl rfl <| RunK.passed rfl rfl rfl <| RunK.passed rfl rfl rfl ?_; refine RunK.passed rfl rfl rfl <| kpf rfl rfl <| kas rfl <| RunK.nil <| rgA ?_; refine LWP.ret ?_)
  exact ⟨[_], ⟨rfl, trivial⟩, rfl⟩
theorem Fits_bad (k : Int) (b : Bool) (N : Int) (hk : kK k = true) (hN : In2 N) (hf : formB b N = false) : PSpec Tryz.prog X 103 [Ln .i64 k, LI b N] (Lb false) := by
  have hC := Clamp_bad X k b N hN hf
  have hq : (false == b && ((0 : Int) == N / 18446744073709551616 && (0 : Int) == N % 18446744073709551616)) = false := by
    cases hb : (false == b && ((0 : Int) == N / 18446744073709551616 && (0 : Int) == N % 18446744073709551616)) with
    | false => rfl
    | true =>
      simp only [Bool.and_eq_true, beq_iff_eq] at hb
      obtain ⟨rfl, h1, h2⟩ := hb
      have : N = 0 := by omega
      subst this
      cases hf
  refine PSpec.intro Tryz.func103 rfl (by kernel_rfl) rfl rfl ?_
  intro C
  (refine LWP.seq <| rgN <| K.box rfl rfl rfl .plain <| kas rfl <| RunK.nil <| LWP.seq <| rgD mixed <| kmv rfl <| kca rfl rfl (isKind_spec X k true hk) <| kmv rfl <| gmv rfl rfl rfl <| K.loadAll rfl rfl rfl (.taken rfl rfl) ?_; refine gca rfl rfl (hC) rfl rfl <| K.loadAll rfl rfl rfl (.taken rfl rfl) ?_; refine K.aggEq rfl rfl rfl rfl (by kernel_rfl) (eqI false hq) (.inl ⟨rfl, rfl⟩) (.taken rfl rfl) ?_; refine kpt rfl rfl <| kas rfl <| RunK.nil <| rgA ?_; refine LWP.ret ?_)
  exact ⟨[_], ⟨rfl, trivial⟩, rfl⟩
theorem Fits_q (k x : Int) (hk : kK k = true) (hx : R127 x) (r : Bool) (hr : fitZ k x = r) : PSpec Tryz.prog X 103 [Ln .i64 k, LQ x] (Lb r) := by
  have hC := Clamp_spec X k x hx
  have hq := clamp_same k x
  rw [hr] at hq
  refine PSpec.intro Tryz.func103 rfl (by kernel_rfl) rfl rfl ?_
  intro C
  (refine LWP.seq <| rgN <| K.box rfl rfl rfl .plain <| kas rfl <| RunK.nil <| LWP.seq <| rgD mixed <| kmv rfl <| kca rfl rfl (isKind_spec X k true hk) <| kmv rfl <| gmv rfl rfl rfl <| K.loadAll rfl rfl rfl (.taken rfl rfl) ?_; refine gca rfl rfl (hC) rfl rfl <| K.loadAll rfl rfl rfl (.taken rfl rfl) ?_; refine K.aggEq rfl rfl rfl rfl (by kernel_rfl) (eqQ _ _ r hq) (.inl ⟨rfl, rfl⟩) (.taken rfl rfl) ?_; refine kpt rfl rfl <| kas rfl <| RunK.nil <| rgA ?_; refine LWP.ret ?_)
  exact ⟨[_], ⟨rfl, trivial⟩, rfl⟩
theorem Fits_spec (k : Int) (b : Bool) (N : Int) (hN : In2 N) (r : Bool) (hr : fitB k b N = r) : PSpec Tryz.prog X 103 [Ln .i64 k, LI b N] (Lb r) := by
  subst hr
  unfold fitB
  cases hk : kK k with
  | false => exact Fits_no X k b N hk
  | true =>
    cases hf : formB b N with
    | false => exact Fits_bad X k b N hk hN hf
    | true =>
      rw [LI_q hN hf]
      exact Fits_q X k (zv b N) hk (zv_in hN hf).1 _ rfl
end Go.Proofs.YtbpdbclndfmcgaaGreatDoor
end
section
namespace Go.Lg.Fld
open Go Go.Lg
def kM (k : Int) : Nat := 256 ^ kW k
def wdK (k x : Int) : Nat := (x % (kM k : Int)).toNat
theorem kM_facts {k : Int} (h : kK k = true) : kB k + kA k < (kM k : Int) ∧ (kM k : Int) ≤ 18446744073709551616 ∧ 0 < kM k := by
  rcases kin h with rfl | rfl | rfl | rfl | rfl | rfl | rfl | rfl | rfl | rfl <;> decide
theorem wd_lt {k : Int} (h : kK k = true) (x : Int) : wdK k x < 256 ^ kW k := by
  have := kM_facts h
  have h1 := Int.emod_nonneg x (show (kM k : Int) ≠ 0 by omega)
  have h2 := Int.emod_lt_of_pos x (show 0 < (kM k : Int) by omega)
  show wdK k x < kM k
  unfold wdK
  omega
theorem wd_of {k x : Int} (h : kK k = true) (hx : fitZ k x = true) : (wdK k x : Int) = if x < 0 then x + kM k else x := by
  obtain ⟨h1, h2, h3⟩ := kM_facts h
  obtain ⟨f1, f2, f3, f4, _⟩ := kfacts k
  obtain ⟨x1, x2⟩ := (fitZ_iff k x).1 hx
  unfold wdK
  by_cases c : x < 0
  · rw [if_pos c]
    have e : x % (kM k : Int) = x + kM k := by
      rw [← Int.add_emod_right]
      exact Int.emod_eq_of_lt (by omega) (by omega)
    rw [e]; omega
  · rw [if_neg c, Int.emod_eq_of_lt (by omega) (by omega)]; omega
end Go.Lg.Fld
namespace Go.Proofs.YtbpdbclndfmcgaaGreatDoor
open Go Go.Lg Go.Lg.Fld
set_option maxRecDepth 100000
variable (X : Nat → Option Obj)
theorem fit_R {k x : Int} (h : fitZ k x = true) : R127 x := by
  have := kfacts k
  rw [fitZ_iff] at h
  unfold R127; omega
theorem opposite_1 (k : Int) (hk : kW k = 1) (v : Int) (hv : 0 ≤ v ∧ v < 18446744073709551616) : PSpec Tryz.prog X 123 [Ln .i64 k, Ln .u64 v] (Ln .u64 ((-v) % ((256 ^ 1 : Nat) : Int))) := by
  have hS := fSize_spec X k
  rw [hk] at hS
  have p1 : ((2 : Int) ^ (min (Int.toNat 56) IntKind.u64.bits)) = 72057594037927936 := by decide
  have p2 : ((256 ^ 1 : Nat) : Int) = 256 := by decide
  rw [p2]
  have n1 : IntKind.u64.wrap (0 - v) = (0 - v) % 18446744073709551616 := by rw [IntKind.wrap_u64]
  have s1 : IntKind.u64.wrap ((0 - v) % 18446744073709551616 * (2 : Int) ^ (min (Int.toNat 56) IntKind.u64.bits)) = (0 - v) % 18446744073709551616 * 72057594037927936 % 18446744073709551616 := by rw [p1, IntKind.wrap_u64]
  have s2 : ((0 - v) % 18446744073709551616 * 72057594037927936 % 18446744073709551616).fdiv ((2 : Int) ^ (min (Int.toNat 56) IntKind.u64.bits)) = (-v) % 256 := by
    rw [p1, Int.fdiv_eq_ediv_of_nonneg _ (by decide)]
    omega
  refine PSpec.intro Tryz.func123 rfl (by kernel_rfl) rfl rfl ?_
  intro C
  (refine LWP.seq <| rgN <| kas rfl <| RunK.nil <| LWP.seq <| rgN <| kmv rfl <| kca rfl rfl (hS) <| K.mul rfl rfl (c := 8) rfl .plain <| K.sub rfl rfl (c := 56) rfl .plain <| kas rfl <| RunK.nil <| LWP.seq <| rgN ?_; refine kmv rfl <| K.neg rfl n1 .plain <| kmv rfl <| K.shl rfl rfl (by decide) s1 .plain <| kmv rfl <| K.shr rfl rfl (by decide) s2 .plain <| kas rfl <| RunK.nil <| LWP.ret ?_)
  exact ⟨[_], ⟨rfl, trivial⟩, rfl⟩
theorem opposite_2 (k : Int) (hk : kW k = 2) (v : Int) (hv : 0 ≤ v ∧ v < 18446744073709551616) : PSpec Tryz.prog X 123 [Ln .i64 k, Ln .u64 v] (Ln .u64 ((-v) % ((256 ^ 2 : Nat) : Int))) := by
  have hS := fSize_spec X k
  rw [hk] at hS
  have p1 : ((2 : Int) ^ (min (Int.toNat 48) IntKind.u64.bits)) = 281474976710656 := by decide
  have p2 : ((256 ^ 2 : Nat) : Int) = 65536 := by decide
  rw [p2]
  have n1 : IntKind.u64.wrap (0 - v) = (0 - v) % 18446744073709551616 := by rw [IntKind.wrap_u64]
  have s1 : IntKind.u64.wrap ((0 - v) % 18446744073709551616 * (2 : Int) ^ (min (Int.toNat 48) IntKind.u64.bits)) = (0 - v) % 18446744073709551616 * 281474976710656 % 18446744073709551616 := by rw [p1, IntKind.wrap_u64]
  have s2 : ((0 - v) % 18446744073709551616 * 281474976710656 % 18446744073709551616).fdiv ((2 : Int) ^ (min (Int.toNat 48) IntKind.u64.bits)) = (-v) % 65536 := by
    rw [p1, Int.fdiv_eq_ediv_of_nonneg _ (by decide)]
    omega
  refine PSpec.intro Tryz.func123 rfl (by kernel_rfl) rfl rfl ?_
  intro C
  (refine LWP.seq <| rgN <| kas rfl <| RunK.nil <| LWP.seq <| rgN <| kmv rfl <| kca rfl rfl (hS) <| K.mul rfl rfl (c := 16) rfl .plain <| K.sub rfl rfl (c := 48) rfl .plain <| kas rfl <| RunK.nil <| LWP.seq <| rgN ?_; refine kmv rfl <| K.neg rfl n1 .plain <| kmv rfl <| K.shl rfl rfl (by decide) s1 .plain <| kmv rfl <| K.shr rfl rfl (by decide) s2 .plain <| kas rfl <| RunK.nil <| LWP.ret ?_)
  exact ⟨[_], ⟨rfl, trivial⟩, rfl⟩
theorem opposite_4 (k : Int) (hk : kW k = 4) (v : Int) (hv : 0 ≤ v ∧ v < 18446744073709551616) : PSpec Tryz.prog X 123 [Ln .i64 k, Ln .u64 v] (Ln .u64 ((-v) % ((256 ^ 4 : Nat) : Int))) := by
  have hS := fSize_spec X k
  rw [hk] at hS
  have p1 : ((2 : Int) ^ (min (Int.toNat 32) IntKind.u64.bits)) = 4294967296 := by decide
  have p2 : ((256 ^ 4 : Nat) : Int) = 4294967296 := by decide
  rw [p2]
  have n1 : IntKind.u64.wrap (0 - v) = (0 - v) % 18446744073709551616 := by rw [IntKind.wrap_u64]
  have s1 : IntKind.u64.wrap ((0 - v) % 18446744073709551616 * (2 : Int) ^ (min (Int.toNat 32) IntKind.u64.bits)) = (0 - v) % 18446744073709551616 * 4294967296 % 18446744073709551616 := by rw [p1, IntKind.wrap_u64]
  have s2 : ((0 - v) % 18446744073709551616 * 4294967296 % 18446744073709551616).fdiv ((2 : Int) ^ (min (Int.toNat 32) IntKind.u64.bits)) = (-v) % 4294967296 := by
    rw [p1, Int.fdiv_eq_ediv_of_nonneg _ (by decide)]
    omega
  refine PSpec.intro Tryz.func123 rfl (by kernel_rfl) rfl rfl ?_
  intro C
  (refine LWP.seq <| rgN <| kas rfl <| RunK.nil <| LWP.seq <| rgN <| kmv rfl <| kca rfl rfl (hS) <| K.mul rfl rfl (c := 32) rfl .plain <| K.sub rfl rfl (c := 32) rfl .plain <| kas rfl <| RunK.nil <| LWP.seq <| rgN ?_; refine kmv rfl <| K.neg rfl n1 .plain <| kmv rfl <| K.shl rfl rfl (by decide) s1 .plain <| kmv rfl <| K.shr rfl rfl (by decide) s2 .plain <| kas rfl <| RunK.nil <| LWP.ret ?_)
  exact ⟨[_], ⟨rfl, trivial⟩, rfl⟩
theorem opposite_8 (k : Int) (hk : kW k = 8) (v : Int) (hv : 0 ≤ v ∧ v < 18446744073709551616) : PSpec Tryz.prog X 123 [Ln .i64 k, Ln .u64 v] (Ln .u64 ((-v) % ((256 ^ 8 : Nat) : Int))) := by
  have hS := fSize_spec X k
  rw [hk] at hS
  have p1 : ((2 : Int) ^ (min (Int.toNat 0) IntKind.u64.bits)) = 1 := by decide
  have p2 : ((256 ^ 8 : Nat) : Int) = 18446744073709551616 := by decide
  rw [p2]
  have n1 : IntKind.u64.wrap (0 - v) = (0 - v) % 18446744073709551616 := by rw [IntKind.wrap_u64]
  have s1 : IntKind.u64.wrap ((0 - v) % 18446744073709551616 * (2 : Int) ^ (min (Int.toNat 0) IntKind.u64.bits)) = (0 - v) % 18446744073709551616 * 1 % 18446744073709551616 := by rw [p1, IntKind.wrap_u64]
  have s2 : ((0 - v) % 18446744073709551616 * 1 % 18446744073709551616).fdiv ((2 : Int) ^ (min (Int.toNat 0) IntKind.u64.bits)) = (-v) % 18446744073709551616 := by
    rw [p1, Int.fdiv_eq_ediv_of_nonneg _ (by decide)]
    omega
  refine PSpec.intro Tryz.func123 rfl (by kernel_rfl) rfl rfl ?_
  intro C
  (refine LWP.seq <| rgN <| kas rfl <| RunK.nil <| LWP.seq <| rgN <| kmv rfl <| kca rfl rfl (hS) <| K.mul rfl rfl (c := 64) rfl .plain <| K.sub rfl rfl (c := 0) rfl .plain <| kas rfl <| RunK.nil <| LWP.seq <| rgN ?_; refine kmv rfl <| K.neg rfl n1 .plain <| kmv rfl <| K.shl rfl rfl (by decide) s1 .plain <| kmv rfl <| K.shr rfl rfl (by decide) s2 .plain <| kas rfl <| RunK.nil <| LWP.ret ?_)
  exact ⟨[_], ⟨rfl, trivial⟩, rfl⟩
theorem opposite_spec (k : Int) (hk : kK k = true) (v : Int) (hv : 0 ≤ v ∧ v < 18446744073709551616) (r : Int) (hr : (-v) % (kM k : Int) = r) : PSpec Tryz.prog X 123 [Ln .i64 k, Ln .u64 v] (Ln .u64 r) := by
  subst hr
  unfold kM
  rcases kW_in hk with e | e | e | e
  · rw [e]; exact opposite_1 X k e v hv
  · rw [e]; exact opposite_2 X k e v hv
  · rw [e]; exact opposite_4 X k e v hv
  · rw [e]; exact opposite_8 X k e v hv
theorem wordOf_spec (k x : Int) (hk : kK k = true) (hx : fitZ k x = true) : PSpec Tryz.prog X 106 [Ln .i64 k, LQ x] (Ln .u64 (wdK k x : Nat)) := by
  obtain ⟨h1, h2, h3⟩ := kM_facts hk
  obtain ⟨f1, f2, f3, f4, _⟩ := kfacts k
  obtain ⟨x1, x2⟩ := (fitZ_iff k x).1 hx
  have e := wd_of hk hx
  refine PSpec.intro Tryz.func106 rfl (by kernel_rfl) rfl rfl ?_
  intro C
  by_cases c : x < 0
  · have hm : mg x % 18446744073709551616 = -x := by rw [mg_neg c]; omega
    have hO := opposite_spec X k hk (-x) (by omega) (wdK k x : Nat) (by
      rw [if_pos c] at e
      rw [e, Int.neg_neg, ← Int.add_emod_right]
      exact Int.emod_eq_of_lt (by omega) (by omega))
    unfold LQ LI
    rw [hm, decide_eq_true c]
    (refine LWP.seq <| rgN <| K.box rfl rfl rfl .plain <| kas rfl <| RunK.nil <| LWP.seq <| LWP.seq <| rgN <| kfa rfl rfl ?_; refine kl1 rfl rfl rfl <| RunK.nil <| LWP.condT rfl ?_; refine LWP.seq <| rgN <| kmv rfl <| kfa rfl rfl ?_; refine kl1 rfl rfl rfl <| kca rfl rfl (hO) <| kas rfl <| RunK.nil <| LWP.ret ?_)
    exact ⟨[_], ⟨rfl, trivial⟩, rfl⟩
  · have hm : mg x % 18446744073709551616 = x := by rw [mg_pos (by omega)]; omega
    rw [if_neg c] at e
    rw [e]
    unfold LQ LI
    rw [hm, decide_eq_false c]
    (refine LWP.seq <| rgN <| K.box rfl rfl rfl .plain <| kas rfl <| RunK.nil <| LWP.seq <| LWP.seq <| rgN <| kfa rfl rfl ?_; refine kl1 rfl rfl rfl <| RunK.nil <| LWP.condF rfl ?_; refine LWP.skip ?_; refine LWP.seq <| rgN <| kfa rfl rfl ?_; refine kl1 rfl rfl rfl <| kas rfl <| RunK.nil <| LWP.ret ?_)
    exact ⟨[_], ⟨rfl, trivial⟩, rfl⟩
theorem WNum_k (k : Int) (hk : kK k = true) (n : Nat) (h : n < 256 ^ kW k) : MSpec Tryz.prog X 105 [Lp 1000000, Ln .i64 (kW k : Nat), Ln .u64 (n : Nat)] (w0 1000000) (Lb true) (w1 1000000 1000001 1000002 (leB (kW k) n)) := by
  have hn : n < 18446744073709551616 := by
    have := (kM_facts hk).2.1
    have h : n < kM k := h
    omega
  rcases kW_in hk with e | e | e | e <;> rw [e] at h ⊢
  · exact WNum_0_1 X n hn h
  · exact WNum_0_2 X n hn h
  · exact WNum_0_4 X n hn h
  · exact WNum_0_8 X n hn h
theorem Put_q (k x : Int) (hk : kK k = true) (hx : fitZ k x = true) : PSpec Tryz.prog X 84 [Ln .i64 k, LQ x] (.tup [Ss (leB (kW k) (wdK k x)), Sn .i64 0]) := by
  have hF := Fits_q X k x hk (fit_R hx) true hx
  have hW := wordOf_spec X k x hk hx
  have hN := WNum_k X k hk (wdK k x) (wd_lt hk x)
  have hS := fSize_spec X k
  refine PSpec.intro Tryz.func84 rfl (by kernel_rfl) rfl rfl ?_
  intro C
  (refine LWP.seq <| rgN <| K.box rfl rfl rfl .plain <| kas rfl <| kas rfl <| RunK.nil <| LWP.seq <| LWP.seq <| rgN <| kmv rfl <| kca rfl rfl (isKind_spec X k true hk) <| K.not rfl rfl .plain <| RunK.nil <| LWP.condF rfl ?_; refine LWP.skip ?_; refine LWP.seq <| LWP.seq <| rgN <| kmv rfl <| K.loadAll rfl rfl rfl .plain ?_; refine kca rfl rfl (hF) <| K.not rfl rfl .plain <| RunK.nil <| LWP.condF rfl ?_; refine LWP.skip ?_; refine LWP.seq <| rgN <| K.build rfl rfl (by exact rfl) (by exact nl2 rfl rfl rfl) .plain ?_; refine K.box rfl rfl rfl .plain <| kas rfl <| RunK.nil <| LWP.seq <| rgD mixed <| kmv rfl <| kmv rfl <| kca rfl rfl (hS) <| kmv rfl <| K.loadAll rfl rfl rfl .plain ?_; refine kca rfl rfl (hW) <| K.callM [(1000000, 15), (1000001, 501), (1000002, 502)] (w1 15 501 502 (leB (kW k) (wdK k x))) (hN) rfl rfl (by exact (And.intro ⟨_, rfl, rfl⟩ trivial)) (by exact (all_cons_true (all_cons_true rfl (all_cons_true rfl rfl)) rfl)) rfl rfl rfl rfl (by exact (.box rfl rfl (.box rfl rfl (.box rfl (Box.ren_bytes _ _ _ _) .nil)))) .plain <| RunK.nil <| rgA ?_; refine LWP.seq <| rgN <| kmv rfl <| K.callR [(1000000, 15), (1000001, 501), (1000002, 502)] (String_1 X (leB (kW k) (wdK k x))) rfl rfl (by exact (And.intro ⟨_, rfl, rfl⟩ (And.intro ⟨_, rfl, rfl⟩ (And.intro ⟨_, rfl, (Box.ren_bytes _ _ _ _)⟩ trivial)))) (by exact (all_cons_true (all_cons_true rfl (all_cons_true rfl rfl)) (all_cons_true (all_cons_true rfl rfl) (all_cons_true bytes_inUse rfl)))) rfl rfl rfl rfl .plain <| kas rfl <| kas rfl <| RunK.nil <| LWP.ret ?_)
  exact ⟨[_, _], ⟨rfl, rfl, trivial⟩, rfl⟩
end Go.Proofs.YtbpdbclndfmcgaaGreatDoor
end
section
namespace Go.Proofs.YtbpdbclndfmcgaaGreatDoor
open Go Go.Lg Go.Lg.Fld
set_option maxRecDepth 100000
variable (X : Nat → Option Obj)
abbrev cI (b : Bool) (n : Int) : List CV := [.val (.bool b), .val (.int .u64 (n / 18446744073709551616)), .val (.int .u64 (n % 18446744073709551616))]
end Go.Proofs.YtbpdbclndfmcgaaGreatDoor
end
section
namespace Go.Lg.Dig
open Go Go.Lg
def dg (n j : Nat) : Nat := n / 256 ^ j % 256
def dv (d : Nat) : CV := .val (.int .i64 (d : Nat))
def dlf (f : Nat → Nat) : List Nat := (List.range 40).map f
def num (b : Bool) (f : Nat → Nat) : List CV := .val (.bool b) :: (dlf f).map dv
end Go.Lg.Dig
namespace Go.Lg.Dig
open Go Go.Lg
end Go.Lg.Dig
namespace Go.Lg.Dig
end Go.Lg.Dig
namespace Go.Lg.Dig
end Go.Lg.Dig
namespace Go.Lg.Dig
open Go Go.Lg
end Go.Lg.Dig
namespace Go.Lg.Dig
open Go Go.Lg
end Go.Lg.Dig
end
section
namespace Go.Proofs.YtbpdbclndfmcgaaGreatDoor
open Go Go.Lg Go.Lg.Arith Go.Lg.Dig Go.RowKit
variable (X : Nat → Option Obj)
def two (l h i : Nat) (j : Nat) : Nat := if j < i then dg l j else if 8 ≤ j ∧ j < 8 + i then dg h (j - 8) else 0
end Go.Proofs.YtbpdbclndfmcgaaGreatDoor
end
section
namespace Go.Lg.Fld
open Go Go.Lg
end Go.Lg.Fld
namespace Go.Proofs.YtbpdbclndfmcgaaGreatDoor
open Go Go.Lg Go.Lg.Fld
set_option maxRecDepth 100000
variable (X : Nat → Option Obj)
instance : ArrB Tryz.prog 190 (List.replicate 11 (.int .i64 0)) 1 := ⟨by kernel_rfl⟩
instance : ArrB Tryz.prog 204 (List.replicate 11 (.int .u64 0)) 1 := ⟨by kernel_rfl⟩
end Go.Proofs.YtbpdbclndfmcgaaGreatDoor
end
section
namespace Go.Lg.Fld
open Go Go.Lg
structure Fl where
  nm : List UInt8
  kind : Int
  count : Int
def Fl.vals (f : Fl) : List Value := [.string ⟨f.nm.toArray⟩, .int .i64 f.kind, .int .i64 f.count]
def Fl.w (f : Fl) : Nat := kW f.kind
def Fl.n (f : Fl) : Nat := f.count.toNat
def Fl.ok (f : Fl) : Bool := kK f.kind && (decide (1 ≤ f.count) && decide (f.count ≤ 8))
def roundUp (a n : Nat) : Nat := a + (n - a % n) % n
def startsAt : Nat → List Fl → List Nat
  | _, [] => []
  | a, f :: t => roundUp a f.w :: startsAt (roundUp a f.w + f.w * f.n) t
def endAt : Nat → List Fl → Nat
  | a, [] => a
  | a, f :: t => endAt (roundUp a f.w + f.w * f.n) t
def elemsAt : Nat → List Fl → List (Int × Nat)
  | _, [] => []
  | a, f :: t => (List.range f.n).map (fun i => (f.kind, roundUp a f.w + f.w * i)) ++ elemsAt (roundUp a f.w + f.w * f.n) t
def greatW (l : List Fl) : Nat := l.foldl (fun g f => max g f.w) 1
def rowSize (l : List Fl) : Nat := roundUp (endAt 0 l) (greatW l)
def layErr (l : List Fl) : Int := if 8 < l.length then 1 else if l.all Fl.ok = true then (if 256 < rowSize l then 5 else 0) else 1
theorem starts_snoc (f : Fl) : ∀ (l : List Fl) (a : Nat), startsAt a (l ++ [f]) = startsAt a l ++ [roundUp (endAt a l) f.w]
  | [], _ => rfl
  | g :: t, a => by simp only [List.cons_append, startsAt, endAt, starts_snoc f t]
theorem end_snoc (f : Fl) : ∀ (l : List Fl) (a : Nat), endAt a (l ++ [f]) = roundUp (endAt a l) f.w + f.w * f.n
  | [], _ => rfl
  | g :: t, a => by simp only [List.cons_append, endAt, end_snoc f t]
theorem elems_snoc (f : Fl) : ∀ (l : List Fl) (a : Nat), elemsAt a (l ++ [f]) = elemsAt a l ++ (List.range f.n).map (fun i => (f.kind, roundUp (endAt a l) f.w + f.w * i))
  | [], _ => by simp [elemsAt, endAt]
  | g :: t, a => by simp only [List.cons_append, elemsAt, endAt, elems_snoc f t, List.append_assoc]
theorem great_snoc (f : Fl) (l : List Fl) : greatW (l ++ [f]) = max (greatW l) f.w := by simp [greatW, List.foldl_append]
theorem take_snoc {α : Type} {l : List α} {i : Nat} {f : α} (h : l[i]? = some f) : l.take (i + 1) = l.take i ++ [f] := by
  rw [List.take_add_one, h]; rfl
theorem ok_w {f : Fl} (h : f.ok = true) : (f.w = 1 ∨ f.w = 2 ∨ f.w = 4 ∨ f.w = 8) ∧ 1 ≤ f.n ∧ f.n ≤ 8 ∧ (f.n : Int) = f.count := by
  simp only [Fl.ok, Bool.and_eq_true, decide_eq_true_eq] at h
  refine ⟨kW_in h.1, ?_, ?_, ?_⟩ <;> unfold Fl.n <;> omega
def isWd (n : Nat) : Prop := n = 1 ∨ n = 2 ∨ n = 4 ∨ n = 8
theorem round_facts {n : Nat} (h : isWd n) (a : Nat) : roundUp a n % n = 0 ∧ a ≤ roundUp a n ∧ roundUp a n < a + n ∧ ∀ b, a ≤ b → b ≤ roundUp a n → b % n = 0 → b = roundUp a n := by
  unfold roundUp
  rcases h with rfl | rfl | rfl | rfl <;> refine ⟨by omega, by omega, by omega, fun b h1 h2 h3 => by omega⟩
theorem great_wd : ∀ (l : List Fl), l.all Fl.ok = true → isWd (greatW l) := by
  have key : ∀ (l : List Fl) (g : Nat), isWd g → l.all Fl.ok = true → isWd (l.foldl (fun g f => max g f.w) g) := by
    intro l
    induction l with
    | nil => intro g hg _; exact hg
    | cons f t ih =>
      intro g hg h
      simp only [List.all_cons, Bool.and_eq_true] at h
      refine ih _ ?_ h.2
      have hf : isWd f.w := (ok_w h.1).1
      show isWd (max g f.w)
      rcases Nat.le_total g f.w with h3 | h3
      · rw [Nat.max_eq_right h3]; exact hf
      · rw [Nat.max_eq_left h3]; exact hg
  exact fun l h => key l 1 (.inl rfl) h
theorem end_le : ∀ (l : List Fl) (a : Nat), l.all Fl.ok = true → a ≤ endAt a l ∧ endAt a l ≤ a + 72 * l.length
  | [], a, _ => by simp [endAt]
  | f :: t, a, h => by
    simp only [List.all_cons, Bool.and_eq_true] at h
    obtain ⟨hw, h1, h8, _⟩ := ok_w h.1
    have hr := round_facts hw a
    have hi := end_le t (roundUp a f.w + f.w * f.n) h.2
    have hm : f.w * f.n ≤ 64 := by rcases hw with e | e | e | e <;> rw [e] <;> omega
    have hw8 : f.w ≤ 8 := by rcases hw with e | e | e | e <;> omega
    simp only [endAt, List.length_cons]
    omega
theorem elems_len : ∀ (l : List Fl) (a : Nat), l.all Fl.ok = true → l.length ≤ (elemsAt a l).length ∧ (elemsAt a l).length ≤ 8 * l.length
  | [], a, _ => by simp [elemsAt]
  | f :: t, a, h => by
    simp only [List.all_cons, Bool.and_eq_true] at h
    obtain ⟨hw, h1, h8, _⟩ := ok_w h.1
    have hi := elems_len t (roundUp a f.w + f.w * f.n) h.2
    simp only [elemsAt, List.length_append, List.length_map, List.length_range, List.length_cons]
    omega
theorem starts_len : ∀ (l : List Fl) (a : Nat), (startsAt a l).length = l.length
  | [], _ => rfl
  | f :: t, a => by simp [startsAt, starts_len t]
def elV (e : Int × Nat) : List Value := [.int .i64 e.1, .int .i64 (e.2 : Nat)]
def elVs (l : List (Int × Nat)) : List Value := (l.map elV).flatten
theorem elVs_len (l : List (Int × Nat)) : (elVs l).length = l.length * 2 := by
  induction l with
  | nil => rfl
  | cons e t ih => simp only [elVs, List.map_cons, List.flatten_cons, List.length_append] at ih ⊢; rw [ih]; simp [elV]; omega
theorem elVs_app (l m : List (Int × Nat)) : elVs (l ++ m) = elVs l ++ elVs m := by simp [elVs]
def ntV (l : List Nat) : List Value := l.map fun n => .int .i64 (n : Nat)
structure FieldsIn (X : Nat → Option Obj) (ad : Option Addr) (fs : List Fl) : Prop where
  rows : RowsIn X ad 3 (fs.map Fl.vals)
  small : ∀ f ∈ fs, (-9223372036854775808 ≤ f.kind ∧ f.kind < 9223372036854775808) ∧ (-9223372036854775808 ≤ f.count ∧ f.count < 9223372036854775808)
theorem FieldsIn.at {X : Nat → Option Obj} {ad : Option Addr} {fs : List Fl} (h : FieldsIn X ad fs) {i : Nat} {f : Fl} (hf : fs[i]? = some f) :
    ∃ (blk off : Nat) (arr : Array Value) (el : TypeId) (fr : Nat × Nat), ad = some ⟨blk, off, none⟩ ∧ X blk = some (.cells arr el fr) ∧ off + i * 3 + 3 ≤ arr.size ∧ ((arr.toList.drop (off + i * 3)).take 3).map CV.val = f.vals.map CV.val := by
  obtain ⟨blk, off, arr, el, fr, h1, h2, h3, h4⟩ := h.rows i f.vals (by rw [List.getElem?_map, hf]; rfl)
  exact ⟨blk, off, arr, el, fr, h1, h2, h3, by rw [h4]⟩
end Go.Lg.Fld
end
section
namespace Go.Proofs.YtbpdbclndfmcgaaGreatDoor
open Go Go.Lg Go.Lg.Fld
set_option maxRecDepth 100000
variable (X : Nat → Option Obj)
abbrev Lx (ad : Option Addr) (n cap : Nat) : LV := .sv (.one (.val (.slice ad n cap)))
abbrev Vnil : SV := .one (.val (.slice none 0 0))
theorem take_all {fs : List Fl} {i : Nat} {f : Fl} (h : (fs.take i).all Fl.ok = true) (hf : fs[i]? = some f) (hk : f.ok = true) : (fs.take (i + 1)).all Fl.ok = true := by
  rw [take_snoc hf, List.all_append, h]
  simp [hk]
end Go.Proofs.YtbpdbclndfmcgaaGreatDoor
end
section
namespace Go.Lg.Fld
open Go Go.Lg
theorem elVs_at : ∀ {l : List (Int × Nat)} {i : Nat} {e : Int × Nat}, l[i]? = some e → ((elVs l).map CV.val)[i * 2]? = some (.val (.int .i64 e.1)) ∧ ((elVs l).map CV.val)[i * 2 + 1]? = some (.val (.int .i64 (e.2 : Nat)))
  | [], i, e, h => by simp at h
  | d :: t, 0, e, h => by
    simp only [List.getElem?_cons_zero, Option.some.injEq] at h
    subst h
    exact ⟨rfl, rfl⟩
  | d :: t, i + 1, e, h => by
    have ih := elVs_at (l := t) (i := i) (e := e) (by simpa using h)
    have e1 : (elVs (d :: t)).map CV.val = .val (.int .i64 d.1) :: .val (.int .i64 (d.2 : Nat)) :: (elVs t).map CV.val := rfl
    rw [e1, Nat.add_mul, Nat.one_mul]
    exact ih
def nmV (n : Bool × Int) : List Value := [.bool n.1, .int .u64 (n.2 / 18446744073709551616), .int .u64 (n.2 % 18446744073709551616)]
end Go.Lg.Fld
namespace Go.Proofs.YtbpdbclndfmcgaaGreatDoor
open Go Go.Lg Go.Lg.Fld
set_option maxRecDepth 100000
variable (X : Nat → Option Obj)
structure NumsIn (X : Nat → Option Obj) (ad : Option Addr) (ns : List (Bool × Int)) : Prop where
  rows : Go.Lg.RowsIn X ad 3 (ns.map nmV)
  in2 : ∀ n ∈ ns, In2 n.2
theorem NumsIn.at {X : Nat → Option Obj} {ad : Option Addr} {ns : List (Bool × Int)} (h : NumsIn X ad ns) {i : Nat} {b : Bool} {N : Int} (hf : ns[i]? = some (b, N)) :
    In2 N ∧ ∃ (blk off : Nat) (arr : Array Value) (el : TypeId) (fr : Nat × Nat), ad = some ⟨blk, off, none⟩ ∧ X blk = some (.cells arr el fr) ∧ off + i * 3 + 3 ≤ arr.size ∧ ((arr.toList.drop (off + i * 3)).take 3).map CV.val = cI b N := by
  obtain ⟨blk, off, arr, el, fr, h1, h2, h3, h4⟩ := h.rows i (nmV (b, N)) (by rw [List.getElem?_map, hf]; rfl)
  exact ⟨h.in2 (b, N) (List.mem_of_getElem? hf), blk, off, arr, el, fr, h1, h2, h3, by rw [h4]; rfl⟩
theorem layErr_facts {fs : List Fl} (h : layErr fs = 0) : fs.length ≤ 8 ∧ fs.all Fl.ok = true ∧ rowSize fs ≤ 256 := by
  unfold layErr at h
  split at h
  · cases h
  · split at h
    · split at h
      · cases h
      · rename_i h1 h2 h3; exact ⟨by omega, h2, by omega⟩
    · cases h
def fitAll (es : List (Int × Nat)) (ns : List (Bool × Int)) : Bool := (es.zip ns).all fun p => fitB p.1.1 p.2.1 p.2.2
def fitErr (fs : List Fl) (ns : List (Bool × Int)) : Int := if layErr fs = 0 then (if (elemsAt 0 fs).length = ns.length then (if fitAll (elemsAt 0 fs) ns = true then 0 else 3) else 4) else layErr fs
theorem zip_at {α β : Type} {es : List α} {ns : List β} {i : Nat} {e : α} {n : β} (h1 : es[i]? = some e) (h2 : ns[i]? = some n) : (es.zip ns)[i]? = some (e, n) := List.getElem?_zip_eq_some.2 ⟨h1, h2⟩
end Go.Proofs.YtbpdbclndfmcgaaGreatDoor
end
section
namespace Go.Lg
open Go Go.RowKit
section
variable {P : Program} {n : Nat} {ops os : List Oper} {acc : List Eff} {K : List Eff → St → Prop} {s : List (Nat × LV)} {bx : List (Nat × Option Box)} {X : Nat → Option Obj} {σ : St}
theorem slcBuild_one {t e : TypeId} {m : Nat} {v : Value} (hu : P.underlying t = some (.slice e)) (hz : (P.info? e).map (fun i => (i.size, i.zero.map (fun z => z.cells))) = some (1, some #[v])) (hm : m ≤ 16777216) :
    slcBuild P t m = some (List.replicate m v, 1, e) := by
  unfold slcBuild
  rw [hu]
  simp only
  cases hi : P.info? e with
  | none => rw [hi] at hz; cases hz
  | some ie =>
    rw [hi] at hz
    simp only [Option.map_some, Option.some.injEq, Prod.mk.injEq] at hz
    obtain ⟨h1, h2⟩ := hz
    cases hzz : ie.zero with
    | none => rw [hzz] at h2; cases h2
    | some z =>
      rw [hzz] at h2
      simp only [Option.map_some, Option.some.injEq] at h2
      simp only [hzz, h1, h2]
      rw [if_neg (show ¬ m * 1 > 2 ^ 24 by omega)]
      have : ((List.range (m * 1)).map fun i => (#[v] : Array Value)[i % (#[v] : Array Value).size]!) = List.replicate m v := by
        rw [Nat.mul_one]
        apply List.ext_getElem
        · simp
        · intro i h1 h2
          have : i % 1 = 0 := Nat.mod_one i
          simp [this]
      rw [this]
structure ReadsX (X : Nat → Option Obj) (ad : Option Addr) (news : List Value) : Prop where
  cells : ∀ i u, news[i]? = some u → ∃ (blk off : Nat) (arr : Array Value) (el : TypeId) (fr : Nat × Nat), ad = some ⟨blk, off, none⟩ ∧ X blk = some (.cells arr el fr) ∧ arr[off + i]? = some u
theorem LOK.appendX {d k len m cap sz by_ : Nat} {ad : Addr} {t tx e e2 : TypeId} {x y : Operand} {ty : TypeId} {pos : String} {after_ : Array Edge} {g : Option (Nat × Bool)} {cells : List CV} {row : Bool} {news : List Value}
    (hx : σ.ev x = some (.sv (.one (.slc k 0 len sz)))) (hk : σ.stat k = some (some ⟨e, cells, row⟩)) (hcl : cells.length = len * sz) (hy : σ.ev y = some (.sv (.one (.val (.slice (some ad) m cap))))) (hX : ReadsX σ.X (some ad) news) (hnl : news.length = m * sz) (hone : ∀ u ∈ news, u.oneCell' = true)
    (hinf : slcInfo P t = some (e, sz, by_)) (htx : P.underlying tx = some (.slice e2)) (hfit : (len + m) * by_ ≤ 140737488355328) (h63 : len + m < 9223372036854775808) (hd : σ.fresh d = true) :
    LOK P n ops ⟨some d, .call ⟨.builtin .append, #[x, y], #[t, tx]⟩, ty, pos, after_, g⟩ σ ⟨[(d, .sv (.one (.slc d 0 (len + m) sz)))], [], [(d, some ⟨e, cells ++ news.map .val, true⟩), (k, none)]⟩ :=
  LOK.make fun σ' ha C ι a w hr => by
    have hk' : σ'.stat k = _ := (ha.stat k (.inr (by simp))).trans hk
    have hd' : σ'.stat d = none := (ha.stat d (.inr (by simp))).trans (St.fresh_none hd)
    have h1 := hr.ev ((ha.ev (x := x) (by simp [Op.operands, Call.operands])).trans hx)
    have h2 : a.eval y = .slice (some ad) m cap := hr.ev ((ha.ev (x := y) (by simp [Op.operands, Call.operands])).trans hy)
    simp only [LV.rel, SV.rel, CV.rel, hk'] at h1
    obtain ⟨c, h1, hle, hcs⟩ := h1
    have hsrc := Src.ofSlice (P := P) w (size := sz) htx ad m cap news hnl (fun j u hj => by
      obtain ⟨blk, off, arr, el, fr, e1, e2, e3⟩ := hX.cells j u hj
      have e1 : ad = ⟨blk, off, none⟩ := by simpa using e1
      subst e1
      have hw := hr.ext blk _ (by rw [ha.X]; exact e2)
      rw [addr_add]
      simp only [World.cell?, hw, Option.isSome_none, Bool.false_eq_true, if_false]
      exact e3) hone
    obtain ⟨v, w', ι', hrun, hrel, hv⟩ := append_core (ty := ty) hr hinf (xv := a.eval x) (yv := a.eval y) h1 hle hcs hk' hcl (by rw [h2]; exact hsrc) (CVs.rel_map_val news) hd' (St.fresh_lt hd) hfit h63
    exact ⟨v, w', ι', by simp [execOp, resolve, invoke, builtin, hrun], hrel, hv⟩
theorem K.appendX {d k len m cap sz by_ : Nat} {ad : Addr} {t tx e e2 : TypeId} {x y : Operand} {ty : TypeId} {pos : String} {after_ : Array Edge} {g : Option (Nat × Bool)} {cells : List CV} {row : Bool} {news : List Value}
    (hx : (⟨s, bx, X⟩ : St).ev x = some (.sv (.one (.slc k 0 len sz)))) (hk : (⟨s, bx, X⟩ : St).stat k = some (some ⟨e, cells, row⟩)) (hcl : cells.length = len * sz) (hy : (⟨s, bx, X⟩ : St).ev y = some (.sv (.one (.val (.slice (some ad) m cap))))) (hX : ReadsX X (some ad) news) (hnl : news.length = m * sz) (hone : ∀ u ∈ news, u.oneCell' = true)
    (hinf : slcInfo P t = some (e, sz, by_)) (htx : P.underlying tx = some (.slice e2)) (hfit : (len + m) * by_ ≤ 140737488355328) (h63 : len + m < 9223372036854775808) (hd : (⟨s, bx, X⟩ : St).fresh d = true) {nl : Nat} {nc : List CV} (hnl2 : len + m = nl) (hnc : cells ++ news.map .val = nc) (hw : Want ops s g)
    (kont : RunK P n ops os ⟨(d, .sv (.one (.slc d 0 nl sz))) :: s, (d, some ⟨e, nc, true⟩) :: (k, none) :: bx, X⟩ (⟨[(d, .sv (.one (.slc d 0 nl sz)))], [], [(d, some ⟨e, nc, true⟩), (k, none)]⟩ :: acc) K) :
    RunK P n ops (⟨some d, .call ⟨.builtin .append, #[x, y], #[t, tx]⟩, ty, pos, after_, g⟩ :: os) ⟨s, bx, X⟩ acc K := by
  subst hnl2 hnc
  exact RunK.gen hw (LOK.appendX hx hk hcl hy hX hnl hone hinf htx hfit h63 hd) kont
theorem append_nil_core {C : Ctx} {ι : Nat → Nat × Nat} {a : Act} {w : World} {σ' : St} (hr : Rel n C ι σ' a w) {t tx ty e : TypeId} {sz by_ : Nat} (hinf : slcInfo P t = some (e, sz, by_)) {xv yv : Value} {d m : Nat} {l2 : List CV} {news : List Value}
    (hv : xv = .slice none 0 0) (hsrc : Src P sz tx yv m news w) (hl2 : CVs.rel σ'.stat ι l2 news) (hd : σ'.stat d = none) (hlt : d < 1000000) (hm : 1 ≤ m) (hfit : m * by_ ≤ 140737488355328) (h63 : m < 9223372036854775808) :
    ∃ v w' ι', (Builtin.append_ #[t, tx] ty #[xv, yv]).run P w = .ok v w' ∧ Rel n C ι' ⟨σ'.slots, (d, some ⟨e, l2, true⟩) :: σ'.boxes, σ'.X⟩ a w' ∧
      (CV.slc d 0 m sz).rel (⟨σ'.slots, (d, some ⟨e, l2, true⟩) :: σ'.boxes, σ'.X⟩ : St).stat ι' v := by
  obtain ⟨ie, z, hu, hi, hz, hsz, hby, hzs⟩ := slcInfo_spec hinf
  subst hv
  have hnl : news.length = m * sz := hsrc.newsLen
  have hstd : (⟨σ'.slots, (d, some ⟨e, l2, true⟩) :: σ'.boxes, σ'.X⟩ : St).stat d = some (some ⟨e, l2, true⟩) := by rw [stat_cons, if_pos rfl]
  subst hsz hby
  have hne := growslice_fits (need := 0 + m) (old := 0) (bytes := ie.bytes) (by omega) (by rw [Nat.zero_add]; exact hfit)
  have hold := run_firstCells_none (P := P) w.drew ie.size 0 0 0
  have hrun := run_append_grow_src (P := P) w t tx ty e ie z hu hi hz none 0 0 [] hold yv m news hsrc (by omega) (by omega) hne
  rw [Nat.zero_add, List.nil_append] at hrun
  refine ⟨_, _, _, hrun, hr.drew.new hlt hd (b := ⟨e, l2, true⟩) (arr := news.toArray ++ Builtin.zeroCells z.cells (grownCap w m 0 e - m)) ?_, ?_⟩
  · simp only [Box.rel]
    exact ⟨news, (Builtin.zeroCells z.cells (grownCap w m 0 e - m)).toList, by simp, hl2⟩
  · simp only [CV.rel, hstd, put1, if_true]
    have hge := grownCap_ge w m 0 e
    refine ⟨_, rfl, hge, ?_⟩
    have hzc : (Builtin.zeroCells z.cells (grownCap w m 0 e - m)).size = (grownCap w m 0 e - m) * ie.size := by
      simp [Builtin.zeroCells, hzs]
    rw [Array.size_append, hzc]
    have h5 : grownCap w m 0 e = (grownCap w m 0 e - m) + m := by omega
    generalize grownCap w m 0 e - m = q at *
    rw [h5, Nat.add_mul]
    simp
    omega
theorem LOK.appendNil {d k2 m sz by_ : Nat} {t tx e e2 : TypeId} {x y : Operand} {ty : TypeId} {pos : String} {after_ : Array Edge} {g : Option (Nat × Bool)} {l2 : List CV} {e3 : TypeId} {cs2 : List CV} {row2 : Bool}
    (hx : σ.ev x = some (.sv (.one (.val (.slice none 0 0))))) (hy : σ.ev y = some (.sv (.one (.slc k2 0 m sz)))) (hk2 : σ.stat k2 = some (some ⟨e3, cs2, row2⟩)) (hm2 : m * sz ≤ cs2.length) (hl2 : cs2.take (m * sz) = l2) (hso : l2.all CV.solid = true) (hm : 1 ≤ m)
    (hinf : slcInfo P t = some (e, sz, by_)) (htx : P.underlying tx = some (.slice e2)) (hfit : m * by_ ≤ 140737488355328) (h63 : m < 9223372036854775808) (hd : σ.fresh d = true) :
    LOK P n ops ⟨some d, .call ⟨.builtin .append, #[x, y], #[t, tx]⟩, ty, pos, after_, g⟩ σ ⟨[(d, .sv (.one (.slc d 0 m sz)))], [k2], [(d, some ⟨e, l2, true⟩)]⟩ :=
  LOK.make fun σ' ha C ι a w hr => by
    have hk2' : σ'.stat k2 = _ := (ha.stat k2 (.inl (by simp))).trans hk2
    have hd' : σ'.stat d = none := (ha.stat d (.inr (by simp))).trans (St.fresh_none hd)
    have h1 : a.eval x = .slice none 0 0 := hr.ev ((ha.ev (x := x) (by simp [Op.operands, Call.operands])).trans hx)
    have h2 := hr.ev ((ha.ev (x := y) (by simp [Op.operands, Call.operands])).trans hy)
    simp only [LV.rel, SV.rel, CV.rel, hk2'] at h2
    obtain ⟨c2, h2, -, -⟩ := h2
    obtain ⟨arr2, fr2, harr2, -, -, hbr2⟩ := hr.boxes k2 _ hk2' rfl
    obtain ⟨hsz2, hpart⟩ := Box.rel_part hbr2 (off := 0) (m := m * sz) (by show 0 + m * sz ≤ cs2.length; omega)
    rw [List.drop_zero, hl2, List.drop_zero] at hpart
    have hlen2 : (arr2.toList.take (m * sz)).length = m * sz := by simp at hsz2 ⊢; omega
    have hone : ∀ u ∈ arr2.toList.take (m * sz), u.oneCell' = true := (SV.cells_ok (s := .agg l2) (v := .agg (arr2.toList.take (m * sz)).toArray) ⟨_, rfl, by simpa using hpart⟩ hso).2 |> fun h u hu => h u (by simpa [Value.cells] using hu)
    have hsrc := Src.ofSlice (P := P) w (size := sz) htx ⟨(ι k2).1, 0, none⟩ m c2 (arr2.toList.take (m * sz)) hlen2 (fun j u hj => by
      rw [addr_add]
      simp only [World.cell?, harr2, Option.isSome_none, Bool.false_eq_true, if_false]
      rw [List.getElem?_take] at hj
      split at hj
      · simpa using hj
      · simp at hj) hone
    obtain ⟨v, w', ι', hrun, hrel, hv⟩ := append_nil_core (ty := ty) hr hinf (xv := a.eval x) (yv := a.eval y) h1 (by rw [h2]; exact hsrc) hpart hd' (St.fresh_lt hd) hm hfit h63
    exact ⟨v, w', ι', by simp [execOp, resolve, invoke, builtin, hrun], hrel, hv⟩
theorem K.appendNil {d k2 m sz by_ : Nat} {t tx e e2 : TypeId} {x y : Operand} {ty : TypeId} {pos : String} {after_ : Array Edge} {g : Option (Nat × Bool)} {l2 : List CV} {e3 : TypeId} {cs2 : List CV} {row2 : Bool}
    (hx : (⟨s, bx, X⟩ : St).ev x = some (.sv (.one (.val (.slice none 0 0))))) (hy : (⟨s, bx, X⟩ : St).ev y = some (.sv (.one (.slc k2 0 m sz)))) (hk2 : (⟨s, bx, X⟩ : St).stat k2 = some (some ⟨e3, cs2, row2⟩)) (hm2 : m * sz ≤ cs2.length) (hl2 : cs2.take (m * sz) = l2) (hso : l2.all CV.solid = true) (hm : 1 ≤ m)
    (hinf : slcInfo P t = some (e, sz, by_)) (htx : P.underlying tx = some (.slice e2)) (hfit : m * by_ ≤ 140737488355328) (h63 : m < 9223372036854775808) (hd : (⟨s, bx, X⟩ : St).fresh d = true) (hw : Want ops s g)
    (kont : RunK P n ops os ⟨(d, .sv (.one (.slc d 0 m sz))) :: s, (d, some ⟨e, l2, true⟩) :: bx, X⟩ (⟨[(d, .sv (.one (.slc d 0 m sz)))], [k2], [(d, some ⟨e, l2, true⟩)]⟩ :: acc) K) :
    RunK P n ops (⟨some d, .call ⟨.builtin .append, #[x, y], #[t, tx]⟩, ty, pos, after_, g⟩ :: os) ⟨s, bx, X⟩ acc K := RunK.gen hw (LOK.appendNil hx hy hk2 hm2 hl2 hso hm hinf htx hfit h63 hd) kont
end
end Go.Lg
end
section
namespace Go.Lg.Fld
open Go Go.Lg
def setAt (b : List UInt8) (p : Nat) (s : List UInt8) : List UInt8 := b.take p ++ s ++ b.drop (p + s.length)
theorem setAt_len {b s : List UInt8} {p : Nat} (h : p + s.length ≤ b.length) : (setAt b p s).length = b.length := by
  simp only [setAt, List.length_append, List.length_take, List.length_drop]; omega
end Go.Lg.Fld
namespace Go.Proofs.YtbpdbclndfmcgaaGreatDoor
open Go Go.Lg Go.Lg.Fld
set_option maxRecDepth 100000
variable (X : Nat → Option Obj)
def numB (k : Int) (n : Bool × Int) : List UInt8 := leB (kW k) (wdK k (zv n.1 n.2))
def packE : List (Int × Nat) → List (Bool × Int) → List UInt8 → List UInt8
  | e :: t, v :: u, b => packE t u (setAt b e.2 (numB e.1 v))
  | _, _, b => b
theorem packE_snoc (e : Int × Nat) (v : Bool × Int) : ∀ (l : List (Int × Nat)) (m : List (Bool × Int)) (b : List UInt8), l.length = m.length → packE (l ++ [e]) (m ++ [v]) b = setAt (packE l m b) e.2 (numB e.1 v)
  | [], [], b, _ => rfl
  | e' :: t, v' :: u, b, h => packE_snoc e v t u _ (by simpa using h)
  | [], _ :: _, _, h => by simp at h
  | _ :: _, [], _, h => by simp at h
def Within (es : List (Int × Nat)) (T : Nat) : Prop := ∀ e ∈ es, kK e.1 = true ∧ e.2 + kW e.1 ≤ T
theorem elems_in : ∀ (l : List Fl) (a : Nat), l.all Fl.ok = true → ∀ e ∈ elemsAt a l, kK e.1 = true ∧ a ≤ e.2 ∧ e.2 + kW e.1 ≤ endAt a l
  | [], a, _, e, he => by simp [elemsAt] at he
  | f :: t, a, h, e, he => by
    simp only [List.all_cons, Bool.and_eq_true] at h
    obtain ⟨hw, h1, h8, hc⟩ := ok_w h.1
    have hr := round_facts hw a
    have hi := end_le t (roundUp a f.w + f.w * f.n) h.2
    simp only [elemsAt, List.mem_append, List.mem_map, List.mem_range] at he
    rcases he with ⟨i, hin, rfl⟩ | he
    · have hk : kK f.kind = true := by have := h.1; simp only [Fl.ok, Bool.and_eq_true] at this; exact this.1
      have hm : f.w * i + f.w ≤ f.w * f.n := by rw [← Nat.mul_succ]; exact Nat.mul_le_mul_left _ hin
      refine ⟨hk, by simp only; omega, ?_⟩
      show roundUp a f.w + f.w * i + f.w ≤ endAt (roundUp a f.w + f.w * f.n) t
      omega
    · have := elems_in t _ h.2 e he
      refine ⟨this.1, by omega, ?_⟩
      exact this.2.2
theorem within_row {fs : List Fl} (h : fs.all Fl.ok = true) : Within (elemsAt 0 fs) (rowSize fs) := fun e he => by
  have h1 := elems_in fs 0 h e he
  have h2 := round_facts (great_wd fs h) (endAt 0 fs)
  refine ⟨h1.1, Nat.le_trans h1.2.2 h2.2.1⟩
theorem numB_len (k : Int) (n : Bool × Int) : (numB k n).length = kW k := leB_length _ _
theorem packE_len {T : Nat} : ∀ {es : List (Int × Nat)} {ns : List (Bool × Int)} {b : List UInt8}, Within es T → b.length = T → (packE es ns b).length = T
  | [], _, b, _, hb => hb
  | _ :: _, [], b, _, hb => hb
  | e :: t, v :: u, b, hw, hb => by
    have h1 := (hw e (by simp)).2
    exact packE_len (es := t) (ns := u) (fun x hx => hw x (by simp [hx])) (by rw [setAt_len (by rw [numB_len]; omega)]; exact hb)
def packB (fs : List Fl) (ns : List (Bool × Int)) : List UInt8 := packE (elemsAt 0 fs) ns (List.replicate (rowSize fs) 0)
theorem fitErr_facts {fs : List Fl} {ns : List (Bool × Int)} (h : fitErr fs ns = 0) : layErr fs = 0 ∧ (elemsAt 0 fs).length = ns.length ∧ fitAll (elemsAt 0 fs) ns = true := by
  unfold fitErr at h
  split at h
  · rename_i h0
    split at h
    · rename_i h1
      split at h
      · rename_i h2; exact ⟨h0, h1, h2⟩
      · cases h
    · cases h
  · contradiction
theorem fitAll_at {es : List (Int × Nat)} {ns : List (Bool × Int)} (h : fitAll es ns = true) {i : Nat} {e : Int × Nat} {b : Bool} {N : Int} (he : es[i]? = some e) (hv : ns[i]? = some (b, N)) : formB b N = true ∧ kK e.1 = true ∧ fitZ e.1 (zv b N) = true := by
  have := List.all_eq_true.1 h _ (List.mem_of_getElem? (zip_at he hv))
  simp only [fitB, Bool.and_eq_true] at this
  exact ⟨this.2.1, this.1, this.2.2⟩
end Go.Proofs.YtbpdbclndfmcgaaGreatDoor
end
section
namespace Go.Lg
open Go Go.RowKit
section
variable {P : Program} {n : Nat} {C : Ctx} {c y x z : Code} {Q Q1 Q2 : Exit → St → Prop} {X : Nat → Option Obj} {σ : St}
structure Leads (n : Nat) (C : Ctx) (Mid : St → Prop) (σ : St) : Prop where
  out : ∀ ι a w, Rel n C ι σ a w → ∃ ι' σ', Mid σ' ∧ Rel n C ι' σ' a w
theorem Leads.here {Mid : St → Prop} {σ' : St} (hle : Le n C σ σ') (h : Mid σ') : Leads n C Mid σ := ⟨fun ι a w hr => by
  obtain ⟨ι', hr'⟩ := hle.out ι a w hr
  exact ⟨ι', σ', h, hr'⟩⟩
theorem Leads.le {Mid : St → Prop} {σ' : St} (hle : Le n C σ σ') (h : Leads n C Mid σ') : Leads n C Mid σ := ⟨fun ι a w hr => by
  obtain ⟨ι', hr'⟩ := hle.out ι a w hr
  exact h.out ι' a w hr'⟩
theorem LWP.ofLeads {Mid : St → Prop} (h : Leads n C Mid σ) (hm : ∀ σ, Mid σ → LWP P n C y Q σ) : LWP P n C y Q σ := by
  refine ⟨fun ι a w hr => ?_⟩
  obtain ⟨ι', σ', hM, hr'⟩ := h.out ι a w hr
  exact (hm σ' hM).out ι' a w hr'
theorem LWP.meetL (Mid : St → Prop) (h : LWP P n C c (thenQ (Leads n C Mid) (fun _ _ => False)) σ) (hm : ∀ σ, Mid σ → LWP P n C y Q σ) : LWP P n C c (thenQ (LWP P n C y Q) Q2) σ := by
  refine h.mono ?_
  intro e σ' hq
  cases e with
  | normal => exact LWP.ofLeads hq hm
  | exit id' => exact hq.elim
  | goto l => exact hq.elim
  | ret => exact hq.elim
  | panic c => exact hq.elim
  | outgrown => exact hq.elim
theorem rel_mid {S : Nat → Option (Option Box)} {ι : Nat → Nat × Nat} : ∀ {A : List CV} {c : CV} {B : List CV} {vs : List Value}, CVs.rel S ι (A ++ c :: B) vs → ∃ va v vb, vs = va ++ v :: vb ∧ CVs.rel S ι A va ∧ c.rel S ι v ∧ CVs.rel S ι B vb
  | [], c, B, [], h => h.elim
  | [], c, B, v :: vs, h => ⟨[], v, vs, rfl, trivial, h.1, h.2⟩
  | a :: A, c, B, [], h => h.elim
  | a :: A, c, B, v :: vs, h => by
    obtain ⟨va, u, vb, e, h1, h2, h3⟩ := rel_mid (A := A) (c := c) (B := B) h.2
    exact ⟨v :: va, u, vb, by rw [e]; rfl, ⟨h.1, h1⟩, h2, h3⟩
theorem Rel.freezeCell {ι : Nat → Nat × Nat} {a : Act} {w : World} {s : List (Nat × LV)} {bx : List (Nat × Option Box)} {j k off len sz : Nat} {el el2 : TypeId} {A B : List CV} {row2 : Bool} {vals : List Value} {row : Bool}
    (hs : s.all (fun p => p.2.inUse ((j, none) :: bx)) = true) (hA : A.all (CV.inUse ((j, none) :: bx)) = true) (hB : B.all (CV.inUse ((j, none) :: bx)) = true) (hb : bx.all (fun p => match p.2 with | some b => b.cells.all (CV.inUse ((j, none) :: bx)) | none => true) = true) (hk : look k bx = none) (hjk : Nat.beq j k = false)
    (hr : Rel n C ι ⟨s, (j, some ⟨el2, A ++ .slc k off len sz :: B, row2⟩) :: (k, some ⟨el, vals.map .val, row⟩) :: bx, X⟩ a w) :
    ∃ (blk cap : Nat) (arr : Array Value) (fr : Nat × Nat), X blk = none ∧ Frozen C blk arr fr ∧ len ≤ cap ∧ off + cap * sz ≤ arr.size ∧ (∃ sp, arr.toList = vals ++ sp) ∧
      Rel n C ι ⟨s, (j, some ⟨el2, A ++ .val (.slice (some ⟨blk, off, none⟩) len cap) :: B, row2⟩) :: bx, withBlock X blk (.cells arr el fr)⟩ a w := by
  have hjk' : j ≠ k := fun e => by rw [e, Nat.beq_refl] at hjk; cases hjk
  have hst : (⟨s, (j, some ⟨el2, A ++ .slc k off len sz :: B, row2⟩) :: (k, some ⟨el, vals.map .val, row⟩) :: bx, X⟩ : St).stat k = some (some ⟨el, vals.map .val, row⟩) := by
    simp [St.stat, look, hjk]
  have hstj : (⟨s, (j, some ⟨el2, A ++ .slc k off len sz :: B, row2⟩) :: (k, some ⟨el, vals.map .val, row⟩) :: bx, X⟩ : St).stat j = some (some ⟨el2, A ++ .slc k off len sz :: B, row2⟩) := by
    simp [St.stat, look]
  have hlk : ∀ k' x, look k' bx = some x → k' ≠ k := fun k' x h' e => by rw [e, hk] at h'; cases h'
  have hstb : ∀ k', k' ≠ j → ∀ x, look k' bx = some x → (⟨s, (j, some ⟨el2, A ++ .slc k off len sz :: B, row2⟩) :: (k, some ⟨el, vals.map .val, row⟩) :: bx, X⟩ : St).stat k' = some x := fun k' hne x h' => by
    simp only [St.stat, look]
    cases e : Nat.beq j k' with
    | true => exact absurd (Nat.eq_of_beq_eq_true e).symm hne
    | false =>
      cases e2 : Nat.beq k k' with
      | true => exact absurd (Nat.eq_of_beq_eq_true e2).symm (hlk k' x h')
      | false => exact h'
  obtain ⟨arr, fr, harr, hth, hsz, hbr⟩ := hr.boxes k _ hst rfl
  obtain ⟨arrj, frj, harrj, hthj, hszj, hbrj⟩ := hr.boxes j _ hstj rfl
  have hXn : X (ι k).1 = none := (hr.own k _ hst).2
  have hsp : ∃ sp, arr.toList = vals ++ sp := by
    unfold Box.rel at hbr
    cases hrow : row with
    | false =>
      rw [hrow] at hbr
      exact ⟨[], by rw [List.append_nil]; exact rel_vals hbr⟩
    | true =>
      rw [hrow] at hbr
      obtain ⟨us, sp, e, hl⟩ := hbr
      exact ⟨sp, by rw [e, rel_vals hl]⟩
  have hcell : ∃ us sp va v vb, arrj.toList = us ++ sp ∧ (row2 = false → sp = []) ∧ us = va ++ v :: vb ∧ CVs.rel (⟨s, (j, some ⟨el2, A ++ .slc k off len sz :: B, row2⟩) :: (k, some ⟨el, vals.map .val, row⟩) :: bx, X⟩ : St).stat ι A va ∧ (CV.slc k off len sz).rel (⟨s, (j, some ⟨el2, A ++ .slc k off len sz :: B, row2⟩) :: (k, some ⟨el, vals.map .val, row⟩) :: bx, X⟩ : St).stat ι v ∧ CVs.rel (⟨s, (j, some ⟨el2, A ++ .slc k off len sz :: B, row2⟩) :: (k, some ⟨el, vals.map .val, row⟩) :: bx, X⟩ : St).stat ι B vb := by
    generalize (⟨s, (j, some ⟨el2, A ++ .slc k off len sz :: B, row2⟩) :: (k, some ⟨el, vals.map .val, row⟩) :: bx, X⟩ : St).stat = S at hbrj ⊢
    unfold Box.rel at hbrj
    cases row2 with
    | false =>
      obtain ⟨va, v, vb, e, h1, h2, h3⟩ := rel_mid hbrj
      exact ⟨arrj.toList, [], va, v, vb, by simp, fun _ => rfl, e, h1, h2, h3⟩
    | true =>
      obtain ⟨us, sp, e0, hl⟩ := hbrj
      obtain ⟨va, v, vb, e, h1, h2, h3⟩ := rel_mid hl
      exact ⟨us, sp, va, v, vb, e0, fun h => (by cases h), e, h1, h2, h3⟩
  obtain ⟨us, sp2, va, v, vb, eus, hsp2, evs, h1, h2, h3⟩ := hcell
  simp only [CV.rel] at h2
  rw [hst] at h2
  obtain ⟨cap, rfl, hcap, hfit⟩ := h2
  refine ⟨(ι k).1, cap, arr, fr, hXn, ⟨(hr.own k _ hst).1, hth⟩, hcap, by omega, hsp, ?_⟩
  have hon : ∀ k', (look k' ((j, (none : Option Box)) :: bx)).isSome = true → k' ≠ k := fun k' hk' e => by
    subst e
    simp only [look, hjk, cond_false, hk] at hk'
    cases hk'
  have hnew : ∀ k', (⟨s, (j, some ⟨el2, A ++ .val (.slice (some ⟨(ι k).1, off, none⟩) len cap) :: B, row2⟩) :: bx, withBlock X (ι k).1 (.cells arr el fr)⟩ : St).stat k' = if k' = j then some (some ⟨el2, A ++ .val (.slice (some ⟨(ι k).1, off, none⟩) len cap) :: B, row2⟩) else look k' bx := fun k' => by
    simp only [St.stat, look]
    cases e : Nat.beq j k' with
    | true => rw [if_pos (Nat.eq_of_beq_eq_true e).symm]; rfl
    | false => rw [if_neg (fun h => by rw [h, Nat.beq_refl] at e; cases e)]; rfl
  have hstat : ∀ k', k' ≠ k → ∀ x, (⟨s, (j, some ⟨el2, A ++ .val (.slice (some ⟨(ι k).1, off, none⟩) len cap) :: B, row2⟩) :: bx, withBlock X (ι k).1 (.cells arr el fr)⟩ : St).stat k' = some (some x) → ∃ y, (⟨s, (j, some ⟨el2, A ++ .slc k off len sz :: B, row2⟩) :: (k, some ⟨el, vals.map .val, row⟩) :: bx, X⟩ : St).stat k' = some (some y) := fun k' hne x hx => by
    rw [hnew] at hx
    by_cases e : k' = j
    · rw [e]; exact ⟨_, hstj⟩
    · rw [if_neg e] at hx
      exact ⟨x, hstb k' e _ hx⟩
  have hmean : ∀ {c : CV} {v : Value}, c.inUse ((j, none) :: bx) = true → c.rel (⟨s, (j, some ⟨el2, A ++ .slc k off len sz :: B, row2⟩) :: (k, some ⟨el, vals.map .val, row⟩) :: bx, X⟩ : St).stat ι v →
      c.rel (⟨s, (j, some ⟨el2, A ++ .val (.slice (some ⟨(ι k).1, off, none⟩) len cap) :: B, row2⟩) :: bx, withBlock X (ι k).1 (.cells arr el fr)⟩ : St).stat ι v := fun {c v} hu hc => by
    have key : ∀ k', (look k' ((j, (none : Option Box)) :: bx)).isSome = true → (k' = j) ∨ (k' ≠ j ∧ ∃ x, look k' bx = some x ∧ (⟨s, (j, some ⟨el2, A ++ .slc k off len sz :: B, row2⟩) :: (k, some ⟨el, vals.map .val, row⟩) :: bx, X⟩ : St).stat k' = some x) := fun k' hk' => by
      by_cases e : k' = j
      · exact .inl e
      · right
        have e2 : Nat.beq j k' = false := by
          cases h : Nat.beq j k' with
          | false => rfl
          | true => exact absurd (Nat.eq_of_beq_eq_true h).symm e
        simp only [look, e2, cond_false] at hk'
        obtain ⟨x, hx⟩ := Option.isSome_iff_exists.1 hk'
        exact ⟨e, x, hx, hstb k' e x hx⟩
    cases c with
    | val u => exact hc
    | junk => trivial
    | ptr k' o =>
      simp only [CV.rel] at hc ⊢
      rw [hnew]
      rcases key k' hu with e | ⟨e, x, hx, hx2⟩
      · subst e
        rw [hstj] at hc
        rw [if_pos rfl]; exact hc
      · rw [hx2] at hc
        rw [if_neg e, hx]; exact hc
    | slc k' o n' z' =>
      simp only [CV.rel] at hc ⊢
      rw [hnew]
      rcases key k' hu with e | ⟨e, x, hx, hx2⟩
      · subst e
        rw [hstj] at hc
        rw [if_pos rfl]; exact hc
      · rw [hx2] at hc
        rw [if_neg e, hx]; exact hc
    | mp k' =>
      simp only [CV.rel] at hc ⊢
      rw [hnew]
      rcases key k' hu with e | ⟨e, x, hx, hx2⟩
      · subst e
        rw [hstj] at hc
        rw [if_pos rfl]; exact hc
      · rw [hx2] at hc
        rw [if_neg e, hx]; exact hc
    | fn fi gi k' =>
      simp only [CV.rel] at hc ⊢
      rw [hnew]
      rcases key k' hu with e | ⟨e, x, hx, hx2⟩
      · subst e
        rw [hstj] at hc
        rw [if_pos rfl]; exact hc
      · rw [hx2] at hc
        rw [if_neg e, hx]; exact hc
    | hang g hg k' =>
      simp only [CV.rel] at hc ⊢
      rw [hnew]
      rcases key k' hu with e | ⟨e, x, hx, hx2⟩
      · subst e
        rw [hstj] at hc
        rw [if_pos rfl]; exact hc
      · rw [hx2] at hc
        rw [if_neg e, hx]; exact hc
  have hmeans : ∀ {l : List CV} {vs : List Value}, l.all (CV.inUse ((j, none) :: bx)) = true → CVs.rel (⟨s, (j, some ⟨el2, A ++ .slc k off len sz :: B, row2⟩) :: (k, some ⟨el, vals.map .val, row⟩) :: bx, X⟩ : St).stat ι l vs →
      CVs.rel (⟨s, (j, some ⟨el2, A ++ .val (.slice (some ⟨(ι k).1, off, none⟩) len cap) :: B, row2⟩) :: bx, withBlock X (ι k).1 (.cells arr el fr)⟩ : St).stat ι l vs := by
    intro l
    induction l with
    | nil => intro vs _ h; cases vs with
      | nil => trivial
      | cons => exact h.elim
    | cons c l ih => intro vs hu h; cases vs with
      | nil => exact h.elim
      | cons v vs =>
        simp only [List.all_cons, Bool.and_eq_true] at hu
        exact ⟨hmean hu.1 h.1, ih hu.2 h.2⟩
  have hsv : ∀ {l : SV} {v : Value}, l.inUse ((j, none) :: bx) = true → l.rel (⟨s, (j, some ⟨el2, A ++ .slc k off len sz :: B, row2⟩) :: (k, some ⟨el, vals.map .val, row⟩) :: bx, X⟩ : St).stat ι v →
      l.rel (⟨s, (j, some ⟨el2, A ++ .val (.slice (some ⟨(ι k).1, off, none⟩) len cap) :: B, row2⟩) :: bx, withBlock X (ι k).1 (.cells arr el fr)⟩ : St).stat ι v := fun {l v} hu h => by
    cases l with
    | one c => exact hmean hu h
    | agg l => obtain ⟨arr', e, hl⟩ := h; exact ⟨arr', e, hmeans hu hl⟩
  exact {
    defers := hr.defers, size := hr.size
    slots := fun d' lv hd => by
      obtain ⟨v', hv', hr'⟩ := hr.slots d' lv hd
      refine ⟨v', hv', ?_⟩
      have hu : lv.inUse ((j, none) :: bx) = true := List.all_eq_true.1 hs _ (look_mem hd)
      cases lv with
      | sv l => exact hsv hu hr'
      | tup l =>
        obtain ⟨arr', e, hl⟩ := hr'
        refine ⟨arr', e, ?_⟩
        generalize arr'.toList = vs at hl
        have hu2 : l.all (SV.inUse ((j, none) :: bx)) = true := hu
        clear hu hd hv'
        induction l generalizing vs with
        | nil => cases vs with
          | nil => trivial
          | cons => exact hl.elim
        | cons c l ih => cases vs with
          | nil => exact hl.elim
          | cons v vs =>
            simp only [List.all_cons, Bool.and_eq_true] at hu2
            exact ⟨hsv hu2.1 hl.1, ih vs hl.2 hu2.2⟩
    res := by
      obtain ⟨F, hF⟩ := hr.res
      refine hF.keep (fun i e cs R hi => ?_) (fun _ _ _ _ _ hj => hj) (fun _ _ ho => ho) (fun b _ hx hne _ => ?_) (fun i bi hi => ?_)
      · rw [hnew] at hi
        by_cases e : i = j
        · rw [if_pos e] at hi; cases hi
        · rw [if_neg e] at hi; exact ⟨hstb i e _ hi, rfl⟩
      · show withBlock X (ι k).1 _ b = none
        unfold withBlock
        rw [if_neg (fun e => hne k _ hst rfl e.symm)]
        exact hx
      · have hne : i ≠ k := fun e => by
          rw [hnew, e] at hi
          by_cases e2 : k = j
          · exact hjk' e2.symm
          · rw [if_neg e2, hk] at hi; cases hi
        obtain ⟨y, hy⟩ := hstat i hne bi hi
        exact .inl ⟨y, hy, rfl⟩
    boxes := fun k' b hb' hbk => by
      rw [hnew] at hb'
      by_cases e : k' = j
      · subst e
        rw [if_pos rfl] at hb'
        cases hb'
        refine ⟨arrj, frj, harrj, hthj, hszj, ?_⟩
        have hnewcells : CVs.rel (⟨s, (k', some ⟨el2, A ++ .val (.slice (some ⟨(ι k).1, off, none⟩) len cap) :: B, row2⟩) :: bx, withBlock X (ι k).1 (.cells arr el fr)⟩ : St).stat ι (A ++ .val (.slice (some ⟨(ι k).1, off, none⟩) len cap) :: B) us := by
          rw [evs]
          exact CVs.rel_append (hmeans hA h1) ⟨rfl, hmeans hB h3⟩
        unfold Box.rel
        cases row2 with
        | false => rw [hsp2 rfl, List.append_nil] at eus; rw [eus]; exact hnewcells
        | true => exact ⟨us, sp2, eus, hnewcells⟩
      · rw [if_neg e] at hb'
        obtain ⟨arr', fr', g1, g2, g3, g4⟩ := hr.boxes k' b (hstb k' e _ hb') hbk
        refine ⟨arr', fr', g1, g2, g3, ?_⟩
        have hu : b.cells.all (CV.inUse ((j, none) :: bx)) = true := by simpa using List.all_eq_true.1 hb _ (look_mem hb')
        unfold Box.rel at g4 ⊢
        cases hrow : b.row with
        | res R => rw [hrow] at g4; exact g4.elim
        | bool r =>
          cases r with
          | false => rw [hrow] at g4; exact hmeans hu g4
          | true => rw [hrow] at g4; obtain ⟨us', sp', e', hl'⟩ := g4; exact ⟨us', sp', e', hmeans hu hl'⟩
    own := fun k' b hb' => by
      have hne : k' ≠ k := fun e => by
        rw [hnew, e] at hb'
        by_cases e2 : k = j
        · exact hjk' e2.symm
        · rw [if_neg e2, hk] at hb'; cases hb'
      obtain ⟨b0, hb0⟩ := hstat k' hne b hb'
      obtain ⟨g1, g2⟩ := hr.own k' b0 hb0
      refine ⟨g1, ?_⟩
      show withBlock X (ι k).1 _ (ι k').1 = none
      unfold withBlock
      rw [if_neg (fun e => hne (hr.inj k' k b0 _ hb0 hst e))]
      exact g2
    inj := fun k1 k2 b1 b2 g1 g2 he => by
      have hne : ∀ k' b, (⟨s, (j, some ⟨el2, A ++ .val (.slice (some ⟨(ι k).1, off, none⟩) len cap) :: B, row2⟩) :: bx, withBlock X (ι k).1 (.cells arr el fr)⟩ : St).stat k' = some (some b) → k' ≠ k := fun k' b hb' e => by
        rw [hnew, e] at hb'
        by_cases e2 : k = j
        · exact hjk' e2.symm
        · rw [if_neg e2, hk] at hb'; cases hb'
      obtain ⟨c1, hc1⟩ := hstat k1 (hne k1 b1 g1) b1 g1
      obtain ⟨c2, hc2⟩ := hstat k2 (hne k2 b2 g2) b2 g2
      exact hr.inj k1 k2 c1 c2 hc1 hc2 he
    keep := fun k' b hb' hge => by
      have hne : k' ≠ k := fun e => by
        rw [hnew, e] at hb'
        by_cases e2 : k = j
        · exact hjk' e2.symm
        · rw [if_neg e2, hk] at hb'; cases hb'
      obtain ⟨b0, hb0⟩ := hstat k' hne b hb'
      exact hr.keep k' b0 hb0 hge
    ext := fun b o hbo => by
      have hbo : withBlock X (ι k).1 (.cells arr el fr) b = some o := hbo
      unfold withBlock at hbo
      by_cases e : b = (ι k).1
      · rw [if_pos e] at hbo
        rw [e, harr]; exact hbo
      · rw [if_neg e] at hbo
        exact hr.ext b o hbo
    frame := hr.frame, big := hr.big, os := hr.os, tape := hr.tape, output := hr.output }
theorem Leads.freezeCell {Mid : St → Prop} {s : List (Nat × LV)} {bx : List (Nat × Option Box)} {j k off len sz : Nat} {el el2 : TypeId} {A B : List CV} {row2 : Bool} {vals : List Value} {row : Bool}
    (hs : s.all (fun p => p.2.inUse ((j, none) :: bx)) = true) (hA : A.all (CV.inUse ((j, none) :: bx)) = true) (hB : B.all (CV.inUse ((j, none) :: bx)) = true) (hb : bx.all (fun p => match p.2 with | some b => b.cells.all (CV.inUse ((j, none) :: bx)) | none => true) = true) (hk : look k bx = none) (hjk : Nat.beq j k = false)
    (h : ∀ (blk cap : Nat) (arr : Array Value) (fr : Nat × Nat), X blk = none → Frozen C blk arr fr → len ≤ cap → off + cap * sz ≤ arr.size → (∃ sp, arr.toList = vals ++ sp) →
      Leads n C Mid ⟨s, (j, some ⟨el2, A ++ .val (.slice (some ⟨blk, off, none⟩) len cap) :: B, row2⟩) :: bx, withBlock X blk (.cells arr el fr)⟩) :
    Leads n C Mid ⟨s, (j, some ⟨el2, A ++ .slc k off len sz :: B, row2⟩) :: (k, some ⟨el, vals.map .val, row⟩) :: bx, X⟩ := ⟨fun ι a w hr => by
  obtain ⟨blk, cap, arr, fr, h1, h2, h3, h4, h5, h6⟩ := hr.freezeCell hs hA hB hb hk hjk
  exact (h blk cap arr fr h1 h2 h3 h4 h5).out ι a w h6⟩
end
end Go.Lg
end
section
namespace Go.Lg
open Go Go.RowKit
theorem args_rel : ∀ (vals : List Value), LVs.rel noS (fun _ => (0, 0)) (vals.map toLV) vals
  | [] => trivial
  | v :: vs => ⟨toLV_rel _ _ v, args_rel vs⟩
section
variable {P : Program} {n : Nat} {ops os : List Oper} {acc : List Eff} {K : List Eff → St → Prop} {s : List (Nat × LV)} {bx : List (Nat × Option Box)} {X : Nat → Option Obj} {σ : St}
theorem LOK.fieldAddrX {d : Nat} {s i : Nat} {x : Operand} {ty : TypeId} {pos : String} {after : Array Edge} {g : Option (Nat × Bool)} {b off o m : Nat} {off' : Nat} (hx : σ.ev x = some (.sv (.one (.val (.pointer (some ⟨b, off, none⟩))))))
    (hf : fieldOf P s i = some (o, m + 1)) (ho : off + o = off') :
    LOK P n ops ⟨some d, .fieldAddr s x i, ty, pos, after, g⟩ σ ⟨[(d, .sv (.one (.val (.pointer (some ⟨b, off', none⟩)))))], [], []⟩ :=
  LOK.value fun σ' ha C ι a w hr => by
    have h1 : a.eval x = _ := hr.ev ((ha.ev (x := x) (by simp [Op.operands])).trans hx)
    subst ho
    unfold fieldOf at hf
    cases hu : P.underlying s with
    | none => simp [hu] at hf
    | some dd =>
      cases dd <;> simp only [hu] at hf <;> try (simp at hf; done)
      rename_i fs
      cases hfi : fs[i]? with
      | none => simp [hfi] at hf
      | some f =>
        cases hin : P.info? f.type with
        | none => simp [hfi, hin] at hf
        | some inf =>
          simp only [hfi, hin, Option.map_some, Option.some.injEq, Prod.mk.injEq] at hf
          obtain ⟨e1, e2⟩ := hf
          refine ⟨_, ?_, rfl⟩
          simp [execOp, Instr.fieldAt, run_underlying hu, hfi, Instr.sureAddr, h1, fieldPlace, sizeOf, typeInfo, hin, e2, addr_add, e1]
theorem K.fieldAddrX {d : Nat} {t : TypeId} {x : Operand} {ty : TypeId} {pos : String} {after : Array Edge} {g : Option (Nat × Bool)} {i b off o m : Nat} [f : FieldT P t i o m] (hx : (⟨s, bx, X⟩ : St).ev x = some (.sv (.one (.val (.pointer (some ⟨b, off, none⟩)))))) {off' : Nat} (ho : Nat.add off o = off') (hw : Want ops s g)
    (kont : RunK P n ops os ⟨(d, .sv (.one (.val (.pointer (some ⟨b, off', none⟩))))) :: s, bx, X⟩ (⟨[(d, .sv (.one (.val (.pointer (some ⟨b, off', none⟩)))))], [], []⟩ :: acc) K) :
    RunK P n ops (⟨some d, .fieldAddr t x i, ty, pos, after, g⟩ :: os) ⟨s, bx, X⟩ acc K := RunK.g1 (LOK.fieldAddrX hx f.h ho) hw kont
end
end Go.Lg
end
section
namespace Go.Lg
open Go Go.RowKit
section
variable {P : Program} {n : Nat} {ops os : List Oper} {acc : List Eff} {K : List Eff → St → Prop} {s : List (Nat × LV)} {bx : List (Nat × Option Box)} {X : Nat → Option Obj} {σ : St}
theorem LOK.max2 {d : Nat} {tys : Array TypeId} {x y : Operand} {ty : TypeId} {pos : String} {after_ : Array Edge} {g : Option (Nat × Bool)} {k : IntKind} {a b c : Int} (hx : σ.ev x = some (.sv (.one (.val (.int k a))))) (hy : σ.ev y = some (.sv (.one (.val (.int k b))))) (hc : (if b > a then b else a) = c) :
    LOK P n ops ⟨some d, .call ⟨.builtin .max, #[x, y], tys⟩, ty, pos, after_, g⟩ σ ⟨[(d, .sv (.one (.val (.int k c))))], [], []⟩ :=
  LOK.value fun σ' ha C ι av w hr => by
    have h1 : av.eval x = .int k a := hr.ev ((ha.ev (x := x) (by simp [Op.operands, Call.operands])).trans hx)
    have h2 : av.eval y = .int k b := hr.ev ((ha.ev (x := y) (by simp [Op.operands, Call.operands])).trans hy)
    have hrun : (Builtin.max_ tys ty #[.int k a, .int k b]).run P w = .ok (.int k c) w := by
      subst hc
      simp [Builtin.max_, Builtin.max2]
    exact ⟨_, by simp [execOp, resolve, invoke, builtin, h1, h2, hrun], rfl⟩
theorem K.max2 {d : Nat} {tys : Array TypeId} {x y : Operand} {ty : TypeId} {pos : String} {after_ : Array Edge} {g : Option (Nat × Bool)} {k : IntKind} {a b c : Int} (hx : (⟨s, bx, X⟩ : St).ev x = some (.sv (.one (.val (.int k a))))) (hy : (⟨s, bx, X⟩ : St).ev y = some (.sv (.one (.val (.int k b))))) (hc : (if b > a then b else a) = c) (hw : Want ops s g)
    (kont : RunK P n ops os ⟨(d, .sv (.one (.val (.int k c)))) :: s, bx, X⟩ (⟨[(d, .sv (.one (.val (.int k c))))], [], []⟩ :: acc) K) :
    RunK P n ops (⟨some d, .call ⟨.builtin .max, #[x, y], tys⟩, ty, pos, after_, g⟩ :: os) ⟨s, bx, X⟩ acc K := RunK.g1 (LOK.max2 hx hy hc) hw kont
theorem LOK.fromSlc {d k off len sz l : Nat} {t : TypeId} {x y : Operand} {ty : TypeId} {pos : String} {after_ : Array Edge} {g : Option (Nat × Bool)} {kh : IntKind} (hx : σ.ev x = some (.sv (.one (.slc k off len sz)))) (hy : σ.ev y = some (.sv (.one (.val (.int kh (l : Nat))))))
    (ht : sliceOf P t = some sz) (hh : l < len) : LOK P n ops ⟨some d, .slice t x (some y) none none, ty, pos, after_, g⟩ σ ⟨[(d, .sv (.one (.slc k (off + l * sz) (len - l) sz)))], [], []⟩ :=
  LOK.value fun σ' ha C ι a w hr => by
    have h1 := hr.ev ((ha.ev (x := x) (by simp [Op.operands])).trans hx)
    have h2 : a.eval y = .int kh (l : Nat) := hr.ev ((ha.ev (x := y) (by simp [Op.operands])).trans hy)
    obtain ⟨e, hu, hsz⟩ := sliceOf_spec ht
    have hrun : ∀ b c : Nat, len ≤ c → (Instr.sliceAt t (.slice (some ⟨b, off, none⟩) len c) (some (.int kh (l : Nat))) none none).run P w = .ok (.slice (some ⟨b, off + l * sz, none⟩) (len - l) (c - l)) w := by
      intro b c hc
      have ha0 : (⟨b, off, none⟩ : Addr).add (l * sz) = ⟨b, off + l * sz, none⟩ := addr_add _ _ _
      have hcl : c ≠ l := by omega
      simp [Instr.sliceAt, Instr.slice, run_underlying hu, Instr.sliceBounds, Instr.sliceBound, asIntOf, hsz, ha0, hcl]
      omega
    simp only [LV.rel, SV.rel, CV.rel] at h1 ⊢
    cases hk : σ'.stat k with
    | none => simp [hk] at h1
    | some bb =>
      cases bb with
      | none =>
        simp only [hk] at h1 ⊢
        obtain ⟨b, c, h1, h3⟩ := h1
        exact ⟨_, by simp only [execOp, h1, h2, Option.map_none, Option.map_some, Sem.run_bind, hrun b c h3, Result.andThen_ok, Sem.run_pure], b, c - l, rfl, by omega⟩
      | some b =>
        simp only [hk] at h1 ⊢
        obtain ⟨c, h1, h3, h4⟩ := h1
        refine ⟨_, by simp only [execOp, h1, h2, Option.map_none, Option.map_some, Sem.run_bind, hrun _ c h3, Result.andThen_ok, Sem.run_pure], c - l, rfl, by omega, ?_⟩
        rw [Nat.add_assoc, ← Nat.add_mul, Nat.add_sub_cancel' (by omega)]; exact h4
theorem K.fromSlc {d k off len sz l off' len' : Nat} {t : TypeId} {x y : Operand} {ty : TypeId} {pos : String} {after_ : Array Edge} {g : Option (Nat × Bool)} {kh : IntKind} (hx : (⟨s, bx, X⟩ : St).ev x = some (.sv (.one (.slc k off len sz)))) (hy : (⟨s, bx, X⟩ : St).ev y = some (.sv (.one (.val (.int kh (l : Nat))))))
    (ht : sliceOf P t = some sz) (hh : l < len) (ho : off + l * sz = off') (hn : len - l = len') (hw : Want ops s g) (kont : RunK P n ops os ⟨(d, .sv (.one (.slc k off' len' sz))) :: s, bx, X⟩ (⟨[(d, .sv (.one (.slc k off' len' sz)))], [], []⟩ :: acc) K) :
    RunK P n ops (⟨some d, .slice t x (some y) none none, ty, pos, after_, g⟩ :: os) ⟨s, bx, X⟩ acc K := by
  subst ho hn
  exact RunK.g1 (LOK.fromSlc hx hy ht hh) hw kont
theorem bc_cells_one (l : List UInt8) : ∀ u ∈ (l.map fun c => Value.int .u8 (c.toNat : Nat)), u.oneCell' = true := fun u hu => by
  obtain ⟨c, _, rfl⟩ := List.mem_map.1 hu
  rfl
theorem LOK.copyStr {d k off len : Nat} {t tx e el : TypeId} {x y : Operand} {ty : TypeId} {pos : String} {after_ : Array Edge} {g : Option (Nat × Bool)} {cells : List CV} {row : Bool} {l : List UInt8}
    (hx : σ.ev x = some (.sv (.one (.slc k off len)))) (hk : σ.stat k = some (some ⟨el, cells, row⟩)) (hy : σ.ev y = some (.sv (.one (.val (.string ⟨l.toArray⟩))))) (hu : P.underlying t = some (.slice e)) (hz : sizeIs P e = some 1)
    (hle : l.length ≤ len) (hm : off + l.length ≤ cells.length) :
    LOK P n ops ⟨some d, .call ⟨.builtin .copy, #[x, y], #[t, tx]⟩, ty, pos, after_, g⟩ σ ⟨[(d, .sv (.one (.val (.int .i64 (l.length : Nat)))))], [], [(k, some ⟨el, splice cells off (l.map bc), row⟩)]⟩ :=
  LOK.make fun σ' ha C ι a w hr => by
    have hk' : σ'.stat k = _ := (ha.stat k (.inr (by simp))).trans hk
    have h1 := hr.ev ((ha.ev (x := x) (by simp [Op.operands, Call.operands])).trans hx)
    have h2 : a.eval y = .string ⟨l.toArray⟩ := hr.ev ((ha.ev (x := y) (by simp [Op.operands, Call.operands])).trans hy)
    simp only [LV.rel, SV.rel, CV.rel, hk'] at h1
    obtain ⟨c, h1, hlc, hcs⟩ := h1
    obtain ⟨arr, fr, harr, hthaw, hasz, hrel⟩ := hr.boxes k _ hk' rfl
    have hlen : (l.map fun c => Value.int .u8 (c.toNat : Nat)).length = l.length := List.length_map _
    have hbl : off + l.length ≤ arr.size := by
      have := (Box.rel_part hrel (off := 0) (m := cells.length) (by simp)).1
      simp at this
      omega
    have hst := run_storeCells_at (P := P) hthaw (l.map fun c => Value.int .u8 (c.toNat : Nat)) off 0 arr w rfl harr (by rw [hlen]; simpa using hbl) (bc_cells_one l)
    simp only [Nat.add_zero] at hst
    have hmin : Nat.min l.length len = l.length := Nat.min_eq_left hle
    have hrun : (Builtin.copy_ #[t, tx] ty #[.slice (some ⟨(ι k).1, off, none⟩) len c, .string ⟨l.toArray⟩]).run P w = .ok (goInt l.length) (w.setRow (ι k).1 (splice arr.toList off (l.map fun c => Value.int .u8 (c.toNat : Nat))).toArray) := by
      have hq := run_sizeIs hz w
      simp [Builtin.copy_, run_underlying hu, Builtin.lenOf, Builtin.firstCells, hq, ByteArray.size, hmin]
      rw [List.take_of_length_le (by simp), hst]
      simp [splice]
    have hrc : CVs.rel σ'.stat ι (l.map bc) (l.map fun c => Value.int .u8 (c.toNat : Nat)) := rel_bc l
    refine ⟨goInt l.length, w.setRow (ι k).1 (splice arr.toList off (l.map fun c => Value.int .u8 (c.toNat : Nat))).toArray, ι, by simp [execOp, resolve, invoke, builtin, h1, h2, hrun], ?_, rfl⟩
    exact hr.write hk' rfl rfl (b' := ⟨el, splice cells off (l.map bc), row⟩) (by rw [← hasz]; unfold splice; simp at hbl ⊢; omega) (by simpa using Box.rel_splice hrel hrc (by rw [List.length_map]; exact hm))
theorem K.copyStr {d k off len : Nat} {t tx e el : TypeId} {x y : Operand} {ty : TypeId} {pos : String} {after_ : Array Edge} {g : Option (Nat × Bool)} {cells : List CV} {row : Bool} {l : List UInt8}
    (hx : (⟨s, bx, X⟩ : St).ev x = some (.sv (.one (.slc k off len)))) (hk : (⟨s, bx, X⟩ : St).stat k = some (some ⟨el, cells, row⟩)) (hy : (⟨s, bx, X⟩ : St).ev y = some (.sv (.one (.val (.string ⟨l.toArray⟩))))) (hu : P.underlying t = some (.slice e)) (hz : sizeIs P e = some 1)
    (hle : l.length ≤ len) (hm : off + l.length ≤ cells.length) {r : Int} {nc : List CV} (hr : ((l.length : Nat) : Int) = r) (hc : splice cells off (l.map bc) = nc) (hw : Want ops s g)
    (kont : RunK P n ops os ⟨(d, .sv (.one (.val (.int .i64 r)))) :: s, (k, some ⟨el, nc, row⟩) :: bx, X⟩ (⟨[(d, .sv (.one (.val (.int .i64 r))))], [], [(k, some ⟨el, nc, row⟩)]⟩ :: acc) K) :
    RunK P n ops (⟨some d, .call ⟨.builtin .copy, #[x, y], #[t, tx]⟩, ty, pos, after_, g⟩ :: os) ⟨s, bx, X⟩ acc K := by
  subst hr hc
  exact RunK.gen hw (LOK.copyStr hx hk hy hu hz hle hm) kont
theorem slcBuild_many {t e : TypeId} {m sz : Nat} {z : Array Value} (hu : P.underlying t = some (.slice e)) (hz : (P.info? e).map (fun i => (i.size, i.zero.map (fun z => z.cells))) = some (sz, some z)) (hs : z.size = sz) (hm : m * sz ≤ 16777216) :
    slcBuild P t m = some ((List.replicate m z.toList).flatten, sz, e) := by
  unfold slcBuild
  rw [hu]
  simp only
  cases hi : P.info? e with
  | none => rw [hi] at hz; cases hz
  | some ie =>
    rw [hi] at hz
    simp only [Option.map_some, Option.some.injEq, Prod.mk.injEq] at hz
    obtain ⟨h1, h2⟩ := hz
    cases hzz : ie.zero with
    | none => rw [hzz] at h2; cases h2
    | some zv =>
      rw [hzz] at h2
      simp only [Option.map_some, Option.some.injEq] at h2
      simp only [hzz, h1, h2]
      rw [if_neg (show ¬ m * sz > 2 ^ 24 by omega)]
      have key : ∀ m : Nat, ((List.range (m * sz)).map fun i => z[i % z.size]!) = (List.replicate m z.toList).flatten := by
        intro m
        induction m with
        | zero => simp
        | succ m ih =>
          rw [Nat.succ_mul, List.range_add, List.map_append, ih, List.replicate_succ', List.flatten_append]
          congr 1
          rw [List.map_map]
          simp only [List.flatten_cons, List.flatten_nil, List.append_nil]
          apply List.ext_getElem
          · simp [hs]
          · intro i h3 h4
            have hi : i < sz := by simpa [hs] using h4
            have h5 : i % sz = i := Nat.mod_eq_of_lt hi
            have h6 : i < z.size := by omega
            rw [List.getElem_map, Function.comp_apply, List.getElem_range, hs, Nat.mul_add_mod_self_right, h5, Array.getElem_toList]
            exact getElem!_pos z i h6
      rw [key]
theorem MSpec.plain {f : FuncId} {args : List LV} {r : LV} (h : MSpec P X f args [] r []) : PSpec P X f args r :=
  ⟨h.enters, fun w vals hX hargs => (h.out w vals (fun _ => (0, 0)) (fun _ _ => none) ⟨fun k b hk => (by simp [stOf, look] at hk), fun k b hk => (by simp [stOf, look] at hk), fun k k' b b' hk => (by simp [stOf, look] at hk), hX, ⟨fun k e cs R hk => (by simp [stOf, look] at hk), fun k b o ho => (by cases ho), fun k k' b h => absurd rfl h⟩⟩ hargs).mono fun e w' ⟨v, ι', _, he, hr, _, hp⟩ =>
    ⟨v, he, LV.rel_later (later_noS _ _ _) hr, ⟨hp.os, hp.tape, hp.output, hp.big, fun b hb => hp.frame b hb (fun hl => by
      rcases hl with ⟨k, b0, hk, _⟩ | ⟨k, hk⟩
      · simp [stOf, look] at hk
      · exact hk rfl)⟩⟩⟩
end
end Go.Lg
end
section
namespace Go.Lg.Fld
open Go Go.Lg
abbrev planV (size : Int) (c : CV) : SV := .agg [.val (.int .i64 size), c]
def canB (fs : List Fl) : Bool := decide (fs.length ≤ 8) && fs.all Fl.ok
theorem canB_err {fs : List Fl} (h : canB fs = false) : layErr fs = 1 := by
  unfold canB at h
  unfold layErr
  by_cases h8 : 8 < fs.length
  · rw [if_pos h8]
  · rw [if_neg h8]
    rw [decide_eq_true (show fs.length ≤ 8 by omega), Bool.true_and] at h
    rw [h, if_neg (by simp)]
theorem canB_ok {fs : List Fl} (h : canB fs = true) : fs.length ≤ 8 ∧ fs.all Fl.ok = true ∧ layErr fs = if 256 < rowSize fs then 5 else 0 := by
  unfold canB at h
  rw [Bool.and_eq_true, decide_eq_true_eq] at h
  refine ⟨h.1, h.2, ?_⟩
  unfold layErr
  rw [if_neg (by omega), if_pos h.2]
theorem round_up {n : Nat} (h : isWd n) (a : Nat) : (a + n - 1) / n * n = roundUp a n := by
  unfold roundUp
  rcases h with rfl | rfl | rfl | rfl <;> omega
end Go.Lg.Fld
namespace Go.Proofs.YtbpdbclndfmcgaaGreatDoor
open Go Go.Lg Go.Lg.Fld
set_option maxRecDepth 100000
variable (X : Nat → Option Obj)
theorem multipleFrom_spec (a w : Nat) (hw : isWd w) (ha : a < 1000000) : PSpec Tryz.prog X 75 [Ln .i64 (a : Nat), Ln .i64 (w : Nat)] (Ln .i64 (roundUp a w : Nat)) := by
  rw [← round_up hw]
  have hw8 : 1 ≤ w ∧ w ≤ 8 := by rcases hw with e | e | e | e <;> omega
  have hq : ((a + w - 1 : Nat) : Int) / ((w : Nat) : Int) = (((a + w - 1) / w : Nat) : Int) := (Int.natCast_ediv _ _).symm
  have hs : IntKind.i64.wrap ((a : Nat) + (w : Nat) - 1 : Int) = ((a + w - 1 : Nat) : Int) := by rw [wrap_i64 (by omega)]; omega
  have hd : IntKind.i64.wrap (((a + w - 1 : Nat) : Int).tdiv ((w : Nat) : Int)) = (((a + w - 1) / w : Nat) : Int) := by rw [quo_i64 (by omega) (by omega)]; exact hq
  have hb : (a + w - 1) / w * w ≤ a + w - 1 := Nat.div_mul_le_self _ _
  have hm : IntKind.i64.wrap ((((a + w - 1) / w : Nat) : Int) * ((w : Nat) : Int)) = (((a + w - 1) / w * w : Nat) : Int) := by
    rw [← Int.natCast_mul, wrap_i64 (by omega)]
  refine PSpec.intro Tryz.func75 rfl (by kernel_rfl) rfl rfl ?_
  intro C
  (refine LWP.seq <| rgN <| kas rfl <| RunK.nil <| LWP.seq <| rgN <| kmv rfl <| kmv rfl <| kad rfl rfl (wrap_i64 (by omega)) <| K.sub rfl rfl hs .plain <| kmv rfl <| K.quo rfl rfl (by omega) hd .plain <| kmv rfl <| K.mul rfl rfl hm .plain ?_; refine kas rfl <| RunK.nil <| LWP.ret ?_)
  exact ⟨[_], ⟨rfl, trivial⟩, rfl⟩
end Go.Proofs.YtbpdbclndfmcgaaGreatDoor
end
section
namespace Go.Lg.Fld
open Go Go.Lg
theorem take_ok {fs : List Fl} (h : fs.all Fl.ok = true) (i : Nat) : (fs.take i).all Fl.ok = true := by
  rw [List.all_eq_true] at h ⊢
  exact fun f hf => h f (List.mem_of_mem_take hf)
theorem drop_at {α : Type} {l : List α} {i : Nat} {x : α} (h : l[i]? = some x) : l.drop i = x :: l.drop (i + 1) := by
  obtain ⟨hi, e⟩ := List.getElem?_eq_some_iff.1 h
  rw [List.drop_eq_getElem_cons hi, e]
theorem fill_set {α : Type} {S : List α} {z x : α} {n i : Nat} (hS : S.length = i) (hi : i < n) : (S ++ List.replicate (n - i) z).set i x = (S ++ [x]) ++ List.replicate (n - (i + 1)) z := by
  rw [List.set_append_right _ _ (by omega), hS, Nat.sub_self]
  have : n - i = (n - (i + 1)) + 1 := by omega
  rw [this, List.replicate_succ, List.set_cons_zero, List.append_assoc]
  rfl
theorem fill_at {α : Type} {S : List α} {z x : α} {n i : Nat} (hS : S.length = i) : ((S ++ [x]) ++ List.replicate n z)[i]? = some x := by
  rw [List.append_assoc, List.getElem?_append_right (by omega), hS, Nat.sub_self]
  rfl
end Go.Lg.Fld
namespace Go.Proofs.YtbpdbclndfmcgaaGreatDoor
open Go Go.Lg Go.Lg.Fld
set_option maxRecDepth 100000
variable (X : Nat → Option Obj)
theorem canBe_spec (ad : Option Addr) (cap : Nat) (fs : List Fl) (hin : FieldsIn X ad fs) (hbig : fs.length < 4611686018427387904) (r : Bool) (hr : canB fs = r) : PSpec Tryz.prog X 73 [Lx ad fs.length cap] (Lb r) := by
  subst hr
  refine PSpec.intro Tryz.func73 rfl (by kernel_rfl) rfl rfl ?_
  intro C
  by_cases hlong : 8 < fs.length
  · have hc : canB fs = false := by unfold canB; rw [decide_eq_false (by omega), Bool.false_and]
    rw [hc]
    (refine LWP.seq <| rgN <| kas rfl <| RunK.nil <| LWP.seq <| LWP.seq <| rgN <| kmv rfl <| K.lenX rfl SliceT.h rfl .plain ?_; refine K.gtr rfl rfl (decide_eq_true (by omega)) .plain <| RunK.nil <| LWP.condT rfl ?_; refine LWP.seq <| rgN <| kas rfl <| RunK.nil <| LWP.ret ?_)
    exact ⟨[_], ⟨rfl, trivial⟩, rfl⟩
  have h8 : fs.length ≤ 8 := by omega
  have hcb : canB fs = fs.all Fl.ok := by unfold canB; rw [decide_eq_true h8, Bool.true_and]
  rw [hcb]
  (refine LWP.seq <| rgN <| kas rfl <| RunK.nil <| LWP.seq <| LWP.seq <| rgN <| kmv rfl <| K.lenX rfl SliceT.h rfl .plain ?_; refine K.gtr rfl rfl (decide_eq_false (by omega)) .plain <| RunK.nil <| LWP.condF rfl ?_; refine LWP.skip ?_; refine LWP.seq <| LWP.seq <| rgN <| kmv rfl <| K.lenX rfl SliceT.h rfl .plain ?_; refine kmv rfl <| RunK.nil <| LWP.block ?_)
  refine LWP.loop (fun m σ => ∃ i : Nat, i ≤ fs.length ∧ m = fs.length - i ∧ (fs.take i).all Fl.ok = true ∧ σ = ⟨[(8, Lx ad fs.length cap), (9, Ln .i64 (fs.length : Nat)), (10, Ln .i64 (i : Nat))], [], X⟩) fs.length
    ⟨_, Le.of (by exact ⟨rfl, rfl, rfl, trivial⟩) (by exact trivial) (by exact rfl) (by exact rfl) (by exact rfl), 0, by omega, by omega, rfl, rfl⟩ ?_
  rintro m σ ⟨i, hi, rfl, hall, rfl⟩
  by_cases hlt : i < fs.length
  · obtain ⟨f, hf⟩ : ∃ f, fs[i]? = some f := ⟨_, List.getElem?_eq_getElem hlt⟩
    obtain ⟨blk, off, arr, el, fr, rfl, hX, hsz, hcells⟩ := hin.at hf
    have hio : off + Int.toNat (i : Int) * 3 = off + i * 3 := by simp
    have hmem : f ∈ fs := List.mem_of_getElem? hf
    have hsm := hin.small f hmem
    have hB := fSize_spec X f.kind
    cases hok : f.ok with
    | false =>
      have hno : fs.all Fl.ok = false := by
        cases e : fs.all Fl.ok with
        | false => rfl
        | true => rw [List.all_eq_true.1 e f hmem] at hok; cases hok
      rw [hno]
      by_cases h0 : kW f.kind = 0
      · rw [h0] at hB
        (refine LWP.seq <| rgN <| klt rfl rfl (decide_eq_true (by omega)) <| RunK.nil <| LWP.seq <| LWP.condT rfl ?_; refine LWP.skip ?_; refine LWP.seq <| LWP.block <| LWP.seq <| rgN <| K.indexX rfl rfl SliceT.h (by omega) hio .plain <| K.loadXagg rfl hX (by kernel_rfl) hsz hcells .plain <| K.alloc rfl .plain ?_; refine K.storeAll rfl rfl rfl rfl rfl rfl .plain ?_; refine RunK.nil <| LWP.seq <| rgN <| kfa rfl rfl ?_; refine kl1 rfl rfl rfl <| kca rfl rfl (hB) <| keq rfl rfl (beq_iff_eq.2 (by omega)) <| kmv rfl <| RunK.passed rfl rfl rfl <| RunK.passed rfl rfl rfl <| RunK.passed rfl rfl rfl <| kpt rfl rfl <| kmv rfl <| RunK.passed rfl rfl rfl <| RunK.passed rfl rfl rfl <| RunK.passed rfl rfl rfl <| kpt rfl rfl <| RunK.nil ?_; refine LWP.condT rfl ?_; refine LWP.seq <| rgN <| kas rfl <| RunK.nil <| LWP.ret ?_)
        exact ⟨[_], ⟨rfl, trivial⟩, rfl⟩
      · have hk : kK f.kind = true := by
          cases e : kK f.kind with
          | true => rfl
          | false => exact absurd ((kW_zero f.kind).2 e) h0
        by_cases h1 : f.count < 1
        · (refine LWP.seq <| rgN <| klt rfl rfl (decide_eq_true (by omega)) <| RunK.nil <| LWP.seq <| LWP.condT rfl ?_; refine LWP.skip ?_; refine LWP.seq <| LWP.block <| LWP.seq <| rgN <| K.indexX rfl rfl SliceT.h (by omega) hio .plain <| K.loadXagg rfl hX (by kernel_rfl) hsz hcells .plain <| K.alloc rfl .plain ?_; refine K.storeAll rfl rfl rfl rfl rfl rfl .plain ?_; refine RunK.nil <| LWP.seq <| rgN <| kfa rfl rfl ?_; refine kl1 rfl rfl rfl <| kca rfl rfl (hB) <| keq rfl rfl (beq_eq_false_iff_ne.2 (by omega)) <| kmv rfl <| K.fieldAddr rfl rfl (.taken rfl rfl) ?_; refine K.loadOne rfl rfl rfl (.taken rfl rfl) ?_; refine K.lss rfl rfl (decide_eq_true (by omega)) (.taken rfl rfl) ?_; refine kpf rfl rfl <| kmv rfl <| RunK.passed rfl rfl rfl <| RunK.passed rfl rfl rfl <| RunK.passed rfl rfl rfl <| kpt rfl rfl <| RunK.nil <| LWP.condT rfl ?_; refine LWP.seq <| rgN <| kas rfl <| RunK.nil <| LWP.ret ?_)
          exact ⟨[_], ⟨rfl, trivial⟩, rfl⟩
        · have h2 : 8 < f.count := by
            unfold Fl.ok at hok
            rw [hk, decide_eq_true (show 1 ≤ f.count by omega)] at hok
            simpa using hok
          (refine LWP.seq <| rgN <| klt rfl rfl (decide_eq_true (by omega)) <| RunK.nil <| LWP.seq <| LWP.condT rfl ?_; refine LWP.skip ?_; refine LWP.seq <| LWP.block <| LWP.seq <| rgN <| K.indexX rfl rfl SliceT.h (by omega) hio .plain <| K.loadXagg rfl hX (by kernel_rfl) hsz hcells .plain <| K.alloc rfl .plain ?_; refine K.storeAll rfl rfl rfl rfl rfl rfl .plain ?_; refine RunK.nil <| LWP.seq <| rgN <| kfa rfl rfl ?_; refine kl1 rfl rfl rfl <| kca rfl rfl (hB) <| keq rfl rfl (beq_eq_false_iff_ne.2 (by omega)) <| kmv rfl <| K.fieldAddr rfl rfl (.taken rfl rfl) ?_; refine K.loadOne rfl rfl rfl (.taken rfl rfl) ?_; refine K.lss rfl rfl (decide_eq_false (by omega)) (.taken rfl rfl) ?_; refine kpf rfl rfl <| kmv rfl <| K.fieldAddr rfl rfl (.taken rfl rfl) ?_; refine K.loadOne rfl rfl rfl (.taken rfl rfl) ?_; refine K.gtr rfl rfl (decide_eq_true (by omega)) (.taken rfl rfl) ?_; refine kpf rfl rfl <| RunK.nil <| LWP.condT rfl ?_; refine LWP.seq <| rgN <| kas rfl <| RunK.nil <| LWP.ret ?_)
          exact ⟨[_], ⟨rfl, trivial⟩, rfl⟩
    | true =>
      have hall' := take_all hall hf hok
      obtain ⟨hw, hn1, hn8, hnc⟩ := ok_w hok
      have hw1 : 1 ≤ kW f.kind := by have hwk : kW f.kind = f.w := rfl; rcases hw with e | e | e | e <;> omega
      (refine LWP.seq <| rgN <| klt rfl rfl (decide_eq_true (by omega)) <| RunK.nil <| LWP.seq <| LWP.condT rfl ?_; refine LWP.skip ?_; refine LWP.seq <| LWP.block <| LWP.seq <| rgN <| K.indexX rfl rfl SliceT.h (by omega) hio .plain <| K.loadXagg rfl hX (by kernel_rfl) hsz hcells .plain <| K.alloc rfl .plain ?_; refine K.storeAll rfl rfl rfl rfl rfl rfl .plain ?_; refine RunK.nil <| LWP.seq <| rgN <| kfa rfl rfl ?_; refine kl1 rfl rfl rfl <| kca rfl rfl (hB) <| keq rfl rfl (beq_eq_false_iff_ne.2 (by omega)) <| kmv rfl <| K.fieldAddr rfl rfl (.taken rfl rfl) ?_; refine K.loadOne rfl rfl rfl (.taken rfl rfl) ?_; refine K.lss rfl rfl (decide_eq_false (by omega)) (.taken rfl rfl) ?_; refine kpf rfl rfl <| kmv rfl <| K.fieldAddr rfl rfl (.taken rfl rfl) ?_; refine K.loadOne rfl rfl rfl (.taken rfl rfl) ?_; refine K.gtr rfl rfl (decide_eq_false (by omega)) (.taken rfl rfl) ?_; refine kpf rfl rfl <| RunK.nil <| LWP.condF rfl ?_; refine LWP.skip ?_; refine rgN <| kad rfl rfl (wrap_i64 (by omega)) <| kmv rfl <| RunK.nil ?_)
      exact ⟨_, _, by omega, Le.of (by exact ⟨rfl, rfl, rfl, trivial⟩) (by exact trivial) (by exact rfl) (by exact rfl) (by exact rfl), i + 1, by omega, rfl, hall', rfl⟩
  · have e : i = fs.length := by omega
    subst e
    rw [List.take_length] at hall
    rw [hall]
    (refine LWP.seq <| rgN <| klt rfl rfl (decide_eq_false (by omega)) <| RunK.nil <| LWP.seq <| LWP.condF rfl ?_; refine LWP.exit <| LWP.seq <| rgN <| kas rfl <| RunK.nil <| LWP.ret ?_)
    exact ⟨[_], ⟨rfl, trivial⟩, rfl⟩
theorem Of_no (ad : Option Addr) (cap : Nat) (fs : List Fl) (hin : FieldsIn X ad fs) (hbig : fs.length < 4611686018427387904) (h : canB fs = false) :
    PSpec Tryz.prog X 39 [Lx ad fs.length cap] (.tup [planV 0 (.val (.slice none 0 0)), Sn .i64 1]) := by
  have hc := canBe_spec X ad cap fs hin hbig false h
  refine PSpec.intro Tryz.func39 rfl (by kernel_rfl) rfl rfl ?_
  intro C
  (refine LWP.seq <| rgN <| K.alloc rfl .plain ?_; refine kas rfl <| RunK.nil <| LWP.seq <| LWP.seq <| rgN <| kmv rfl <| kca rfl rfl (hc) <| K.not rfl rfl .plain <| RunK.nil <| LWP.condT rfl ?_; refine LWP.seq <| rgN <| K.build rfl rfl (by exact rfl) (by exact nl2 rfl rfl rfl) .plain ?_; refine K.storeAll rfl rfl rfl rfl rfl rfl .plain ?_; refine kas rfl <| RunK.nil <| LWP.ret ?_)
  exact ⟨[_, _], ⟨⟨_, _, rfl, rfl, rfl, .inl ⟨AggT.h, rfl⟩⟩, rfl, trivial⟩, rfl⟩
def ofR (fs : List Fl) : LV := if layErr fs = 0 then .tup [planV (rowSize fs : Nat) (.slc 1000001 0 fs.length 1), Sn .i64 0] else .tup [planV 0 (.val (.slice none 0 0)), Sn .i64 (layErr fs)]
def ofBx (fs : List Fl) : List (Nat × Option Box) := if layErr fs = 0 then [(1000001, some ⟨3, (ntV (startsAt 0 fs)).map .val, false⟩)] else []
set_option maxHeartbeats 3200000 in
theorem Of_can (ad : Option Addr) (cap : Nat) (fs : List Fl) (hin : FieldsIn X ad fs) (hbig : fs.length < 4611686018427387904) (h : canB fs = true) :
    MSpec Tryz.prog X 39 [Lx ad fs.length cap] [] (ofR fs) (ofBx fs) := by
  have hc := canBe_spec X ad cap fs hin hbig true h
  obtain ⟨h8, hall, hle⟩ := canB_ok h
  refine MSpec.intro Tryz.func39 rfl (by kernel_rfl) rfl (by unfold ofR ofBx; split <;> rfl) (by unfold ofBx; split <;> exact (by repeat' (first | refine all_cons_true ?_ ?_ | rfl | exact bytes_inUse | exact vals_inUse | exact mid_inUse rfl))) rfl rfl ?_
  intro C
  have hmk : slcBuild Tryz.prog 58 fs.length = some (List.replicate fs.length (.int .i64 0), 1, 3) := slcBuild_one (by kernel_rfl) (by kernel_rfl) (by omega)
  (refine LWP.seq <| rgN <| K.alloc rfl .plain ?_; refine kas rfl <| RunK.nil <| LWP.seq <| LWP.seq <| rgN <| kmv rfl <| kca rfl rfl (hc) <| K.not rfl rfl .plain <| RunK.nil <| LWP.condF rfl ?_; refine LWP.skip ?_; refine LWP.seq <| rgN <| kmv rfl <| K.lenX rfl SliceT.h rfl .plain ?_; refine K.makeSlc (m := fs.length) (bytes := 8) rfl rfl hmk (by kernel_rfl) (by omega) rfl rfl .plain <| kas rfl <| RunK.nil <| LWP.seq <| rgN <| kas rfl <| kas rfl <| RunK.nil <| LWP.seq <| LWP.seq <| rgN <| kmv rfl <| K.lenX rfl SliceT.h rfl .plain ?_; refine kmv rfl <| RunK.nil <| LWP.block ?_)
  refine LWP.loop (fun m σ => ∃ i : Nat, i ≤ fs.length ∧ m = fs.length - i ∧ σ = ⟨[(2, .sv (.one (.ptr 2 0))), (4, .sv (.one (.slc 17 0 fs.length 1))), (5, Ln .i64 (endAt 0 (fs.take i) : Nat)), (6, Ln .i64 (greatW (fs.take i) : Nat)), (18, Lx ad fs.length cap), (19, Ln .i64 (fs.length : Nat)), (20, Ln .i64 (i : Nat))], [(2, some ⟨94, [.val (.int .i64 0), .val (.slice none 0 0)], false⟩), (17, some ⟨3, (ntV (startsAt 0 (fs.take i)) ++ List.replicate (fs.length - i) (Value.int .i64 0)).map .val, false⟩)], X⟩) fs.length
    ⟨_, Le.of (by exact ⟨rfl, rfl, rfl, rfl, rfl, rfl, rfl, trivial⟩) (by exact ⟨rfl, rfl, trivial⟩) (by exact rfl) (by exact rfl) (by repeat' (first | refine all_cons_true ?_ ?_ | rfl | exact bytes_inUse | exact vals_inUse | exact mid_inUse rfl)), 0, by omega, by omega, rfl⟩ ?_
  rintro m σ ⟨i, hi, rfl, rfl⟩
  have ht := take_ok hall i
  have hSl := starts_len (fs.take i) 0
  have hend := end_le (fs.take i) 0 ht
  have hgw := great_wd (fs.take i) ht
  have htl : (fs.take i).length = i := by rw [List.length_take]; omega
  rw [htl] at hSl hend
  by_cases hlt : i < fs.length
  · obtain ⟨f, hf⟩ : ∃ f, fs[i]? = some f := ⟨_, List.getElem?_eq_getElem hlt⟩
    obtain ⟨blk, off, arr, el, fr, rfl, hX, hsz, hcells⟩ := hin.at hf
    have hio : off + Int.toNat (i : Int) * 3 = off + i * 3 := by simp
    have hi1 : 0 + Int.toNat (i : Int) * 1 = i := by simp
    have hB := fSize_spec X f.kind
    have hS : startsAt 0 (fs.take (i + 1)) = startsAt 0 (fs.take i) ++ [roundUp (endAt 0 (fs.take i)) f.w] := by rw [take_snoc hf, starts_snoc]
    have hA : endAt 0 (fs.take (i + 1)) = roundUp (endAt 0 (fs.take i)) f.w + f.w * f.n := by rw [take_snoc hf, end_snoc]
    have hG : greatW (fs.take (i + 1)) = max (greatW (fs.take i)) f.w := by rw [take_snoc hf, great_snoc]
    obtain ⟨hw, hn1, hn8, hnc⟩ := ok_w (List.all_eq_true.1 hall f (List.mem_of_getElem? hf))
    have hM := multipleFrom_spec X (endAt 0 (fs.take i)) f.w hw (by omega)
    have hR := round_facts hw (endAt 0 (fs.take i))
    have hwk : kW f.kind = f.w := rfl
    rw [hwk] at hB
    have hw8 : 1 ≤ f.w ∧ f.w ≤ 8 := by rcases hw with e | e | e | e <;> omega
    have hwn : f.w * f.n ≤ 64 := Nat.le_trans (Nat.mul_le_mul hw8.2 hn8) (by decide)
    have hfc : f.vals.map CV.val = [.val (.string ⟨f.nm.toArray⟩), .val (.int .i64 f.kind), .val (.int .i64 (f.n : Nat))] := by rw [hnc]; rfl
    rw [hfc] at hcells
    generalize startsAt 0 (fs.take i) = S at *
    generalize endAt 0 (fs.take i) = a at *
    generalize greatW (fs.take i) = g at *
    generalize f.w = w at *
    generalize f.n = n at *
    generalize hT : roundUp a w = T at *
    have hnS : (ntV S).length = i := by simp [ntV, hSl]
    have hlt2 : Nat.blt i (((ntV S ++ List.replicate (fs.length - i) (Value.int .i64 0)).map CV.val).length) = true := by rw [Nat.blt_eq, List.length_map, List.length_append, hnS, List.length_replicate]; omega
    have hset : ((ntV S ++ List.replicate (fs.length - i) (Value.int .i64 0)).map CV.val).set i (.val (.int .i64 (T : Nat))) = (ntV (S ++ [T]) ++ List.replicate (fs.length - (i + 1)) (Value.int .i64 0)).map CV.val := by
      rw [← List.map_set, fill_set hnS hlt]; simp [ntV]
    have hget : ((ntV (S ++ [T]) ++ List.replicate (fs.length - (i + 1)) (Value.int .i64 0)).map CV.val)[i]? = some (.val (.int .i64 (T : Nat))) := by
      rw [List.getElem?_map, show ntV (S ++ [T]) = ntV S ++ [.int .i64 (T : Nat)] by simp [ntV], fill_at hnS]; rfl
    have hmul : IntKind.i64.wrap (((w : Nat) : Int) * ((n : Nat) : Int)) = ((w * n : Nat) : Int) := by rw [← Int.natCast_mul, wrap_i64 (by omega)]
    have hadd : IntKind.i64.wrap (((T : Nat) : Int) + ((w * n : Nat) : Int)) = ((T + w * n : Nat) : Int) := by rw [wrap_i64 (by omega)]; omega
    have hmx : (if ((w : Nat) : Int) > ((g : Nat) : Int) then ((w : Nat) : Int) else ((g : Nat) : Int)) = ((max g w : Nat) : Int) := by split <;> omega
    (refine LWP.seq <| rgN <| klt rfl rfl (decide_eq_true (by omega)) <| RunK.nil <| LWP.seq <| LWP.condT rfl ?_; refine LWP.skip ?_; refine LWP.seq <| LWP.block <| LWP.seq <| rgN <| kmv rfl <| K.indexX rfl rfl SliceT.h (by omega) hio .plain <| K.loadXagg rfl hX (by kernel_rfl) hsz hcells .plain <| K.alloc rfl .plain ?_; refine kas rfl <| K.storeAll rfl rfl rfl rfl rfl rfl .plain ?_; refine RunK.nil <| LWP.seq <| rgN <| kfa rfl rfl ?_; refine kl1 rfl rfl rfl <| kca rfl rfl (hB) <| kas rfl <| RunK.nil <| LWP.seq <| rgN <| kmv rfl <| kmv rfl <| kmv rfl <| kmv rfl <| kca rfl rfl (hM) <| K.indexSlc rfl rfl (by omega) hi1 .plain ?_; refine K.storeOne rfl rfl rfl rfl hlt2 hset .plain <| RunK.nil <| LWP.seq <| rgD mixed <| kmv rfl <| kmv rfl <| K.indexSlc rfl rfl (by omega) hi1 .plain ?_; refine kl1 rfl rfl hget <| kmv rfl <| kfa rfl rfl ?_; refine kl1 rfl rfl rfl <| K.mul rfl rfl hmul .plain <| kad rfl rfl hadd <| kas rfl <| RunK.nil <| rgA ?_; refine rgN <| kmv rfl <| kmv rfl <| K.max2 rfl rfl hmx .plain ?_; refine kas rfl <| RunK.nil <| rgN <| kad rfl rfl (wrap_i64 (by omega)) <| kmv rfl <| RunK.nil ?_)
    exact ⟨_, _, by omega, Le.of (by exact ⟨rfl, rfl, by rw [hA]; rfl, by rw [hG]; rfl, rfl, rfl, rfl, trivial⟩) (by exact ⟨rfl, by rw [hS]; rfl, trivial⟩) (by exact rfl) (by exact rfl) (by repeat' (first | refine all_cons_true ?_ ?_ | rfl | exact bytes_inUse | exact vals_inUse | exact mid_inUse rfl)), i + 1, by omega, rfl, rfl⟩
  · have e : i = fs.length := by omega
    subst e
    rw [List.take_length] at *
    have hM := multipleFrom_spec X (endAt 0 fs) (greatW fs) hgw (by omega)
    rw [show roundUp (endAt 0 fs) (greatW fs) = rowSize fs from rfl] at hM
    unfold ofR ofBx
    rw [hle]
    have hz : (ntV (startsAt 0 fs) ++ List.replicate (fs.length - fs.length) (Value.int .i64 0)).map CV.val = (ntV (startsAt 0 fs)).map CV.val := by rw [Nat.sub_self, List.replicate_zero, List.append_nil]
    rw [hz]
    have hT : rowSize fs < 1000000 := by
      have h1 := round_facts hgw (endAt 0 fs)
      have h2 : greatW fs ≤ 8 := by rcases hgw with e | e | e | e <;> omega
      have h3 : rowSize fs = roundUp (endAt 0 fs) (greatW fs) := rfl
      omega
    generalize rowSize fs = T at *
    by_cases h256 : 256 < T
    · rw [if_pos h256, if_neg (by decide), if_neg (by decide)]
      (refine LWP.seq <| rgN <| klt rfl rfl (decide_eq_false (by omega)) <| RunK.nil <| LWP.seq <| LWP.condF rfl ?_; refine LWP.exit <| LWP.seq <| rgN <| kmv rfl <| kmv rfl <| kca rfl rfl (hM) <| kas rfl <| RunK.nil <| LWP.seq <| LWP.seq <| rgN <| kmv rfl <| K.gtr rfl rfl (decide_eq_true (by omega)) .plain <| RunK.nil ?_; refine LWP.condT rfl ?_; refine LWP.seq <| rgN <| K.build rfl rfl (by exact rfl) (by exact nl2 rfl rfl rfl) .plain ?_; refine K.storeAll rfl rfl rfl rfl rfl rfl .plain ?_; refine kas rfl <| RunK.nil <| LWP.ret ?_)
      exact ⟨[], ⟨[_, _], ⟨⟨_, _, rfl, rfl, rfl, .inl ⟨AggT.h, rfl⟩⟩, rfl, trivial⟩, rfl⟩, trivial, rfl, rfl⟩
    · rw [if_neg h256, if_pos rfl, if_pos rfl]
      (refine LWP.seq <| rgN <| klt rfl rfl (decide_eq_false (by omega)) <| RunK.nil <| LWP.seq <| LWP.condF rfl ?_; refine LWP.exit <| LWP.seq <| rgN <| kmv rfl <| kmv rfl <| kca rfl rfl (hM) <| kas rfl <| RunK.nil <| LWP.seq <| LWP.seq <| rgN <| kmv rfl <| K.gtr rfl rfl (decide_eq_false (by omega)) .plain <| RunK.nil ?_; refine LWP.condF rfl ?_; refine LWP.skip ?_; refine LWP.seq <| rgN <| kmv rfl <| kmv rfl <| K.build rfl rfl (by exact rfl) (by exact nl2 rfl rfl rfl) .plain ?_; refine K.storeAll rfl rfl rfl rfl rfl rfl .plain ?_; refine kas rfl <| RunK.nil <| LWP.ret ?_)
      exact ⟨[(1000001, 17)], ⟨[_, _], ⟨⟨_, _, rfl, rfl, rfl, .inl ⟨AggT.h, rfl⟩⟩, rfl, trivial⟩, rfl⟩, (by repeat' (first | exact trivial | refine And.intro ⟨_, rfl, ?_⟩ ?_ | refine And.intro ⟨_, rfl⟩ ?_ | rfl | exact Box.ren_bytes _ _ _ _ | exact Box.ren_vals _ _ _ _ | exact Box.ren_mid rfl)), rfl, rfl⟩
end Go.Proofs.YtbpdbclndfmcgaaGreatDoor
end
section
namespace Go.Lg.Fld
open Go Go.Lg
theorem elVs_fit {l : List (Int × Nat)} {i : Nat} {e : Int × Nat} (h : l[i]? = some e) : Nat.ble (i * 2 + 2) ((elVs l).map CV.val).length = true := by
  have := (List.getElem?_eq_some_iff.1 h).1
  rw [Nat.ble_eq, List.length_map, elVs_len]; omega
theorem elVs_row {l : List (Int × Nat)} {i : Nat} {e : Int × Nat} (h : l[i]? = some e) : (((elVs l).map CV.val).drop (i * 2)).take 2 = [.val (.int .i64 e.1), .val (.int .i64 (e.2 : Nat))] := by
  obtain ⟨h1, h2⟩ := elVs_at h
  rw [drop_at h1, List.take_succ_cons, drop_at h2]
  rfl
end Go.Lg.Fld
namespace Go.Proofs.YtbpdbclndfmcgaaGreatDoor
open Go Go.Lg Go.Lg.Fld
set_option maxRecDepth 100000
variable (X : Nat → Option Obj)
theorem Of_err (ad : Option Addr) (cap : Nat) (fs : List Fl) (hin : FieldsIn X ad fs) (hbig : fs.length < 4611686018427387904) (h : layErr fs ≠ 0) :
    PSpec Tryz.prog X 39 [Lx ad fs.length cap] (.tup [planV 0 (.val (.slice none 0 0)), Sn .i64 (layErr fs)]) := by
  cases hc : canB fs with
  | false => rw [canB_err hc]; exact Of_no X ad cap fs hin hbig hc
  | true =>
    have := Of_can X ad cap fs hin hbig hc
    unfold ofR ofBx at this
    rw [if_neg h, if_neg h] at this
    exact this.plain
theorem Of_ok (ad : Option Addr) (cap : Nat) (fs : List Fl) (hin : FieldsIn X ad fs) (hbig : fs.length < 4611686018427387904) (h : layErr fs = 0) :
    MSpec Tryz.prog X 39 [Lx ad fs.length cap] [] (.tup [planV (rowSize fs : Nat) (.slc 1000001 0 fs.length 1), Sn .i64 0]) [(1000001, some ⟨3, (ntV (startsAt 0 fs)).map .val, false⟩)] := by
  cases hc : canB fs with
  | false => rw [canB_err hc] at h; exact absurd h (by decide)
  | true =>
    have := Of_can X ad cap fs hin hbig hc
    unfold ofR ofBx at this
    rw [if_pos h, if_pos h] at this
    exact this
theorem Check_spec (ad : Option Addr) (cap : Nat) (fs : List Fl) (hin : FieldsIn X ad fs) (hbig : fs.length < 4611686018427387904) : PSpec Tryz.prog X 95 [Lx ad fs.length cap] (Ln .i64 (layErr fs)) := by
  refine PSpec.intro Tryz.func95 rfl (by kernel_rfl) rfl rfl ?_
  intro C
  by_cases h : layErr fs = 0
  · have hO := Of_ok X ad cap fs hin hbig h
    rw [h]
    generalize rowSize fs = T at *
    generalize startsAt 0 fs = S at *
    (refine LWP.seq <| rgN <| kas rfl <| RunK.nil <| LWP.seq <| rgN <| kmv rfl <| K.callMp [(1000001, 501)] (.tup [planV (T : Nat) (.slc 501 0 fs.length 1), Sn .i64 0]) [(501, some ⟨3, (ntV S).map .val, false⟩)] (hO) rfl rfl (by exact trivial) rfl rfl rfl rfl rfl (by exact (.box rfl (Box.ren_vals _ _ _ _) .nil)) .plain <| kmv rfl <| kex rfl rfl <| kex rfl rfl <| K.alloc rfl .plain ?_; refine K.storeAll rfl rfl rfl rfl rfl rfl .plain ?_; refine kas rfl <| RunK.nil <| LWP.seq <| rgN <| kmv rfl <| kas rfl <| RunK.nil <| LWP.ret ?_)
    exact ⟨[_], ⟨rfl, trivial⟩, rfl⟩
  · have hO := Of_err X ad cap fs hin hbig h
    generalize layErr fs = e at *
    (refine LWP.seq <| rgN <| kas rfl <| RunK.nil <| LWP.seq <| rgN <| kmv rfl <| kca rfl rfl (hO) <| kmv rfl <| kex rfl rfl <| kex rfl rfl <| K.alloc rfl .plain ?_; refine K.storeAll rfl rfl rfl rfl rfl rfl .plain ?_; refine kas rfl <| RunK.nil <| LWP.seq <| rgN <| kmv rfl <| kas rfl <| RunK.nil <| LWP.ret ?_)
    exact ⟨[_], ⟨rfl, trivial⟩, rfl⟩
theorem starts_at : ∀ {l : List Fl} {a i : Nat} {f : Fl}, l[i]? = some f → (startsAt a l)[i]? = some (roundUp (endAt a (l.take i)) f.w)
  | [], _, i, f, h => by simp at h
  | g :: t, a, 0, f, h => by
    simp only [List.getElem?_cons_zero, Option.some.injEq] at h
    subst h; rfl
  | g :: t, a, i + 1, f, h => by
    have := starts_at (l := t) (a := roundUp a g.w + g.w * g.n) (i := i) (f := f) (by simpa using h)
    simpa [startsAt, endAt] using this
set_option maxHeartbeats 3200000 in
theorem slotsOf_spec (ad : Option Addr) (cap : Nat) (fs : List Fl) (T : Nat) (hin : FieldsIn X ad fs) (h8 : fs.length ≤ 8) (hall : fs.all Fl.ok = true) :
    MSpec Tryz.prog X 83 [Lx ad fs.length cap, .sv (planV (T : Nat) (.slc 1000001 0 fs.length 1))] [(1000001, some ⟨3, (ntV (startsAt 0 fs)).map .val, false⟩)] (.sv (.one (.slc 1000002 0 (elemsAt 0 fs).length 2)))
      [(1000001, some ⟨3, (ntV (startsAt 0 fs)).map .val, false⟩), (1000002, some ⟨155, (elVs (elemsAt 0 fs)).map .val, Nat.blt 0 (elemsAt 0 fs).length⟩)] := by
  have hst : ∀ {i : Nat} {f : Fl}, fs[i]? = some f → (startsAt 0 fs)[i]? = some (roundUp (endAt 0 (fs.take i)) f.w) := fun h => starts_at h
  refine MSpec.intro Tryz.func83 rfl (by kernel_rfl) rfl rfl (by exact (by repeat' (first | refine all_cons_true ?_ ?_ | rfl | exact bytes_inUse | exact vals_inUse | exact mid_inUse rfl))) rfl rfl ?_
  intro C
  generalize startsAt 0 fs = S at *
  (refine LWP.seq <| rgN <| K.box rfl rfl rfl .plain <| kas rfl <| RunK.nil <| LWP.seq <| rgN <| K.buildSlc (zs := []) (sz := 2) (e := 155) (by kernel_rfl) rfl rfl rfl rfl rfl rfl .plain <| kas rfl <| RunK.nil <| LWP.seq <| LWP.seq <| rgN <| kmv rfl ?_; refine K.lenX rfl SliceT.h rfl .plain ?_; refine kmv rfl <| RunK.nil <| LWP.block ?_)
  refine LWP.loop (fun m σ => ∃ i : Nat, i ≤ fs.length ∧ m = fs.length - i ∧ σ = ⟨[(3, .sv (.one (.ptr 3 0))), (5, .sv (.one (.slc 500 0 (elemsAt 0 (fs.take i)).length 2))), (10, Lx ad fs.length cap), (11, Ln .i64 (fs.length : Nat)), (12, Ln .i64 (i : Nat))], [(1000001, some ⟨3, (ntV S).map .val, false⟩), (3, some ⟨94, [.val (.int .i64 (T : Nat)), .slc 1000001 0 fs.length 1], false⟩), (500, some ⟨155, (elVs (elemsAt 0 (fs.take i))).map .val, Nat.blt 0 (elemsAt 0 (fs.take i)).length⟩)], X⟩) fs.length
    ⟨_, Le.ofR [(500, 9)] (by exact ⟨rfl, rfl, rfl, rfl, rfl, trivial⟩) (by repeat' (first | exact trivial | refine And.intro ⟨_, rfl, ?_⟩ ?_ | refine And.intro ⟨_, rfl⟩ ?_ | rfl | exact Box.ren_bytes _ _ _ _ | exact Box.ren_vals _ _ _ _ | exact Box.ren_mid rfl)) (by exact rfl) (by exact rfl) (by repeat' (first | refine all_cons_true ?_ ?_ | rfl | exact bytes_inUse | exact vals_inUse | exact mid_inUse rfl)) (by exact rfl) (by exact rfl), 0, by omega, by omega, rfl⟩ ?_
  rintro m σ ⟨i, hi, rfl, rfl⟩
  have ht := take_ok hall i
  have hend := end_le (fs.take i) 0 ht
  have hEl := elems_len (fs.take i) 0 ht
  have htl : (fs.take i).length = i := by rw [List.length_take]; omega
  rw [htl] at hend hEl
  by_cases hlt : i < fs.length
  · obtain ⟨f, hf⟩ : ∃ f, fs[i]? = some f := ⟨_, List.getElem?_eq_getElem hlt⟩
    obtain ⟨blk, off, arr, el, fr, rfl, hX, hsz, hcells⟩ := hin.at hf
    have hio : off + Int.toNat (i : Int) * 3 = off + i * 3 := by simp
    have hi1 : 0 + Int.toNat (i : Int) * 1 = i := by simp
    have hB := fSize_spec X f.kind
    obtain ⟨hw, hn1, hn8, hnc⟩ := ok_w (List.all_eq_true.1 hall f (List.mem_of_getElem? hf))
    have hR := round_facts hw (endAt 0 (fs.take i))
    have hwk : kW f.kind = f.w := rfl
    rw [hwk] at hB
    have hw8 : 1 ≤ f.w ∧ f.w ≤ 8 := by rcases hw with e | e | e | e <;> omega
    have hE : elemsAt 0 (fs.take (i + 1)) = elemsAt 0 (fs.take i) ++ (List.range f.n).map (fun j => (f.kind, roundUp (endAt 0 (fs.take i)) f.w + f.w * j)) := by rw [take_snoc hf, elems_snoc]
    have hfc : f.vals.map CV.val = [.val (.string ⟨f.nm.toArray⟩), .val (.int .i64 f.kind), .val (.int .i64 (f.n : Nat))] := by rw [hnc]; rfl
    rw [hfc] at hcells
    have hgetS : ((ntV S).map CV.val)[i]? = some (.val (.int .i64 (roundUp (endAt 0 (fs.take i)) f.w : Nat))) := by
      rw [List.getElem?_map, show ntV S = S.map (fun n : Nat => Value.int .i64 (n : Nat)) from rfl, List.getElem?_map, hst hf]; rfl
    generalize elemsAt 0 (fs.take i) = E at *
    generalize hT : roundUp (endAt 0 (fs.take i)) f.w = b at *
    generalize endAt 0 (fs.take i) = a at *
    generalize f.w = w at *
    generalize f.n = n at *
    (refine LWP.seq <| rgN <| klt rfl rfl (decide_eq_true (by omega)) <| RunK.nil <| LWP.seq <| LWP.condT rfl ?_; refine LWP.skip ?_; refine LWP.seq <| LWP.block <| LWP.seq <| rgN <| kmv rfl <| K.indexX rfl rfl SliceT.h (by omega) hio .plain <| K.loadXagg rfl hX (by kernel_rfl) hsz hcells .plain <| K.alloc rfl .plain ?_; refine kas rfl <| K.storeAll rfl rfl rfl rfl rfl rfl .plain ?_; refine RunK.nil <| LWP.seq <| rgN <| kfa rfl rfl ?_; refine kl1 rfl rfl rfl <| kmv rfl <| RunK.nil <| LWP.block ?_)
    refine LWP.loop (fun m σ => ∃ j : Nat, j ≤ n ∧ m = n - j ∧ σ = ⟨[(3, .sv (.one (.ptr 3 0))), (5, .sv (.one (.slc 500 0 (E.length + j) 2))), (6, Ln .i64 (i : Nat)), (7, .sv (.one (.ptr 7 0))), (10, Lx (some ⟨blk, off, none⟩) fs.length cap), (11, Ln .i64 (fs.length : Nat)), (12, Ln .i64 (i : Nat)), (18, Ln .i64 (n : Nat)), (19, Ln .i64 (j : Nat))], [(1000001, some ⟨3, (ntV S).map .val, false⟩), (3, some ⟨94, [.val (.int .i64 (T : Nat)), .slc 1000001 0 fs.length 1], false⟩), (500, some ⟨155, (elVs (E ++ (List.range j).map (fun q => (f.kind, b + w * q)))).map .val, Nat.blt 0 (E.length + j)⟩), (7, some ⟨125, [.val (.string ⟨f.nm.toArray⟩), .val (.int .i64 f.kind), .val (.int .i64 (n : Nat))], false⟩)], X⟩) n
      ⟨_, Le.ofR [] (by exact ⟨rfl, rfl, rfl, rfl, rfl, rfl, rfl, rfl, rfl, trivial⟩) (by rw [List.range_zero, List.map_nil, List.append_nil]; exact (by repeat' (first | exact trivial | refine And.intro ⟨_, rfl, ?_⟩ ?_ | refine And.intro ⟨_, rfl⟩ ?_ | rfl | exact Box.ren_bytes _ _ _ _ | exact Box.ren_vals _ _ _ _ | exact Box.ren_mid rfl))) (by exact rfl) (by exact rfl) (by repeat' (first | refine all_cons_true ?_ ?_ | rfl | exact bytes_inUse | exact vals_inUse | exact mid_inUse rfl)) (by exact rfl) (by exact rfl), 0, by omega, rfl, rfl⟩ ?_
    rintro m σ ⟨j, hj, rfl, rfl⟩
    have hwj : w * j ≤ 64 := Nat.le_trans (Nat.mul_le_mul hw8.2 (Nat.le_trans hj hn8)) (by decide)
    by_cases hjn : j < n
    · have hrg : (List.range (j + 1)).map (fun q => (f.kind, b + w * q)) = (List.range j).map (fun q => (f.kind, b + w * q)) ++ [(f.kind, b + w * j)] := by rw [List.range_succ, List.map_append]; rfl
      have hcl2 : ((elVs (E ++ (List.range j).map (fun q => (f.kind, b + w * q)))).map CV.val).length = (E.length + j) * 2 := by rw [List.length_map, elVs_len]; simp
      have hnc2 : (elVs (E ++ (List.range j).map (fun q => (f.kind, b + w * q)))).map CV.val ++ [.val (.int .i64 f.kind), .val (.int .i64 (b + w * j : Nat))] = (elVs (E ++ (List.range (j + 1)).map (fun q => (f.kind, b + w * q)))).map CV.val := by
        rw [hrg, ← List.append_assoc, elVs_app (E ++ _) [_], List.map_append]
        rfl
      have hmul : IntKind.i64.wrap (((j : Nat) : Int) * ((w : Nat) : Int)) = ((w * j : Nat) : Int) := by rw [← Int.natCast_mul, Nat.mul_comm, wrap_i64 (by omega)]
      have hadd : IntKind.i64.wrap (((b : Nat) : Int) + ((w * j : Nat) : Int)) = ((b + w * j : Nat) : Int) := by rw [wrap_i64 (by omega)]; omega
      (refine LWP.seq <| rgN <| klt rfl rfl (decide_eq_true (by omega)) <| RunK.nil <| LWP.seq <| LWP.condT rfl ?_; refine LWP.skip ?_; refine LWP.seq <| LWP.block <| LWP.seq <| rgN <| kmv rfl <| kas rfl <| RunK.nil <| rgD mixed <| kmv rfl <| kfa rfl rfl ?_; refine kl1 rfl rfl rfl <| kfa rfl rfl ?_; refine kl1 rfl rfl rfl <| kmv rfl <| K.indexSlc rfl rfl (by omega) hi1 .plain ?_; refine kl1 rfl rfl hgetS <| kmv rfl <| kfa rfl rfl ?_; refine kl1 rfl rfl rfl <| kca rfl rfl (hB) <| K.mul rfl rfl hmul .plain <| kad rfl rfl hadd <| K.build rfl rfl (by exact rfl) (by exact nl2 rfl rfl rfl) .plain ?_; refine K.buildSlc (zs := [.int .i64 0, .int .i64 0]) (sz := 2) (e := 155) (by kernel_rfl) rfl rfl rfl rfl rfl rfl .plain <| K.appendSlc (by_ := 16) (e2 := 155) (l2 := [.val (.int .i64 f.kind), .val (.int .i64 (b + w * j : Nat))]) (nl := E.length + (j + 1)) rfl rfl hcl2 rfl rfl (Nat.le_refl _) rfl rfl (by kernel_rfl) (by kernel_rfl) (by omega) (by omega) rfl rfl hnc2 .plain <| kas rfl <| RunK.nil <| rgA ?_; refine rgN <| kad rfl rfl (wrap_i64 (by omega)) <| kmv rfl <| RunK.nil ?_)
      exact ⟨_, _, by omega, Le.ofR [(500, 38)] (by exact ⟨rfl, rfl, rfl, rfl, rfl, rfl, rfl, rfl, rfl, trivial⟩) (by repeat' (first | exact trivial | refine And.intro ⟨_, rfl, ?_⟩ ?_ | refine And.intro ⟨_, rfl⟩ ?_ | rfl | exact Box.ren_bytes _ _ _ _ | exact Box.ren_vals _ _ _ _ | exact Box.ren_mid rfl)) (by exact rfl) (by exact rfl) (by repeat' (first | refine all_cons_true ?_ ?_ | rfl | exact bytes_inUse | exact vals_inUse | exact mid_inUse rfl)) (by exact rfl) (by exact rfl), j + 1, by omega, rfl, rfl⟩
    · have e : j = n := by omega
      subst e
      have hEn : (E ++ (List.range j).map (fun q => (f.kind, b + w * q))).length = E.length + j := by simp
      (refine LWP.seq <| rgN <| klt rfl rfl (decide_eq_false (by omega)) <| RunK.nil <| LWP.seq <| LWP.condF rfl ?_; refine LWP.exit <| rgN <| kad rfl rfl (wrap_i64 (by omega)) <| kmv rfl <| RunK.nil ?_)
      exact ⟨_, _, by omega, Le.ofR [] (by exact ⟨rfl, by rw [hE, hEn]; rfl, rfl, rfl, rfl, trivial⟩) (by rw [hE, hEn]; exact (by repeat' (first | exact trivial | refine And.intro ⟨_, rfl, ?_⟩ ?_ | refine And.intro ⟨_, rfl⟩ ?_ | rfl | exact Box.ren_bytes _ _ _ _ | exact Box.ren_vals _ _ _ _ | exact Box.ren_mid rfl))) (by exact rfl) (by exact rfl) (by repeat' (first | refine all_cons_true ?_ ?_ | rfl | exact bytes_inUse | exact vals_inUse | exact mid_inUse rfl)) (by exact rfl) (by exact rfl), i + 1, by omega, rfl, rfl⟩
  · have e : i = fs.length := by omega
    subst e
    rw [List.take_length] at *
    generalize elemsAt 0 fs = E at *
    (refine LWP.seq <| rgN <| klt rfl rfl (decide_eq_false (by omega)) <| RunK.nil <| LWP.seq <| LWP.condF rfl ?_; refine LWP.exit <| LWP.seq <| rgN <| kmv rfl <| kas rfl <| RunK.nil <| LWP.ret ?_)
    exact ⟨[(1000002, 500)], ⟨[_], ⟨rfl, trivial⟩, rfl⟩, (by repeat' (first | exact trivial | refine And.intro ⟨_, rfl, ?_⟩ ?_ | refine And.intro ⟨_, rfl⟩ ?_ | rfl | exact Box.ren_bytes _ _ _ _ | exact Box.ren_vals _ _ _ _ | exact Box.ren_mid rfl)), rfl, rfl⟩
end Go.Proofs.YtbpdbclndfmcgaaGreatDoor
end
