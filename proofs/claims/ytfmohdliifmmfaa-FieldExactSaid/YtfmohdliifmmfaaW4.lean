/- A piece of a proof over this program: contracts of its functions, and a logic to prove them by. -/
import Derived.Test.YtfmohdliifmmfaaW3
namespace Go.Proofs.Ytfmohdliifmmfaa
open Go Go.Lg
variable (X : Nat → Option Obj)
/-- a size -/
def mg (z : Int) : Int := if z < 0 then -z else z
def R127 (z : Int) : Prop := -170141183460469231731687303715884105728 < z ∧ z < 170141183460469231731687303715884105728
abbrev LQ (z : Int) : LV := LI (decide (z < 0)) (mg z)
abbrev SQ (z : Int) : SV := SI (decide (z < 0)) (mg z)
theorem mg_neg {z : Int} (h : z < 0) : mg z = -z := if_pos h
theorem mg_pos {z : Int} (h : 0 ≤ z) : mg z = z := if_neg (by omega)
theorem mg_in2 {z : Int} (h : R127 z) : In2 (mg z) := by unfold mg In2 R127 at *; split <;> omega
theorem mg_lim {z : Int} (h : R127 z) : mg z < 170141183460469231731687303715884105728 := by unfold mg R127 at *; split <;> omega
theorem formB_q {z : Int} (h : R127 z) : formB (decide (z < 0)) (mg z) = true := by
  have := mg_lim h
  simp only [formB, decide_eq_true this, Bool.true_and, Bool.not_eq_true', Bool.and_eq_false_iff, decide_eq_false_iff_not, beq_eq_false_iff_ne]
  unfold mg
  split <;> omega
theorem both_q {x y : Int} (hx : R127 x) (hy : R127 y) : (formB (decide (x < 0)) (mg x) && formB (decide (y < 0)) (mg y)) = true := by rw [formB_q hx, formB_q hy]; rfl
/-- a sign and a size are a number -/
def zv (b : Bool) (N : Int) : Int := if b = true then -N else N
theorem zv_in {b : Bool} {N : Int} (hN : In2 N) (h : formB b N = true) : R127 (zv b N) ∧ decide (zv b N < 0) = b ∧ mg (zv b N) = N := by
  obtain ⟨⟨h0, h1⟩, h2⟩ := formB_lim hN h
  cases b
  · refine ⟨?_, ?_, ?_⟩ <;> simp only [zv, Bool.false_eq_true, if_false, R127, mg, decide_eq_false_iff_not]
    · omega
    · omega
    · exact if_neg (by omega)
  · have := h2 rfl
    refine ⟨?_, ?_, ?_⟩ <;> simp only [zv, if_true, R127, mg, decide_eq_true_eq]
    · omega
    · omega
    · rw [if_pos (by omega)]; omega
theorem LI_q {b : Bool} {N : Int} (hN : In2 N) (h : formB b N = true) : LI b N = LQ (zv b N) := by
  obtain ⟨_, h1, h2⟩ := zv_in hN h
  unfold LQ
  rw [h1, h2]
theorem sg_q {b : Bool} {N z : Int} (hN : 0 ≤ N) (h : zv b N = z) : sg b N = decide (z < 0) ∧ N = mg z := by
  subst h
  cases b
  · simp only [zv, sg, Bool.false_and, Bool.false_eq_true, if_false, mg]
    exact ⟨(decide_eq_false (by omega)).symm, (if_neg (by omega)).symm⟩
  · simp only [zv, sg, Bool.true_and, if_true, mg]
    refine ⟨?_, by split <;> omega⟩
    by_cases h0 : N = 0
    · subst h0; rfl
    · rw [show (N == 0) = false from beq_eq_false_iff_ne.2 h0, decide_eq_true (by omega)]; rfl
/-- what Add answers -/
def addR (z : Int) : LV := if -170141183460469231731687303715884105728 < z ∧ z < 170141183460469231731687303715884105728 then .tup [SQ z, Sn .i64 0] else .tup [S0, Sn .i64 3]
theorem addR_in {z : Int} (h : R127 z) : addR z = .tup [SQ z, Sn .i64 0] := if_pos h
theorem addR_out {z : Int} (h : ¬ R127 z) : addR z = .tup [S0, Sn .i64 3] := if_neg h
theorem tup_q {b : Bool} {N z : Int} (hN : 0 ≤ N) (h : zv b N = z) : (LV.tup [SI (sg b N) N, Sn .i64 0]) = .tup [SQ z, Sn .i64 0] := by
  obtain ⟨h1, h2⟩ := sg_q hN h
  unfold SQ
  rw [h1, ← h2]
theorem Add_q (x y : Int) (hx : R127 x) (hy : R127 y) : PSpec Try.prog X 26 [LQ x, LQ y] (addR (x + y)) := by
  have hf := both_q hx hy
  have h1 := mg_in2 hx
  have h2 := mg_in2 hy
  have h1' := hx
  have h2' := hy
  unfold R127 at h1' h2'
  by_cases cx : x < 0 <;> by_cases cy : y < 0
  all_goals
    unfold LQ
    simp only [cx, cy, decide_true, decide_false] at hf ⊢
  · have m1 := mg_neg cx
    have m2 := mg_neg cy
    by_cases hs : mg x + mg y < 170141183460469231731687303715884105728
    · have := Add_same X true (mg x) (mg y) h1 h2 hf hs _ rfl
      rw [tup_q (z := x + y) (by omega) (by simp [zv]; omega)] at this
      rw [addR_in (by unfold R127; omega)]
      exact this
    · rw [addR_out (by unfold R127; omega)]
      exact Add_over X true (mg x) (mg y) h1 h2 hf (by omega)
  · have m1 := mg_neg cx
    have m2 := mg_pos (Int.not_lt.1 cy)
    rw [addR_in (by unfold R127; omega)]
    by_cases hs : mg x < mg y
    · have := Add_less X true (mg x) (mg y) h1 h2 hf hs _ rfl
      rw [tup_q (z := x + y) (by omega) (by simp [zv]; omega)] at this
      exact this
    · have := Add_more X true (mg x) (mg y) h1 h2 hf (by omega) _ rfl
      rw [tup_q (z := x + y) (by omega) (by simp [zv]; omega)] at this
      exact this
  · have m1 := mg_pos (Int.not_lt.1 cx)
    have m2 := mg_neg cy
    rw [addR_in (by unfold R127; omega)]
    by_cases hs : mg x < mg y
    · have := Add_less X false (mg x) (mg y) h1 h2 hf hs _ rfl
      rw [tup_q (z := x + y) (by omega) (by simp [zv]; omega)] at this
      exact this
    · have := Add_more X false (mg x) (mg y) h1 h2 hf (by omega) _ rfl
      rw [tup_q (z := x + y) (by omega) (by simp [zv]; omega)] at this
      exact this
  · have m1 := mg_pos (Int.not_lt.1 cx)
    have m2 := mg_pos (Int.not_lt.1 cy)
    by_cases hs : mg x + mg y < 170141183460469231731687303715884105728
    · have := Add_same X false (mg x) (mg y) h1 h2 hf hs _ rfl
      rw [tup_q (z := x + y) (by omega) (by simp [zv]; omega)] at this
      rw [addR_in (by unfold R127; omega)]
      exact this
    · rw [addR_out (by unfold R127; omega)]
      exact Add_over X false (mg x) (mg y) h1 h2 hf (by omega)
theorem Neg_q (x : Int) (hx : R127 x) : PSpec Try.prog X 33 [LQ x] (LQ (-x)) := by
  have h1 := mg_in2 hx
  have hn := number_spec X (!decide (x < 0)) (mg x) h1 (decide (-x < 0)) (by
    have := sg_q (b := !decide (x < 0)) (N := mg x) (z := -x) h1.1 (by unfold zv mg; by_cases c : x < 0 <;> simp [c])
    exact this.1)
  have e : mg (-x) = mg x := by unfold mg; (repeat' split) <;> omega
  refine PSpec.intro Try.func33 rfl (by kernel_rfl) rfl rfl ?_
  intro C
  (refine LWP.seq <| LWP.region (by kernel_rfl) <| K.box rfl rfl rfl .plain <| K.alloc rfl .plain ?_; refine RunK.nil <| LWP.seq <| LWP.seq <| LWP.region (by kernel_rfl) <| K.loadAll rfl rfl rfl .plain ?_; refine kca rfl rfl (Form_spec _ _ _ h1 true (formB_q hx)) <| K.not rfl rfl .plain <| RunK.nil <| LWP.condF rfl ?_; refine LWP.skip ?_; refine LWP.seq <| LWP.draws mixed (by kernel_rfl) <| kfa rfl rfl ?_; refine kl1 rfl rfl rfl <| K.not rfl rfl .plain <| K.loadAll rfl rfl rfl .plain ?_; refine kca rfl rfl (sizeOf_spec _ _ _ _) <| kca rfl rfl (hn) <| K.storeAll rfl rfl rfl rfl rfl rfl .plain ?_; refine RunK.nil <| And.intro (by kernel_rfl) ?_; refine LWP.ret ?_)
  unfold LQ
  rw [e]
  exact ⟨[_], ⟨⟨_, _, rfl, rfl, rfl, .inl ⟨AggT.h, rfl⟩⟩, trivial⟩, rfl⟩
theorem Neg_bad (b : Bool) (N : Int) (hN : In2 N) (hf : formB b N = false) : PSpec Try.prog X 33 [LI b N] (.sv S0) := by
  refine PSpec.intro Try.func33 rfl (by kernel_rfl) rfl rfl ?_
  intro C
  (refine LWP.seq <| LWP.region (by kernel_rfl) <| K.box rfl rfl rfl .plain <| K.alloc rfl .plain ?_; refine RunK.nil <| LWP.seq <| LWP.seq <| LWP.region (by kernel_rfl) <| K.loadAll rfl rfl rfl .plain ?_; refine kca rfl rfl (Form_spec _ _ _ hN false hf) <| K.not rfl rfl .plain <| RunK.nil <| LWP.condT rfl ?_; refine LWP.seq <| LWP.region (by kernel_rfl) <| K.build rfl rfl (by exact rfl) (by exact nl3 rfl rfl rfl rfl) .plain ?_; refine K.storeAll rfl rfl rfl rfl rfl rfl .plain ?_; refine RunK.nil <| LWP.ret ?_)
  exact ⟨[_], ⟨⟨_, _, rfl, rfl, rfl, .inl ⟨AggT.h, rfl⟩⟩, trivial⟩, rfl⟩
theorem Sub_arg (b c : Bool) (M N : Int) (hM : In2 M) (hN : In2 N) (hf : (formB b M && formB c N) = false) : PSpec Try.prog X 28 [LI b M, LI c N] (.tup [S0, Sn .i64 1]) := by
  refine PSpec.intro Try.func28 rfl (by kernel_rfl) rfl rfl ?_
  intro C
  (refine LWP.seq <| LWP.region (by kernel_rfl) <| K.box rfl rfl rfl .plain <| K.box rfl rfl rfl .plain <| K.alloc rfl .plain ?_; refine kas rfl <| RunK.nil <| LWP.seq <| LWP.seq <| LWP.region (by kernel_rfl) <| K.loadAll rfl rfl rfl .plain ?_; refine K.loadAll rfl rfl rfl .plain ?_; refine kca rfl rfl (bothForm_spec _ _ _ _ _ hM hN _ hf) <| K.not rfl rfl .plain <| RunK.nil <| LWP.condT rfl ?_; refine LWP.seq <| LWP.region (by kernel_rfl) <| K.build rfl rfl (by exact rfl) (by exact nl3 rfl rfl rfl rfl) .plain ?_; refine K.storeAll rfl rfl rfl rfl rfl rfl .plain ?_; refine kas rfl <| RunK.nil <| LWP.ret ?_)
  exact ⟨[_, _], ⟨⟨_, _, rfl, rfl, rfl, .inl ⟨AggT.h, rfl⟩⟩, rfl, trivial⟩, rfl⟩
theorem Sub_q (x y : Int) (hx : R127 x) (hy : R127 y) : PSpec Try.prog X 28 [LQ x, LQ y] (addR (x - y)) := by
  have hf := both_q hx hy
  have hny : R127 (-y) := by unfold R127 at *; omega
  have ha := Add_q X x (-y) hx hny
  have hn := Neg_q X y hy
  by_cases hz : R127 (x - y)
  all_goals
    first
      | rw [show x + -y = x - y by omega, addR_in hz] at ha; rw [addR_in hz]
      | rw [show x + -y = x - y by omega, addR_out hz] at ha; rw [addR_out hz]
    refine PSpec.intro Try.func28 rfl (by kernel_rfl) rfl rfl ?_
    intro C
    (refine LWP.seq <| LWP.region (by kernel_rfl) <| K.box rfl rfl rfl .plain <| K.box rfl rfl rfl .plain <| K.alloc rfl .plain ?_; refine kas rfl <| RunK.nil <| LWP.seq <| LWP.seq <| LWP.region (by kernel_rfl) <| K.loadAll rfl rfl rfl .plain ?_; refine K.loadAll rfl rfl rfl .plain ?_; refine kca rfl rfl (bothForm_spec _ _ _ _ _ (mg_in2 hx) (mg_in2 hy) _ hf) <| K.not rfl rfl .plain <| RunK.nil <| LWP.condF rfl ?_; refine LWP.skip ?_; refine LWP.seq <| LWP.draws mixed (by kernel_rfl) <| K.loadAll rfl rfl rfl .plain ?_; refine K.loadAll rfl rfl rfl .plain ?_; refine kca rfl rfl (hn) <| kca rfl rfl (ha) <| kex rfl rfl <| kex rfl rfl <| K.storeAll rfl rfl rfl rfl rfl rfl .plain ?_; refine kas rfl <| RunK.nil <| And.intro (by kernel_rfl) ?_; refine LWP.ret ?_)
    exact ⟨[_, _], ⟨⟨_, _, rfl, rfl, rfl, .inl ⟨AggT.h, rfl⟩⟩, rfl, trivial⟩, rfl⟩
def sgnI (z : Int) : Int := if z < 0 then -1 else if 0 < z then 1 else 0
theorem Cmp_bad (b c : Bool) (M N : Int) (hM : In2 M) (hN : In2 N) (hf : (formB b M && formB c N) = false) : PSpec Try.prog X 30 [LI b M, LI c N] (Ln .i64 0) := by
  refine PSpec.intro Try.func30 rfl (by kernel_rfl) rfl rfl ?_
  intro C
  (refine LWP.seq <| LWP.region (by kernel_rfl) <| K.box rfl rfl rfl .plain <| K.box rfl rfl rfl .plain <| kas rfl <| RunK.nil <| LWP.seq <| LWP.block <| LWP.seq <| LWP.region (by kernel_rfl) <| K.loadAll rfl rfl rfl .plain ?_; refine K.loadAll rfl rfl rfl .plain ?_; refine kca rfl rfl (bothForm_spec _ _ _ _ _ hM hN _ hf) <| K.not rfl rfl .plain <| kas rfl <| RunK.nil <| LWP.condT rfl ?_; refine LWP.seq <| LWP.region (by kernel_rfl) <| kas rfl <| RunK.nil <| LWP.ret ?_)
  exact ⟨[_], ⟨rfl, trivial⟩, rfl⟩
theorem Cmp_q (x y : Int) (hx : R127 x) (hy : R127 y) (r : Int) (hr : cmpI x y = r) : PSpec Try.prog X 30 [LQ x, LQ y] (Ln .i64 r) := by
  have hB := bothForm_spec X _ _ _ _ (mg_in2 hx) (mg_in2 hy) true (both_q hx hy)
  refine PSpec.intro Try.func30 rfl (by kernel_rfl) rfl rfl ?_
  intro C
  by_cases cx : x < 0 <;> by_cases cy : y < 0
  all_goals
    unfold LQ at hB ⊢
    simp only [cx, cy, decide_true, decide_false] at hB ⊢
  · have e : cmpI (mg y) (mg x) = r := by rw [mg_neg cx, mg_neg cy, ← hr]; unfold cmpI; (repeat' split) <;> omega
    (refine LWP.seq <| LWP.region (by kernel_rfl) <| K.box rfl rfl rfl .plain <| K.box rfl rfl rfl .plain <| kas rfl <| RunK.nil <| LWP.seq <| LWP.block <| LWP.seq <| LWP.region (by kernel_rfl) <| K.loadAll rfl rfl rfl .plain ?_; refine K.loadAll rfl rfl rfl .plain ?_; refine kca rfl rfl (hB) <| K.not rfl rfl .plain <| kas rfl <| RunK.nil <| LWP.condF rfl ?_; refine LWP.seq <| LWP.region (by kernel_rfl) <| kfa rfl rfl ?_; refine kl1 rfl rfl rfl <| kmv rfl <| K.fieldAddr rfl rfl (.taken rfl rfl) ?_; refine K.loadOne rfl rfl rfl (.taken rfl rfl) ?_; refine kpt rfl rfl <| kas rfl <| RunK.nil <| LWP.condT rfl ?_; refine LWP.seq <| LWP.draws mixed (by kernel_rfl) <| K.loadAll rfl rfl rfl .plain ?_; refine kca rfl rfl (sizeOf_spec _ _ _ _) <| K.loadAll rfl rfl rfl .plain ?_; refine kca rfl rfl (sizeOf_spec _ _ _ _) <| kca rfl rfl (compare_spec _ _ _ r e) <| kas rfl <| RunK.nil <| And.intro (by kernel_rfl) ?_; refine LWP.ret ?_)
    exact ⟨[_], ⟨rfl, trivial⟩, rfl⟩
  · have e : r = -1 := by rw [← hr]; unfold cmpI; rw [if_pos (by omega)]
    subst e
    (refine LWP.seq <| LWP.region (by kernel_rfl) <| K.box rfl rfl rfl .plain <| K.box rfl rfl rfl .plain <| kas rfl <| RunK.nil <| LWP.seq <| LWP.block <| LWP.seq <| LWP.region (by kernel_rfl) <| K.loadAll rfl rfl rfl .plain ?_; refine K.loadAll rfl rfl rfl .plain ?_; refine kca rfl rfl (hB) <| K.not rfl rfl .plain <| kas rfl <| RunK.nil <| LWP.condF rfl ?_; refine LWP.seq <| LWP.region (by kernel_rfl) <| kfa rfl rfl ?_; refine kl1 rfl rfl rfl <| kmv rfl <| K.fieldAddr rfl rfl (.taken rfl rfl) ?_; refine K.loadOne rfl rfl rfl (.taken rfl rfl) ?_; refine kpt rfl rfl <| kas rfl <| RunK.nil <| LWP.condF rfl ?_; refine LWP.seq <| LWP.region (by kernel_rfl) <| kfa rfl rfl ?_; refine kl1 rfl rfl rfl <| kas rfl <| RunK.nil <| LWP.condT rfl ?_; refine LWP.seq <| LWP.region (by kernel_rfl) <| kas rfl <| RunK.nil <| LWP.ret ?_)
    exact ⟨[_], ⟨rfl, trivial⟩, rfl⟩
  · have e : r = 1 := by rw [← hr]; unfold cmpI; rw [if_neg (by omega), if_pos (by omega)]
    subst e
    (refine LWP.seq <| LWP.region (by kernel_rfl) <| K.box rfl rfl rfl .plain <| K.box rfl rfl rfl .plain <| kas rfl <| RunK.nil <| LWP.seq <| LWP.block <| LWP.seq <| LWP.region (by kernel_rfl) <| K.loadAll rfl rfl rfl .plain ?_; refine K.loadAll rfl rfl rfl .plain ?_; refine kca rfl rfl (hB) <| K.not rfl rfl .plain <| kas rfl <| RunK.nil <| LWP.condF rfl ?_; refine LWP.seq <| LWP.region (by kernel_rfl) <| kfa rfl rfl ?_; refine kl1 rfl rfl rfl <| kmv rfl <| RunK.passed rfl rfl rfl <| RunK.passed rfl rfl rfl <| kpf rfl rfl <| kas rfl <| RunK.nil <| LWP.condF rfl ?_; refine LWP.seq <| LWP.region (by kernel_rfl) <| kfa rfl rfl ?_; refine kl1 rfl rfl rfl <| kas rfl <| RunK.nil <| LWP.condF rfl ?_; refine LWP.seq <| LWP.region (by kernel_rfl) <| kfa rfl rfl ?_; refine kl1 rfl rfl rfl <| kas rfl <| RunK.nil <| LWP.condT rfl ?_; refine LWP.seq <| LWP.region (by kernel_rfl) <| kas rfl <| RunK.nil <| LWP.ret ?_)
    exact ⟨[_], ⟨rfl, trivial⟩, rfl⟩
  · have e : cmpI (mg x) (mg y) = r := by rw [mg_pos (Int.not_lt.1 cx), mg_pos (Int.not_lt.1 cy), ← hr]
    (refine LWP.seq <| LWP.region (by kernel_rfl) <| K.box rfl rfl rfl .plain <| K.box rfl rfl rfl .plain <| kas rfl <| RunK.nil <| LWP.seq <| LWP.block <| LWP.seq <| LWP.region (by kernel_rfl) <| K.loadAll rfl rfl rfl .plain ?_; refine K.loadAll rfl rfl rfl .plain ?_; refine kca rfl rfl (hB) <| K.not rfl rfl .plain <| kas rfl <| RunK.nil <| LWP.condF rfl ?_; refine LWP.seq <| LWP.region (by kernel_rfl) <| kfa rfl rfl ?_; refine kl1 rfl rfl rfl <| kmv rfl <| RunK.passed rfl rfl rfl <| RunK.passed rfl rfl rfl <| kpf rfl rfl <| kas rfl <| RunK.nil <| LWP.condF rfl ?_; refine LWP.seq <| LWP.region (by kernel_rfl) <| kfa rfl rfl ?_; refine kl1 rfl rfl rfl <| kas rfl <| RunK.nil <| LWP.condF rfl ?_; refine LWP.seq <| LWP.region (by kernel_rfl) <| kfa rfl rfl ?_; refine kl1 rfl rfl rfl <| kas rfl <| RunK.nil <| LWP.condF rfl ?_; refine LWP.skip ?_; refine LWP.seq <| LWP.draws mixed (by kernel_rfl) <| K.loadAll rfl rfl rfl .plain ?_; refine kca rfl rfl (sizeOf_spec _ _ _ _) <| K.loadAll rfl rfl rfl .plain ?_; refine kca rfl rfl (sizeOf_spec _ _ _ _) <| kca rfl rfl (compare_spec _ _ _ r e) <| kas rfl <| RunK.nil <| And.intro (by kernel_rfl) ?_; refine LWP.ret ?_)
    exact ⟨[_], ⟨rfl, trivial⟩, rfl⟩
end Go.Proofs.Ytfmohdliifmmfaa
