/- A piece of a proof over this program: contracts of its functions, and a logic to prove them by. -/
import Derived.Test.YtmimcmdeaenblaaDoorW42
import Derived.Test.YtmimcmdeaenblaaDoorLg12
import Derived.ChangeKeysEq
namespace Go.Lg
open Go Go.RowKit Go.Lg.Dig
theorem eqItems_ints {P : Program} (w : World) (d : Nat) {e : TypeId} (he : P.plainKey e = true) (hu : P.underlying e = some (.int .i64)) (xs ys : Array Value) (f g : Nat → Nat) : ∀ (is : List Nat),
    (∀ i ∈ is, xs[i]? = some (.int .i64 (f i : Nat)) ∧ ys[i]? = some (.int .i64 (g i : Nat))) → (Op.eqItems (d + 1) e 1 xs ys is).run P w = .ok (is.all fun i => f i == g i) w
  | [], _ => by simp [Op.eqItems]
  | i :: is, h => by
    obtain ⟨h1, h2⟩ := h i (by simp)
    have ih := eqItems_ints w d he hu xs ys f g is (fun j hj => h j (by simp [hj]))
    have p1 := run_part_plain (xs := xs) (off := i) w he h1
    have p2 := run_part_plain (xs := ys) (off := i) w he h2
    have p3 := run_equalIn_int w d e .i64 .i64 ((f i : Nat) : Int) ((g i : Nat) : Int) hu
    have e3 : (((f i : Nat) : Int) == ((g i : Nat) : Int)) = (f i == g i) := by
      by_cases c : f i = g i
      · simp [c]
      · rw [beq_eq_false_iff_ne.2 c, beq_eq_false_iff_ne.2 (by omega)]
    rw [e3] at p3
    simp only [Op.eqItems, Sem.run_bind, Nat.mul_one, p1, p2, p3, Result.andThen_ok, List.all_cons]
    cases hb : (f i == g i) with
    | false => simp
    | true => simpa using ih
theorem valsOf_dv : ∀ (l : List Nat), valsOf (l.map dv) = some (l.map fun d => .int .i64 (d : Nat))
  | [] => rfl
  | d :: l => by
    rw [List.map_cons, List.map_cons]
    show (valsOf (l.map dv)).map _ = _
    rw [valsOf_dv l]; rfl
theorem num_tail {b : Bool} {f : Nat → Nat} : ((num b f).drop (0 + 1)).take 40 = (dlf f).map dv := by
  have h : ((dlf f).map dv).length = 40 := by simp [dlf]
  show ((dlf f).map dv).take 40 = _
  rw [List.take_of_length_le (by omega)]
theorem num_ble {b : Bool} {f : Nat → Nat} : Nat.ble (0 + 1 + 40) (num b f).length = true := by rw [num_length]; rfl
theorem digits_zero {n : Nat} : ∀ (k : Nat), (∀ i, i < k → dg n i = 0) → n % 256 ^ k = 0
  | 0, _ => by rw [Nat.pow_zero, Nat.mod_one]
  | k + 1, h => by rw [mod_next, digits_zero k (fun i hi => h i (by omega)), h k (by omega)]; omega
theorem zero_all {n : Nat} (h : n < 256 ^ 40) : ((List.range 40).all fun i => dg n i == (fun _ => 0) i) = (n == 0) := by
  by_cases c : n = 0
  · subst c
    simp [dg_zero]
  · rw [beq_eq_false_iff_ne.2 c, List.all_eq_false]
    apply Classical.byContradiction
    intro hn
    have h0 := digits_zero (n := n) 40 (fun i hi => Classical.byContradiction fun hd => hn ⟨i, List.mem_range.2 hi, by simpa using hd⟩)
    rw [Nat.mod_eq_of_lt h] at h0
    exact c h0
end Go.Lg
namespace Go.Proofs.YtmimcmdeaenblaaDoor
open Go Go.Lg Go.Lg.Arith Go.Lg.Dec Go.Lg.Dig Go.RowKit
variable (X : Nat → Option Obj)
theorem eq_zero (n : Nat) (h : n < T40) (w : World) :
    (Op.equalIn 10000 59 (.agg ((dlf (dg n)).map fun d => (.int .i64 (d : Nat) : Value)).toArray) (.agg ((dlf (fun _ => 0)).map fun d => (.int .i64 (d : Nat) : Value)).toArray)).run Tryd.prog w = .ok (n == 0) w := by
  obtain ⟨inf, hinf⟩ : ∃ inf, Tryd.prog.info? 3 = some inf := Option.isSome_iff_exists.1 (by kernel_rfl)
  rw [show (10000 : Nat) = 9998 + 1 + 1 from rfl, run_equalIn_array w (9998 + 1) _ _ Tryd.underlying59 hinf]
  rw [show Tryd.prog.cellsOf 3 = 1 by kernel_rfl]
  rw [eqItems_ints w 9998 (by kernel_rfl) Tryd.underlying3 _ _ (dg n) (fun _ => 0) (List.range 40)]
  · rw [zero_all h]
  · intro i hi
    have hi' := List.mem_range.1 hi
    exact ⟨by simp [dlf, hi'], by simp [dlf, hi']⟩
instance : ArrB Tryd.prog 59 (List.replicate 40 (.int .i64 0)) 1 := ⟨by kernel_rfl⟩
theorem Zero_spec (b : Bool) (n : Nat) (h : n < T40) : PSpec Tryd.prog X 52 [LN b (dg n)] (Lb (n == 0)) := by
  refine PSpec.intro Tryd.func52 rfl (by kernel_rfl) rfl rfl ?_
  intro C
  repeat (first | refine LWP.seq ?_ | refine LWP.ret ?_ | refine LWP.skip ?_ | refine LWP.block ?_ | refine LWP.exit ?_ | refine LWP.condT rfl ?_ | refine LWP.condF rfl ?_ | (refine LWP.region (id := 0) (by kernel_rfl) ?_; refine K.box rfl rfl rfl .plain ?_; refine K.assign rfl .plain ?_; refine RunK.nil ?_) | (refine LWP.region (id := 1) (by kernel_rfl) ?_; (first | refine K.fieldAddr rfl rfl .plain ?_ | refine K.fieldAddrX rfl rfl .plain ?_); refine K.loadPart rfl rfl num_ble num_tail .plain ?_; refine K.buildArr (cs' := (dlf fun _ => 0).map dv) rfl rfl (by exact rfl) rfl .plain ?_; refine K.aggEq rfl rfl (valsOf_dv _) (valsOf_dv (dlf fun _ => 0)) (by kernel_rfl) (eq_zero n h) (.inl ⟨rfl, rfl⟩) .plain ?_; refine K.assign rfl .plain ?_; refine RunK.nil ?_))
  exact ⟨[_], ⟨rfl, trivial⟩, rfl⟩
end Go.Proofs.YtmimcmdeaenblaaDoor
