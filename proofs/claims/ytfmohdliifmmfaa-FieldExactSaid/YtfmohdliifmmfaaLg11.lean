/- A piece of a proof over this program: contracts of its functions, and a logic to prove them by. -/
import Derived.Test.YtfmohdliifmmfaaLg10
import Derived.Test.YtfmohdliifmmfaaWM
namespace Go.Lg
open Go Go.RowKit
theorem PSpec.ofCalls {P : Program} {X : Nat → Option Obj} {f : FuncId} {args : List LV} {vals : List Value} {v : Value} {r : LV} (hent : Program.enters P f = true) (ha : plainLVs args = some vals) (hr : toLV v = r)
    (h : ∀ w : World, (∀ b o, X b = some o → w.heap[b]? = some o) → Calls P f vals.toArray w fun e w' => e = .returned v ∧ w' = w) : PSpec P X f args r := by
  subst hr
  refine ⟨hent, fun w vs hX hrel => ?_⟩
  have e := plainLVs_rel ha hrel
  have e2 : vs = vals.toArray := by rw [← e]
  subst e2
  refine (h w hX).mono ?_
  rintro e w' ⟨rfl, rfl⟩
  exact ⟨v, rfl, toLV_rel _ _ _, Below.refl _ _⟩
theorem PSpec.ofBelow {P : Program} {X : Nat → Option Obj} {f : FuncId} {args : List LV} {vals : List Value} {v : Value} {r : LV} (hent : Program.enters P f = true) (ha : plainLVs args = some vals) (hr : toLV v = r)
    (h : ∀ w : World, (∀ b o, X b = some o → w.heap[b]? = some o) → Calls P f vals.toArray w fun e w' => e = .returned v ∧ Below w.heap.size w w') : PSpec P X f args r := by
  subst hr
  refine ⟨hent, fun w vs hX hrel => ?_⟩
  have e := plainLVs_rel ha hrel
  have e2 : vs = vals.toArray := by rw [← e]
  subst e2
  refine (h w hX).mono ?_
  rintro e w' ⟨rfl, hb⟩
  exact ⟨v, rfl, toLV_rel _ _ _, hb⟩

theorem shl_s {a : Int} {s : Nat} {c : Int} (hs : s ≤ 64) (h : a * 2 ^ s = c) (hc : 0 ≤ c ∧ c < 18446744073709551616) : IntKind.u64.wrap (a * 2 ^ (min ((s : Int)).toNat IntKind.u64.bits)) = c := by
  have e : min ((s : Int)).toNat IntKind.u64.bits = s := by show min ((s : Int)).toNat 64 = s; omega
  rw [e, h]
  exact wrap_u64 hc
theorem shl_mod {a : Int} {s : Nat} (hs : s ≤ 64) : IntKind.u64.wrap (a * 2 ^ (min ((s : Int)).toNat IntKind.u64.bits)) = a * 2 ^ s % 18446744073709551616 := by
  have e : min ((s : Int)).toNat IntKind.u64.bits = s := by show min ((s : Int)).toNat 64 = s; omega
  rw [e]
  generalize a * 2 ^ s = x
  exact IntKind.wrap_u64 x
theorem shr_s {a : Int} {s : Nat} (hs : s ≤ 64) : a.fdiv (2 ^ (min ((s : Int)).toNat IntKind.u64.bits)) = a / 2 ^ s := by
  have e : min ((s : Int)).toNat IntKind.u64.bits = s := by show min ((s : Int)).toNat 64 = s; omega
  rw [e]
  exact Int.fdiv_eq_ediv_of_nonneg a (Int.le_of_lt (Int.pow_pos (by decide)))
theorem shr_64s {a : Int} {s : Nat} (hs : s ≤ 64) : a.fdiv (2 ^ (min ((64 : Int) - (s : Int)).toNat IntKind.u64.bits)) = a / 2 ^ (64 - s) := by
  have e : min ((64 : Int) - (s : Int)).toNat IntKind.u64.bits = 64 - s := by show min ((64 : Int) - (s : Int)).toNat 64 = 64 - s; omega
  rw [e]
  exact Int.fdiv_eq_ediv_of_nonneg a (Int.le_of_lt (Int.pow_pos (by decide)))
theorem shr_32 (a : Int) : a.fdiv (2 ^ (min (Int.toNat 32) IntKind.u64.bits)) = a / 4294967296 := Int.fdiv_eq_ediv_of_nonneg a (by decide)
theorem shr_1 (a : Int) : a.fdiv (2 ^ (min (Int.toNat 1) IntKind.u64.bits)) = a / 2 := Int.fdiv_eq_ediv_of_nonneg a (by decide)
theorem and_32 {a : Int} (h : 0 ≤ a ∧ a < 18446744073709551616) : bits .and .u64 a 4294967295 = a % 4294967296 := by
  rw [u64_and a 4294967295 h.1 h.2 (by decide) (by decide)]
  have : a.toNat &&& (4294967295 : Int).toNat = a.toNat % 4294967296 := Nat.and_two_pow_sub_one_eq_mod a.toNat 32
  rw [this]
  omega
theorem or_apart {x y : Int} {s : Nat} (hs : s ≤ 64) (hx : 0 ≤ x ∧ x * 2 ^ s < 18446744073709551616) (hy : 0 ≤ y ∧ y < 2 ^ s) : bits .or .u64 (x * 2 ^ s) y = x * 2 ^ s + y := by
  obtain ⟨X, rfl⟩ := Int.eq_ofNat_of_zero_le hx.1
  obtain ⟨Y, rfl⟩ := Int.eq_ofNat_of_zero_le hy.1
  have e : ((X : Int) * 2 ^ s) = ((X * 2 ^ s : Nat) : Int) := by rw [Int.natCast_mul, Int.natCast_pow]; rfl
  have e' : ((2 : Int) ^ s) = ((2 ^ s : Nat) : Int) := by rw [Int.natCast_pow]; rfl
  have h1 : X * 2 ^ s < 18446744073709551616 := by have := hx.2; rw [e] at this; omega
  have h2 : Y < 2 ^ s := by have := hy.2; rw [e'] at this; omega
  have h3 : 2 ^ s ≤ 18446744073709551616 := by
    have : 2 ^ s ≤ 2 ^ 64 := Nat.pow_le_pow_right (by decide) hs
    exact this
  rw [e, u64_or_nat _ _ h1 (by omega), ← Nat.shiftLeft_eq, ← Nat.shiftLeft_add_eq_or_of_lt h2, Nat.shiftLeft_eq, Int.natCast_add]
end Go.Lg
namespace Go.Lg
open Go Go.RowKit
theorem quo_u64 {a b : Int} (ha : 0 ≤ a ∧ a < 18446744073709551616) (hb : 0 < b) : IntKind.u64.wrap (a.tdiv b) = a / b := by
  rw [Int.tdiv_eq_ediv_of_nonneg ha.1]
  have h1 := Int.ediv_nonneg ha.1 (Int.le_of_lt hb)
  have h2 := Int.ediv_le_self b ha.1
  exact wrap_u64 (by omega)
theorem rem_pos {a b : Int} (ha : 0 ≤ a) : a.tmod b = a % b := Int.tmod_eq_emod_of_nonneg ha
theorem quo_i64 {a b : Int} (ha : 0 ≤ a ∧ a < 9223372036854775808) (hb : 0 < b) : IntKind.i64.wrap (a.tdiv b) = a / b := by
  rw [Int.tdiv_eq_ediv_of_nonneg ha.1]
  have h1 := Int.ediv_nonneg ha.1 (Int.le_of_lt hb)
  have h2 := Int.ediv_le_self b ha.1
  exact wrap_i64 (by omega)
theorem or_apart' {x y c : Int} {s : Nat} (hs : s ≤ 64) (hx : 0 ≤ x ∧ x * 2 ^ s < 18446744073709551616) (hy : 0 ≤ y ∧ y < 2 ^ s) (hc : x * 2 ^ s + y = c) : bits .or .u64 (x * 2 ^ s) y = c := by
  rw [or_apart hs hx hy, hc]
end Go.Lg
namespace Go.Lg
open Go Go.RowKit
/-- the ways out of a block meet in one state -/
theorem LWP.meet {P : Program} {n : Nat} {C : Ctx} {c y : Code} {id : Nat} {Q Q' : Exit → St → Prop} {σ : St} (Mid : St → Prop)
    (h : LWP P n C c (blockQ id (thenQ (fun σ' => ∃ σ'', Le n C σ' σ'' ∧ Mid σ'') (fun _ _ => False))) σ) (hm : ∀ σ, Mid σ → LWP P n C y Q σ) : LWP P n C c (blockQ id (thenQ (LWP P n C y Q) Q')) σ := by
  refine h.mono ?_
  intro e σ' hq
  cases e with
  | exit id' =>
    simp only [blockQ] at hq ⊢
    cases hb : Nat.beq id' id with
    | true =>
      rw [hb] at hq
      obtain ⟨σ'', hle, hM⟩ := hq
      exact LWP.le hle (hm σ'' hM)
    | false => rw [hb] at hq; exact hq.elim
  | normal =>
    obtain ⟨σ'', hle, hM⟩ := hq
    exact LWP.le hle (hm σ'' hM)
  | goto l => exact hq.elim
  | ret => exact hq.elim
  | panic c => exact hq.elim
  | outgrown => exact hq.elim
theorem LWP.meet0 {P : Program} {n : Nat} {C : Ctx} {c y : Code} {Q Q' : Exit → St → Prop} {σ : St} (Mid : St → Prop)
    (h : LWP P n C c (thenQ (fun σ' => ∃ σ'', Le n C σ' σ'' ∧ Mid σ'') (fun _ _ => False)) σ) (hm : ∀ σ, Mid σ → LWP P n C y Q σ) : LWP P n C c (thenQ (LWP P n C y Q) Q') σ := by
  refine h.mono ?_
  intro e σ' hq
  cases e with
  | normal =>
    obtain ⟨σ'', hle, hM⟩ := hq
    exact LWP.le hle (hm σ'' hM)
  | exit id' => exact hq.elim
  | goto l => exact hq.elim
  | ret => exact hq.elim
  | panic c => exact hq.elim
  | outgrown => exact hq.elim
theorem quo_end {U V Y q1 R1 q2 : Int} (hY : 0 < Y) (h1 : q1 = (U * 4294967296 + V / 4294967296) / Y) (h2 : R1 = (U * 4294967296 + V / 4294967296) % Y) (h3 : q2 = (R1 * 4294967296 + V % 4294967296) / Y) :
    q1 * 4294967296 + q2 = (U * 18446744073709551616 + V) / Y ∧ (R1 * 4294967296 + V % 4294967296) % Y = (U * 18446744073709551616 + V) % Y := by
  have := Arith.two_digit (T := U * 4294967296 + V / 4294967296) (d0 := V % 4294967296) hY
  rw [show (U * 4294967296 + V / 4294967296) * 4294967296 + V % 4294967296 = U * 18446744073709551616 + V by omega] at this
  subst h1 h2 h3
  exact ⟨this.1.symm, this.2.symm⟩
theorem digit_lt {U d Y q : Int} (hY : 0 < Y) (hU : U < Y) (hd : d < 4294967296) (h : q = (U * 4294967296 + d) / Y) : q < 4294967296 := by
  rw [h, Int.ediv_lt_iff_lt_mul hY]; omega
theorem wrap3 {a b c : Int} (h : 0 ≤ a + b - c ∧ a + b - c < 18446744073709551616) : IntKind.u64.wrap (IntKind.u64.wrap (IntKind.u64.wrap a + b) - IntKind.u64.wrap c) = a + b - c := by
  simp only [IntKind.wrap_u64]
  omega
end Go.Lg
namespace Go.Lg
open Go Go.RowKit
theorem shr_63s {a : Int} {s : Nat} (hs : s ≤ 63) : a.fdiv (2 ^ (min ((63 : Int) - (s : Int)).toNat IntKind.u64.bits)) = a / 2 ^ (63 - s) := by
  have e : min ((63 : Int) - (s : Int)).toNat IntKind.u64.bits = 63 - s := by show min ((63 : Int) - (s : Int)).toNat 64 = 63 - s; omega
  rw [e]
  exact Int.fdiv_eq_ediv_of_nonneg a (Int.le_of_lt (Int.pow_pos (by decide)))
theorem shl_63 (a : Int) : IntKind.u64.wrap (a * 2 ^ (min (Int.toNat 63) IntKind.u64.bits)) = a % 2 * 2 ^ 63 := by
  show IntKind.u64.wrap (a * 9223372036854775808) = a % 2 * 9223372036854775808
  rw [IntKind.wrap_u64]
  omega
end Go.Lg
