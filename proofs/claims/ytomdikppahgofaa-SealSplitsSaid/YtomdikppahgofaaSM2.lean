/- A piece of a proof over this program: contracts of its functions, and a logic to prove them by. -/
import Derived.Test.YtomdikppahgofaaSM
namespace Go.Lg.Adl
/-- two halves, each modulo 65521, in one number -/
def mk (p : Nat × Nat) : Nat := p.2 % 65521 * 65536 + p.1 % 65521
theorem mk_lt (p : Nat × Nat) : mk p < 4294967296 := by
  have h1 := Nat.mod_lt p.1 (show 65521 > 0 by decide)
  have h2 := Nat.mod_lt p.2 (show 65521 > 0 by decide)
  unfold mk
  omega
theorem sum_mk (l : List UInt8) : mk (run l (1, 0)) = sum l := by
  obtain ⟨h1, h2⟩ := run_lt l (1, 0) (by decide) (by decide)
  unfold mk sum
  rw [Nat.mod_eq_of_lt h1, Nat.mod_eq_of_lt h2]
theorem more_sum (x y : List UInt8) : mk (run y (sum x % 65536, sum x / 65536)) = sum (x ++ y) := by
  obtain ⟨h1, h2⟩ := sum_halves x
  rw [h1, h2, ← sum_mk, run_append]
theorem mk_form (p : Nat × Nat) (a b : Int) (ha : (p.1 : Int) % 65521 = a % 65521) (hb : (p.2 : Int) % 65521 = b % 65521) : (mk p : Int) = b % 65521 * 65536 + a % 65521 := by
  unfold mk
  rw [Int.natCast_add, Int.natCast_mul, Int.natCast_emod, Int.natCast_emod, show ((65521 : Nat) : Int) = 65521 from rfl, ha, hb]
  rfl
theorem mk_sum (p : Nat × Nat) (l : List UInt8) (ha : (p.1 : Int) % 65521 = A l % 65521) (hb : (p.2 : Int) % 65521 = B l % 65521) : mk p = sum l := by
  have h1 := mk_form p _ _ ha hb
  have h2 := sum_form l
  omega
theorem halves (l : List UInt8) : ∃ q r : Int, ((sum l % 65536 : Nat) : Int) = A l - 65521 * q ∧ ((sum l / 65536 : Nat) : Int) = B l - 65521 * r := by
  obtain ⟨h1, h2⟩ := sum_halves l
  obtain ⟨h3, h4⟩ := run_one l
  refine ⟨A l / 65521, B l / 65521, ?_, ?_⟩
  · rw [h1, h3]; omega
  · rw [h2, h4]; omega
def join (x y n : Nat) : Nat := mk (x % 65536 + y % 65536 + 65520, x / 65536 + y / 65536 + n * (x % 65536 + 65520))
theorem join_sum (x y : List UInt8) : join (sum x) (sum y) y.length = sum (x ++ y) := by
  obtain ⟨q, r, h1, h2⟩ := halves x
  obtain ⟨q', r', h3, h4⟩ := halves y
  refine mk_sum _ _ ?_ ?_
  · simp only [Int.natCast_add]
    rw [h1, h3, A_append]
    omega
  · simp only [Int.natCast_add, Int.natCast_mul]
    rw [h1, h2, h4, B_append]
    have e : (y.length : Int) * (A x - 65521 * q + ((65520 : Nat) : Int)) = (y.length : Int) * (A x - 1) + 65521 * ((y.length : Int) * (1 - q)) := by
      rw [show A x - 65521 * q + ((65520 : Nat) : Int) = (A x - 1) + 65521 * (1 - q) by omega, Int.mul_add, Int.mul_left_comm]
    rw [e]
    generalize (y.length : Int) * (1 - q) = z
    omega
def roll (s n o i : Nat) : Nat := mk (s % 65536 + (65521 - o % 65521) + i, s / 65536 + (65521 - (n * o + 1) % 65521) + (s % 65536 + (65521 - o % 65521) + i))
theorem roll_sum (x i : UInt8) (t : List UInt8) : roll (sum (x :: t)) (t.length + 1) x.toNat i.toNat = sum (t ++ [i]) := by
  obtain ⟨q, r, h1, h2⟩ := halves (x :: t)
  have hA := A_roll x i t
  have hB := B_roll x i t
  have hx := x.toNat_lt
  unfold roll
  have e : (((t.length + 1) * x.toNat : Nat) : Int) = ((x :: t).length : Int) * (x.toNat : Int) := by rw [List.length_cons, Int.natCast_mul]
  generalize (t.length + 1) * x.toNat = z at *
  refine mk_sum _ _ ?_ ?_
  · simp only [Int.natCast_add]
    rw [h1, hA]
    omega
  · simp only [Int.natCast_add]
    rw [h1, h2, hB, hA, ← e]
    omega
end Go.Lg.Adl
