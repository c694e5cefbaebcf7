/- A piece of a proof over this program: contracts of its functions, and a logic to prove them by. -/
namespace Go.Lg.Arith
theorem times_low {H L m p q P : Int} (hp : H * m = p) (hq : L * m = q) (hP : (H * 18446744073709551616 + L) * m = P) : P = p * 18446744073709551616 + q := by
  subst hp hq hP
  rw [Int.add_mul, Int.mul_assoc, Int.mul_comm 18446744073709551616 m, ← Int.mul_assoc]
theorem mul_bound {a b A B : Int} (ha : 0 ≤ a ∧ a ≤ A) (hb : 0 ≤ b ∧ b ≤ B) : 0 ≤ a * b ∧ a * b ≤ A * B :=
  ⟨Int.mul_nonneg ha.1 hb.1, Int.mul_le_mul ha.2 hb.2 hb.1 (Int.le_trans ha.1 ha.2)⟩
/-- one step of Knuth's division -/
structure KInv (y1 y0 U d q r : Int) : Prop where
  q0 : 0 ≤ q
  r0 : 0 ≤ r
  eq : q * y1 + r = U
  up : U * 4294967296 + d < (q + 1) * (y1 * 4294967296 + y0)
structure KArg (y1 y0 U d : Int) : Prop where
  a : 2147483648 ≤ y1 ∧ y1 < 4294967296
  b : 0 ≤ y0 ∧ y0 < 4294967296
  c : 0 ≤ U ∧ U < y1 * 4294967296 + y0
  d : 0 ≤ d ∧ d < 4294967296
variable {y1 y0 U d q r : Int}
theorem expand (q y1 y0 : Int) : q * (y1 * 4294967296 + y0) = q * y1 * 4294967296 + q * y0 := by rw [Int.mul_add, ← Int.mul_assoc]
theorem expand1 (q y1 y0 : Int) : (q + 1) * (y1 * 4294967296 + y0) = (q * y1 + y1) * 4294967296 + q * y0 + y0 := by
  rw [Int.add_mul, expand]; omega
theorem k_start (h : KArg y1 y0 U d) : KInv y1 y0 U d (U / y1) (U - U / y1 * y1) := by
  obtain ⟨ha, hb, hc, hd⟩ := h
  have h1 : 0 ≤ U / y1 := Int.ediv_nonneg hc.1 (by omega)
  have h2 := Int.emod_add_mul_ediv U y1
  have h3 := Int.emod_lt_of_pos U (show 0 < y1 by omega)
  have h4 := Int.emod_nonneg U (show y1 ≠ 0 by omega)
  rw [Int.mul_comm] at h2
  have h5 : 0 ≤ U / y1 * y0 := Int.mul_nonneg h1 hb.1
  refine ⟨h1, by omega, by omega, ?_⟩
  rw [expand1]
  generalize U / y1 * y1 = a at *
  generalize U / y1 * y0 = b at *
  omega
theorem k_big (h : KArg y1 y0 U d) (k : KInv y1 y0 U d q r) (hq : 4294967296 ≤ q) : KInv y1 y0 U d (q - 1) (r + y1) := by
  obtain ⟨ha, hb, hc, hd⟩ := h
  have hm := Int.mul_le_mul_of_nonneg_right hq (show 0 ≤ y1 * 4294967296 + y0 by omega)
  refine ⟨by omega, by have := k.r0; omega, ?_, ?_⟩
  · rw [Int.sub_mul]; have := k.eq; omega
  · rw [show q - 1 + 1 = q by omega]; omega
theorem k_high (h : KArg y1 y0 U d) (k : KInv y1 y0 U d q r) (hq : 4294967296 * r + d < q * y0) : KInv y1 y0 U d (q - 1) (r + y1) := by
  obtain ⟨ha, hb, hc, hd⟩ := h
  have h0 : 0 < q := by
    rcases Int.lt_or_eq_of_le k.q0 with h | h
    · exact h
    · rw [← h] at hq; have := k.r0; omega
  refine ⟨by omega, by have := k.r0; omega, ?_, ?_⟩
  · rw [Int.sub_mul]; have := k.eq; omega
  · rw [show q - 1 + 1 = q by omega, expand]; have := k.eq; omega
theorem k_end (k : KInv y1 y0 U d q r) (hq : q * y0 ≤ 4294967296 * r + d) : q * (y1 * 4294967296 + y0) ≤ U * 4294967296 + d := by
  rw [expand]; have := k.eq; omega
theorem k_break (h : KArg y1 y0 U d) (k : KInv y1 y0 U d q r) (hr : 4294967296 ≤ r) : q * (y1 * 4294967296 + y0) ≤ U * 4294967296 + d := by
  obtain ⟨ha, hb, hc, hd⟩ := h
  have hlt : q < 4294967296 := by
    rcases Int.lt_or_le q 4294967296 with h | h
    · exact h
    · have := Int.mul_le_mul_of_nonneg_right h (show 0 ≤ y1 by omega)
      have := k.eq
      omega
  have := mul_bound (a := q) (b := y0) (A := 4294967295) (B := 4294967295) ⟨k.q0, by omega⟩ ⟨hb.1, by omega⟩
  exact k_end k (by omega)
theorem k_quo (h : KArg y1 y0 U d) (k : KInv y1 y0 U d q r) (he : q * (y1 * 4294967296 + y0) ≤ U * 4294967296 + d) :
    q = (U * 4294967296 + d) / (y1 * 4294967296 + y0) ∧ U * 4294967296 + d - q * (y1 * 4294967296 + y0) = (U * 4294967296 + d) % (y1 * 4294967296 + y0) := by
  have hy : 0 < y1 * 4294967296 + y0 := by have := h.a; have := h.b; omega
  have hu := k.up
  generalize y1 * 4294967296 + y0 = y at *
  generalize U * 4294967296 + d = T at *
  have e : T / y = q := by
    rw [Int.ediv_eq_iff_of_pos hy]
    constructor
    · exact he
    · rw [Int.add_mul, Int.one_mul] at hu; exact hu
  have h2 := Int.emod_add_mul_ediv T y
  rw [e, Int.mul_comm] at h2
  exact ⟨e.symm, by omega⟩
theorem two_digit {T d0 Y : Int} (hY : 0 < Y) : (T * 4294967296 + d0) / Y = T / Y * 4294967296 + (T % Y * 4294967296 + d0) / Y ∧ (T * 4294967296 + d0) % Y = (T % Y * 4294967296 + d0) % Y := by
  have h := Int.emod_add_mul_ediv T Y
  have e : T * 4294967296 + d0 = (T % Y * 4294967296 + d0) + Y * (T / Y * 4294967296) := by
    rw [← Int.mul_assoc]
    generalize Y * (T / Y) = a at *
    omega
  rw [e, Int.add_mul_ediv_left _ _ (by omega), Int.add_mul_emod_self_left]
  exact ⟨by omega, rfl⟩
theorem scale {N y E : Int} (hE : 0 < E) (_hy : 0 < y) : N * E / (y * E) = N / y ∧ N * E % (y * E) / E = N % y := by
  refine ⟨Int.mul_ediv_mul_of_pos_left _ _ hE, ?_⟩
  rw [Int.mul_comm N E, Int.mul_comm y E, Int.mul_emod_mul_of_pos _ _ hE, Int.mul_comm, Int.mul_ediv_cancel _ (by omega)]
/-- a double word, shifted: E * F is a word's range -/
theorem shift2 {hi lo E F : Int} (hE : 0 < E) (_hF : 0 < F) (hEF : E * F = 18446744073709551616) (_hl : 0 ≤ lo) :
    (hi * 18446744073709551616 + lo) * E = (hi * E + lo / F) * 18446744073709551616 + lo * E % 18446744073709551616 := by
  have h1 : lo * E / 18446744073709551616 = lo / F := by
    rw [← hEF, Int.mul_comm E F]; exact Int.mul_ediv_mul_of_pos_left _ _ hE
  have h2 := Int.emod_add_mul_ediv (lo * E) 18446744073709551616
  rw [h1] at h2
  rw [Int.add_mul, Int.mul_right_comm]
  omega
theorem pow_split {s : Nat} (hs : s ≤ 64) : (2 : Int) ^ s * 2 ^ (64 - s) = 18446744073709551616 := by
  rw [← Int.pow_add, show s + (64 - s) = 64 by omega]; rfl
/-- the guess of a long quotient: the leading word L of N, 2 to the 127 above M -/
theorem long_guess {M N L P g r0 : Int} (hM : 0 ≤ M ∧ M < 170141183460469231731687303715884105728) (hL : 9223372036854775808 ≤ L) (hP : 2 ≤ P) (hN : N = L * P + r0) (hr : 0 ≤ r0 ∧ r0 < P) (hg : g = M / (L * P)) :
    0 ≤ g ∧ (g = 0 → M < N) ∧ (g ≠ 0 → (g - 1) * N ≤ M ∧ M < (g - 1) * N + N + N) := by
  have hD : 18446744073709551616 ≤ L * P := by
    have := Int.mul_le_mul hL hP (by decide) (by omega : (0 : Int) ≤ L)
    omega
  have hg0 : 0 ≤ g := by rw [hg]; exact Int.ediv_nonneg hM.1 (by omega)
  have h1 : g * (L * P) ≤ M := by rw [hg]; exact Int.ediv_mul_le M (by omega)
  have h2 : M < (g + 1) * (L * P) := by rw [hg]; exact Int.lt_ediv_add_one_mul_self M (by omega)
  have hgp0 : 0 ≤ g * P := Int.mul_nonneg hg0 (by omega)
  have h3 : L * (g * P) = g * (L * P) := Int.mul_left_comm L g P
  have h4 := Int.mul_le_mul_of_nonneg_right hL hgp0
  rw [h3] at h4
  have h5 : g * P < 18446744073709551616 := by omega
  have h6 : (g + 1) * N = g * N + N := by rw [Int.add_mul, Int.one_mul]
  have h7 : (g + 1) * (L * P) ≤ (g + 1) * N := Int.mul_le_mul_of_nonneg_left (by omega) (by omega)
  refine ⟨hg0, fun h0 => ?_, fun h0 => ?_⟩
  · subst h0; omega
  · have h8 : (g - 1) * N ≤ (g - 1) * (L * P + P) := Int.mul_le_mul_of_nonneg_left (by omega) (by omega)
    have h9 : (g - 1) * (L * P + P) = g * (L * P) + g * P - L * P - P := by
      rw [Int.sub_mul, Int.one_mul, Int.mul_add]; omega
    have h10 : (g - 1) * N = g * N - N := by rw [Int.sub_mul, Int.one_mul]
    omega
theorem div3 {M L P : Int} {s : Nat} (hs : s ≤ 63) (hP : P = 2 ^ (64 - s)) (hL : 0 < L) : M / 2 / L / 2 ^ (63 - s) = M / (L * P) := by
  have e : (2 : Int) ^ (64 - s) = 2 * 2 ^ (63 - s) := by rw [show 64 - s = (63 - s) + 1 by omega, Int.pow_succ, Int.mul_comm]
  rw [Int.ediv_ediv_of_nonneg (Int.le_of_lt hL), Int.ediv_ediv_of_nonneg (by decide), hP, e, Int.mul_left_comm]
end Go.Lg.Arith
