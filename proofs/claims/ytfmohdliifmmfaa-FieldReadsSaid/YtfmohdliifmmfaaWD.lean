/- A piece of a proof over this program: contracts of its functions, and a logic to prove them by. -/
import Derived.Test.YtfmohdliifmmfaaLg11
namespace Go.Lg.Dig
open Go Go.Lg
/-- a digit in base 256 -/
def dg (n j : Nat) : Nat := n / 256 ^ j % 256
def dv (d : Nat) : CV := .val (.int .i64 (d : Nat))
/-- 40 digits -/
def dlf (f : Nat → Nat) : List Nat := (List.range 40).map f
/-- the cells of a sign and 40 digits -/
def num (b : Bool) (f : Nat → Nat) : List CV := .val (.bool b) :: (dlf f).map dv
theorem dlf_congr {f g : Nat → Nat} (h : ∀ j, j < 40 → f j = g j) : dlf f = dlf g := by
  unfold dlf
  exact List.map_congr_left fun j hj => h j (List.mem_range.1 hj)
theorem num_congr {b : Bool} {f g : Nat → Nat} (h : ∀ j, j < 40 → f j = g j) : num b f = num b g := by
  unfold num
  rw [dlf_congr h]
theorem num_at {b : Bool} {f : Nat → Nat} {i : Nat} (hi : i < 40) : (num b f)[1 + i * 1]? = some (dv (f i)) := by
  rw [Nat.mul_one, Nat.add_comm]
  simp [num, dlf, hi]
theorem num_set {b : Bool} {f : Nat → Nat} {i d : Nat} (hi : i < 40) : (num b f).set (1 + i * 1) (dv d) = num b (fun j => if j = i then d else f j) := by
  rw [Nat.mul_one, Nat.add_comm]
  unfold num
  rw [List.set_cons_succ]
  congr 1
  apply List.ext_getElem?
  intro j
  rw [List.getElem?_set]
  by_cases h : i = j
  · subst h
    simp [dlf, hi]
  · rw [if_neg h]
    by_cases hj : j < 40
    · simp [dlf, hj, show ¬ j = i from fun e => h e.symm]
    · simp [dlf, hj]
theorem num_sign {b c : Bool} {f : Nat → Nat} : (num b f).set 0 (.val (.bool c)) = num c f := rfl
theorem dg_lt (n j : Nat) : dg n j < 256 := Nat.mod_lt _ (by decide)
theorem pow_pos (j : Nat) : 0 < 256 ^ j := Nat.pow_pos (by decide)
theorem dg_high {n j : Nat} (h : n < 256 ^ j) : dg n j = 0 := by
  unfold dg
  rw [Nat.div_eq_of_lt h]
theorem dg_zero (j : Nat) : dg 0 j = 0 := by
  unfold dg
  rw [Nat.zero_div]
/-- the rest below a place, a place higher -/
theorem mod_next (n i : Nat) : n % 256 ^ (i + 1) = n % 256 ^ i + dg n i * 256 ^ i := by
  unfold dg
  rw [Nat.pow_succ, Nat.mod_mul, Nat.mul_comm (256 ^ i)]
theorem div_next (n i : Nat) : n / 256 ^ i = n / 256 ^ (i + 1) * 256 + dg n i := by
  unfold dg
  rw [Nat.pow_succ, ← Nat.div_div_eq_div_mul]
  omega
theorem pow40 : 256 ^ 40 = 2135987035920910082395021706169552114602704522356652769947041607822219725780640550022962086936576 := by decide
end Go.Lg.Dig
namespace Go.Lg.Dig
open Go Go.Lg
theorem num_length {b : Bool} {f : Nat → Nat} : (num b f).length = 41 := by simp [num, dlf]
theorem num_blt {b : Bool} {f : Nat → Nat} {i : Nat} (hi : i < 40) : Nat.blt (1 + i * 1) (num b f).length = true := by
  rw [num_length, Nat.blt_eq]
  omega
theorem div_div (n i : Nat) : n / 256 ^ i / 256 = n / 256 ^ (i + 1) := by rw [Nat.pow_succ, Nat.div_div_eq_div_mul]
end Go.Lg.Dig
namespace Go.Lg.Dig
/-- what is borrowed below a place -/
def bor (M N i : Nat) : Nat := if M % 256 ^ i < N % 256 ^ i then 1 else 0
def car (M N i : Nat) : Nat := (M % 256 ^ i + N % 256 ^ i) / 256 ^ i
theorem bor_le (M N i : Nat) : bor M N i ≤ 1 := by unfold bor; split <;> omega
theorem sub_div {M N i : Nat} (h : N ≤ M) : (M - N) / 256 ^ i = M / 256 ^ i - N / 256 ^ i - bor M N i ∧ N / 256 ^ i + bor M N i ≤ M / 256 ^ i := by
  have hp := pow_pos i
  have e1 := Nat.div_add_mod M (256 ^ i)
  have e2 := Nat.div_add_mod N (256 ^ i)
  have m1 := Nat.mod_lt M hp
  have m2 := Nat.mod_lt N hp
  unfold bor
  generalize 256 ^ i = p at *
  have hle : N / p ≤ M / p := Nat.div_le_div_right h
  generalize M / p = A at *
  generalize N / p = B at *
  generalize M % p = m at *
  generalize N % p = n at *
  by_cases c : m < n
  · rw [if_pos c]
    have hlt : B + 1 ≤ A := by
      by_cases e : A = B
      · subst e; omega
      · omega
    refine ⟨Nat.div_eq_of_lt_le ?_ ?_, hlt⟩
    · obtain ⟨k, rfl⟩ : ∃ k, A = B + 1 + k := ⟨A - (B + 1), by omega⟩
      rw [show B + 1 + k - B - 1 = k by omega, Nat.mul_comm k]
      rw [Nat.mul_add, Nat.mul_add] at e1
      omega
    · obtain ⟨k, rfl⟩ : ∃ k, A = B + 1 + k := ⟨A - (B + 1), by omega⟩
      rw [show B + 1 + k - B - 1 + 1 = k + 1 by omega, Nat.mul_comm (k + 1), Nat.mul_add]
      rw [Nat.mul_add, Nat.mul_add] at e1
      omega
  · rw [if_neg c]
    refine ⟨Nat.div_eq_of_lt_le ?_ ?_, by omega⟩
    · obtain ⟨k, rfl⟩ : ∃ k, A = B + k := ⟨A - B, by omega⟩
      rw [show B + k - B - 0 = k by omega, Nat.mul_comm k]
      rw [Nat.mul_add] at e1
      omega
    · obtain ⟨k, rfl⟩ : ∃ k, A = B + k := ⟨A - B, by omega⟩
      rw [show B + k - B - 0 + 1 = k + 1 by omega, Nat.mul_comm (k + 1), Nat.mul_add]
      rw [Nat.mul_add] at e1
      omega
theorem bor_next (M N i : Nat) : bor M N (i + 1) = if dg M i < dg N i + bor M N i then 1 else 0 := by
  have hp := pow_pos i
  have m1 := Nat.mod_lt M hp
  have m2 := Nat.mod_lt N hp
  unfold bor
  rw [mod_next, mod_next]
  generalize 256 ^ i = p at *
  generalize M % p = m at *
  generalize N % p = n at *
  generalize dg M i = a
  generalize dg N i = b
  rcases Nat.lt_trichotomy a b with h | h | h
  · obtain ⟨k, rfl⟩ : ∃ k, b = a + 1 + k := ⟨b - (a + 1), by omega⟩
    rw [if_pos (by rw [Nat.add_mul, Nat.add_mul]; omega), if_pos (by omega)]
  · subst h
    by_cases c : m < n
    · rw [if_pos (by omega), if_pos c, if_pos (by omega)]
    · rw [if_neg (by omega), if_neg c, if_neg (by omega)]
  · obtain ⟨k, rfl⟩ : ∃ k, a = b + 1 + k := ⟨a - (b + 1), by omega⟩
    rw [if_neg (by rw [Nat.add_mul, Nat.add_mul]; omega), if_neg (by split <;> omega)]
theorem sub_digit {M N i : Nat} (h : N ≤ M) :
    (dg M i < dg N i + bor M N i → dg (M - N) i + dg N i + bor M N i = dg M i + 256) ∧ (dg N i + bor M N i ≤ dg M i → dg (M - N) i + dg N i + bor M N i = dg M i) := by
  obtain ⟨e, hle⟩ := sub_div (i := i) h
  have hb := bor_le M N i
  unfold dg
  rw [e]
  generalize M / 256 ^ i = A at *
  generalize N / 256 ^ i = B at *
  generalize bor M N i = c at *
  omega
theorem add_div (M N i : Nat) : (M + N) / 256 ^ i = M / 256 ^ i + N / 256 ^ i + car M N i := by
  have hp := pow_pos i
  have e1 := Nat.div_add_mod M (256 ^ i)
  have e2 := Nat.div_add_mod N (256 ^ i)
  unfold car
  generalize 256 ^ i = p at *
  conv => lhs; rw [← e1, ← e2]
  rw [show p * (M / p) + M % p + (p * (N / p) + N % p) = (M % p + N % p) + p * (M / p + N / p) by rw [Nat.mul_add]; omega, Nat.add_mul_div_left _ _ hp]
  omega
theorem car_next (M N i : Nat) : car M N (i + 1) = (dg M i + dg N i + car M N i) / 256 := by
  have h1 := add_div M N i
  have h2 := add_div M N (i + 1)
  have d1 := div_next M i
  have d2 := div_next N i
  have d3 := div_div (M + N) i
  have l1 := dg_lt M i
  have l2 := dg_lt N i
  omega
theorem add_digit (M N i : Nat) : dg (M + N) i = (dg M i + dg N i + car M N i) % 256 := by
  have h1 := add_div M N i
  unfold dg
  rw [h1]
  omega
theorem car_le (M N i : Nat) : car M N i ≤ 1 := by
  have hp := pow_pos i
  have m1 := Nat.mod_lt M hp
  have m2 := Nat.mod_lt N hp
  unfold car
  generalize 256 ^ i = p at *
  have : (M % p + N % p) / p < 2 := by rw [Nat.div_lt_iff_lt_mul hp]; omega
  omega
theorem lt_digit {M N i : Nat} (h : M / 256 ^ (i + 1) = N / 256 ^ (i + 1)) (hd : dg M i < dg N i) : M < N := by
  have d1 := div_next M i
  have d2 := div_next N i
  rcases Nat.lt_or_ge M N with c | c
  · exact c
  · have := Nat.div_le_div_right (c := 256 ^ i) c
    omega
end Go.Lg.Dig
namespace Go.Lg.Dig
theorem dg_mod {n i k : Nat} (h : i < k) : dg (n % 256 ^ k) i = dg n i := by
  obtain ⟨t, rfl⟩ : ∃ t, k = i + 1 + t := ⟨k - (i + 1), by omega⟩
  unfold dg
  rw [Nat.pow_add, Nat.pow_succ, Nat.mul_assoc, Nat.mod_mul_right_div_self, Nat.mod_mul_right_mod]
theorem dg_shift (n k i : Nat) : dg n (k + i) = dg (n / 256 ^ k) i := by
  unfold dg
  rw [Nat.pow_add, Nat.div_div_eq_div_mul]
theorem top_zero {n k : Nat} (h : n < 256 ^ (k + 1)) (hd : dg n k = 0) : n < 256 ^ k := by
  have hp := pow_pos k
  unfold dg at hd
  rw [Nat.pow_succ] at h
  have : n / 256 ^ k < 256 := by rw [Nat.div_lt_iff_lt_mul hp]; rw [Nat.mul_comm]; exact h
  have key : ∀ q : Nat, q < 256 → q % 256 = 0 → q = 0 := by omega
  exact (Nat.div_eq_zero_iff_lt hp).1 (key _ this hd)
theorem all_zero {n k : Nat} : ∀ t, n < 256 ^ (k + t) → (∀ j, k ≤ j → j < k + t → dg n j = 0) → n < 256 ^ k
  | 0, h, _ => h
  | t + 1, h, hz => all_zero t (top_zero h (hz (k + t) (by omega) (by omega))) fun j h1 h2 => hz j h1 (by omega)
end Go.Lg.Dig
namespace Go.Lg.Dig
open Go Go.Lg
theorem dg_add_mul {T y k x : Nat} (h : x < k) : dg (T + y * 256 ^ k) x = dg T x := by
  rw [← dg_mod h, Nat.add_mul_mod_self_right, dg_mod h]
/-- the digits of one number below a place, of another one above -/
def mix (T S k x : Nat) : Nat := if x < k then dg T x else dg S x
theorem mix_step (s : Bool) {T S k y : Nat} {d : Nat} (hd : d = dg (T + y * 256 ^ k) k) :
    num s (fun x => if x = k then d else mix T S k x) = num s (mix (T + y * 256 ^ k) S (k + 1)) := num_congr fun x _ => by
  unfold mix
  by_cases c : x = k
  · subst c
    rw [if_pos rfl, if_pos (by omega), hd]
  · rw [if_neg c]
    by_cases c2 : x < k
    · rw [if_pos c2, if_pos (by omega), dg_add_mul c2]
    · rw [if_neg c2, if_neg (by omega)]
theorem mix_all (s : Bool) {T S k : Nat} (h : T / 256 ^ k = S / 256 ^ k) : num s (mix T S k) = num s (dg T) := num_congr fun x _ => by
  unfold mix
  by_cases c : x < k
  · rw [if_pos c]
  · obtain ⟨y, rfl⟩ : ∃ y, x = k + y := ⟨x - k, by omega⟩
    rw [if_neg c, dg_shift, dg_shift, h]
theorem mul_step {T S k y c : Nat} (hST : S ≤ T) (hc : c = T / 256 ^ k - S / 256 ^ k) :
    (dg S k + c + y) % 256 = dg (T + y * 256 ^ k) k ∧ (dg S k + c + y) / 256 = (T + y * 256 ^ k) / 256 ^ (k + 1) - S / 256 ^ (k + 1) := by
  have hp := pow_pos k
  have h1 : (T + y * 256 ^ k) / 256 ^ k = T / 256 ^ k + y := by rw [Nat.add_mul_div_right _ _ hp]
  have h2 := div_next S k
  have h3 := div_div (T + y * 256 ^ k) k
  have hle : S / 256 ^ k ≤ T / 256 ^ k := Nat.div_le_div_right hST
  have h4 : dg (T + y * 256 ^ k) k = (T + y * 256 ^ k) / 256 ^ k % 256 := rfl
  rw [h4, ← h3, h1]
  generalize T / 256 ^ k = A at *
  generalize S / 256 ^ k = B at *
  generalize S / 256 ^ (k + 1) = C at *
  generalize dg S k = D at *
  omega
theorem dg_mid {C t i x : Nat} (ht : t < 256) : dg (C * 256 ^ (i + 1) + t * 256 ^ i) x = if x < i then 0 else if x = i then t else dg C (x - (i + 1)) := by
  have hp := pow_pos i
  have e : C * 256 ^ (i + 1) + t * 256 ^ i = 0 + (C * 256 + t) * 256 ^ i := by rw [Nat.pow_succ, Nat.add_mul, Nat.mul_assoc, Nat.mul_comm 256, Nat.zero_add]
  by_cases c : x < i
  · rw [if_pos c, e, dg_add_mul c, dg_zero]
  · rw [if_neg c]
    obtain ⟨y, rfl⟩ : ∃ y, x = i + y := ⟨x - i, by omega⟩
    rw [dg_shift, e, Nat.zero_add, Nat.mul_div_cancel _ hp]
    by_cases c2 : i + y = i
    · have : y = 0 := by omega
      subst this
      rw [if_pos c2]
      unfold dg
      rw [Nat.pow_zero, Nat.div_one]
      omega
    · rw [if_neg c2]
      obtain ⟨z, rfl⟩ : ∃ z, y = 1 + z := ⟨y - 1, by omega⟩
      rw [dg_shift, show i + (1 + z) - (i + 1) = z by omega]
      congr 1
      rw [Nat.pow_one]
      omega
end Go.Lg.Dig
namespace Go.Lg.Dig
open Go Go.Lg
theorem num_blt0 {b : Bool} {f : Nat → Nat} : Nat.blt 0 (num b f).length = true := by rw [num_length]; rfl
/-- digits that are being moved up: those above the place are moved -/
def shf (R t x : Nat) : Nat := if t < x then dg R (x - 1) else dg R x
theorem shf_start (s : Bool) (R : Nat) : num s (shf R 39) = num s (dg R) := num_congr fun x hx => by unfold shf; rw [if_neg (by omega)]
theorem shf_step (s : Bool) (R t : Nat) : num s (fun x => if x = t + 1 then dg R t else shf R (t + 1) x) = num s (shf R t) := num_congr fun x _ => by
  unfold shf
  by_cases c : x = t + 1
  · subst c
    rw [if_pos rfl, if_pos (by omega), show t + 1 - 1 = t by omega]
  · rw [if_neg c]
    simp only [show (t + 1 < x ↔ t < x) by omega]
theorem shf_end (s : Bool) (R d : Nat) (hd : d < 256) : num s (fun x => if x = 0 then d else shf R 0 x) = num s (dg (R * 256 + d)) := num_congr fun x _ => by
  unfold shf
  cases x with
  | zero =>
    rw [if_pos rfl]
    unfold dg
    rw [Nat.pow_zero, Nat.div_one]
    omega
  | succ y =>
    rw [if_neg (by omega), if_pos (by omega), Nat.add_comm y 1, dg_shift, show 1 + y - 1 = y by omega, Nat.pow_one, show (R * 256 + d) / 256 = R by omega]
theorem mid_step (s : Bool) {C t i : Nat} (ht : t + 1 < 256) : num s (fun x => if x = i then t + 1 else dg (C * 256 ^ (i + 1) + t * 256 ^ i) x) = num s (dg (C * 256 ^ (i + 1) + (t + 1) * 256 ^ i)) := num_congr fun x _ => by
  rw [dg_mid (by omega), dg_mid ht]
  by_cases c : x = i
  · rw [if_pos c, if_neg (by omega), if_pos c]
  · rw [if_neg c]
    by_cases c2 : x < i
    · rw [if_pos c2, if_pos c2]
    · rw [if_neg c2, if_neg c2, if_neg c, if_neg c]
theorem mid_at {C t i : Nat} (ht : t < 256) : dg (C * 256 ^ (i + 1) + t * 256 ^ i) i = t := by rw [dg_mid ht, if_neg (by omega), if_pos rfl]
/-- one digit more of a quotient -/
theorem quo_step {A B i t V : Nat} (hB : 0 < B) (h : V + t * B = A / 256 ^ (i + 1) % B * 256 + dg A i) (hV : V < B) :
    A / 256 ^ i / B * 256 ^ i = A / 256 ^ (i + 1) / B * 256 ^ (i + 1) + t * 256 ^ i ∧ A / 256 ^ i % B = V := by
  have e1 := div_next A i
  have e2 := Nat.div_add_mod (A / 256 ^ (i + 1)) B
  have e3 : A / 256 ^ i = V + B * (A / 256 ^ (i + 1) / B * 256 + t) := by
    rw [e1, Nat.mul_add, Nat.mul_comm B t, ← Nat.mul_assoc]
    generalize B * (A / 256 ^ (i + 1) / B) = x at *
    omega
  constructor
  · rw [e3, Nat.add_mul_div_left _ _ hB, Nat.div_eq_of_lt hV, Nat.zero_add, Nat.add_mul, Nat.pow_succ, Nat.mul_assoc, Nat.mul_comm 256]
  · rw [e3, Nat.add_mul_mod_self_left, Nat.mod_eq_of_lt hV]
end Go.Lg.Dig
