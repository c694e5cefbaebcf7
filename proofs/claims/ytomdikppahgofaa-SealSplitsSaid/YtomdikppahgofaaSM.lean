/- A piece of a proof over this program: contracts of its functions, and a logic to prove them by. -/
namespace Go.Lg.Adl
/-- both halves behind one byte more -/
def step (p : Nat × Nat) (c : UInt8) : Nat × Nat := ((p.1 + c.toNat) % 65521, (p.2 + (p.1 + c.toNat) % 65521) % 65521)
def run (l : List UInt8) (p : Nat × Nat) : Nat × Nat := l.foldl step p
def sum (l : List UInt8) : Nat := (run l (1, 0)).2 * 65536 + (run l (1, 0)).1
theorem run_append (x y : List UInt8) (p : Nat × Nat) : run (x ++ y) p = run y (run x p) := by
  unfold run
  rw [List.foldl_append]
theorem run_lt : ∀ (l : List UInt8) (p : Nat × Nat), p.1 < 65521 → p.2 < 65521 → (run l p).1 < 65521 ∧ (run l p).2 < 65521
  | [], _, h1, h2 => ⟨h1, h2⟩
  | c :: l, p, _, _ => run_lt l (step p c) (Nat.mod_lt _ (by decide)) (Nat.mod_lt _ (by decide))
/-- the bytes' sum; that with weights: the last one counts once -/
def S : List UInt8 → Int
  | [] => 0
  | c :: t => (c.toNat : Int) + S t
def W : List UInt8 → Int
  | [] => 0
  | c :: t => ((t.length : Int) + 1) * (c.toNat : Int) + W t
theorem S_append : ∀ (x y : List UInt8), S (x ++ y) = S x + S y
  | [], y => by simp [S]
  | c :: x, y => by simp only [List.cons_append, S, S_append x y]; omega
theorem W_append : ∀ (x y : List UInt8), W (x ++ y) = W x + (y.length : Int) * S x + W y
  | [], y => by simp [W, S]
  | c :: x, y => by
    simp only [List.cons_append, W, S, W_append x y, List.length_append]
    rw [Int.mul_add, show ((x.length + y.length : Nat) : Int) + 1 = ((x.length : Int) + 1) + (y.length : Int) by omega, Int.add_mul]
    omega
/-- the halves, before they are reduced -/
def A (l : List UInt8) : Int := 1 + S l
def B (l : List UInt8) : Int := (l.length : Int) + W l
theorem run_form : ∀ (l : List UInt8) (a b : Nat), a < 65521 → b < 65521 →
    ((run l (a, b)).1 : Int) = ((a : Int) + S l) % 65521 ∧ ((run l (a, b)).2 : Int) = ((b : Int) + (l.length : Int) * (a : Int) + W l) % 65521
  | [], a, b, ha, hb => by
    constructor
    · show (a : Int) = ((a : Int) + 0) % 65521; omega
    · show (b : Int) = ((b : Int) + ((0 : Nat) : Int) * (a : Int) + 0) % 65521
      rw [show ((0 : Nat) : Int) = 0 from rfl, Int.zero_mul]; omega
  | c :: l, a, b, _, _ => by
    have e : run (c :: l) (a, b) = run l ((a + c.toNat) % 65521, (b + (a + c.toNat) % 65521) % 65521) := rfl
    obtain ⟨h1, h2⟩ := run_form l ((a + c.toNat) % 65521) ((b + (a + c.toNat) % 65521) % 65521) (Nat.mod_lt _ (by decide)) (Nat.mod_lt _ (by decide))
    rw [e, h1, h2]
    obtain ⟨q, hq⟩ : ∃ q : Int, (((a + c.toNat) % 65521 : Nat) : Int) = (a : Int) + (c.toNat : Int) - 65521 * q := ⟨(((a + c.toNat) / 65521 : Nat) : Int), by omega⟩
    obtain ⟨r, hr⟩ : ∃ r : Int, (((b + (a + c.toNat) % 65521) % 65521 : Nat) : Int) = (b : Int) + (((a + c.toNat) % 65521 : Nat) : Int) - 65521 * r := ⟨(((b + (a + c.toNat) % 65521) / 65521 : Nat) : Int), by omega⟩
    rw [hr, hq]
    constructor
    · simp only [S]; omega
    · simp only [W, List.length_cons]
      have e1 : (l.length : Int) * ((a : Int) + (c.toNat : Int) - 65521 * q) = (l.length : Int) * (a : Int) + (l.length : Int) * (c.toNat : Int) - 65521 * ((l.length : Int) * q) := by
        rw [Int.mul_sub, Int.mul_add, Int.mul_left_comm]
      have e2 : ((l.length + 1 : Nat) : Int) * (a : Int) = (l.length : Int) * (a : Int) + (a : Int) := by
        rw [show ((l.length + 1 : Nat) : Int) = (l.length : Int) + 1 by omega, Int.add_mul, Int.one_mul]
      have e3 : ((l.length : Int) + 1) * (c.toNat : Int) = (l.length : Int) * (c.toNat : Int) + (c.toNat : Int) := by rw [Int.add_mul, Int.one_mul]
      rw [e1, e2, e3]
      omega
theorem run_one (l : List UInt8) : ((run l (1, 0)).1 : Int) = A l % 65521 ∧ ((run l (1, 0)).2 : Int) = B l % 65521 := by
  obtain ⟨h1, h2⟩ := run_form l 1 0 (by decide) (by decide)
  constructor
  · exact h1
  · rw [h2]
    unfold B
    rw [show ((0 : Nat) : Int) = 0 from rfl, show ((1 : Nat) : Int) = 1 from rfl, Int.mul_one, Int.zero_add]
/-- the halves of a sum -/
theorem sum_lt (l : List UInt8) : sum l < 4294967296 := by
  obtain ⟨h1, h2⟩ := run_lt l (1, 0) (by decide) (by decide)
  unfold sum
  omega
theorem sum_halves (l : List UInt8) : sum l % 65536 = (run l (1, 0)).1 ∧ sum l / 65536 = (run l (1, 0)).2 := by
  obtain ⟨h1, h2⟩ := run_lt l (1, 0) (by decide) (by decide)
  unfold sum
  omega
theorem sum_form (l : List UInt8) : (sum l : Int) = B l % 65521 * 65536 + A l % 65521 := by
  obtain ⟨h1, h2⟩ := run_one l
  unfold sum
  rw [Int.natCast_add, Int.natCast_mul, h1, h2]
  rfl
theorem sum_eq {x y : List UInt8} (h1 : A x % 65521 = A y % 65521) (h2 : B x % 65521 = B y % 65521) : sum x = sum y := by
  have hx := sum_form x
  have hy := sum_form y
  rw [h1, h2, ← hy] at hx
  omega
theorem A_append (x y : List UInt8) : A (x ++ y) = A x + A y - 1 := by
  unfold A
  rw [S_append]
  omega
theorem B_append (x y : List UInt8) : B (x ++ y) = B x + B y + (y.length : Int) * (A x - 1) := by
  unfold A B
  rw [W_append, List.length_append, show (1 + S x - 1 : Int) = S x by omega]
  omega
/-- without the first one, and with another one behind -/
theorem A_roll (x i : UInt8) (t : List UInt8) : A (t ++ [i]) = A (x :: t) - (x.toNat : Int) + (i.toNat : Int) := by
  rw [A_append]
  unfold A
  simp only [S]
  omega
theorem B_roll (x i : UInt8) (t : List UInt8) : B (t ++ [i]) = B (x :: t) - ((x :: t).length : Int) * (x.toNat : Int) - 1 + A (t ++ [i]) := by
  rw [A_roll x i t, B_append]
  unfold A B
  simp only [S, W, List.length_cons, List.length_nil]
  have e : ((t.length + 1 : Nat) : Int) = (t.length : Int) + 1 := by omega
  rw [e]
  simp
  omega
theorem S_set : ∀ (l : List UInt8) (k : Nat) (c d : UInt8), l[k]? = some c → S (l.set k d) = S l - (c.toNat : Int) + (d.toNat : Int)
  | [], k, c, d, h => by simp at h
  | x :: l, 0, c, d, h => by
    simp at h
    subst h
    simp only [List.set_cons_zero, S]
    omega
  | x :: l, k + 1, c, d, h => by
    simp only [List.set_cons_succ, S]
    rw [S_set l k c d (by simpa using h)]
    omega
/-- one byte that is turned changes the sum -/
theorem sum_set {l : List UInt8} {k : Nat} {c d : UInt8} (h : l[k]? = some c) : sum (l.set k d) = sum l ↔ d = c := by
  constructor
  · intro e
    have h1 := (sum_halves (l.set k d)).1
    have h2 := (sum_halves l).1
    rw [e] at h1
    have h3 : (run (l.set k d) (1, 0)).1 = (run l (1, 0)).1 := h1.symm.trans h2
    have h4 := (run_one (l.set k d)).1
    have h5 := (run_one l).1
    rw [h3, h5] at h4
    unfold A at h4
    rw [S_set l k c d h] at h4
    have b1 := c.toNat_lt
    have b2 := d.toNat_lt
    exact UInt8.toNat_inj.1 (by omega)
  · rintro rfl
    have : l.set k d = l := by
      obtain ⟨hk, he⟩ := List.getElem?_eq_some_iff.1 h
      rw [← he]
      exact List.set_getElem_self hk
    rw [this]
end Go.Lg.Adl
