/- A piece of a proof over this program: contracts of its functions, and a logic to prove them by. -/
import Derived.Test.YtmimcmdeaenblaaDoorW13
namespace Go.Proofs.YtmimcmdeaenblaaDoor
open Go Go.Lg Go.Lg.Arith Go.Lg.Dec Go.RowKit
theorem parts_facts {x y : Int} (hx : R127 x) (hy : R127 y) (h0 : y ≠ 0) :
    R127 (x.tdiv y) ∧ R127 (x.tmod y) ∧ R127 (x.tdiv y * y) ∧ x.tdiv y * y + x.tmod y = x ∧ mg (x.tmod y) < mg y ∧ (x.tmod y < 0 → x < 0) ∧ (0 < x.tmod y → 0 < x) := by
  obtain ⟨h1, h2⟩ := zv_quo x y h0
  have hB := mg_zero h0
  have hA0 := mg_nonneg x
  have hR0 := Int.emod_nonneg (mg x) (show mg y ≠ 0 by omega)
  have hR1 := Int.emod_lt_of_pos (mg x) hB
  have hQ0 := Int.ediv_nonneg hA0 (Int.le_of_lt hB)
  have hQ1 := Int.ediv_le_self (mg y) hA0
  have hE := Int.emod_add_mul_ediv (mg x) (mg y)
  have hT0 := Int.mul_nonneg hQ0 (Int.le_of_lt hB)
  rw [Int.mul_comm (mg y) (mg x / mg y)] at hE
  rw [← h1, ← h2]
  have key : zv (decide (x < 0) != decide (y < 0)) (mg x / mg y) * y = zv (decide (x < 0)) (mg x / mg y * mg y) := by
    by_cases cy : y < 0
    · have hy' : mg y = -y := mg_neg cy
      generalize mg x / mg y = Q
      by_cases cx : x < 0 <;> simp only [cx, cy, decide_true, decide_false, zv, bne_self_eq_false, Bool.false_bne, if_true, if_false, Bool.false_eq_true]
      · rw [hy', Int.mul_neg, Int.neg_neg]
      · rw [hy', Int.mul_neg, Int.neg_mul]
    · have hy' : mg y = y := mg_pos (by omega)
      generalize mg x / mg y = Q
      by_cases cx : x < 0 <;> simp only [cx, cy, decide_true, decide_false, zv, bne_self_eq_false, Bool.true_bne, Bool.not_false, if_true, if_false, Bool.false_eq_true]
      · rw [hy', Int.neg_mul]
      · rw [hy']
  have zR : ∀ (b : Bool) (n : Int), 0 ≤ n → n < 170141183460469231731687303715884105728 → R127 (zv b n) := by
    intro b n h1 h2
    unfold R127 zv
    cases b <;> simp only [if_true, if_false, Bool.false_eq_true] <;> omega
  have hlx := mg_lim hx
  have hly := mg_lim hy
  rw [key]
  generalize mg x / mg y * mg y = T at *
  generalize mg x / mg y = Q at *
  generalize mg x % mg y = R at *
  refine ⟨zR _ _ hQ0 (by omega), zR _ _ hR0 (by omega), zR _ _ hT0 (by omega), ?_, ?_, ?_, ?_⟩
  · by_cases cx : x < 0
    · rw [decide_eq_true cx]
      have := mg_neg cx
      show -T + -R = x
      omega
    · rw [decide_eq_false cx]
      have := mg_pos (Int.not_lt.1 cx)
      show T + R = x
      omega
  · by_cases cx : x < 0
    · rw [decide_eq_true cx]
      show mg (-R) < mg y
      by_cases c : R = 0
      · subst c; exact hB
      · rw [mg_neg (z := -R) (by omega)]; omega
    · rw [decide_eq_false cx]
      show mg R < mg y
      rw [mg_pos hR0]; exact hR1
  · intro h
    by_cases cx : x < 0
    · exact cx
    · rw [decide_eq_false cx] at h
      have h : R < 0 := h
      omega
  · intro h
    by_cases cx : x < 0
    · rw [decide_eq_true cx] at h
      have h : 0 < -R := h
      omega
    · rw [decide_eq_false cx] at h
      have h : 0 < R := h
      have := mg_pos (Int.not_lt.1 cx)
      omega
end Go.Proofs.YtmimcmdeaenblaaDoor
