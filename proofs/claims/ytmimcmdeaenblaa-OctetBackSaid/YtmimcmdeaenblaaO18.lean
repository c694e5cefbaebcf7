/- A piece of a proof over this program: contracts of its functions, and a logic to prove them by. -/
import Derived.Test.YtmimcmdeaenblaaO14
namespace Go.Lg
open Go
theorem ren_vals (f : Nat → Nat) : ∀ (l : List Value), (l.map CV.val).map (CV.ren f) = l.map CV.val
  | [] => rfl
  | c :: l => by rw [List.map_cons, List.map_cons, ren_vals f l]; rfl
theorem Box.ren_vals (f : Nat → Nat) (e : TypeId) (l : List Value) (r : Bool) : Box.ren f ⟨e, l.map CV.val, r⟩ = ⟨e, l.map CV.val, r⟩ := by
  unfold Box.ren
  simp only [Go.Lg.ren_vals]
theorem vals_inUse {bx : List (Nat × Option Box)} : ∀ {l : List Value}, (l.map CV.val).all (CV.inUse bx) = true
  | [] => rfl
  | c :: l => by rw [List.map_cons, List.all_cons, vals_inUse]; rfl
theorem vals_solid : ∀ {l : List Value}, l.all Value.oneCell' = true → (l.map CV.val).all CV.solid = true
  | [], _ => rfl
  | c :: l, h => by
    simp only [List.all_cons, Bool.and_eq_true] at h
    rw [List.map_cons, List.all_cons, vals_solid h.2]
    simp [CV.solid, h.1]
end Go.Lg
namespace Go.Proofs.Ytmimcmdeaenblaa
open Go Go.Lg
variable (X : Nat → Option Obj)
/-- an act's bytes -/
def Act4.enc (a : Act4) : List UInt8 := if a.kind = 1 then leB a.w.toNat a.n.toNat else if a.kind = 2 then leB 1 a.s.length ++ a.s else if a.kind = 3 then leB 4 a.s.length ++ a.s else a.s
/-- an act that was written -/
structure Act4.Ok (a : Act4) : Prop where
  kind : a.kind = 1 ∨ a.kind = 2 ∨ a.kind = 3 ∨ a.kind = 4
  num : a.kind = 1 → fitW a.w a.n.toNat = true
  name : a.kind = 2 → fitW 1 a.s.length = true
  len : a.s.length ≤ 1024
  pos : 0 ≤ a.n ∧ a.n < 18446744073709551616
def encAll : List Act4 → List UInt8
  | [] => []
  | a :: r => a.enc ++ encAll r
theorem encAll_snoc : ∀ (l : List Act4) (a : Act4), encAll (l ++ [a]) = encAll l ++ a.enc
  | [], a => by simp [encAll]
  | b :: l, a => by simp [encAll, encAll_snoc l a]
def Act4.vals (a : Act4) : List Value := [.int .i64 a.kind, .int .i64 a.w, .int .u64 a.n, .string ⟨a.s.toArray⟩]
def valsAll : List Act4 → List Value
  | [] => []
  | a :: r => a.vals ++ valsAll r
theorem valsAll_snoc : ∀ (l : List Act4) (a : Act4), valsAll (l ++ [a]) = valsAll l ++ a.vals
  | [], a => by simp [valsAll]
  | b :: l, a => by simp [valsAll, valsAll_snoc l a]
theorem valsAll_length : ∀ (l : List Act4), (valsAll l).length = l.length * 4
  | [] => rfl
  | a :: l => by
    simp only [valsAll, List.length_append, valsAll_length l, List.length_cons]
    show 4 + _ = _
    omega
theorem valsAll_at : ∀ (l : List Act4) (i : Nat) (a : Act4), l[i]? = some a → ((valsAll l).drop (i * 4)).take 4 = a.vals
  | [], i, a, h => by simp at h
  | b :: l, 0, a, h => by
    simp at h
    subst h
    rfl
  | b :: l, i + 1, a, h => by
    have e : (i + 1) * 4 = 4 + i * 4 := by omega
    have h4 : b.vals.length = 4 := rfl
    rw [e, valsAll, ← List.drop_drop, show (b.vals ++ valsAll l).drop 4 = valsAll l from by rw [← h4]; exact List.drop_left]
    exact valsAll_at l i a (by simpa using h)
theorem cells_at {l : List Act4} {i : Nat} {a : Act4} (h : l[i]? = some a) : (((valsAll l).map CV.val).drop (0 + i * 4)).take 4 = [.val (.int .i64 a.kind), .val (.int .i64 a.w), .val (.int .u64 a.n), vs a.s] := by
  rw [← List.map_drop, ← List.map_take, Nat.zero_add, valsAll_at l i a h]
  rfl
theorem leB_take (k n : Nat) (r : List UInt8) : (leB k n ++ r).take k = leB k n ∧ (leB k n ++ r).drop k = r := by
  have h := leB_length k n
  constructor
  · rw [List.take_append_of_le_length (by omega), List.take_of_length_le (by omega)]
  · rw [List.drop_append_of_le_length (by omega), List.drop_of_length_le (by omega), List.nil_append]
theorem app_take (s r : List UInt8) : (s ++ r).take s.length = s ∧ (s ++ r).drop s.length = r := ⟨List.take_left, List.drop_left⟩
/-- what was written is read as it was -/
theorem Num_enc (w : Int) (n : Nat) (r : List UInt8) (h : fitW w n = true) (hl : r.length < 1000000) : MSpec Try.prog X 16 [Lp 1000000, Ln .i64 w] (rd 1000000 (leB w.toNat n ++ r) false) (Ln .u64 (n : Nat)) (rd 1000000 r false) := by
  unfold fitW at h
  obtain ⟨hw, hf⟩ := Bool.and_eq_true_iff.1 h
  have hf := of_decide_eq_true hf
  have hb := isW_bound hw
  have e : w = ((w.toNat : Nat) : Int) := by omega
  have hlen : (leB w.toNat n ++ r).length = w.toNat + r.length := by rw [List.length_append, leB_length]
  have h := Num_ok X (leB w.toNat n ++ r) w.toNat (by rw [← e]; exact hw) (by omega) (by omega)
  rw [(leB_take w.toNat n r).1, (leB_take w.toNat n r).2, le_leB _ _ hf, ← e] at h
  exact h
theorem Raw_enc (s r : List UInt8) (hs : s.length ≤ 1024) (hl : r.length < 1000000) : MSpec Try.prog X 22 [Lp 1000000, Ln .i64 (s.length : Nat)] (rd 1000000 (s ++ r) false) (Ls s) (rd 1000000 r false) := by
  have h := Raw_ok X (s ++ r) s.length (by rw [List.length_append]; omega) (by rw [List.length_append]; omega)
  rw [(app_take s r).1, (app_take s r).2] at h
  exact h
theorem Name_enc (s r : List UInt8) (h1 : fitW 1 s.length = true) (hs : s.length ≤ 1024) (hl : r.length < 1000000) : MSpec Try.prog X 18 [Lp 1000000] (rd 1000000 ((leB 1 s.length ++ s) ++ r) false) (Ls s) (rd 1000000 r false) := by
  have hf : s.length < 256 := by unfold fitW at h1; simp only [Bool.and_eq_true, decide_eq_true_eq] at h1; exact h1.2
  have ec : (UInt8.ofNat (s.length % 256)).toNat = s.length := by rw [UInt8.toNat_ofNat', Nat.mod_eq_of_lt hf, Nat.mod_eq_of_lt (by omega)]
  have hN := Name_ok X (UInt8.ofNat (s.length % 256)) (s ++ r) (by rw [ec, List.length_append]; omega) (by rw [List.length_cons, List.length_append]; omega)
  rw [ec, (app_take s r).1, (app_take s r).2] at hN
  exact hN
theorem Part_enc (s r : List UInt8) (hs : s.length ≤ 1024) (hl : r.length < 1000000) : MSpec Try.prog X 20 [Lp 1000000, Ln .i64 (s.length : Nat)] (rd 1000000 ((leB 4 s.length ++ s) ++ r) false) (Ls s) (rd 1000000 r false) := by
  have hp : (256 : Nat) ^ 4 = 4294967296 := by decide
  have e1 := leB_take 4 s.length (s ++ r)
  have hlb := leB_length 4 s.length
  rw [List.append_assoc]
  have hlen : (leB 4 s.length ++ (s ++ r)).length = 4 + (s.length + r.length) := by rw [List.length_append, List.length_append, hlb]
  have hz : le ((leB 4 s.length ++ (s ++ r)).take 4) = s.length := by rw [e1.1, le_leB _ _ (by rw [hp]; omega)]
  have h := Part_ok X (leB 4 s.length ++ (s ++ r)) (s.length : Nat) (by omega) (by
    unfold partOk
    rw [hz, decide_eq_true (by omega), decide_eq_true (by omega), decide_eq_true (by omega)]
    rfl) (by omega)
  rw [hz, e1.2, (app_take s r).1, (app_take s r).2] at h
  exact h
end Go.Proofs.Ytmimcmdeaenblaa
