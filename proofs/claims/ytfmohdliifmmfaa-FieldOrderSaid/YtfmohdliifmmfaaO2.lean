/- A piece of a proof over this program: contracts of its functions, and a logic to prove them by. -/
import Derived.Test.YtfmohdliifmmfaaO1
namespace Go.Lg
open Go
/-- the number of bytes, the lowest first -/
def le : List UInt8 → Nat
  | [] => 0
  | c :: t => c.toNat + 256 * le t
theorem le_lt : ∀ (l : List UInt8), le l < 256 ^ l.length
  | [] => by simp [le]
  | c :: t => by
    have := le_lt t
    have hc := c.toNat_lt
    simp only [le, List.length_cons, Nat.pow_succ]
    omega
theorem le_snoc : ∀ (l : List UInt8) (c : UInt8), le (l ++ [c]) = le l + c.toNat * 256 ^ l.length
  | [], c => by simp [le]
  | d :: t, c => by
    have e : 256 * (c.toNat * 256 ^ t.length) = c.toNat * (256 ^ t.length * 256) := by rw [Nat.mul_left_comm, Nat.mul_comm 256]
    simp only [List.cons_append, le, le_snoc t c, List.length_cons, Nat.pow_succ, Nat.mul_add]
    omega
theorem le_take {l : List UInt8} {i : Nat} {c : UInt8} (h : l[i]? = some c) : le (l.take (i + 1)) = le (l.take i) + c.toNat * 256 ^ i := by
  have hi := (List.getElem?_eq_some_iff.1 h).1
  rw [List.take_add_one, h]
  have := le_snoc (l.take i) c
  rw [List.length_take, Nat.min_eq_left (by omega)] at this
  exact this
/-- the bytes of a number, the lowest first -/
def leB : Nat → Nat → List UInt8
  | 0, _ => []
  | k + 1, n => UInt8.ofNat (n % 256) :: leB k (n / 256)
theorem leB_length : ∀ (k n : Nat), (leB k n).length = k
  | 0, _ => rfl
  | k + 1, n => by simp [leB, leB_length k]
theorem leB_get : ∀ (k n i : Nat), i < k → (leB k n)[i]? = some (UInt8.ofNat (n / 256 ^ i % 256))
  | 0, _, _, h => by omega
  | k + 1, n, 0, _ => by simp [leB]
  | k + 1, n, i + 1, h => by
    simp only [leB, List.getElem?_cons_succ]
    rw [leB_get k (n / 256) i (by omega), Nat.pow_succ, Nat.mul_comm, Nat.div_div_eq_div_mul]
theorem le_leB : ∀ (k n : Nat), n < 256 ^ k → le (leB k n) = n
  | 0, n, h => by simp at h; subst h; rfl
  | k + 1, n, h => by
    have e : (UInt8.ofNat (n % 256)).toNat = n % 256 := by rw [UInt8.toNat_ofNat']; exact Nat.mod_eq_of_lt (by omega)
    simp only [leB, le, e, le_leB k (n / 256) (by rw [Nat.pow_succ] at h; omega)]
    omega
theorem take_next {w n i : Nat} (h : i < w) : ((leB w n).take i).map bc ++ [bc (UInt8.ofNat (n / 256 ^ i % 256))] = ((leB w n).take (i + 1)).map bc := by
  rw [List.take_add_one, leB_get w n i h, List.map_append]
  rfl
/-- i bytes are put, the others are 0 -/
def lo (w n i : Nat) : List UInt8 := (leB w n).take i ++ List.replicate (w - i) 0
theorem lo_set {w n i : Nat} (h : i < w) : (((lo w n i).map bc).set (0 + i * 1) (bc (UInt8.ofNat (n / 256 ^ i % 256)))) = (lo w n (i + 1)).map bc := by
  rw [Nat.zero_add, Nat.mul_one, ← List.map_set]
  congr 1
  unfold lo
  have hl : ((leB w n).take i).length = i := by rw [List.length_take, leB_length]; omega
  rw [List.set_append_right _ _ (by omega), hl, Nat.sub_self, List.take_add_one, leB_get w n i h]
  have : w - i = (w - (i + 1)) + 1 := by omega
  rw [this, List.replicate_succ]
  simp
theorem lo_len (w n i : Nat) (h : i ≤ w) : ((lo w n i).map bc).length = w := by
  unfold lo
  rw [List.length_map, List.length_append, List.length_take, leB_length, List.length_replicate]
  omega
theorem lo_all (w n : Nat) : lo w n w = leB w n := by
  unfold lo
  rw [Nat.sub_self, List.take_of_length_le (by rw [leB_length]; exact Nat.le_refl _)]
  simp
theorem or_low {x y c : Int} {s : Nat} (hs : s ≤ 64) (hx : 0 ≤ x ∧ x * 2 ^ s < 18446744073709551616) (hy : 0 ≤ y ∧ y < 2 ^ s) (hc : y + x * 2 ^ s = c) : bits .or .u64 y (x * 2 ^ s) = c := by
  have h := or_apart hs hx hy
  obtain ⟨A, rfl⟩ := Int.eq_ofNat_of_zero_le hx.1
  obtain ⟨B, rfl⟩ := Int.eq_ofNat_of_zero_le hy.1
  have e : ((A : Int) * 2 ^ s) = ((A * 2 ^ s : Nat) : Int) := by rw [Int.natCast_mul, Int.natCast_pow]; rfl
  have e' : ((2 : Int) ^ s) = ((2 ^ s : Nat) : Int) := by rw [Int.natCast_pow]; rfl
  have h1 : A * 2 ^ s < 18446744073709551616 := by have := hx.2; rw [e] at this; omega
  have h3 : 2 ^ s ≤ 18446744073709551616 := by
    have : 2 ^ s ≤ 2 ^ 64 := Nat.pow_le_pow_right (by decide) hs
    exact this
  have h2 : B < 18446744073709551616 := by have := hy.2; rw [e'] at this; omega
  have hcomm : bits .or .u64 (B : Int) ((A : Int) * 2 ^ s) = bits .or .u64 ((A : Int) * 2 ^ s) B := by
    rw [e, u64_or_nat _ _ h2 h1, u64_or_nat _ _ h1 h2, Nat.or_comm]
  rw [hcomm, h]
  omega
end Go.Lg
namespace Go.Proofs.Ytfmohdliifmmfaa
open Go Go.Lg
variable (X : Nat → Option Obj)
theorem p256 (i : Nat) : (256 : Nat) ^ i = 2 ^ (8 * i) := by rw [Nat.pow_mul]
theorem onumber_spec (l : List UInt8) (hl : l.length ≤ 8) : PSpec Try.prog X 60 [Ls l] (Ln .u64 (le l : Nat)) := by
  refine PSpec.intro Try.func60 rfl (by kernel_rfl) rfl rfl ?_
  intro C
  (refine LWP.seq <| LWP.region (by kernel_rfl) <| kas rfl <| RunK.nil <| LWP.seq <| LWP.region (by kernel_rfl) <| kas rfl <| RunK.nil <| LWP.seq <| LWP.seq <| LWP.region (by kernel_rfl) <| kmv rfl <| kln rfl <| kmv rfl ?_; refine RunK.nil <| LWP.block ?_)
  refine LWP.loop (fun m σ => ∃ i : Nat, i ≤ l.length ∧ m = l.length - i ∧ σ = ⟨[(0, Ls l), (3, Ln .u64 (le (l.take i) : Nat)), (6, Ln .i64 (l.length : Nat)), (7, Ln .i64 (i : Nat))], [], X⟩) l.length
    ⟨_, Le.of (by exact ⟨rfl, rfl, rfl, rfl, trivial⟩) (by exact trivial) (by exact rfl) (by exact rfl) (by exact rfl), 0, Nat.zero_le _, rfl, rfl⟩ ?_
  rintro m σ ⟨i, hi, rfl, rfl⟩
  by_cases hlt : i < l.length
  · obtain ⟨b, hb⟩ : ∃ b, l[i]? = some b := ⟨_, List.getElem?_eq_getElem hlt⟩
    have hb' : (⟨l.toArray⟩ : ByteArray)[Int.toNat (i : Int)]? = some b := str_at hb
    have hnx := le_take hb
    have h8 : 8 * i ≤ 56 := by omega
    have w8 : IntKind.i64.wrap (8 * (i : Int)) = ((8 * i : Nat) : Int) := by rw [wrap_i64 (by omega)]; omega
    have hc := b.toNat_lt
    have hlo := le_lt (l.take i)
    rw [List.length_take, Nat.min_eq_left hi, p256] at hlo
    have hp : 2 ^ (8 * i) ≤ 2 ^ 56 := Nat.pow_le_pow_right (by decide) h8
    have hbb : b.toNat * 2 ^ (8 * i) ≤ 255 * 2 ^ 56 := Nat.mul_le_mul (by omega) hp
    have ec : ((b.toNat : Int)) * 2 ^ (8 * i) = ((b.toNat * 2 ^ (8 * i) : Nat) : Int) := by rw [Int.natCast_mul, Int.natCast_pow]; rfl
    have ep : ((2 : Int) ^ (8 * i)) = ((2 ^ (8 * i) : Nat) : Int) := by rw [Int.natCast_pow]; rfl
    have hs := shl_s (a := (b.toNat : Int)) (s := 8 * i) (c := (b.toNat : Int) * 2 ^ (8 * i)) (by omega) rfl (by rw [ec]; omega)
    have ho := or_low (x := (b.toNat : Int)) (y := (le (l.take i) : Nat)) (s := 8 * i) (c := (le (l.take (i + 1)) : Nat)) (by omega) (by rw [ec]; omega) (by rw [ep]; omega) (by rw [ec, hnx, p256]; omega)
    (refine LWP.seq <| LWP.region (by kernel_rfl) <| klt rfl rfl (decide_eq_true (by omega)) <| RunK.nil <| LWP.seq <| LWP.condT rfl ?_; refine LWP.skip ?_; refine LWP.seq <| LWP.block <| LWP.seq <| LWP.region (by kernel_rfl) <| kmv rfl <| kas rfl <| RunK.nil <| LWP.region (by kernel_rfl) <| kmv rfl <| kmv rfl <| kmv rfl <| K.indexStr rfl rfl (by omega) hb' .plain <| kcv rfl (by exact wrap_u64 (by omega)) ?_; refine kmv rfl <| K.mul rfl rfl w8 .plain <| K.shl rfl rfl (by omega) hs .plain <| K.bitop (by simp) rfl rfl ho .plain <| kas rfl <| RunK.nil <| LWP.region (by kernel_rfl) <| kad rfl rfl (wrap_i64 (by omega)) <| kmv rfl <| RunK.nil ?_)
    exact ⟨_, _, by omega, Le.of (by exact ⟨rfl, rfl, rfl, rfl, trivial⟩) (by exact trivial) (by exact rfl) (by exact rfl) (by exact rfl), i + 1, by omega, rfl, rfl⟩
  · have e : i = l.length := by omega
    subst e
    rw [List.take_length]
    (refine LWP.seq <| LWP.region (by kernel_rfl) <| klt rfl rfl (decide_eq_false (by omega)) <| RunK.nil <| LWP.seq <| LWP.condF rfl ?_; refine LWP.exit <| LWP.seq <| LWP.region (by kernel_rfl) <| kmv rfl <| kas rfl <| RunK.nil <| LWP.ret ?_)
    exact ⟨[_], ⟨rfl, trivial⟩, rfl⟩
end Go.Proofs.Ytfmohdliifmmfaa
