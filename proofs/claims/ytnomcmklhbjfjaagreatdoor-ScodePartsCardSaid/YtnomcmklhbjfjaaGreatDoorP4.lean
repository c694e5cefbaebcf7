/- A piece of a proof over this program: contracts of its functions, and a logic to prove them by. -/
import Derived.Test.YtnomcmklhbjfjaaGreatDoorP2
import Derived.Test.YtnomcmklhbjfjaaGreatDoorP3
import Derived.Lib.AppendZerosOnto
section
namespace Go.Lg.Fld
open Go Go.Lg
end Go.Lg.Fld
namespace Go.Proofs.YtnomcmklhbjfjaaGreatDoor
open Go Go.Lg Go.Lg.Fld
set_option maxRecDepth 100000
variable (X : Nat → Option Obj)
theorem isW_k {k : Int} (h : kK k = true) : isW (kW k : Nat) = true := by
  rcases kW_in h with e | e | e | e <;> rw [e] <;> rfl
theorem Get_q (k : Int) (l : List UInt8) (hk : kK k = true) (hn : l.length = kW k) : PSpec Tryz.prog X 82 [Ln .i64 k, Ls l] (if fitZ k (nbK k (le l)) = true then .tup [SQ (nbK k (le l)), Sn .i64 0] else .tup [S0, Sn .i64 4]) := by
  have hS := fSize_spec X k
  have hw := isW_k hk
  have hR := Read_spec X l
  have hk8 := (kfacts k).2.2.2.2
  have hN := Num_ok X l (kW k) hw (by omega) (by omega)
  rw [List.take_of_length_le (by omega), List.drop_of_length_le (by omega)] at hN
  have hb := le_lt l
  rw [hn] at hb
  have hO := numberOf_spec X k (le l) hk hb
  have hR' := nb_R hk hb
  have hD : MSpec Tryz.prog X 33 [Lp 1000000] (rd 1000000 [] false) (Lb true) (rd 1000000 [] false) := Done_spec X [] false true rfl
  have hF := Fits_q X k (nbK k (le l)) hk hR' _ rfl
  generalize nbK k (le l) = z at *
  generalize le l = n at *
  cases hf : fitZ k z with
  | true =>
    rw [hf] at hF
    rw [if_pos rfl]
    refine PSpec.intro Tryz.func82 rfl (by kernel_rfl) rfl rfl ?_
    intro C
    (refine LWP.seq <| LWP.region (by kernel_rfl) <| K.alloc rfl .plain ?_; refine kas rfl <| RunK.nil <| LWP.seq <| LWP.seq <| LWP.region (by kernel_rfl) <| kmv rfl <| kca rfl rfl (isKind_spec X k true hk) <| K.not rfl rfl .plain <| RunK.nil <| LWP.condF rfl ?_; refine LWP.skip ?_; refine LWP.seq <| LWP.region (by kernel_rfl) <| kmv rfl <| K.callMp [(1000001, 501)] (Lp 501) (rd 501 l false) (hR) rfl rfl (by exact trivial) rfl rfl rfl rfl rfl (by exact (.box rfl rfl .nil)) .plain <| kas rfl <| RunK.nil <| LWP.seq <| LWP.region (by kernel_rfl) <| kmv rfl <| kmv rfl <| kmv rfl <| kca rfl rfl (hS) <| K.callM [(1000000, 501)] (rd 501 [] false) (hN) rfl rfl (by exact (And.intro ⟨_, rfl, rfl⟩ trivial)) (by exact (all_cons_true (all_cons_true rfl (all_cons_true rfl rfl)) rfl)) rfl rfl rfl rfl (by exact (.box rfl rfl .nil)) .plain <| kca rfl rfl (hO) ?_; refine K.alloc rfl .plain ?_; refine K.storeAll rfl rfl rfl rfl rfl rfl .plain ?_; refine RunK.nil <| LWP.seq <| LWP.seq <| LWP.region (by kernel_rfl) <| kmv rfl <| K.callR [(1000000, 501)] (hD) rfl rfl (by exact (And.intro ⟨_, rfl, rfl⟩ trivial)) (by exact (all_cons_true (all_cons_true rfl (all_cons_true rfl rfl)) rfl)) rfl rfl rfl rfl .plain <| K.not rfl rfl .plain <| kmv rfl <| gmv rfl rfl rfl <| K.loadAll rfl rfl rfl (.taken rfl rfl) ?_; refine gca rfl rfl (hF) rfl rfl <| K.not rfl rfl (.taken rfl rfl) ?_; refine kpf rfl rfl <| RunK.nil <| LWP.condF rfl ?_; refine LWP.skip ?_; refine LWP.seq <| LWP.region (by kernel_rfl) <| K.loadAll rfl rfl rfl .plain ?_; refine K.storeAll rfl rfl rfl rfl rfl rfl .plain ?_; refine kas rfl <| RunK.nil <| LWP.ret ?_)
    exact ⟨[_, _], ⟨⟨_, _, rfl, rfl, rfl, .inl ⟨AggT.h, rfl⟩⟩, rfl, trivial⟩, rfl⟩
  | false =>
    rw [hf] at hF
    rw [if_neg (by simp)]
    refine PSpec.intro Tryz.func82 rfl (by kernel_rfl) rfl rfl ?_
    intro C
    (refine LWP.seq <| LWP.region (by kernel_rfl) <| K.alloc rfl .plain ?_; refine kas rfl <| RunK.nil <| LWP.seq <| LWP.seq <| LWP.region (by kernel_rfl) <| kmv rfl <| kca rfl rfl (isKind_spec X k true hk) <| K.not rfl rfl .plain <| RunK.nil <| LWP.condF rfl ?_; refine LWP.skip ?_; refine LWP.seq <| LWP.region (by kernel_rfl) <| kmv rfl <| K.callMp [(1000001, 501)] (Lp 501) (rd 501 l false) (hR) rfl rfl (by exact trivial) rfl rfl rfl rfl rfl (by exact (.box rfl rfl .nil)) .plain <| kas rfl <| RunK.nil <| LWP.seq <| LWP.region (by kernel_rfl) <| kmv rfl <| kmv rfl <| kmv rfl <| kca rfl rfl (hS) <| K.callM [(1000000, 501)] (rd 501 [] false) (hN) rfl rfl (by exact (And.intro ⟨_, rfl, rfl⟩ trivial)) (by exact (all_cons_true (all_cons_true rfl (all_cons_true rfl rfl)) rfl)) rfl rfl rfl rfl (by exact (.box rfl rfl .nil)) .plain <| kca rfl rfl (hO) ?_; refine K.alloc rfl .plain ?_; refine K.storeAll rfl rfl rfl rfl rfl rfl .plain ?_; refine RunK.nil <| LWP.seq <| LWP.seq <| LWP.region (by kernel_rfl) <| kmv rfl <| K.callR [(1000000, 501)] (hD) rfl rfl (by exact (And.intro ⟨_, rfl, rfl⟩ trivial)) (by exact (all_cons_true (all_cons_true rfl (all_cons_true rfl rfl)) rfl)) rfl rfl rfl rfl .plain <| K.not rfl rfl .plain <| kmv rfl <| gmv rfl rfl rfl <| K.loadAll rfl rfl rfl (.taken rfl rfl) ?_; refine gca rfl rfl (hF) rfl rfl <| K.not rfl rfl (.taken rfl rfl) ?_; refine kpf rfl rfl <| RunK.nil <| LWP.condT rfl ?_; refine LWP.seq <| LWP.region (by kernel_rfl) <| K.build rfl rfl (by exact rfl) (by exact nl3 rfl rfl rfl rfl) .plain ?_; refine K.storeAll rfl rfl rfl rfl rfl rfl .plain ?_; refine kas rfl <| RunK.nil <| LWP.ret ?_)
    exact ⟨[_, _], ⟨⟨_, _, rfl, rfl, rfl, .inl ⟨AggT.h, rfl⟩⟩, rfl, trivial⟩, rfl⟩
end Go.Proofs.YtnomcmklhbjfjaaGreatDoor
end
section
namespace Go.Proofs.YtnomcmklhbjfjaaGreatDoor
open Go Go.Lg Go.Lg.Fld
set_option maxRecDepth 100000
variable (X : Nat → Option Obj)
abbrev cI (b : Bool) (n : Int) : List CV := [.val (.bool b), .val (.int .u64 (n / 18446744073709551616)), .val (.int .u64 (n % 18446744073709551616))]
abbrev cQ (z : Int) : List CV := [.val (.bool (decide (z < 0))), .val (.int .u64 (mg z / 18446744073709551616)), .val (.int .u64 (mg z % 18446744073709551616))]
end Go.Proofs.YtnomcmklhbjfjaaGreatDoor
end
section
namespace Go.Lg.Dig
open Go Go.Lg
def dg (n j : Nat) : Nat := n / 256 ^ j % 256
def dv (d : Nat) : CV := .val (.int .i64 (d : Nat))
def dlf (f : Nat → Nat) : List Nat := (List.range 40).map f
def num (b : Bool) (f : Nat → Nat) : List CV := .val (.bool b) :: (dlf f).map dv
theorem dlf_congr {f g : Nat → Nat} (h : ∀ j, j < 40 → f j = g j) : dlf f = dlf g := by
  unfold dlf
  exact List.map_congr_left fun j hj => h j (List.mem_range.1 hj)
theorem num_congr {b : Bool} {f g : Nat → Nat} (h : ∀ j, j < 40 → f j = g j) : num b f = num b g := by
  unfold num
  rw [dlf_congr h]
theorem num_at {b : Bool} {f : Nat → Nat} {i : Nat} (hi : i < 40) : (num b f)[1 + i * 1]? = some (dv (f i)) := by
  rw [Nat.mul_one, Nat.add_comm]
  simp [num, dlf, hi]
theorem num_set {b : Bool} {f : Nat → Nat} {i d : Nat} (hi : i < 40) : (num b f).set (1 + i * 1) (dv d) = num b (fun j => if j = i then d else f j) := by
  rw [Nat.mul_one, Nat.add_comm]
  unfold num
  rw [List.set_cons_succ]
  congr 1
  apply List.ext_getElem?
  intro j
  rw [List.getElem?_set]
  by_cases h : i = j
  · subst h
    simp [dlf, hi]
  · rw [if_neg h]
    by_cases hj : j < 40
    · simp [dlf, hj, show ¬ j = i from fun e => h e.symm]
    · simp [dlf, hj]
theorem pow_pos (j : Nat) : 0 < 256 ^ j := Nat.pow_pos (by decide)
theorem div_next (n i : Nat) : n / 256 ^ i = n / 256 ^ (i + 1) * 256 + dg n i := by
  unfold dg
  rw [Nat.pow_succ, ← Nat.div_div_eq_div_mul]
  omega
theorem pow40 : 256 ^ 40 = 2135987035920910082395021706169552114602704522356652769947041607822219725780640550022962086936576 := by decide
end Go.Lg.Dig
namespace Go.Lg.Dig
open Go Go.Lg
theorem num_length {b : Bool} {f : Nat → Nat} : (num b f).length = 41 := by simp [num, dlf]
theorem num_blt {b : Bool} {f : Nat → Nat} {i : Nat} (hi : i < 40) : Nat.blt (1 + i * 1) (num b f).length = true := by
  rw [num_length, Nat.blt_eq]
  omega
theorem div_div (n i : Nat) : n / 256 ^ i / 256 = n / 256 ^ (i + 1) := by rw [Nat.pow_succ, Nat.div_div_eq_div_mul]
end Go.Lg.Dig
namespace Go.Lg.Dig
theorem lt_digit {M N i : Nat} (h : M / 256 ^ (i + 1) = N / 256 ^ (i + 1)) (hd : dg M i < dg N i) : M < N := by
  have d1 := div_next M i
  have d2 := div_next N i
  rcases Nat.lt_or_ge M N with c | c
  · exact c
  · have := Nat.div_le_div_right (c := 256 ^ i) c
    omega
end Go.Lg.Dig
namespace Go.Lg.Dig
end Go.Lg.Dig
namespace Go.Lg.Dig
open Go Go.Lg
end Go.Lg.Dig
namespace Go.Lg.Dig
open Go Go.Lg
end Go.Lg.Dig
end
section
namespace Go.Proofs.YtnomcmklhbjfjaaGreatDoor
open Go Go.Lg Go.Lg.Arith Go.Lg.Dig Go.RowKit
variable (X : Nat → Option Obj)
abbrev LN (b : Bool) (f : Nat → Nat) : LV := .sv (.agg (num b f))
def two (l h i : Nat) (j : Nat) : Nat := if j < i then dg l j else if 8 ≤ j ∧ j < 8 + i then dg h (j - 8) else 0
theorem two_dg {l h : Nat} (hl : l < 18446744073709551616) (hh : h < 18446744073709551616) (j : Nat) : two l h 8 j = dg (h * 18446744073709551616 + l) j := by
  have e64 : 18446744073709551616 = 256 ^ 8 := by decide
  unfold two dg
  by_cases h1 : j < 8
  · rw [if_pos h1]
    obtain ⟨k, hk⟩ : ∃ k, 8 = j + 1 + k := ⟨7 - j, by omega⟩
    have hp := pow_pos j
    rw [e64, hk, Nat.pow_add, Nat.pow_succ]
    generalize 256 ^ k = q
    generalize 256 ^ j = p at *
    rw [show h * (p * 256 * q) + l = l + p * (256 * (q * h)) by rw [Nat.mul_comm h, Nat.mul_assoc, Nat.mul_assoc, Nat.add_comm], Nat.add_mul_div_left _ _ hp]
    omega
  · rw [if_neg h1]
    obtain ⟨k, rfl⟩ : ∃ k, j = 8 + k := ⟨j - 8, by omega⟩
    have e : (h * 18446744073709551616 + l) / 256 ^ (8 + k) = h / 256 ^ k := by
      rw [Nat.pow_add, ← e64, ← Nat.div_div_eq_div_mul]
      congr 1
      omega
    rw [e]
    by_cases h2 : 8 + k < 16
    · rw [if_pos ⟨by omega, by omega⟩, show 8 + k - 8 = k by omega]
    · rw [if_neg (by omega)]
      have : h < 256 ^ k := Nat.lt_of_lt_of_le hh (by rw [e64]; exact Nat.pow_le_pow_right (by decide) (by omega))
      rw [Nat.div_eq_of_lt this]
theorem From_raw (b : Bool) (h l : Nat) (hh : h < 18446744073709551616) (hl : l < 18446744073709551616) :
    PSpec Tryz.prog X 115 [Li b (h : Nat) (l : Nat)] (LN b (two l h 8)) := by
  refine PSpec.intro Tryz.func115 rfl (by kernel_rfl) rfl (by kernel_rfl) ?_
  intro C
  (refine LWP.seq <| LWP.region (by kernel_rfl) <| K.box rfl rfl rfl .plain <| K.alloc rfl .plain ?_; refine RunK.nil <| LWP.seq <| LWP.region (by kernel_rfl) <| kfa rfl rfl ?_; refine kl1 rfl rfl rfl <| K.build rfl rfl (by exact rfl) (by exact rfl) .plain ?_; refine K.alloc rfl .plain ?_; refine K.storeAll rfl rfl rfl rfl rfl rfl .plain ?_; refine RunK.nil <| LWP.seq <| LWP.region (by kernel_rfl) <| kfa rfl rfl ?_; refine kl1 rfl rfl rfl <| kas rfl <| RunK.nil <| LWP.seq <| LWP.region (by kernel_rfl) <| kfa rfl rfl ?_; refine kl1 rfl rfl rfl <| kas rfl <| RunK.nil <| LWP.seq <| LWP.seq <| LWP.region (by kernel_rfl) <| kas rfl <| RunK.nil <| LWP.block ?_)
  refine LWP.loop (fun m σ => ∃ i : Nat, i ≤ 8 ∧ m = 8 - i ∧ σ = ⟨[(2, .sv (.one (.ptr 2 0))), (3, .sv (.one (.ptr 3 0))), (4, Ln .u64 ((h / 256 ^ i : Nat) : Int)), (5, Ln .u64 ((l / 256 ^ i : Nat) : Int)), (6, Ln .i64 (i : Nat))], [(2, some { elem := 176, cells := num false (fun _ => 0) }), (3, some { elem := 176, cells := num b (two l h i) })], X⟩) 8
    ⟨_, Le.of (by exact ⟨rfl, rfl, by rw [Nat.pow_zero, Nat.div_one]; rfl, by rw [Nat.pow_zero, Nat.div_one]; rfl, rfl, trivial⟩) (by exact ⟨rfl, rfl, trivial⟩) (by exact rfl) (by exact rfl) (by exact rfl), 0, by omega, rfl, rfl⟩ ?_
  rintro m σ ⟨i, hi, rfl, rfl⟩
  by_cases h8 : i < 8
  · have bl : l / 256 ^ i ≤ l := Nat.div_le_self _ _
    have bh : h / 256 ^ i ≤ h := Nat.div_le_self _ _
    have el : dg l i = l / 256 ^ i % 256 := rfl
    have eh : dg h i = h / 256 ^ i % 256 := rfl
    have nl := div_div l i
    have nh := div_div h i
    have step : num b (fun j => if j = 8 + i then dg h i else if j = i then dg l i else two l h i j) = num b (two l h (i + 1)) := by
      refine num_congr fun j _ => ?_
      unfold two
      by_cases c1 : j = i
      · subst c1
        rw [if_neg (by omega), if_pos rfl, if_pos (by omega)]
      · by_cases c2 : j = 8 + i
        · subst c2
          rw [if_pos rfl, if_neg (by omega), if_pos ⟨by omega, by omega⟩, show 8 + i - 8 = i by omega]
        · rw [if_neg c2, if_neg c1]
          simp only [show (j < i + 1 ↔ j < i) by omega, show (8 ≤ j ∧ j < 8 + (i + 1) ↔ 8 ≤ j ∧ j < 8 + i) by omega]
    generalize hu' : l / 256 ^ (i + 1) = u' at *
    generalize hv' : h / 256 ^ (i + 1) = v' at *
    generalize l / 256 ^ i = u at *
    generalize h / 256 ^ i = v at *
    have wl : IntKind.i64.wrap ((u : Int) % 256) = ((dg l i : Nat) : Int) := by rw [wrap_i64 (by omega)]; omega
    have wh : IntKind.i64.wrap ((v : Int) % 256) = ((dg h i : Nat) : Int) := by rw [wrap_i64 (by omega)]; omega
    have ql : IntKind.u64.wrap ((u : Int).tdiv 256) = (u' : Int) := by rw [quo_u64 (by omega) (by omega)]; omega
    have qh : IntKind.u64.wrap ((v : Int).tdiv 256) = (v' : Int) := by rw [quo_u64 (by omega) (by omega)]; omega
    (refine LWP.seq <| LWP.seq <| LWP.region (by kernel_rfl) <| kmv rfl <| klt rfl rfl (decide_eq_true (by omega)) <| RunK.nil <| LWP.condT rfl ?_; refine LWP.skip ?_; refine LWP.seq <| LWP.block <| LWP.seq <| LWP.region (by kernel_rfl) <| kmv rfl <| kmv rfl <| K.rem rfl rfl (by omega) (rem_pos (by omega)) .plain <| kcv rfl wl ?_; refine kfa rfl rfl ?_; refine K.indexArr rfl rfl (by omega) rfl .plain ?_; refine K.storeOne rfl rfl rfl rfl (num_blt (i := i) (by omega)) (num_set (i := i) (d := dg l i) (by omega)) .plain <| RunK.nil <| LWP.seq <| LWP.region (by kernel_rfl) <| kmv rfl <| kad rfl rfl (wrap_i64 (by omega)) <| kmv rfl <| K.rem rfl rfl (by omega) (rem_pos (by omega)) .plain <| kcv rfl wh ?_; refine kfa rfl rfl ?_; refine K.indexArr rfl rfl (by omega) rfl .plain ?_; refine K.storeOne rfl rfl rfl rfl (num_blt (i := 8 + i) (by omega)) (num_set (i := 8 + i) (d := dg h i) (by omega)) .plain <| RunK.nil <| LWP.seq <| LWP.region (by kernel_rfl) <| kmv rfl <| K.quo rfl rfl (by omega) ql .plain <| kas rfl <| RunK.nil <| LWP.region (by kernel_rfl) <| kmv rfl <| K.quo rfl rfl (by omega) qh .plain <| kas rfl <| RunK.nil <| LWP.region (by kernel_rfl) ?_; refine kmv rfl <| kad rfl rfl (wrap_i64 (by omega)) <| kas rfl <| RunK.nil ?_)
    exact ⟨_, _, by omega, Le.of (by exact ⟨rfl, rfl, by rw [hv']; rfl, by rw [hu']; rfl, rfl, trivial⟩) (by exact ⟨rfl, by rw [← step]; rfl, trivial⟩) (by exact rfl) (by exact rfl) (by exact rfl), i + 1, by omega, rfl, rfl⟩
  · have e : i = 8 := by omega
    subst e
    (refine LWP.seq <| LWP.seq <| LWP.region (by kernel_rfl) <| kmv rfl <| klt rfl rfl (decide_eq_false (by omega)) <| RunK.nil <| LWP.condF rfl ?_; refine LWP.exit <| LWP.seq <| LWP.region (by kernel_rfl) <| K.loadAll rfl rfl rfl .plain ?_; refine K.storeAll rfl rfl rfl rfl rfl rfl .plain ?_; refine RunK.nil <| LWP.ret ?_)
    exact ⟨[_], ⟨⟨_, _, rfl, rfl, rfl, .inl ⟨AggT.h, rfl⟩⟩, trivial⟩, rfl⟩
end Go.Proofs.YtnomcmklhbjfjaaGreatDoor
end
section
namespace Go.Proofs.YtnomcmklhbjfjaaGreatDoor
open Go Go.Lg Go.Lg.Arith Go.Lg.Dig Go.RowKit
variable (X : Nat → Option Obj)
theorem From_spec (b : Bool) (n : Nat) (hn : n < 340282366920938463463374607431768211456) : PSpec Tryz.prog X 115 [LI b (n : Nat)] (LN b (dg n)) := by
  have h := From_raw X b (n / 18446744073709551616) (n % 18446744073709551616) (by omega) (by omega)
  have e : num b (two (n % 18446744073709551616) (n / 18446744073709551616) 8) = num b (dg n) := num_congr fun j _ => by
    rw [two_dg (by omega) (by omega), show n / 18446744073709551616 * 18446744073709551616 + n % 18446744073709551616 = n by omega]
  unfold LN at h ⊢
  rw [e] at h
  exact h
abbrev T40 : Nat := 256 ^ 40
theorem cmp_facts_0 (x y : Int) : ∃ r, cmpI x y = r ∧ (x < y → r = -1) ∧ (x = y → r = 0) ∧ (y < x → r = 1) := by
  refine ⟨_, rfl, ?_, ?_, ?_⟩ <;> intro h <;> unfold cmpI
  · rw [if_pos h]
  · rw [if_neg (by omega), if_neg (by omega)]
  · rw [if_neg (by omega), if_pos h]
theorem Size_spec (a b : Bool) (M N : Nat) (hM : M < T40) (hN : N < T40) (r : Int) (hr : cmpI M N = r) :
    PSpec Tryz.prog X 114 [LN a (dg M), LN b (dg N)] (Ln .i64 r) := by
  refine PSpec.intro Tryz.func114 rfl (by kernel_rfl) rfl rfl ?_
  intro C
  (refine LWP.seq <| LWP.region (by kernel_rfl) <| K.box rfl rfl rfl .plain <| K.box rfl rfl rfl .plain <| kas rfl <| RunK.nil <| LWP.seq <| LWP.seq <| LWP.region (by kernel_rfl) <| kas rfl <| RunK.nil <| LWP.block ?_)
  refine LWP.loop (fun m σ => ∃ z : Int, m ≤ 40 ∧ z = (m : Int) - 1 ∧ M / 256 ^ m = N / 256 ^ m ∧ σ = ⟨[(2, .sv (.one (.ptr 2 0))), (3, .sv (.one (.ptr 3 0))), (5, Ln .i64 z)], [(2, some { elem := 176, cells := num a (dg M) }), (3, some { elem := 176, cells := num b (dg N) })], X⟩) 40
    ⟨_, Le.of (by exact ⟨rfl, rfl, rfl, trivial⟩) (by exact ⟨rfl, rfl, trivial⟩) (by exact rfl) (by exact rfl) (by exact rfl), 39, by omega, rfl, by rw [Nat.div_eq_of_lt hM, Nat.div_eq_of_lt hN], rfl⟩ ?_
  rintro m σ ⟨z, hm, rfl, hq, rfl⟩
  cases m with
  | zero =>
    have e : M = N := by simpa using hq
    have hr' : r = 0 := by rw [← hr, e]; unfold cmpI; rw [if_neg (by omega), if_neg (by omega)]
    (refine LWP.seq <| LWP.seq <| LWP.region (by kernel_rfl) <| kmv rfl <| K.geq rfl rfl (decide_eq_false (by omega)) .plain <| RunK.nil <| LWP.condF rfl ?_; refine LWP.exit <| LWP.seq <| LWP.region (by kernel_rfl) <| kas rfl <| RunK.nil <| LWP.ret ?_)
    exact ⟨[_], ⟨rfl, trivial⟩, by rw [hr']; rfl⟩
  | succ i =>
    rw [show (((i + 1 : Nat) : Int) - 1) = (i : Int) by omega]
    have hi : i < 40 := by omega
    rcases Nat.lt_trichotomy (dg M i) (dg N i) with h | h | h
    · have hlt := lt_digit hq h
      have hr' : r = -1 := by rw [← hr]; unfold cmpI; rw [if_pos (by omega)]
      (refine LWP.seq <| LWP.seq <| LWP.region (by kernel_rfl) <| kmv rfl <| K.geq rfl rfl (decide_eq_true (by omega)) .plain <| RunK.nil <| LWP.condT rfl ?_; refine LWP.skip ?_; refine LWP.seq <| LWP.block <| LWP.seq <| LWP.seq <| LWP.draws mixed (by kernel_rfl) <| kmv rfl <| kfa rfl rfl ?_; refine K.indexArr rfl rfl (by omega) rfl .plain ?_; refine kl1 rfl rfl (num_at (i := i) hi) <| kmv rfl <| kfa rfl rfl ?_; refine K.indexArr rfl rfl (by omega) rfl .plain ?_; refine kl1 rfl rfl (num_at (i := i) hi) <| K.gtr rfl rfl (decide_eq_false (by omega)) .plain <| RunK.nil <| And.intro (by kernel_rfl) ?_; refine LWP.condF rfl ?_; refine LWP.skip ?_; refine LWP.seq <| LWP.draws mixed (by kernel_rfl) <| kmv rfl <| kfa rfl rfl ?_; refine K.indexArr rfl rfl (by omega) rfl .plain ?_; refine kl1 rfl rfl (num_at (i := i) hi) <| kmv rfl <| kfa rfl rfl ?_; refine K.indexArr rfl rfl (by omega) rfl .plain ?_; refine kl1 rfl rfl (num_at (i := i) hi) <| klt rfl rfl (decide_eq_true (by omega)) <| RunK.nil <| And.intro (by kernel_rfl) ?_; refine LWP.condT rfl ?_; refine LWP.seq <| LWP.region (by kernel_rfl) <| kas rfl <| RunK.nil <| LWP.ret ?_)
      exact ⟨[_], ⟨rfl, trivial⟩, by rw [hr']; rfl⟩
    · have hq' : M / 256 ^ i = N / 256 ^ i := by rw [div_next M i, div_next N i, hq, h]
      (refine LWP.seq <| LWP.seq <| LWP.region (by kernel_rfl) <| kmv rfl <| K.geq rfl rfl (decide_eq_true (by omega)) .plain <| RunK.nil <| LWP.condT rfl ?_; refine LWP.skip ?_; refine LWP.seq <| LWP.block <| LWP.seq <| LWP.seq <| LWP.draws mixed (by kernel_rfl) <| kmv rfl <| kfa rfl rfl ?_; refine K.indexArr rfl rfl (by omega) rfl .plain ?_; refine kl1 rfl rfl (num_at (i := i) hi) <| kmv rfl <| kfa rfl rfl ?_; refine K.indexArr rfl rfl (by omega) rfl .plain ?_; refine kl1 rfl rfl (num_at (i := i) hi) <| K.gtr rfl rfl (decide_eq_false (by omega)) .plain <| RunK.nil <| And.intro (by kernel_rfl) ?_; refine LWP.condF rfl ?_; refine LWP.skip ?_; refine LWP.seq <| LWP.draws mixed (by kernel_rfl) <| kmv rfl <| kfa rfl rfl ?_; refine K.indexArr rfl rfl (by omega) rfl .plain ?_; refine kl1 rfl rfl (num_at (i := i) hi) <| kmv rfl <| kfa rfl rfl ?_; refine K.indexArr rfl rfl (by omega) rfl .plain ?_; refine kl1 rfl rfl (num_at (i := i) hi) <| klt rfl rfl (decide_eq_false (by omega)) <| RunK.nil <| And.intro (by kernel_rfl) ?_; refine LWP.condF rfl ?_; refine LWP.skip ?_; refine LWP.region (by kernel_rfl) <| kmv rfl <| K.sub rfl rfl (wrap_i64 (by omega)) .plain <| kas rfl <| RunK.nil ?_)
      exact ⟨i, _, by omega, Le.of (by exact ⟨rfl, rfl, rfl, trivial⟩) (by exact ⟨rfl, rfl, trivial⟩) (by exact rfl) (by exact rfl) (by exact rfl), _, by omega, rfl, hq', rfl⟩
    · have hlt := lt_digit hq.symm h
      have hr' : r = 1 := by rw [← hr]; unfold cmpI; rw [if_neg (by omega), if_pos (by omega)]
      (refine LWP.seq <| LWP.seq <| LWP.region (by kernel_rfl) <| kmv rfl <| K.geq rfl rfl (decide_eq_true (by omega)) .plain <| RunK.nil <| LWP.condT rfl ?_; refine LWP.skip ?_; refine LWP.seq <| LWP.block <| LWP.seq <| LWP.seq <| LWP.draws mixed (by kernel_rfl) <| kmv rfl <| kfa rfl rfl ?_; refine K.indexArr rfl rfl (by omega) rfl .plain ?_; refine kl1 rfl rfl (num_at (i := i) hi) <| kmv rfl <| kfa rfl rfl ?_; refine K.indexArr rfl rfl (by omega) rfl .plain ?_; refine kl1 rfl rfl (num_at (i := i) hi) <| K.gtr rfl rfl (decide_eq_true (by omega)) .plain <| RunK.nil <| And.intro (by kernel_rfl) ?_; refine LWP.condT rfl ?_; refine LWP.seq <| LWP.region (by kernel_rfl) <| kas rfl <| RunK.nil <| LWP.ret ?_)
      exact ⟨[_], ⟨rfl, trivial⟩, by rw [hr']; rfl⟩
end Go.Proofs.YtnomcmklhbjfjaaGreatDoor
end
section
namespace Go.Proofs.YtnomcmklhbjfjaaGreatDoor
open Go Go.Lg Go.Lg.Arith Go.Lg.Dig Go.RowKit
variable (X : Nat → Option Obj)
end Go.Proofs.YtnomcmklhbjfjaaGreatDoor
end
section
namespace Go.Proofs.YtnomcmklhbjfjaaGreatDoor
open Go Go.Lg Go.Lg.Arith Go.Lg.Dig Go.RowKit
variable (X : Nat → Option Obj)
theorem Good_spec (b : Bool) (N : Int) (hN : In2 N) (r : Bool) (hr : formB b N = r) : PSpec Tryz.prog X 99 [LI b N] (Lb r) := by
  obtain ⟨h0, h1⟩ := hN
  refine PSpec.intro Tryz.func99 rfl (by kernel_rfl) rfl rfl ?_
  intro C
  by_cases ha : N < 170141183460469231731687303715884105728
  · cases b with
    | false =>
      have e : r = true := by rw [← hr]; simp [formB, ha]
      (refine LWP.seq <| LWP.region (by kernel_rfl) <| K.box rfl rfl rfl .plain <| kas rfl <| RunK.nil <| LWP.seq <| LWP.region (by kernel_rfl) <| kfa rfl rfl ?_; refine kl1 rfl rfl rfl <| klt rfl rfl (decide_eq_true (by omega)) <| kmv rfl <| K.fieldAddr rfl rfl (.taken rfl rfl) ?_; refine K.loadOne rfl rfl rfl (.taken rfl rfl) ?_; refine gmv rfl rfl rfl <| RunK.passed rfl rfl rfl <| RunK.passed rfl rfl rfl <| RunK.passed rfl rfl rfl <| K.pickF rfl rfl (.taken rfl rfl) ?_; refine gmv rfl rfl rfl <| RunK.passed rfl rfl rfl <| RunK.passed rfl rfl rfl <| RunK.passed rfl rfl rfl <| K.pickF rfl rfl (.taken rfl rfl) ?_; refine K.not rfl rfl (.taken rfl rfl) ?_; refine kpt rfl rfl <| kas rfl <| RunK.nil <| LWP.ret ?_)
      exact ⟨[_], ⟨rfl, trivial⟩, by rw [e]; rfl⟩
    | true =>
      by_cases hh : N / 18446744073709551616 = 0
      · by_cases hl : N % 18446744073709551616 = 0
        · have e : r = false := by rw [← hr]; unfold formB; rw [show (N == 0) = true from beq_iff_eq.2 (by omega)]; simp
          (refine LWP.seq <| LWP.region (by kernel_rfl) <| K.box rfl rfl rfl .plain <| kas rfl <| RunK.nil <| LWP.seq <| LWP.region (by kernel_rfl) <| kfa rfl rfl ?_; refine kl1 rfl rfl rfl <| klt rfl rfl (decide_eq_true (by omega)) <| kmv rfl <| K.fieldAddr rfl rfl (.taken rfl rfl) ?_; refine K.loadOne rfl rfl rfl (.taken rfl rfl) ?_; refine gmv rfl rfl rfl <| K.fieldAddr rfl rfl (.taken rfl rfl) ?_; refine K.loadOne rfl rfl rfl (.taken rfl rfl) ?_; refine K.eql rfl rfl (beq_iff_eq.2 (by omega)) (.taken rfl rfl) ?_; refine K.pickT rfl rfl (.taken rfl rfl) ?_; refine gmv rfl rfl rfl <| K.fieldAddr rfl rfl (.taken rfl rfl) ?_; refine K.loadOne rfl rfl rfl (.taken rfl rfl) ?_; refine K.eql rfl rfl (beq_iff_eq.2 (by omega)) (.taken rfl rfl) ?_; refine K.pickT rfl rfl (.taken rfl rfl) ?_; refine K.not rfl rfl (.taken rfl rfl) ?_; refine kpt rfl rfl <| kas rfl <| RunK.nil <| LWP.ret ?_)
          exact ⟨[_], ⟨rfl, trivial⟩, by rw [e]; rfl⟩
        · have e : r = true := by rw [← hr]; unfold formB; rw [show (N == 0) = false from beq_eq_false_iff_ne.2 (by omega)]; simp [ha]
          (refine LWP.seq <| LWP.region (by kernel_rfl) <| K.box rfl rfl rfl .plain <| kas rfl <| RunK.nil <| LWP.seq <| LWP.region (by kernel_rfl) <| kfa rfl rfl ?_; refine kl1 rfl rfl rfl <| klt rfl rfl (decide_eq_true (by omega)) <| kmv rfl <| K.fieldAddr rfl rfl (.taken rfl rfl) ?_; refine K.loadOne rfl rfl rfl (.taken rfl rfl) ?_; refine gmv rfl rfl rfl <| K.fieldAddr rfl rfl (.taken rfl rfl) ?_; refine K.loadOne rfl rfl rfl (.taken rfl rfl) ?_; refine K.eql rfl rfl (beq_iff_eq.2 (by omega)) (.taken rfl rfl) ?_; refine K.pickT rfl rfl (.taken rfl rfl) ?_; refine gmv rfl rfl rfl <| K.fieldAddr rfl rfl (.taken rfl rfl) ?_; refine K.loadOne rfl rfl rfl (.taken rfl rfl) ?_; refine K.eql rfl rfl (beq_eq_false_iff_ne.2 (by omega)) (.taken rfl rfl) ?_; refine K.pickT rfl rfl (.taken rfl rfl) ?_; refine K.not rfl rfl (.taken rfl rfl) ?_; refine kpt rfl rfl <| kas rfl <| RunK.nil <| LWP.ret ?_)
          exact ⟨[_], ⟨rfl, trivial⟩, by rw [e]; rfl⟩
      · have e : r = true := by rw [← hr]; unfold formB; rw [show (N == 0) = false from beq_eq_false_iff_ne.2 (by omega)]; simp [ha]
        (refine LWP.seq <| LWP.region (by kernel_rfl) <| K.box rfl rfl rfl .plain <| kas rfl <| RunK.nil <| LWP.seq <| LWP.region (by kernel_rfl) <| kfa rfl rfl ?_; refine kl1 rfl rfl rfl <| klt rfl rfl (decide_eq_true (by omega)) <| kmv rfl <| K.fieldAddr rfl rfl (.taken rfl rfl) ?_; refine K.loadOne rfl rfl rfl (.taken rfl rfl) ?_; refine gmv rfl rfl rfl <| K.fieldAddr rfl rfl (.taken rfl rfl) ?_; refine K.loadOne rfl rfl rfl (.taken rfl rfl) ?_; refine K.eql rfl rfl (beq_eq_false_iff_ne.2 (by omega)) (.taken rfl rfl) ?_; refine K.pickT rfl rfl (.taken rfl rfl) ?_; refine gmv rfl rfl rfl <| RunK.passed rfl rfl rfl <| RunK.passed rfl rfl rfl <| RunK.passed rfl rfl rfl <| K.pickF rfl rfl (.taken rfl rfl) ?_; refine K.not rfl rfl (.taken rfl rfl) ?_; refine kpt rfl rfl <| kas rfl <| RunK.nil <| LWP.ret ?_)
        exact ⟨[_], ⟨rfl, trivial⟩, by rw [e]; rfl⟩
  · have e : r = false := by rw [← hr]; simp [formB, ha]
    (refine LWP.seq <| LWP.region (by kernel_rfl) <| K.box rfl rfl rfl .plain <| kas rfl <| RunK.nil <| LWP.seq <| LWP.region (by kernel_rfl) <| kfa rfl rfl ?_; refine kl1 rfl rfl rfl <| klt rfl rfl (decide_eq_false (by omega)) <| kmv rfl <| RunK.passed rfl rfl rfl <| RunK.passed rfl rfl rfl <| RunK.passed rfl rfl rfl <| RunK.passedU rfl rfl <| RunK.passedU rfl rfl <| RunK.passedU rfl rfl <| RunK.passed rfl rfl rfl <| RunK.passed rfl rfl rfl <| RunK.passedU rfl rfl <| RunK.passedU rfl rfl <| RunK.passedU rfl rfl ?_; refine RunK.passed rfl rfl rfl <| RunK.passed rfl rfl rfl <| kpf rfl rfl <| kas rfl <| RunK.nil <| LWP.ret ?_)
    exact ⟨[_], ⟨rfl, trivial⟩, by rw [e]; rfl⟩
theorem mg_nat (x : Int) : (((mg x).toNat : Nat) : Int) = mg x := by have := mg_nonneg x; omega
theorem From_q (x : Int) (hx : R127 x) : PSpec Tryz.prog X 115 [LQ x] (LN (decide (x < 0)) (dg (mg x).toNat)) := by
  have h := From_spec X (decide (x < 0)) (mg x).toNat (by have := mg_lim hx; have := mg_nonneg x; omega)
  rw [mg_nat] at h
  exact h
theorem lim40 {n : Nat} (h : n < 340282366920938463463374607431768211456) : n < T40 := by
  unfold T40
  rw [pow40]
  omega
theorem RCmp_spec (x y : Int) (hx : R127 x) (hy : R127 y) (r : Int) (hr : cmpI x y = r) : PSpec Tryz.prog X 101 [LQ x, LQ y] (Ln .i64 r) := by
  have f1 := From_q X x hx
  have f2 := From_q X y hy
  have n1 := mg_nonneg x
  have n2 := mg_nonneg y
  have m1 := mg_lim hx
  have m2 := mg_lim hy
  obtain ⟨s, hs, c1, c2, c3⟩ := cmp_facts_0 ((mg x).toNat : Nat) ((mg y).toNat : Nat)
  have hS := Size_spec X (decide (x < 0)) (decide (y < 0)) (mg x).toNat (mg y).toNat (lim40 (by omega)) (lim40 (by omega)) s hs
  rw [mg_nat, mg_nat] at c1 c2 c3
  refine PSpec.intro Tryz.func101 rfl (by kernel_rfl) rfl rfl ?_
  intro C
  by_cases cx : x < 0
  · by_cases cy : y < 0
    · have hb : (decide (x < 0) != decide (y < 0)) = false := by rw [decide_eq_true cx, decide_eq_true cy]; rfl
      have e : r = 0 - s := by
        rw [mg_neg cx, mg_neg cy] at c1 c2 c3
        rw [← hr]
        unfold cmpI
        rcases Int.lt_trichotomy x y with h | h | h
        · rw [if_pos h]; omega
        · rw [if_neg (by omega), if_neg (by omega)]; omega
        · rw [if_neg (by omega), if_pos h]; omega
      have sb : -1 ≤ s ∧ s ≤ 1 := by rcases Int.lt_trichotomy (mg x) (mg y) with h | h | h <;> omega
      (refine LWP.seq <| LWP.region (by kernel_rfl) <| K.box rfl rfl rfl .plain <| K.box rfl rfl rfl .plain <| kas rfl <| RunK.nil <| LWP.seq <| LWP.seq <| LWP.region (by kernel_rfl) <| kfa rfl rfl ?_; refine kl1 rfl rfl rfl <| kfa rfl rfl ?_; refine kl1 rfl rfl rfl <| K.neqB rfl rfl hb .plain <| RunK.nil <| LWP.condF rfl ?_; refine LWP.skip ?_; refine LWP.seq <| LWP.draws mixed (by kernel_rfl) <| K.loadAll rfl rfl rfl .plain ?_; refine kca rfl rfl (f1) <| K.loadAll rfl rfl rfl .plain ?_; refine kca rfl rfl (f2) <| kca rfl rfl (hS) <| kas rfl <| RunK.nil <| And.intro (by kernel_rfl) ?_; refine LWP.seq <| LWP.seq <| LWP.region (by kernel_rfl) <| kfa rfl rfl ?_; refine kl1 rfl rfl rfl <| RunK.nil <| LWP.condT (ev_bool (decide_eq_true cx)) ?_; refine LWP.seq <| LWP.region (by kernel_rfl) <| kmv rfl <| K.neg rfl (wrap_i64 (by omega)) .plain <| kas rfl <| RunK.nil <| LWP.ret ?_)
      exact ⟨[_], ⟨rfl, trivial⟩, by rw [e]; rfl⟩
    · have hb : (decide (x < 0) != decide (y < 0)) = true := by rw [decide_eq_true cx, decide_eq_false cy]; rfl
      have e : r = -1 := by rw [← hr]; unfold cmpI; rw [if_pos (by omega)]
      (refine LWP.seq <| LWP.region (by kernel_rfl) <| K.box rfl rfl rfl .plain <| K.box rfl rfl rfl .plain <| kas rfl <| RunK.nil <| LWP.seq <| LWP.seq <| LWP.region (by kernel_rfl) <| kfa rfl rfl ?_; refine kl1 rfl rfl rfl <| kfa rfl rfl ?_; refine kl1 rfl rfl rfl <| K.neqB rfl rfl hb .plain <| RunK.nil <| LWP.condT rfl ?_; refine LWP.seq <| LWP.seq <| LWP.region (by kernel_rfl) <| kfa rfl rfl ?_; refine kl1 rfl rfl rfl <| RunK.nil <| LWP.condT (ev_bool (decide_eq_true cx)) ?_; refine LWP.seq <| LWP.region (by kernel_rfl) <| kas rfl <| RunK.nil <| LWP.ret ?_)
      exact ⟨[_], ⟨rfl, trivial⟩, by rw [e]; rfl⟩
  · by_cases cy : y < 0
    · have hb : (decide (x < 0) != decide (y < 0)) = true := by rw [decide_eq_false cx, decide_eq_true cy]; rfl
      have e : r = 1 := by rw [← hr]; unfold cmpI; rw [if_neg (by omega), if_pos (by omega)]
      (refine LWP.seq <| LWP.region (by kernel_rfl) <| K.box rfl rfl rfl .plain <| K.box rfl rfl rfl .plain <| kas rfl <| RunK.nil <| LWP.seq <| LWP.seq <| LWP.region (by kernel_rfl) <| kfa rfl rfl ?_; refine kl1 rfl rfl rfl <| kfa rfl rfl ?_; refine kl1 rfl rfl rfl <| K.neqB rfl rfl hb .plain <| RunK.nil <| LWP.condT rfl ?_; refine LWP.seq <| LWP.seq <| LWP.region (by kernel_rfl) <| kfa rfl rfl ?_; refine kl1 rfl rfl rfl <| RunK.nil <| LWP.condF (ev_bool (decide_eq_false cx)) ?_; refine LWP.skip ?_; refine LWP.seq <| LWP.region (by kernel_rfl) <| kas rfl <| RunK.nil <| LWP.ret ?_)
      exact ⟨[_], ⟨rfl, trivial⟩, by rw [e]; rfl⟩
    · have hb : (decide (x < 0) != decide (y < 0)) = false := by rw [decide_eq_false cx, decide_eq_false cy]; rfl
      have e : r = s := by
        rw [mg_pos (Int.not_lt.1 cx), mg_pos (Int.not_lt.1 cy)] at c1 c2 c3
        rw [← hr]
        unfold cmpI
        rcases Int.lt_trichotomy x y with h | h | h
        · rw [if_pos h]; omega
        · rw [if_neg (by omega), if_neg (by omega)]; omega
        · rw [if_neg (by omega), if_pos h]; omega
      (refine LWP.seq <| LWP.region (by kernel_rfl) <| K.box rfl rfl rfl .plain <| K.box rfl rfl rfl .plain <| kas rfl <| RunK.nil <| LWP.seq <| LWP.seq <| LWP.region (by kernel_rfl) <| kfa rfl rfl ?_; refine kl1 rfl rfl rfl <| kfa rfl rfl ?_; refine kl1 rfl rfl rfl <| K.neqB rfl rfl hb .plain <| RunK.nil <| LWP.condF rfl ?_; refine LWP.skip ?_; refine LWP.seq <| LWP.draws mixed (by kernel_rfl) <| K.loadAll rfl rfl rfl .plain ?_; refine kca rfl rfl (f1) <| K.loadAll rfl rfl rfl .plain ?_; refine kca rfl rfl (f2) <| kca rfl rfl (hS) <| kas rfl <| RunK.nil <| And.intro (by kernel_rfl) ?_; refine LWP.seq <| LWP.seq <| LWP.region (by kernel_rfl) <| kfa rfl rfl ?_; refine kl1 rfl rfl rfl <| RunK.nil <| LWP.condF (ev_bool (decide_eq_false cx)) ?_; refine LWP.skip ?_; refine LWP.seq <| LWP.region (by kernel_rfl) <| kmv rfl <| kas rfl <| RunK.nil <| LWP.ret ?_)
      exact ⟨[_], ⟨rfl, trivial⟩, by rw [e]; rfl⟩
end Go.Proofs.YtnomcmklhbjfjaaGreatDoor
end
section
namespace Go.Lg.Fld
open Go Go.Lg
abbrev tabW : List CV := [.val (.int .i64 0), .val (.int .i64 1), .val (.int .i64 1), .val (.int .i64 2), .val (.int .i64 4), .val (.int .i64 8), .val (.int .i64 1), .val (.int .i64 2), .val (.int .i64 4), .val (.int .i64 8), .val (.int .i64 8)]
abbrev tabB : List CV := [.val (.int .u64 0), .val (.int .u64 0), .val (.int .u64 128), .val (.int .u64 32768), .val (.int .u64 2147483648), .val (.int .u64 9223372036854775808), .val (.int .u64 0), .val (.int .u64 0), .val (.int .u64 0), .val (.int .u64 0), .val (.int .u64 0)]
abbrev tabA : List CV := [.val (.int .u64 0), .val (.int .u64 1), .val (.int .u64 127), .val (.int .u64 32767), .val (.int .u64 2147483647), .val (.int .u64 9223372036854775807), .val (.int .u64 255), .val (.int .u64 65535), .val (.int .u64 4294967295), .val (.int .u64 18446744073709551615), .val (.int .u64 18446744073709551615)]
theorem tabW_at {k : Int} (h : kK k = true) : tabW[0 + k.toNat * 1]? = some (.val (.int .i64 (kW k : Nat))) := by
  rcases kin h with rfl | rfl | rfl | rfl | rfl | rfl | rfl | rfl | rfl | rfl <;> rfl
theorem tabB_at {k : Int} (h : kK k = true) : tabB[0 + k.toNat * 1]? = some (.val (.int .u64 (kB k))) := by
  rcases kin h with rfl | rfl | rfl | rfl | rfl | rfl | rfl | rfl | rfl | rfl <;> rfl
theorem tabA_at {k : Int} (h : kK k = true) : tabA[0 + k.toNat * 1]? = some (.val (.int .u64 (kA k))) := by
  rcases kin h with rfl | rfl | rfl | rfl | rfl | rfl | rfl | rfl | rfl | rfl <;> rfl
end Go.Lg.Fld
namespace Go.Proofs.YtnomcmklhbjfjaaGreatDoor
open Go Go.Lg Go.Lg.Fld
set_option maxRecDepth 100000
variable (X : Nat → Option Obj)
instance : ArrB Tryz.prog 130 (List.replicate 11 (.int .i64 0)) 1 := ⟨by kernel_rfl⟩
instance : ArrB Tryz.prog 172 (List.replicate 11 (.int .u64 0)) 1 := ⟨by kernel_rfl⟩
theorem refBytes_spec (k : Int) : PSpec Tryz.prog X 53 [Ln .i64 k] (Ln .i64 (kW k : Nat)) := by
  refine PSpec.intro Tryz.func53 rfl (by kernel_rfl) rfl rfl ?_
  intro C
  cases hk : kK k with
  | false =>
    rcases knot hk with h | h
    · rw [kW_no (.inl h)]
      (refine LWP.seq <| LWP.region (by kernel_rfl) <| kas rfl <| RunK.nil <| LWP.seq <| LWP.seq <| LWP.region (by kernel_rfl) <| kmv rfl <| klt rfl rfl (decide_eq_true (by omega)) <| kmv rfl <| RunK.passed rfl rfl rfl <| RunK.passed rfl rfl rfl <| kpt rfl rfl <| RunK.nil ?_; refine LWP.condT rfl ?_; refine LWP.seq <| LWP.region (by kernel_rfl) <| kas rfl <| RunK.nil <| LWP.ret ?_)
      exact ⟨[_], ⟨rfl, trivial⟩, rfl⟩
    · rw [kW_no (.inr h)]
      (refine LWP.seq <| LWP.region (by kernel_rfl) <| kas rfl <| RunK.nil <| LWP.seq <| LWP.seq <| LWP.region (by kernel_rfl) <| kmv rfl <| klt rfl rfl (decide_eq_false (by omega)) <| kmv rfl <| gmv rfl rfl rfl <| K.gtr rfl rfl (decide_eq_true (by omega)) (.taken rfl rfl) ?_; refine kpf rfl rfl <| RunK.nil <| LWP.condT rfl ?_; refine LWP.seq <| LWP.region (by kernel_rfl) <| kas rfl <| RunK.nil <| LWP.ret ?_)
      exact ⟨[_], ⟨rfl, trivial⟩, rfl⟩
  | true =>
    have hb := (kK_iff k).1 hk
    (refine LWP.seq <| LWP.region (by kernel_rfl) <| kas rfl <| RunK.nil <| LWP.seq <| LWP.seq <| LWP.region (by kernel_rfl) <| kmv rfl <| klt rfl rfl (decide_eq_false (by omega)) <| kmv rfl <| gmv rfl rfl rfl <| K.gtr rfl rfl (decide_eq_false (by omega)) (.taken rfl rfl) ?_; refine kpf rfl rfl <| RunK.nil <| LWP.condF rfl ?_; refine LWP.skip ?_; refine LWP.seq <| LWP.region (by kernel_rfl) <| K.buildArr (cs' := tabW) rfl rfl (by exact rfl) rfl .plain ?_; refine K.alloc rfl .plain ?_; refine K.storeAll rfl rfl rfl rfl rfl rfl .plain ?_; refine RunK.nil <| LWP.seq <| LWP.region (by kernel_rfl) <| kmv rfl <| K.indexArr rfl rfl (by omega) rfl .plain ?_; refine kl1 rfl rfl (tabW_at hk) <| kas rfl <| RunK.nil <| LWP.ret ?_)
    exact ⟨[_], ⟨rfl, trivial⟩, rfl⟩
theorem SQ_pos {p : Int} (h : 0 ≤ p ∧ p < 18446744073709551616) : SQ p = .agg [.val (.bool false), .val (.int .u64 0), .val (.int .u64 p)] := by
  unfold SQ SI
  rw [mg_pos h.1, decide_eq_false (by omega), show p / 18446744073709551616 = 0 by omega, show p % 18446744073709551616 = p by omega]
theorem SQ_neg {p : Int} (h : 0 < p ∧ p < 18446744073709551616) : SQ (-p) = .agg [.val (.bool true), .val (.int .u64 0), .val (.int .u64 p)] := by
  unfold SQ SI
  rw [mg_neg (by omega), decide_eq_true (by omega), Int.neg_neg, show p / 18446744073709551616 = 0 by omega, show p % 18446744073709551616 = p by omega]
theorem SQ_low (k : Int) : SQ (-kB k) = .agg [.val (.bool (decide (0 < kB k))), .val (.int .u64 0), .val (.int .u64 (kB k))] := by
  have hb := kfacts k
  by_cases h : 0 < kB k
  · rw [SQ_neg ⟨h, by omega⟩, decide_eq_true h]
  · rw [decide_eq_false h, show -kB k = kB k by omega, SQ_pos ⟨by omega, by omega⟩]
theorem Bounds_spec (k : Int) : PSpec Tryz.prog X 100 [Ln .i64 k] (.tup [SQ (-kB k), SQ (kA k)]) := by
  have hf := kfacts k
  rw [SQ_low k, SQ_pos ⟨hf.2.2.1, hf.2.2.2.1⟩]
  refine PSpec.intro Tryz.func100 rfl (by kernel_rfl) rfl rfl ?_
  intro C
  cases hk : kK k with
  | false =>
    rw [kB_no (knot hk), kA_no (knot hk)]
    rcases knot hk with h | h
    · (refine LWP.seq <| LWP.region (by kernel_rfl) <| K.alloc rfl .plain ?_; refine K.alloc rfl .plain ?_; refine RunK.nil <| LWP.seq <| LWP.seq <| LWP.region (by kernel_rfl) <| kmv rfl <| klt rfl rfl (decide_eq_true (by omega)) <| kmv rfl <| RunK.passed rfl rfl rfl <| RunK.passed rfl rfl rfl <| kpt rfl rfl <| RunK.nil <| LWP.condT rfl ?_; refine LWP.seq <| LWP.region (by kernel_rfl) <| K.build rfl rfl (by exact rfl) (by exact nl3 rfl rfl rfl rfl) .plain ?_; refine K.build rfl rfl (by exact rfl) (by exact nl3 rfl rfl rfl rfl) .plain ?_; refine K.storeAll rfl rfl rfl rfl rfl rfl .plain ?_; refine K.storeAll rfl rfl rfl rfl rfl rfl .plain ?_; refine RunK.nil <| LWP.ret ?_)
      exact ⟨[_, _], ⟨⟨_, _, rfl, rfl, rfl, .inl ⟨AggT.h, rfl⟩⟩, ⟨_, _, rfl, rfl, rfl, .inl ⟨AggT.h, rfl⟩⟩, trivial⟩, rfl⟩
    · (refine LWP.seq <| LWP.region (by kernel_rfl) <| K.alloc rfl .plain ?_; refine K.alloc rfl .plain ?_; refine RunK.nil <| LWP.seq <| LWP.seq <| LWP.region (by kernel_rfl) <| kmv rfl <| klt rfl rfl (decide_eq_false (by omega)) <| kmv rfl <| gmv rfl rfl rfl <| K.gtr rfl rfl (decide_eq_true (by omega)) (.taken rfl rfl) ?_; refine kpf rfl rfl <| RunK.nil <| LWP.condT rfl ?_; refine LWP.seq <| LWP.region (by kernel_rfl) <| K.build rfl rfl (by exact rfl) (by exact nl3 rfl rfl rfl rfl) .plain ?_; refine K.build rfl rfl (by exact rfl) (by exact nl3 rfl rfl rfl rfl) .plain ?_; refine K.storeAll rfl rfl rfl rfl rfl rfl .plain ?_; refine K.storeAll rfl rfl rfl rfl rfl rfl .plain ?_; refine RunK.nil <| LWP.ret ?_)
      exact ⟨[_, _], ⟨⟨_, _, rfl, rfl, rfl, .inl ⟨AggT.h, rfl⟩⟩, ⟨_, _, rfl, rfl, rfl, .inl ⟨AggT.h, rfl⟩⟩, trivial⟩, rfl⟩
  | true =>
    have hb := (kK_iff k).1 hk
    (refine LWP.seq <| LWP.region (by kernel_rfl) <| K.alloc rfl .plain ?_; refine K.alloc rfl .plain ?_; refine RunK.nil <| LWP.seq <| LWP.seq <| LWP.region (by kernel_rfl) <| kmv rfl <| klt rfl rfl (decide_eq_false (by omega)) <| kmv rfl <| gmv rfl rfl rfl <| K.gtr rfl rfl (decide_eq_false (by omega)) (.taken rfl rfl) ?_; refine kpf rfl rfl <| RunK.nil <| LWP.condF rfl ?_; refine LWP.skip ?_; refine LWP.seq <| LWP.region (by kernel_rfl) <| K.buildArr (cs' := tabB) rfl rfl (by exact rfl) rfl .plain ?_; refine K.alloc rfl .plain ?_; refine K.storeAll rfl rfl rfl rfl rfl rfl .plain ?_; refine RunK.nil <| LWP.seq <| LWP.region (by kernel_rfl) <| K.buildArr (cs' := tabA) rfl rfl (by exact rfl) rfl .plain ?_; refine K.alloc rfl .plain ?_; refine K.storeAll rfl rfl rfl rfl rfl rfl .plain ?_; refine RunK.nil <| LWP.seq <| LWP.draws mixed (by kernel_rfl) <| kmv rfl <| K.indexArr rfl rfl (by omega) rfl .plain ?_; refine kl1 rfl rfl (tabB_at hk) <| K.gtr rfl rfl rfl .plain <| kmv rfl <| K.indexArr rfl rfl (by omega) rfl .plain ?_; refine kl1 rfl rfl (tabB_at hk) <| K.build rfl rfl (by exact rfl) (by exact nl3 rfl rfl rfl rfl) .plain ?_; refine kmv rfl <| K.indexArr rfl rfl (by omega) rfl .plain ?_; refine kl1 rfl rfl (tabA_at hk) <| K.build rfl rfl (by exact rfl) (by exact nl3 rfl rfl rfl rfl) .plain ?_; refine K.storeAll rfl rfl rfl rfl rfl rfl .plain ?_; refine K.storeAll rfl rfl rfl rfl rfl rfl .plain ?_; refine RunK.nil <| And.intro (by kernel_rfl) ?_; refine LWP.ret ?_)
    exact ⟨[_, _], ⟨⟨_, _, rfl, rfl, rfl, .inl ⟨AggT.h, rfl⟩⟩, ⟨_, _, rfl, rfl, rfl, .inl ⟨AggT.h, rfl⟩⟩, trivial⟩, rfl⟩
theorem cmp_le (x y : Int) (h : x ≤ y) : ∃ r, cmpI x y = r ∧ r ≤ 0 := ⟨_, rfl, by unfold cmpI; rw [if_neg (Int.not_lt.2 h)]; split <;> decide⟩
theorem cmp_ge (x y : Int) (h : y ≤ x) : ∃ r, cmpI x y = r ∧ 0 ≤ r := ⟨_, rfl, by unfold cmpI; rw [if_neg (Int.not_lt.2 h)]; split <;> decide⟩
theorem cmp_lt (x y : Int) (h : x < y) : cmpI x y = -1 := by unfold cmpI; rw [if_pos h]
theorem cmp_gt (x y : Int) (h : y < x) : cmpI x y = 1 := by unfold cmpI; rw [if_neg (Int.not_lt.2 (Int.le_of_lt h)), if_pos h]
theorem refFits_spec (k : Int) (b : Bool) (N : Int) (hN : In2 N) (r : Bool) (hr : fitB k b N = r) : PSpec Tryz.prog X 92 [Ln .i64 k, LI b N] (Lb r) := by
  subst hr
  have hB := refBytes_spec X k
  have hBd := Bounds_spec X k
  have hG := Good_spec X b N hN _ rfl
  unfold fitB
  refine PSpec.intro Tryz.func92 rfl (by kernel_rfl) rfl rfl ?_
  intro C
  cases hk : kK k with
  | false =>
    rw [kW_no (knot hk)] at hB
    (refine LWP.seq <| LWP.region (by kernel_rfl) <| K.box rfl rfl rfl .plain <| kas rfl <| RunK.nil <| LWP.seq <| LWP.seq <| LWP.region (by kernel_rfl) <| kmv rfl <| kca rfl rfl (hB) <| keq rfl rfl (beq_iff_eq.2 (by omega)) <| kmv rfl <| RunK.passed rfl rfl rfl <| RunK.passed rfl rfl rfl ?_; refine RunK.passed rfl rfl rfl <| kpt rfl rfl <| RunK.nil <| LWP.condT rfl ?_; refine LWP.seq <| LWP.region (by kernel_rfl) <| kas rfl <| RunK.nil <| LWP.ret ?_)
    exact ⟨[_], ⟨rfl, trivial⟩, rfl⟩
  | true =>
    have hk0 : kW k ≠ 0 := fun e => by rw [kW_zero] at e; rw [hk] at e; cases e
    cases hf : formB b N with
    | false =>
      rw [hf] at hG
      (refine LWP.seq <| LWP.region (by kernel_rfl) <| K.box rfl rfl rfl .plain <| kas rfl <| RunK.nil <| LWP.seq <| LWP.seq <| LWP.region (by kernel_rfl) <| kmv rfl <| kca rfl rfl (hB) <| keq rfl rfl (beq_eq_false_iff_ne.2 (by omega)) <| kmv rfl <| K.loadAll rfl rfl rfl (.taken rfl rfl) ?_; refine gca rfl rfl (hG) rfl rfl <| K.not rfl rfl (.taken rfl rfl) ?_; refine kpf rfl rfl <| RunK.nil <| LWP.condT rfl ?_; refine LWP.seq <| LWP.region (by kernel_rfl) <| kas rfl <| RunK.nil <| LWP.ret ?_)
      exact ⟨[_], ⟨rfl, trivial⟩, rfl⟩
    | true =>
      rw [hf] at hG
      have hR := (zv_in hN hf).1
      rw [LI_q hN hf] at hG ⊢
      generalize zv b N = x at *
      have c1 := RCmp_spec X x (-kB k) hR (kBn_R k)
      have c2 := RCmp_spec X x (kA k) hR (kA_R k)
      by_cases h1 : -kB k ≤ x
      · obtain ⟨r, hr, hr0⟩ := cmp_ge x (-kB k) h1
        have c1' := c1 r hr
        by_cases h2 : x ≤ kA k
        · obtain ⟨s, hs, hs0⟩ := cmp_le x (kA k) h2
          have c2' := c2 s hs
          rw [(fitZ_iff k x).2 ⟨h1, h2⟩]
          (refine LWP.seq <| LWP.region (by kernel_rfl) <| K.box rfl rfl rfl .plain <| kas rfl <| RunK.nil <| LWP.seq <| LWP.seq <| LWP.region (by kernel_rfl) <| kmv rfl <| kca rfl rfl (hB) <| keq rfl rfl (beq_eq_false_iff_ne.2 (by omega)) <| kmv rfl <| K.loadAll rfl rfl rfl (.taken rfl rfl) ?_; refine gca rfl rfl (hG) rfl rfl <| K.not rfl rfl (.taken rfl rfl) ?_; refine kpf rfl rfl <| RunK.nil <| LWP.condF rfl ?_; refine LWP.skip ?_; refine LWP.seq <| LWP.region (by kernel_rfl) <| kmv rfl <| kca rfl rfl (hBd) <| kmv rfl <| kex rfl rfl <| kex rfl rfl <| K.alloc rfl .plain ?_; refine K.alloc rfl .plain ?_; refine K.storeAll rfl rfl rfl rfl rfl rfl .plain ?_; refine K.storeAll rfl rfl rfl rfl rfl rfl .plain ?_; refine RunK.nil <| LWP.seq <| LWP.region (by kernel_rfl) <| K.loadAll rfl rfl rfl .plain ?_; refine K.loadAll rfl rfl rfl .plain ?_; refine kca rfl rfl c1' <| K.geq rfl rfl (decide_eq_true (by omega)) .plain <| kmv rfl <| K.loadAll rfl rfl rfl (.taken rfl rfl) ?_; refine K.loadAll rfl rfl rfl (.taken rfl rfl) ?_; refine gca rfl rfl c2' rfl rfl <| K.leq rfl rfl (decide_eq_true (by omega)) (.taken rfl rfl) ?_; refine kpt rfl rfl <| kas rfl <| RunK.nil <| LWP.ret ?_)
          exact ⟨[_], ⟨rfl, trivial⟩, rfl⟩
        · have c2' := c2 1 (cmp_gt x (kA k) (by omega))
          rw [show fitZ k x = false by rw [fitZ, decide_eq_false h2, Bool.and_false]]
          (refine LWP.seq <| LWP.region (by kernel_rfl) <| K.box rfl rfl rfl .plain <| kas rfl <| RunK.nil <| LWP.seq <| LWP.seq <| LWP.region (by kernel_rfl) <| kmv rfl <| kca rfl rfl (hB) <| keq rfl rfl (beq_eq_false_iff_ne.2 (by omega)) <| kmv rfl <| K.loadAll rfl rfl rfl (.taken rfl rfl) ?_; refine gca rfl rfl (hG) rfl rfl <| K.not rfl rfl (.taken rfl rfl) ?_; refine kpf rfl rfl <| RunK.nil <| LWP.condF rfl ?_; refine LWP.skip ?_; refine LWP.seq <| LWP.region (by kernel_rfl) <| kmv rfl <| kca rfl rfl (hBd) <| kmv rfl <| kex rfl rfl <| kex rfl rfl <| K.alloc rfl .plain ?_; refine K.alloc rfl .plain ?_; refine K.storeAll rfl rfl rfl rfl rfl rfl .plain ?_; refine K.storeAll rfl rfl rfl rfl rfl rfl .plain ?_; refine RunK.nil <| LWP.seq <| LWP.region (by kernel_rfl) <| K.loadAll rfl rfl rfl .plain ?_; refine K.loadAll rfl rfl rfl .plain ?_; refine kca rfl rfl c1' <| K.geq rfl rfl (decide_eq_true (by omega)) .plain <| kmv rfl <| K.loadAll rfl rfl rfl (.taken rfl rfl) ?_; refine K.loadAll rfl rfl rfl (.taken rfl rfl) ?_; refine gca rfl rfl c2' rfl rfl <| K.leq rfl rfl (decide_eq_false (by omega)) (.taken rfl rfl) ?_; refine kpt rfl rfl <| kas rfl <| RunK.nil <| LWP.ret ?_)
          exact ⟨[_], ⟨rfl, trivial⟩, rfl⟩
      · have c1' := c1 (-1) (cmp_lt x (-kB k) (by omega))
        rw [show fitZ k x = false by rw [fitZ, decide_eq_false h1, Bool.false_and]]
        (refine LWP.seq <| LWP.region (by kernel_rfl) <| K.box rfl rfl rfl .plain <| kas rfl <| RunK.nil <| LWP.seq <| LWP.seq <| LWP.region (by kernel_rfl) <| kmv rfl <| kca rfl rfl (hB) <| keq rfl rfl (beq_eq_false_iff_ne.2 (by omega)) <| kmv rfl <| K.loadAll rfl rfl rfl (.taken rfl rfl) ?_; refine gca rfl rfl (hG) rfl rfl <| K.not rfl rfl (.taken rfl rfl) ?_; refine kpf rfl rfl <| RunK.nil <| LWP.condF rfl ?_; refine LWP.skip ?_; refine LWP.seq <| LWP.region (by kernel_rfl) <| kmv rfl <| kca rfl rfl (hBd) <| kmv rfl <| kex rfl rfl <| kex rfl rfl <| K.alloc rfl .plain ?_; refine K.alloc rfl .plain ?_; refine K.storeAll rfl rfl rfl rfl rfl rfl .plain ?_; refine K.storeAll rfl rfl rfl rfl rfl rfl .plain ?_; refine RunK.nil <| LWP.seq <| LWP.region (by kernel_rfl) <| K.loadAll rfl rfl rfl .plain ?_; refine K.loadAll rfl rfl rfl .plain ?_; refine kca rfl rfl c1' <| K.geq rfl rfl (decide_eq_false (by omega)) .plain <| kmv rfl <| RunK.passed rfl rfl rfl <| RunK.passed rfl rfl rfl <| RunK.passed rfl rfl rfl <| RunK.passed rfl rfl rfl <| kpf rfl rfl <| kas rfl <| RunK.nil <| LWP.ret ?_)
        exact ⟨[_], ⟨rfl, trivial⟩, rfl⟩
end Go.Proofs.YtnomcmklhbjfjaaGreatDoor
end
section
namespace Go.Lg.Fld
open Go Go.Lg
theorem leB_mod : ∀ (w n m : Nat), n % 256 ^ w = m % 256 ^ w → leB w n = leB w m
  | 0, _, _, _ => rfl
  | w + 1, n, m, h => by
    rw [Nat.pow_succ, Nat.mul_comm] at h
    have h1 : n % 256 = m % 256 := by
      rw [← Nat.mod_mul_right_mod n 256 (256 ^ w), h, Nat.mod_mul_right_mod]
    have h2 : n / 256 % 256 ^ w = m / 256 % 256 ^ w := by
      rw [← Nat.mod_mul_right_div_self, h, Nat.mod_mul_right_div_self]
    show UInt8.ofNat (n % 256) :: leB w (n / 256) = UInt8.ofNat (m % 256) :: leB w (m / 256)
    rw [h1, leB_mod w _ _ h2]
def w64 (x : Int) : Nat := (x % 18446744073709551616).toNat
theorem leB_w64 {k x : Int} (h : kK k = true) (hx : fitZ k x = true) : leB (kW k) (w64 x) = leB (kW k) (wdK k x) := by
  refine leB_mod _ _ _ ?_
  have h1 := kM_facts h
  have hf := kfacts k
  have hx2 := (fitZ_iff k x).1 hx
  have e : (w64 x : Int) % (kM k : Int) = (wdK k x : Int) % (kM k : Int) := by
    unfold w64 wdK
    rw [Int.toNat_of_nonneg (Int.emod_nonneg x (by decide)), Int.toNat_of_nonneg (Int.emod_nonneg x (by omega)), Int.emod_emod]
    refine Int.emod_emod_of_dvd x ?_
    unfold kM
    rcases kW_in h with e | e | e | e <;> rw [e] <;> decide
  have e2 : w64 x % kM k = wdK k x % kM k := by omega
  exact e2
end Go.Lg.Fld
namespace Go.Proofs.YtnomcmklhbjfjaaGreatDoor
open Go Go.Lg Go.Lg.Fld
set_option maxRecDepth 100000
variable (X : Nat → Option Obj)
set_option maxHeartbeats 1600000 in
theorem refPut_spec (k x : Int) (hk : kK k = true) (hx : fitZ k x = true) : PSpec Tryz.prog X 65 [Ln .i64 k, LQ x] (Ls (leB (kW k) (wdK k x))) := by
  have hB := refBytes_spec X k
  have hf := kfacts k
  have hx2 := (fitZ_iff k x).1 hx
  rw [← leB_w64 hk hx]
  have hn : w64 x < 18446744073709551616 := by unfold w64; omega
  refine PSpec.intro Tryz.func65 rfl (by kernel_rfl) rfl rfl ?_
  intro C
  have hcut : ∀ n : Nat, n = w64 x → (x < 0 → (n : Int) = x + 18446744073709551616) ∧ (0 ≤ x → (n : Int) = x) := fun n e => by
    subst e; unfold w64; exact ⟨fun h => by omega, fun h => by omega⟩
  obtain ⟨g1, g2⟩ := hcut _ rfl
  generalize w64 x = n at *
  obtain ⟨w, hw, hw8⟩ : ∃ w, kW k = w ∧ w ≤ 8 := ⟨_, rfl, hf.2.2.2.2⟩
  rw [hw] at hB ⊢
  by_cases c : x < 0
  · have hm : mg x % 18446744073709551616 = -x := by rw [mg_neg c]; omega
    have hs : IntKind.u64.wrap (0 - (-x)) = (n : Int) := by rw [IntKind.wrap_u64]; have := g1 c; omega
    unfold LQ LI
    rw [hm, decide_eq_true c]
    (refine LWP.seq <| LWP.region (by kernel_rfl) <| K.box rfl rfl rfl .plain <| kas rfl <| RunK.nil <| LWP.seq <| LWP.region (by kernel_rfl) <| kfa rfl rfl ?_; refine kl1 rfl rfl rfl <| kas rfl <| RunK.nil <| LWP.seq <| LWP.seq ?_)
    refine LWP.cut (fun σ => σ = ⟨[(0, Ln .i64 k), (5, Ln .u64 (n : Nat))], [], X⟩) ?_ ?_
    · (refine LWP.region (by kernel_rfl) <| kfa rfl rfl ?_; refine kl1 rfl rfl rfl <| RunK.nil <| LWP.condT rfl ?_; refine LWP.region (by kernel_rfl) <| kfa rfl rfl ?_; refine kl1 rfl rfl rfl <| K.sub rfl rfl hs .plain <| kas rfl <| RunK.nil ?_)
      exact ⟨_, Le.of (by exact ⟨rfl, rfl, trivial⟩) (by exact trivial) (by exact rfl) (by exact rfl) (by exact rfl), rfl⟩
    rintro σ rfl
    (refine LWP.seq <| LWP.region (by kernel_rfl) <| K.buildSlc (zs := []) (sz := 1) (e := 5) (by kernel_rfl) rfl rfl rfl rfl rfl rfl .plain <| kas rfl <| RunK.nil <| LWP.seq <| LWP.seq <| LWP.region (by kernel_rfl) <| kas rfl <| RunK.nil <| LWP.block ?_)
    refine LWP.loop (fun m σ => ∃ (i : Nat) (row : Bool), i ≤ w ∧ m = w - i ∧ σ = ⟨[(0, Ln .i64 k), (5, Ln .u64 (n / 256 ^ i : Nat)), (6, .sv (.one (.slc 500 0 i))), (7, Ln .i64 (i : Nat))], [(500, some ⟨5, ((leB w n).take i).map bc, row⟩)], X⟩) w
      ⟨_, Le.ofR [(500, 15)] (by exact ⟨rfl, by rw [Nat.pow_zero, Nat.div_one]; rfl, rfl, rfl, trivial⟩) (by repeat' (first | exact trivial | refine And.intro ⟨_, rfl, ?_⟩ ?_ | refine And.intro ⟨_, rfl⟩ ?_ | rfl | exact Box.ren_bytes _ _ _ _ | exact Box.ren_vals _ _ _ _ | exact Box.ren_mid rfl)) (by exact rfl) (by exact rfl) (by repeat' (first | refine all_cons_true ?_ ?_ | rfl | exact bytes_inUse | exact vals_inUse | exact mid_inUse rfl)) (by exact rfl) (by exact rfl), 0, false, Nat.zero_le _, rfl, rfl⟩ ?_
    rintro m σ ⟨i, row, hi, rfl, rfl⟩
    by_cases hlt : i < w
    · have hle : n / 256 ^ i ≤ n := Nat.div_le_self _ _
      have hd : n / 256 ^ i / 256 = n / 256 ^ (i + 1) := by rw [Nat.pow_succ, Nat.div_div_eq_div_mul]
      have hnc := take_next (n := n) hlt
      have hcl : (((leB w n).take i).map bc).length = i * 1 := by rw [List.length_map, List.length_take, leB_length]; omega
      have hv : IntKind.u8.wrap (((n / 256 ^ i : Nat) : Int) % 256) = ((UInt8.ofNat (n / 256 ^ i % 256)).toNat : Nat) := by
        rw [UInt8.toNat_ofNat', Nat.mod_eq_of_lt (Nat.mod_lt _ (by decide)), IntKind.wrap_u8]
        omega
      have hq : IntKind.u64.wrap (((n / 256 ^ i : Nat) : Int).tdiv 256) = ((n / 256 ^ (i + 1) : Nat) : Int) := by
        rw [← hd]
        clear hv hnc hd
        generalize n / 256 ^ i = q at *
        rw [quo_u64 (by omega) (by omega)]; omega
      (refine LWP.seq <| LWP.seq <| LWP.region (by kernel_rfl) <| kmv rfl <| kmv rfl <| kca rfl rfl (hB) <| klt rfl rfl (decide_eq_true (by omega)) <| RunK.nil <| LWP.condT rfl ?_; refine LWP.skip ?_; refine LWP.seq <| LWP.block <| LWP.seq <| LWP.region (by kernel_rfl) <| kmv rfl <| kmv rfl <| K.rem rfl rfl (by omega) rfl .plain <| kcv rfl hv ?_; refine K.buildSlc (zs := [.int .u8 0]) (sz := 1) (e := 5) (by kernel_rfl) rfl rfl rfl rfl rfl rfl .plain <| K.appendSlc (by_ := 1) (e2 := 5) (l2 := [bc (UInt8.ofNat (n / 256 ^ i % 256))]) rfl rfl hcl rfl rfl (Nat.le_refl _) rfl rfl (by kernel_rfl) (by kernel_rfl) (by omega) (by omega) rfl rfl hnc .plain <| kas rfl <| RunK.nil <| LWP.region (by kernel_rfl) <| kmv rfl <| K.quo rfl rfl (by omega) hq .plain <| kas rfl <| RunK.nil <| LWP.region (by kernel_rfl) <| kmv rfl <| kad rfl rfl (wrap_i64 (by omega)) <| kas rfl <| RunK.nil ?_)
      exact ⟨_, _, by omega, Le.ofR [(500, 27)] (by exact ⟨rfl, rfl, rfl, rfl, trivial⟩) (by repeat' (first | exact trivial | refine And.intro ⟨_, rfl, ?_⟩ ?_ | refine And.intro ⟨_, rfl⟩ ?_ | rfl | exact Box.ren_bytes _ _ _ _ | exact Box.ren_vals _ _ _ _ | exact Box.ren_mid rfl)) (by exact rfl) (by exact rfl) (by repeat' (first | refine all_cons_true ?_ ?_ | rfl | exact bytes_inUse | exact vals_inUse | exact mid_inUse rfl)) (by exact rfl) (by exact rfl), i + 1, true, by omega, rfl, rfl⟩
    · have e : i = w := by omega
      subst e
      have hta : (leB i n).take i = leB i n := List.take_of_length_le (by rw [leB_length]; exact Nat.le_refl _)
      rw [hta]
      have hlen : 0 + i ≤ ((leB i n).map bc).length := by rw [List.length_map, leB_length]; omega
      have hend : (((leB i n).map bc).drop 0).take i = (leB i n).map bc := by rw [List.drop_zero, List.take_of_length_le (by rw [List.length_map, leB_length]; exact Nat.le_refl _)]
      (refine LWP.seq <| LWP.seq <| LWP.region (by kernel_rfl) <| kmv rfl <| kmv rfl <| kca rfl rfl (hB) <| klt rfl rfl (decide_eq_false (by omega)) <| RunK.nil <| LWP.condF rfl ?_; refine LWP.exit <| LWP.seq <| LWP.region (by kernel_rfl) <| kmv rfl <| K.convStr rfl rfl (by kernel_rfl) StrT.u hlen hend .plain <| kas rfl <| RunK.nil <| LWP.ret ?_)
      exact ⟨[_], ⟨rfl, trivial⟩, rfl⟩
  · have hm : mg x % 18446744073709551616 = (n : Int) := by rw [mg_pos (by omega)]; have := g2 (by omega); omega
    unfold LQ LI
    rw [hm, decide_eq_false c]
    (refine LWP.seq <| LWP.region (by kernel_rfl) <| K.box rfl rfl rfl .plain <| kas rfl <| RunK.nil <| LWP.seq <| LWP.region (by kernel_rfl) <| kfa rfl rfl ?_; refine kl1 rfl rfl rfl <| kas rfl <| RunK.nil <| LWP.seq <| LWP.seq ?_)
    refine LWP.cut (fun σ => σ = ⟨[(0, Ln .i64 k), (5, Ln .u64 (n : Nat))], [], X⟩) ?_ ?_
    · (refine LWP.region (by kernel_rfl) <| kfa rfl rfl ?_; refine kl1 rfl rfl rfl <| RunK.nil <| LWP.condF rfl ?_; refine LWP.skip ?_)
      exact ⟨_, Le.of (by exact ⟨rfl, rfl, trivial⟩) (by exact trivial) (by exact rfl) (by exact rfl) (by exact rfl), rfl⟩
    rintro σ rfl
    (refine LWP.seq <| LWP.region (by kernel_rfl) <| K.buildSlc (zs := []) (sz := 1) (e := 5) (by kernel_rfl) rfl rfl rfl rfl rfl rfl .plain <| kas rfl <| RunK.nil <| LWP.seq <| LWP.seq <| LWP.region (by kernel_rfl) <| kas rfl <| RunK.nil <| LWP.block ?_)
    refine LWP.loop (fun m σ => ∃ (i : Nat) (row : Bool), i ≤ w ∧ m = w - i ∧ σ = ⟨[(0, Ln .i64 k), (5, Ln .u64 (n / 256 ^ i : Nat)), (6, .sv (.one (.slc 500 0 i))), (7, Ln .i64 (i : Nat))], [(500, some ⟨5, ((leB w n).take i).map bc, row⟩)], X⟩) w
      ⟨_, Le.ofR [(500, 15)] (by exact ⟨rfl, by rw [Nat.pow_zero, Nat.div_one]; rfl, rfl, rfl, trivial⟩) (by repeat' (first | exact trivial | refine And.intro ⟨_, rfl, ?_⟩ ?_ | refine And.intro ⟨_, rfl⟩ ?_ | rfl | exact Box.ren_bytes _ _ _ _ | exact Box.ren_vals _ _ _ _ | exact Box.ren_mid rfl)) (by exact rfl) (by exact rfl) (by repeat' (first | refine all_cons_true ?_ ?_ | rfl | exact bytes_inUse | exact vals_inUse | exact mid_inUse rfl)) (by exact rfl) (by exact rfl), 0, false, Nat.zero_le _, rfl, rfl⟩ ?_
    rintro m σ ⟨i, row, hi, rfl, rfl⟩
    by_cases hlt : i < w
    · have hle : n / 256 ^ i ≤ n := Nat.div_le_self _ _
      have hd : n / 256 ^ i / 256 = n / 256 ^ (i + 1) := by rw [Nat.pow_succ, Nat.div_div_eq_div_mul]
      have hnc := take_next (n := n) hlt
      have hcl : (((leB w n).take i).map bc).length = i * 1 := by rw [List.length_map, List.length_take, leB_length]; omega
      have hv : IntKind.u8.wrap (((n / 256 ^ i : Nat) : Int) % 256) = ((UInt8.ofNat (n / 256 ^ i % 256)).toNat : Nat) := by
        rw [UInt8.toNat_ofNat', Nat.mod_eq_of_lt (Nat.mod_lt _ (by decide)), IntKind.wrap_u8]
        omega
      have hq : IntKind.u64.wrap (((n / 256 ^ i : Nat) : Int).tdiv 256) = ((n / 256 ^ (i + 1) : Nat) : Int) := by
        rw [← hd]
        clear hv hnc hd
        generalize n / 256 ^ i = q at *
        rw [quo_u64 (by omega) (by omega)]; omega
      (refine LWP.seq <| LWP.seq <| LWP.region (by kernel_rfl) <| kmv rfl <| kmv rfl <| kca rfl rfl (hB) <| klt rfl rfl (decide_eq_true (by omega)) <| RunK.nil <| LWP.condT rfl ?_; refine LWP.skip ?_; refine LWP.seq <| LWP.block <| LWP.seq <| LWP.region (by kernel_rfl) <| kmv rfl <| kmv rfl <| K.rem rfl rfl (by omega) rfl .plain <| kcv rfl hv ?_; refine K.buildSlc (zs := [.int .u8 0]) (sz := 1) (e := 5) (by kernel_rfl) rfl rfl rfl rfl rfl rfl .plain <| K.appendSlc (by_ := 1) (e2 := 5) (l2 := [bc (UInt8.ofNat (n / 256 ^ i % 256))]) rfl rfl hcl rfl rfl (Nat.le_refl _) rfl rfl (by kernel_rfl) (by kernel_rfl) (by omega) (by omega) rfl rfl hnc .plain <| kas rfl <| RunK.nil <| LWP.region (by kernel_rfl) <| kmv rfl <| K.quo rfl rfl (by omega) hq .plain <| kas rfl <| RunK.nil <| LWP.region (by kernel_rfl) <| kmv rfl <| kad rfl rfl (wrap_i64 (by omega)) <| kas rfl <| RunK.nil ?_)
      exact ⟨_, _, by omega, Le.ofR [(500, 27)] (by exact ⟨rfl, rfl, rfl, rfl, trivial⟩) (by repeat' (first | exact trivial | refine And.intro ⟨_, rfl, ?_⟩ ?_ | refine And.intro ⟨_, rfl⟩ ?_ | rfl | exact Box.ren_bytes _ _ _ _ | exact Box.ren_vals _ _ _ _ | exact Box.ren_mid rfl)) (by exact rfl) (by exact rfl) (by repeat' (first | refine all_cons_true ?_ ?_ | rfl | exact bytes_inUse | exact vals_inUse | exact mid_inUse rfl)) (by exact rfl) (by exact rfl), i + 1, true, by omega, rfl, rfl⟩
    · have e : i = w := by omega
      subst e
      have hta : (leB i n).take i = leB i n := List.take_of_length_le (by rw [leB_length]; exact Nat.le_refl _)
      rw [hta]
      have hlen : 0 + i ≤ ((leB i n).map bc).length := by rw [List.length_map, leB_length]; omega
      have hend : (((leB i n).map bc).drop 0).take i = (leB i n).map bc := by rw [List.drop_zero, List.take_of_length_le (by rw [List.length_map, leB_length]; exact Nat.le_refl _)]
      (refine LWP.seq <| LWP.seq <| LWP.region (by kernel_rfl) <| kmv rfl <| kmv rfl <| kca rfl rfl (hB) <| klt rfl rfl (decide_eq_false (by omega)) <| RunK.nil <| LWP.condF rfl ?_; refine LWP.exit <| LWP.seq <| LWP.region (by kernel_rfl) <| kmv rfl <| K.convStr rfl rfl (by kernel_rfl) StrT.u hlen hend .plain <| kas rfl <| RunK.nil <| LWP.ret ?_)
      exact ⟨[_], ⟨rfl, trivial⟩, rfl⟩
theorem last_of {l : List UInt8} {w : Nat} {c : UInt8} (hl : l.length = w + 1) (hc : l[w]? = some c) : le l = le (l.take w) + c.toNat * 256 ^ w ∧ le (l.take w) < 256 ^ w := by
  have h := le_take hc
  rw [List.take_of_length_le (by omega)] at h
  have h2 := le_lt (l.take w)
  rw [List.length_take, Nat.min_eq_left (by omega)] at h2
  exact ⟨h, h2⟩
theorem drop_le {l : List UInt8} {i : Nat} {c : UInt8} (h : l[i]? = some c) : le (l.drop i) = c.toNat + 256 * le (l.drop (i + 1)) := by
  obtain ⟨hi, e⟩ := List.getElem?_eq_some_iff.1 h
  rw [List.drop_eq_getElem_cons hi, e]
  rfl
end Go.Proofs.YtnomcmklhbjfjaaGreatDoor
end
section
namespace Go.Lg.Fld
open Go Go.Lg
theorem kM_sig {k : Int} (h : 2 ≤ k ∧ k ≤ 5) : kB k + kA k + 1 = (kM k : Int) := by
  have hc : k = 2 ∨ k = 3 ∨ k = 4 ∨ k = 5 := by omega
  rcases hc with rfl | rfl | rfl | rfl <;> decide
theorem kM_uns {k : Int} (h : 6 ≤ k ∧ k ≤ 10) : kA k + 1 = (kM k : Int) := by
  have hc : k = 6 ∨ k = 7 ∨ k = 8 ∨ k = 9 ∨ k = 10 := by omega
  rcases hc with rfl | rfl | rfl | rfl | rfl <;> decide
theorem sig_iff {k : Int} (h : 2 ≤ k ∧ k ≤ 5) {w c t : Nat} (hw : kW k = w + 1) (ht : t < 256 ^ w) : 127 < c ↔ kA k < ((t + c * 256 ^ w : Nat) : Int) := by
  have hc : k = 2 ∨ k = 3 ∨ k = 4 ∨ k = 5 := by omega
  rcases hc with rfl | rfl | rfl | rfl
  · have e : w = 0 := by have : kW 2 = 1 := by decide
                         omega
    subst e
    have : kA 2 = 127 := by decide
    omega
  · have e : w = 1 := by have : kW 3 = 2 := by decide
                         omega
    subst e
    have : kA 3 = 32767 := by decide
    omega
  · have e : w = 3 := by have : kW 4 = 4 := by decide
                         omega
    subst e
    have : kA 4 = 2147483647 := by decide
    omega
  · have e : w = 7 := by have : kW 5 = 8 := by decide
                         omega
    subst e
    have : kA 5 = 9223372036854775807 := by decide
    omega
end Go.Lg.Fld
namespace Go.Proofs.YtnomcmklhbjfjaaGreatDoor
open Go Go.Lg Go.Lg.Fld
set_option maxRecDepth 100000
variable (X : Nat → Option Obj)
def getR (k : Int) (v : Nat) : LV := if fitZ k (nbK k v) = true then .tup [SQ (nbK k v), Sb true] else .tup [S0, Sb false]
theorem getR_pos {k : Int} {v : Nat} (h : (v : Int) ≤ kA k) : getR k v = .tup [.agg [.val (.bool false), .val (.int .u64 0), .val (.int .u64 (v : Nat))], Sb true] := by
  have hf := kfacts k
  have e : nbK k v = v := if_neg (by omega)
  unfold getR
  rw [e, if_pos ((fitZ_iff k _).2 (by omega)), SQ_pos (by omega)]
theorem getR_neg {k : Int} {v : Nat} (hk : 2 ≤ k ∧ k ≤ 5) (h : kA k < v) (hv : v < kM k) (p : Int) (hp : (kM k : Int) - v = p) : getR k v = .tup [.agg [.val (.bool true), .val (.int .u64 0), .val (.int .u64 p)], Sb true] := by
  have hf := kfacts k
  have hs := kM_sig hk
  have h2 := kM_facts (k := k) (by rw [kK_iff]; omega)
  have e : nbK k v = -p := by unfold nbK; rw [if_pos h]; omega
  unfold getR
  rw [e, if_pos ((fitZ_iff k _).2 (by omega)), SQ_neg (by omega)]
theorem getR_bool {v : Nat} (h : 1 < v) (hv : v < 256) : getR 1 v = .tup [S0, Sb false] := by
  have hA : kA 1 = 1 := by decide
  have e : nbK 1 v = (v : Int) - 256 := by
    unfold nbK
    rw [if_pos (by omega)]
    rfl
  unfold getR
  rw [e, if_neg]
  intro hc
  rw [fitZ_iff] at hc
  have : kB 1 = 0 := by decide
  omega
set_option maxHeartbeats 3200000 in
theorem refGet_q (k : Int) (l : List UInt8) (hk : kK k = true) (hn : l.length = kW k) : PSpec Tryz.prog X 68 [Ln .i64 k, Ls l] (getR k (le l)) := by
  have hB := refBytes_spec X k
  have hz : (⟨l.toArray⟩ : ByteArray).size = l.length := rfl
  have hf := kfacts k
  have hM := kM_facts hk
  have hkk := (kK_iff k).1 hk
  have hk0 : kW k ≠ 0 := fun e => by rw [kW_zero] at e; rw [hk] at e; cases e
  obtain ⟨w, hw⟩ : ∃ w, kW k = w + 1 := ⟨kW k - 1, by omega⟩
  have hw8 : w < 8 := by omega
  obtain ⟨c, hc⟩ : ∃ c, l[w]? = some c := ⟨_, List.getElem?_eq_getElem (by omega)⟩
  obtain ⟨hlast, hinit⟩ := last_of (by omega) hc
  have hsig : 2 ≤ k ∧ k ≤ 5 → (127 < c.toNat ↔ kA k < (le l : Nat)) := fun h => by rw [hlast]; exact sig_iff h hw hinit
  have hlt : le l < kM k := by
    have := le_lt l
    rw [hn] at this
    exact this
  have hcl := c.toNat_lt
  have hM8 : kM k = 256 ^ (w + 1) := by unfold kM; rw [hw]
  rw [hw] at hB
  refine PSpec.intro Tryz.func68 rfl (by kernel_rfl) rfl (by unfold getR; split <;> rfl) ?_
  intro C
  (refine LWP.seq <| LWP.region (by kernel_rfl) <| K.alloc rfl .plain ?_; refine kas rfl <| RunK.nil <| LWP.seq <| LWP.seq <| LWP.region (by kernel_rfl) <| kmv rfl <| kln rfl <| kmv rfl <| kca rfl rfl (hB) <| kne rfl rfl ((bne_eq_false_iff_eq.2 (by omega))) <| kmv rfl <| gmv rfl rfl rfl <| K.lenStr rfl (.taken rfl rfl) ?_; refine K.eql rfl rfl (beq_eq_false_iff_ne.2 (by omega)) (.taken rfl rfl) ?_; refine kpf rfl rfl <| RunK.nil <| LWP.condF rfl ?_; refine LWP.skip ?_; refine LWP.seq <| LWP.region (by kernel_rfl) <| kas rfl <| RunK.nil <| LWP.seq <| LWP.seq <| LWP.region (by kernel_rfl) <| kmv rfl <| kln rfl <| K.sub rfl rfl (wrap_i64 (by omega)) .plain <| kas rfl <| RunK.nil <| LWP.block ?_)
  refine LWP.loop (fun m σ => ∃ j : Nat, j ≤ w + 1 ∧ m = j ∧ σ = ⟨[(0, Ln .i64 k), (1, Ls l), (4, .sv (.one (.ptr 4 0))), (6, Ln .u64 (le (l.drop j) : Nat)), (7, Ln .i64 ((j : Int) - 1))], [(4, some { elem := 63, cells := cI false 0 })], X⟩) (w + 1)
    ⟨_, Le.of (by exact ⟨rfl, rfl, rfl, by rw [List.drop_of_length_le (show l.length ≤ l.length from Nat.le_refl _)]; rfl, rfl, trivial⟩) (by exact ⟨rfl, trivial⟩) (by exact rfl) (by exact rfl) (by exact rfl), l.length, by omega, by omega, rfl⟩ ?_
  rintro j σ ⟨_, hj, rfl, rfl⟩
  cases j with
  | succ i =>
    rw [show ((i + 1 : Nat) : Int) - 1 = (i : Int) by omega]
    obtain ⟨d, hd⟩ : ∃ d, l[i]? = some d := ⟨_, List.getElem?_eq_getElem (by omega)⟩
    have hdl := d.toNat_lt
    have hq := drop_le hd
    have hb := le_lt (l.drop i)
    have hp : 256 ^ (l.drop i).length ≤ 256 ^ 8 := Nat.pow_le_pow_right (by decide) (by rw [List.length_drop]; omega)
    rw [show (256 : Nat) ^ 8 = 18446744073709551616 by decide] at hp
    generalize hq2 : le (l.drop i) = q' at *
    generalize le (l.drop (i + 1)) = q at *
    have ha : IntKind.u64.wrap ((q : Int) * 256 + (d.toNat : Nat)) = (q' : Int) := by rw [wrap_u64 (by omega)]; omega
    (refine LWP.seq <| LWP.seq <| LWP.region (by kernel_rfl) <| kmv rfl <| K.geq rfl rfl (decide_eq_true (by omega)) .plain <| RunK.nil <| LWP.condT rfl ?_; refine LWP.skip ?_; refine LWP.seq <| LWP.block <| LWP.region (by kernel_rfl) <| kmv rfl <| K.mul rfl rfl (wrap_u64 (by omega)) .plain <| kmv rfl <| kmv rfl <| K.indexStr rfl rfl (by omega) (str_at hd) .plain <| kcv rfl (by exact wrap_u64 (by omega)) ?_; refine kad rfl rfl ha <| kas rfl <| RunK.nil <| LWP.region (by kernel_rfl) <| kmv rfl <| K.sub rfl rfl (wrap_i64 (by omega)) .plain <| kas rfl <| RunK.nil ?_)
    exact ⟨i, _, by omega, Le.of (by exact ⟨rfl, rfl, rfl, by rw [hq2]; rfl, rfl, trivial⟩) (by exact ⟨rfl, trivial⟩) (by exact rfl) (by exact rfl) (by exact rfl), i, by omega, rfl, rfl⟩
  | zero =>
    rw [show l.drop 0 = l from rfl]
    have hlen : IntKind.i64.wrap (((⟨l.toArray⟩ : ByteArray).size : Int) - 1) = (w : Int) := by rw [wrap_i64 (by omega)]; omega
    generalize le l = v at *
    by_cases h5 : 2 ≤ k ∧ k ≤ 5
    · obtain ⟨h2, h5⟩ := h5
      by_cases hbig : 127 < c.toNat
      · have hgt := (hsig ⟨h2, h5⟩).1 hbig
        rw [getR_neg ⟨h2, h5⟩ hgt hlt _ rfl]
        by_cases hk5 : k = 5
        · subst hk5
          have hM5 : kM 5 = 18446744073709551616 := by decide
          have hs : IntKind.u64.wrap (0 - (v : Int)) = (kM 5 : Int) - v := by rw [IntKind.wrap_u64, hM5]; omega
          have hw7 : (kW 5) = 8 := by decide
          (refine LWP.seq <| LWP.seq <| LWP.region (by kernel_rfl) <| kmv rfl <| K.geq rfl rfl (decide_eq_false (by omega)) .plain <| RunK.nil <| LWP.condF rfl ?_; refine LWP.exit <| LWP.seq <| LWP.region (by kernel_rfl) <| kmv rfl <| K.build rfl rfl (by exact rfl) (by exact nl3 rfl rfl rfl rfl) .plain ?_; refine K.alloc rfl .plain ?_; refine K.storeAll rfl rfl rfl rfl rfl rfl .plain ?_; refine RunK.nil <| LWP.seq <| LWP.seq <| LWP.region (by kernel_rfl) <| kmv rfl <| K.geq rfl rfl (decide_eq_true (by omega)) .plain <| kmv rfl <| gmv rfl rfl rfl <| K.leq rfl rfl (decide_eq_true (by omega)) (.taken rfl rfl) ?_; refine kpt rfl rfl <| kmv rfl <| gmv rfl rfl rfl <| gmv rfl rfl rfl <| K.lenStr rfl (.taken rfl rfl) ?_; refine K.sub rfl rfl hlen (.taken rfl rfl) ?_; refine K.indexStr rfl rfl (by omega) (str_at hc) (.taken rfl rfl) ?_; refine K.gtr rfl rfl (decide_eq_true (by omega)) (.taken rfl rfl) ?_; refine kpt rfl rfl <| RunK.nil <| LWP.condT rfl ?_; refine LWP.seq <| LWP.region (by kernel_rfl) <| kas rfl <| RunK.nil <| LWP.seq <| LWP.seq <| LWP.region (by kernel_rfl) <| kmv rfl <| kln rfl <| klt rfl rfl (decide_eq_false (by omega)) <| RunK.nil <| LWP.condF rfl ?_; refine LWP.skip ?_; refine LWP.region (by kernel_rfl) <| kmv rfl <| kmv rfl <| K.sub rfl rfl hs .plain <| K.build rfl rfl (by exact rfl) (by exact nl3 rfl rfl rfl rfl) .plain ?_; refine K.storeAll rfl rfl rfl rfl rfl rfl .plain ?_; refine RunK.nil <| LWP.seq <| LWP.seq <| LWP.region (by kernel_rfl) <| kmv rfl <| keq rfl rfl (beq_eq_false_iff_ne.2 (by omega)) <| kmv rfl <| RunK.passed rfl rfl rfl <| RunK.passed rfl rfl rfl <| kpf rfl rfl <| RunK.nil <| LWP.condF rfl ?_; refine LWP.skip ?_; refine LWP.seq <| LWP.region (by kernel_rfl) <| K.loadAll rfl rfl rfl .plain ?_; refine K.storeAll rfl rfl rfl rfl rfl rfl .plain ?_; refine kas rfl <| RunK.nil <| LWP.ret ?_)
          exact ⟨[_, _], ⟨⟨_, _, rfl, rfl, rfl, .inl ⟨AggT.h, rfl⟩⟩, rfl, trivial⟩, rfl⟩
        · have hw4 : kW k < 8 := by
            have h : k = 2 ∨ k = 3 ∨ k = 4 := by omega
            rcases h with rfl | rfl | rfl <;> decide
          (refine LWP.seq <| LWP.seq <| LWP.region (by kernel_rfl) <| kmv rfl <| K.geq rfl rfl (decide_eq_false (by omega)) .plain <| RunK.nil <| LWP.condF rfl ?_; refine LWP.exit <| LWP.seq <| LWP.region (by kernel_rfl) <| kmv rfl <| K.build rfl rfl (by exact rfl) (by exact nl3 rfl rfl rfl rfl) .plain ?_; refine K.alloc rfl .plain ?_; refine K.storeAll rfl rfl rfl rfl rfl rfl .plain ?_; refine RunK.nil <| LWP.seq <| LWP.seq <| LWP.region (by kernel_rfl) <| kmv rfl <| K.geq rfl rfl (decide_eq_true (by omega)) .plain <| kmv rfl <| gmv rfl rfl rfl <| K.leq rfl rfl (decide_eq_true (by omega)) (.taken rfl rfl) ?_; refine kpt rfl rfl <| kmv rfl <| gmv rfl rfl rfl <| gmv rfl rfl rfl <| K.lenStr rfl (.taken rfl rfl) ?_; refine K.sub rfl rfl hlen (.taken rfl rfl) ?_; refine K.indexStr rfl rfl (by omega) (str_at hc) (.taken rfl rfl) ?_; refine K.gtr rfl rfl (decide_eq_true (by omega)) (.taken rfl rfl) ?_; refine kpt rfl rfl <| RunK.nil <| LWP.condT rfl ?_; refine LWP.seq <| LWP.region (by kernel_rfl) <| kas rfl <| RunK.nil <| LWP.seq <| LWP.seq <| LWP.region (by kernel_rfl) <| kmv rfl <| kln rfl <| klt rfl rfl (decide_eq_true (by omega)) <| RunK.nil <| LWP.condT rfl ?_; refine LWP.seq <| LWP.region (by kernel_rfl) <| kas rfl <| RunK.nil <| LWP.seq <| LWP.region (by kernel_rfl) <| kas rfl <| RunK.nil <| LWP.block ?_)
          refine LWP.meet (fun σ => σ = ⟨[(0, Ln .i64 k), (1, Ls l), (4, .sv (.one (.ptr 4 0))), (6, Ln .u64 (v : Nat)), (8, .sv (.one (.ptr 8 0))), (9, Ln .u64 (kM k : Nat))], [(4, some { elem := 63, cells := cI false 0 }), (8, some { elem := 63, cells := [.val (.bool false), .val (.int .u64 0), .val (.int .u64 (v : Nat))] })], X⟩) ?_ ?_
          · refine LWP.loop (fun m σ => ∃ i : Nat, i ≤ w + 1 ∧ m = w + 1 - i ∧ σ = ⟨[(0, Ln .i64 k), (1, Ls l), (4, .sv (.one (.ptr 4 0))), (6, Ln .u64 (v : Nat)), (8, .sv (.one (.ptr 8 0))), (9, Ln .u64 (256 ^ i : Nat)), (10, Ln .i64 (i : Nat))], [(4, some { elem := 63, cells := cI false 0 }), (8, some { elem := 63, cells := [.val (.bool false), .val (.int .u64 0), .val (.int .u64 (v : Nat))] })], X⟩) (w + 1)
              ⟨_, Le.of (by exact ⟨rfl, rfl, rfl, rfl, rfl, rfl, rfl, trivial⟩) (by exact ⟨rfl, rfl, trivial⟩) (by exact rfl) (by exact rfl) (by exact rfl), 0, by omega, rfl, rfl⟩ ?_
            rintro m σ ⟨i, hi, rfl, rfl⟩
            by_cases hlt2 : i < w + 1
            · have hp : 256 ^ i * 256 = 256 ^ (i + 1) := (Nat.pow_succ ..).symm
              have hle : 256 ^ (i + 1) ≤ 256 ^ 7 := Nat.pow_le_pow_right (by decide) (by omega)
              rw [show (256 : Nat) ^ 7 = 72057594037927936 by decide] at hle
              have hm : IntKind.u64.wrap (((256 ^ i : Nat) : Int) * 256) = ((256 ^ (i + 1) : Nat) : Int) := by
                rw [← hp]
                generalize 256 ^ i = q at *
                rw [wrap_u64 (by omega)]; omega
              (refine LWP.seq <| LWP.seq <| LWP.region (by kernel_rfl) <| kmv rfl <| kmv rfl <| kln rfl <| klt rfl rfl (decide_eq_true (by omega)) <| RunK.nil <| LWP.condT rfl ?_; refine LWP.skip ?_; refine LWP.seq <| LWP.block <| LWP.region (by kernel_rfl) <| kmv rfl <| K.mul rfl rfl hm .plain <| kas rfl <| RunK.nil <| LWP.region (by kernel_rfl) <| kmv rfl <| kad rfl rfl (wrap_i64 (by omega)) <| kas rfl <| RunK.nil ?_)
              exact ⟨_, _, by omega, Le.of (by exact ⟨rfl, rfl, rfl, rfl, rfl, rfl, rfl, trivial⟩) (by exact ⟨rfl, rfl, trivial⟩) (by exact rfl) (by exact rfl) (by exact rfl), i + 1, by omega, rfl, rfl⟩
            · have e : i = w + 1 := by omega
              subst e
              (refine LWP.seq <| LWP.seq <| LWP.region (by kernel_rfl) <| kmv rfl <| kmv rfl <| kln rfl <| klt rfl rfl (decide_eq_false (by omega)) <| RunK.nil <| LWP.condF rfl ?_; refine LWP.exit ?_)
              exact ⟨_, Le.of (by exact ⟨rfl, rfl, rfl, rfl, rfl, by rw [hM8]; rfl, trivial⟩) (by exact ⟨rfl, rfl, trivial⟩) (by exact rfl) (by exact rfl) (by exact rfl), rfl⟩
          · rintro σ rfl
            have hs : IntKind.u64.wrap (((kM k : Nat) : Int) - (v : Int)) = (kM k : Int) - v := by rw [wrap_u64 (by omega)]
            (refine LWP.region (by kernel_rfl) <| kmv rfl <| kmv rfl <| K.sub rfl rfl hs .plain <| K.build rfl rfl (by exact rfl) (by exact nl3 rfl rfl rfl rfl) .plain ?_; refine K.storeAll rfl rfl rfl rfl rfl rfl .plain ?_; refine RunK.nil <| LWP.seq <| LWP.seq <| LWP.region (by kernel_rfl) <| kmv rfl <| keq rfl rfl (beq_eq_false_iff_ne.2 (by omega)) <| kmv rfl <| RunK.passed rfl rfl rfl <| RunK.passed rfl rfl rfl <| kpf rfl rfl <| RunK.nil <| LWP.condF rfl ?_; refine LWP.skip ?_; refine LWP.seq <| LWP.region (by kernel_rfl) <| K.loadAll rfl rfl rfl .plain ?_; refine K.storeAll rfl rfl rfl rfl rfl rfl .plain ?_; refine kas rfl <| RunK.nil <| LWP.ret ?_)
            exact ⟨[_, _], ⟨⟨_, _, rfl, rfl, rfl, .inl ⟨AggT.h, rfl⟩⟩, rfl, trivial⟩, rfl⟩
      · have hle : (v : Int) ≤ kA k := Int.not_lt.1 (mt (hsig ⟨h2, h5⟩).2 hbig)
        rw [getR_pos hle]
        (refine LWP.seq <| LWP.seq <| LWP.region (by kernel_rfl) <| kmv rfl <| K.geq rfl rfl (decide_eq_false (by omega)) .plain <| RunK.nil <| LWP.condF rfl ?_; refine LWP.exit <| LWP.seq <| LWP.region (by kernel_rfl) <| kmv rfl <| K.build rfl rfl (by exact rfl) (by exact nl3 rfl rfl rfl rfl) .plain ?_; refine K.alloc rfl .plain ?_; refine K.storeAll rfl rfl rfl rfl rfl rfl .plain ?_; refine RunK.nil <| LWP.seq <| LWP.seq <| LWP.region (by kernel_rfl) <| kmv rfl <| K.geq rfl rfl (decide_eq_true (by omega)) .plain <| kmv rfl <| gmv rfl rfl rfl <| K.leq rfl rfl (decide_eq_true (by omega)) (.taken rfl rfl) ?_; refine kpt rfl rfl <| kmv rfl <| gmv rfl rfl rfl <| gmv rfl rfl rfl <| K.lenStr rfl (.taken rfl rfl) ?_; refine K.sub rfl rfl hlen (.taken rfl rfl) ?_; refine K.indexStr rfl rfl (by omega) (str_at hc) (.taken rfl rfl) ?_; refine K.gtr rfl rfl (decide_eq_false (by omega)) (.taken rfl rfl) ?_; refine kpt rfl rfl <| RunK.nil <| LWP.condF rfl ?_; refine LWP.skip ?_; refine LWP.seq <| LWP.seq <| LWP.region (by kernel_rfl) <| kmv rfl <| keq rfl rfl (beq_eq_false_iff_ne.2 (by omega)) <| kmv rfl <| RunK.passed rfl rfl rfl <| RunK.passed rfl rfl rfl <| kpf rfl rfl <| RunK.nil <| LWP.condF rfl ?_; refine LWP.skip ?_; refine LWP.seq <| LWP.region (by kernel_rfl) <| K.loadAll rfl rfl rfl .plain ?_; refine K.storeAll rfl rfl rfl rfl rfl rfl .plain ?_; refine kas rfl <| RunK.nil <| LWP.ret ?_)
        exact ⟨[_, _], ⟨⟨_, _, rfl, rfl, rfl, .inl ⟨AggT.h, rfl⟩⟩, rfl, trivial⟩, rfl⟩
    · by_cases h1 : k = 1
      · subst h1
        have hA : kA 1 = 1 := by decide
        have hM1 : kM 1 = 256 := by decide
        by_cases hv : 1 < v
        · rw [getR_bool hv (by omega)]
          (refine LWP.seq <| LWP.seq <| LWP.region (by kernel_rfl) <| kmv rfl <| K.geq rfl rfl (decide_eq_false (by omega)) .plain <| RunK.nil <| LWP.condF rfl ?_; refine LWP.exit <| LWP.seq <| LWP.region (by kernel_rfl) <| kmv rfl <| K.build rfl rfl (by exact rfl) (by exact nl3 rfl rfl rfl rfl) .plain ?_; refine K.alloc rfl .plain ?_; refine K.storeAll rfl rfl rfl rfl rfl rfl .plain ?_; refine RunK.nil <| LWP.seq <| LWP.seq <| LWP.region (by kernel_rfl) <| kmv rfl <| K.geq rfl rfl (decide_eq_false (by omega)) .plain <| kmv rfl <| RunK.passed rfl rfl rfl <| RunK.passed rfl rfl rfl <| kpf rfl rfl <| kmv rfl <| RunK.passed rfl rfl rfl <| RunK.passed rfl rfl rfl <| RunK.passed rfl rfl rfl ?_; refine RunK.passed rfl rfl rfl <| RunK.passed rfl rfl rfl <| RunK.passed rfl rfl rfl <| kpf rfl rfl <| RunK.nil <| LWP.condF rfl ?_; refine LWP.skip ?_; refine LWP.seq <| LWP.seq <| LWP.region (by kernel_rfl) <| kmv rfl <| keq rfl rfl (beq_iff_eq.2 (by omega)) <| kmv rfl <| gmv rfl rfl rfl <| K.gtr rfl rfl (decide_eq_true (by omega)) (.taken rfl rfl) ?_; refine kpt rfl rfl <| RunK.nil <| LWP.condT rfl ?_; refine LWP.seq <| LWP.region (by kernel_rfl) <| K.build rfl rfl (by exact rfl) (by exact nl3 rfl rfl rfl rfl) .plain ?_; refine K.storeAll rfl rfl rfl rfl rfl rfl .plain ?_; refine kas rfl <| RunK.nil <| LWP.ret ?_)
          exact ⟨[_, _], ⟨⟨_, _, rfl, rfl, rfl, .inl ⟨AggT.h, rfl⟩⟩, rfl, trivial⟩, rfl⟩
        · rw [getR_pos (by omega)]
          (refine LWP.seq <| LWP.seq <| LWP.region (by kernel_rfl) <| kmv rfl <| K.geq rfl rfl (decide_eq_false (by omega)) .plain <| RunK.nil <| LWP.condF rfl ?_; refine LWP.exit <| LWP.seq <| LWP.region (by kernel_rfl) <| kmv rfl <| K.build rfl rfl (by exact rfl) (by exact nl3 rfl rfl rfl rfl) .plain ?_; refine K.alloc rfl .plain ?_; refine K.storeAll rfl rfl rfl rfl rfl rfl .plain ?_; refine RunK.nil <| LWP.seq <| LWP.seq <| LWP.region (by kernel_rfl) <| kmv rfl <| K.geq rfl rfl (decide_eq_false (by omega)) .plain <| kmv rfl <| RunK.passed rfl rfl rfl <| RunK.passed rfl rfl rfl <| kpf rfl rfl <| kmv rfl <| RunK.passed rfl rfl rfl <| RunK.passed rfl rfl rfl <| RunK.passed rfl rfl rfl ?_; refine RunK.passed rfl rfl rfl <| RunK.passed rfl rfl rfl <| RunK.passed rfl rfl rfl <| kpf rfl rfl <| RunK.nil <| LWP.condF rfl ?_; refine LWP.skip ?_; refine LWP.seq <| LWP.seq <| LWP.region (by kernel_rfl) <| kmv rfl <| keq rfl rfl (beq_iff_eq.2 (by omega)) <| kmv rfl <| gmv rfl rfl rfl <| K.gtr rfl rfl (decide_eq_false (by omega)) (.taken rfl rfl) ?_; refine kpt rfl rfl <| RunK.nil <| LWP.condF rfl ?_; refine LWP.skip ?_; refine LWP.seq <| LWP.region (by kernel_rfl) <| K.loadAll rfl rfl rfl .plain ?_; refine K.storeAll rfl rfl rfl rfl rfl rfl .plain ?_; refine kas rfl <| RunK.nil <| LWP.ret ?_)
          exact ⟨[_, _], ⟨⟨_, _, rfl, rfl, rfl, .inl ⟨AggT.h, rfl⟩⟩, rfl, trivial⟩, rfl⟩
      · have h6 : 6 ≤ k := by omega
        have hu := kM_uns ⟨h6, hkk.2⟩
        rw [getR_pos (by omega)]
        (refine LWP.seq <| LWP.seq <| LWP.region (by kernel_rfl) <| kmv rfl <| K.geq rfl rfl (decide_eq_false (by omega)) .plain <| RunK.nil <| LWP.condF rfl ?_; refine LWP.exit <| LWP.seq <| LWP.region (by kernel_rfl) <| kmv rfl <| K.build rfl rfl (by exact rfl) (by exact nl3 rfl rfl rfl rfl) .plain ?_; refine K.alloc rfl .plain ?_; refine K.storeAll rfl rfl rfl rfl rfl rfl .plain ?_; refine RunK.nil <| LWP.seq <| LWP.seq <| LWP.region (by kernel_rfl) <| kmv rfl <| K.geq rfl rfl (decide_eq_true (by omega)) .plain <| kmv rfl <| gmv rfl rfl rfl <| K.leq rfl rfl (decide_eq_false (by omega)) (.taken rfl rfl) ?_; refine kpt rfl rfl <| kmv rfl <| RunK.passed rfl rfl rfl <| RunK.passed rfl rfl rfl <| RunK.passed rfl rfl rfl <| RunK.passed rfl rfl rfl <| RunK.passed rfl rfl rfl <| RunK.passed rfl rfl rfl <| kpf rfl rfl <| RunK.nil <| LWP.condF rfl ?_; refine LWP.skip ?_; refine LWP.seq <| LWP.seq <| LWP.region (by kernel_rfl) <| kmv rfl <| keq rfl rfl (beq_eq_false_iff_ne.2 (by omega)) <| kmv rfl <| RunK.passed rfl rfl rfl <| RunK.passed rfl rfl rfl <| kpf rfl rfl <| RunK.nil <| LWP.condF rfl ?_; refine LWP.skip ?_; refine LWP.seq <| LWP.region (by kernel_rfl) <| K.loadAll rfl rfl rfl .plain ?_; refine K.storeAll rfl rfl rfl rfl rfl rfl .plain ?_; refine kas rfl <| RunK.nil <| LWP.ret ?_)
        exact ⟨[_, _], ⟨⟨_, _, rfl, rfl, rfl, .inl ⟨AggT.h, rfl⟩⟩, rfl, trivial⟩, rfl⟩
end Go.Proofs.YtnomcmklhbjfjaaGreatDoor
end
section
namespace Go.Lg.Fld
open Go Go.Lg
structure Fl where
  nm : List UInt8
  kind : Int
  count : Int
def Fl.vals (f : Fl) : List Value := [.string ⟨f.nm.toArray⟩, .int .i64 f.kind, .int .i64 f.count]
def Fl.w (f : Fl) : Nat := kW f.kind
def Fl.n (f : Fl) : Nat := f.count.toNat
def Fl.ok (f : Fl) : Bool := kK f.kind && (decide (1 ≤ f.count) && decide (f.count ≤ 8))
def roundUp (a n : Nat) : Nat := a + (n - a % n) % n
def startsAt : Nat → List Fl → List Nat
  | _, [] => []
  | a, f :: t => roundUp a f.w :: startsAt (roundUp a f.w + f.w * f.n) t
def endAt : Nat → List Fl → Nat
  | a, [] => a
  | a, f :: t => endAt (roundUp a f.w + f.w * f.n) t
def elemsAt : Nat → List Fl → List (Int × Nat)
  | _, [] => []
  | a, f :: t => (List.range f.n).map (fun i => (f.kind, roundUp a f.w + f.w * i)) ++ elemsAt (roundUp a f.w + f.w * f.n) t
def greatW (l : List Fl) : Nat := l.foldl (fun g f => max g f.w) 1
def rowSize (l : List Fl) : Nat := roundUp (endAt 0 l) (greatW l)
def layErr (l : List Fl) : Int := if 8 < l.length then 1 else if l.all Fl.ok = true then (if 256 < rowSize l then 5 else 0) else 1
theorem starts_snoc (f : Fl) : ∀ (l : List Fl) (a : Nat), startsAt a (l ++ [f]) = startsAt a l ++ [roundUp (endAt a l) f.w]
  | [], _ => rfl
  | g :: t, a => by simp only [List.cons_append, startsAt, endAt, starts_snoc f t]
theorem end_snoc (f : Fl) : ∀ (l : List Fl) (a : Nat), endAt a (l ++ [f]) = roundUp (endAt a l) f.w + f.w * f.n
  | [], _ => rfl
  | g :: t, a => by simp only [List.cons_append, endAt, end_snoc f t]
theorem elems_snoc (f : Fl) : ∀ (l : List Fl) (a : Nat), elemsAt a (l ++ [f]) = elemsAt a l ++ (List.range f.n).map (fun i => (f.kind, roundUp (endAt a l) f.w + f.w * i))
  | [], _ => by simp [elemsAt, endAt]
  | g :: t, a => by simp only [List.cons_append, elemsAt, endAt, elems_snoc f t, List.append_assoc]
theorem great_snoc (f : Fl) (l : List Fl) : greatW (l ++ [f]) = max (greatW l) f.w := by simp [greatW, List.foldl_append]
theorem take_snoc {α : Type} {l : List α} {i : Nat} {f : α} (h : l[i]? = some f) : l.take (i + 1) = l.take i ++ [f] := by
  rw [List.take_add_one, h]; rfl
theorem ok_w {f : Fl} (h : f.ok = true) : (f.w = 1 ∨ f.w = 2 ∨ f.w = 4 ∨ f.w = 8) ∧ 1 ≤ f.n ∧ f.n ≤ 8 ∧ (f.n : Int) = f.count := by
  simp only [Fl.ok, Bool.and_eq_true, decide_eq_true_eq] at h
  refine ⟨kW_in h.1, ?_, ?_, ?_⟩ <;> unfold Fl.n <;> omega
def isWd (n : Nat) : Prop := n = 1 ∨ n = 2 ∨ n = 4 ∨ n = 8
theorem round_facts {n : Nat} (h : isWd n) (a : Nat) : roundUp a n % n = 0 ∧ a ≤ roundUp a n ∧ roundUp a n < a + n ∧ ∀ b, a ≤ b → b ≤ roundUp a n → b % n = 0 → b = roundUp a n := by
  unfold roundUp
  rcases h with rfl | rfl | rfl | rfl <;> refine ⟨by omega, by omega, by omega, fun b h1 h2 h3 => by omega⟩
theorem great_wd : ∀ (l : List Fl), l.all Fl.ok = true → isWd (greatW l) := by
  have key : ∀ (l : List Fl) (g : Nat), isWd g → l.all Fl.ok = true → isWd (l.foldl (fun g f => max g f.w) g) := by
    intro l
    induction l with
    | nil => intro g hg _; exact hg
    | cons f t ih =>
      intro g hg h
      simp only [List.all_cons, Bool.and_eq_true] at h
      refine ih _ ?_ h.2
      have hf : isWd f.w := (ok_w h.1).1
      show isWd (max g f.w)
      rcases Nat.le_total g f.w with h3 | h3
      · rw [Nat.max_eq_right h3]; exact hf
      · rw [Nat.max_eq_left h3]; exact hg
  exact fun l h => key l 1 (.inl rfl) h
theorem end_le : ∀ (l : List Fl) (a : Nat), l.all Fl.ok = true → a ≤ endAt a l ∧ endAt a l ≤ a + 72 * l.length
  | [], a, _ => by simp [endAt]
  | f :: t, a, h => by
    simp only [List.all_cons, Bool.and_eq_true] at h
    obtain ⟨hw, h1, h8, _⟩ := ok_w h.1
    have hr := round_facts hw a
    have hi := end_le t (roundUp a f.w + f.w * f.n) h.2
    have hm : f.w * f.n ≤ 64 := by rcases hw with e | e | e | e <;> rw [e] <;> omega
    have hw8 : f.w ≤ 8 := by rcases hw with e | e | e | e <;> omega
    simp only [endAt, List.length_cons]
    omega
theorem elems_len : ∀ (l : List Fl) (a : Nat), l.all Fl.ok = true → l.length ≤ (elemsAt a l).length ∧ (elemsAt a l).length ≤ 8 * l.length
  | [], a, _ => by simp [elemsAt]
  | f :: t, a, h => by
    simp only [List.all_cons, Bool.and_eq_true] at h
    obtain ⟨hw, h1, h8, _⟩ := ok_w h.1
    have hi := elems_len t (roundUp a f.w + f.w * f.n) h.2
    simp only [elemsAt, List.length_append, List.length_map, List.length_range, List.length_cons]
    omega
theorem starts_len : ∀ (l : List Fl) (a : Nat), (startsAt a l).length = l.length
  | [], _ => rfl
  | f :: t, a => by simp [startsAt, starts_len t]
def elV (e : Int × Nat) : List Value := [.int .i64 e.1, .int .i64 (e.2 : Nat)]
def elVs (l : List (Int × Nat)) : List Value := (l.map elV).flatten
theorem elVs_len (l : List (Int × Nat)) : (elVs l).length = l.length * 2 := by
  induction l with
  | nil => rfl
  | cons e t ih => simp only [elVs, List.map_cons, List.flatten_cons, List.length_append] at ih ⊢; rw [ih]; simp [elV]; omega
theorem elVs_app (l m : List (Int × Nat)) : elVs (l ++ m) = elVs l ++ elVs m := by simp [elVs]
def ntV (l : List Nat) : List Value := l.map fun n => .int .i64 (n : Nat)
structure FieldsIn (X : Nat → Option Obj) (ad : Option Addr) (fs : List Fl) : Prop where
  rows : RowsIn X ad 3 (fs.map Fl.vals)
  small : ∀ f ∈ fs, (-9223372036854775808 ≤ f.kind ∧ f.kind < 9223372036854775808) ∧ (-9223372036854775808 ≤ f.count ∧ f.count < 9223372036854775808)
theorem FieldsIn.at {X : Nat → Option Obj} {ad : Option Addr} {fs : List Fl} (h : FieldsIn X ad fs) {i : Nat} {f : Fl} (hf : fs[i]? = some f) :
    ∃ (blk off : Nat) (arr : Array Value) (el : TypeId) (fr : Nat × Nat), ad = some ⟨blk, off, none⟩ ∧ X blk = some (.cells arr el fr) ∧ off + i * 3 + 3 ≤ arr.size ∧ ((arr.toList.drop (off + i * 3)).take 3).map CV.val = f.vals.map CV.val := by
  obtain ⟨blk, off, arr, el, fr, h1, h2, h3, h4⟩ := h.rows i f.vals (by rw [List.getElem?_map, hf]; rfl)
  exact ⟨blk, off, arr, el, fr, h1, h2, h3, by rw [h4]⟩
end Go.Lg.Fld
end
section
namespace Go.Proofs.YtnomcmklhbjfjaaGreatDoor
open Go Go.Lg Go.Lg.Fld
set_option maxRecDepth 100000
variable (X : Nat → Option Obj)
abbrev Lx (ad : Option Addr) (n cap : Nat) : LV := .sv (.one (.val (.slice ad n cap)))
abbrev Vnil : SV := .one (.val (.slice none 0 0))
def layR (fs : List Fl) : LV := if layErr fs = 0 then .tup [.one (.slc 1000001 0 (elemsAt 0 fs).length 2), Sn .i64 (rowSize fs : Nat), .one (.slc 1000002 0 fs.length 1), Sn .i64 0] else .tup [Vnil, Sn .i64 0, Vnil, Sn .i64 (layErr fs)]
def layBx (fs : List Fl) : List (Nat × Option Box) := if layErr fs = 0 then [(1000001, some ⟨106, (elVs (elemsAt 0 fs)).map .val, Nat.blt 0 (elemsAt 0 fs).length⟩), (1000002, some ⟨3, (ntV (startsAt 0 fs)).map .val, Nat.blt 0 fs.length⟩)] else []
theorem layErr_long {fs : List Fl} (h : 8 < fs.length) : layErr fs = 1 := if_pos h
theorem layErr_bad {fs : List Fl} (h : fs.length ≤ 8) {f : Fl} (hf : f ∈ fs) (hb : f.ok = false) : layErr fs = 1 := by
  unfold layErr
  rw [if_neg (by omega), if_neg]
  intro ha
  rw [List.all_eq_true.1 ha f hf] at hb
  cases hb
theorem layErr_all {fs : List Fl} (h : fs.length ≤ 8) (ha : fs.all Fl.ok = true) : layErr fs = if 256 < rowSize fs then 5 else 0 := by
  unfold layErr
  rw [if_neg (by omega), if_pos ha]
theorem take_all {fs : List Fl} {i : Nat} {f : Fl} (h : (fs.take i).all Fl.ok = true) (hf : fs[i]? = some f) (hk : f.ok = true) : (fs.take (i + 1)).all Fl.ok = true := by
  rw [take_snoc hf, List.all_append, h]
  simp [hk]
set_option maxHeartbeats 3200000 in
theorem Lay_spec (ad : Option Addr) (cap : Nat) (fs : List Fl) (hin : FieldsIn X ad fs) (hbig : fs.length < 4611686018427387904) : MSpec Tryz.prog X 28 [Lx ad fs.length cap] [] (layR fs) (layBx fs) := by
  refine MSpec.intro Tryz.func28 rfl (by kernel_rfl) rfl (by unfold layR layBx; split <;> rfl) (by unfold layBx; split <;> exact (by repeat' (first | refine all_cons_true ?_ ?_ | rfl | exact bytes_inUse | exact vals_inUse | exact mid_inUse rfl))) rfl rfl ?_
  intro C
  by_cases hlong : 8 < fs.length
  · unfold layR layBx
    rw [layErr_long hlong, if_neg (by decide), if_neg (by decide)]
    (refine LWP.seq <| LWP.region (by kernel_rfl) <| kas rfl <| kas rfl <| kas rfl <| kas rfl <| RunK.nil <| LWP.seq <| LWP.seq <| LWP.region (by kernel_rfl) <| kmv rfl <| K.lenX rfl SliceT.h rfl .plain ?_; refine K.gtr rfl rfl (decide_eq_true (by omega)) .plain <| RunK.nil <| LWP.condT rfl ?_; refine LWP.seq <| LWP.region (by kernel_rfl) <| kas rfl <| kas rfl <| kas rfl <| kas rfl <| RunK.nil <| LWP.ret ?_)
    exact ⟨[], ⟨[_, _, _, _], ⟨rfl, rfl, rfl, rfl, trivial⟩, rfl⟩, trivial, rfl, rfl⟩
  have h8 : fs.length ≤ 8 := by omega
  (refine LWP.seq <| LWP.region (by kernel_rfl) <| kas rfl <| kas rfl <| kas rfl <| kas rfl <| RunK.nil <| LWP.seq <| LWP.seq <| LWP.region (by kernel_rfl) <| kmv rfl <| K.lenX rfl SliceT.h rfl .plain ?_; refine K.gtr rfl rfl (decide_eq_false (by omega)) .plain <| RunK.nil <| LWP.condF rfl ?_; refine LWP.skip ?_; refine LWP.seq <| LWP.region (by kernel_rfl) <| K.buildSlc (zs := []) (sz := 2) (e := 106) (by kernel_rfl) rfl rfl rfl rfl rfl rfl .plain <| kas rfl <| RunK.nil <| LWP.seq <| LWP.region (by kernel_rfl) <| K.buildSlc (zs := []) (sz := 1) (e := 3) (by kernel_rfl) rfl rfl rfl rfl rfl rfl .plain <| kas rfl <| RunK.nil <| LWP.seq <| LWP.region (by kernel_rfl) <| kas rfl <| RunK.nil ?_; refine LWP.seq <| LWP.region (by kernel_rfl) <| kas rfl <| RunK.nil <| LWP.seq <| LWP.seq <| LWP.region (by kernel_rfl) <| kas rfl <| RunK.nil <| LWP.block ?_)
  refine LWP.loop (fun m σ => ∃ i : Nat, i ≤ fs.length ∧ m = fs.length - i ∧ (fs.take i).all Fl.ok = true ∧ σ = ⟨[(0, Lx ad fs.length cap), (6, .sv (.one (.slc 500 0 (elemsAt 0 (fs.take i)).length 2))), (7, .sv (.one (.slc 501 0 i 1))), (8, Ln .i64 (endAt 0 (fs.take i) : Nat)), (9, Ln .i64 (greatW (fs.take i) : Nat)), (10, Ln .i64 (i : Nat))], [(500, some ⟨106, (elVs (elemsAt 0 (fs.take i))).map .val, Nat.blt 0 (elemsAt 0 (fs.take i)).length⟩), (501, some ⟨3, (ntV (startsAt 0 (fs.take i))).map .val, Nat.blt 0 i⟩)], X⟩) fs.length
    ⟨_, Le.ofR [(500, 17), (501, 18)] (by exact ⟨rfl, rfl, rfl, rfl, rfl, rfl, trivial⟩) (by repeat' (first | exact trivial | refine And.intro ⟨_, rfl, ?_⟩ ?_ | refine And.intro ⟨_, rfl⟩ ?_ | rfl | exact Box.ren_bytes _ _ _ _ | exact Box.ren_vals _ _ _ _ | exact Box.ren_mid rfl)) (by exact rfl) (by exact rfl) (by repeat' (first | refine all_cons_true ?_ ?_ | rfl | exact bytes_inUse | exact vals_inUse | exact mid_inUse rfl)) (by exact rfl) (by exact rfl), 0, by omega, by omega, rfl, rfl⟩ ?_
  rintro m σ ⟨i, hi, rfl, hall, rfl⟩
  have hEl := elems_len (fs.take i) 0 hall
  have hSl := starts_len (fs.take i) 0
  have hend := end_le (fs.take i) 0 hall
  have hgw := great_wd (fs.take i) hall
  have htl : (fs.take i).length = i := by rw [List.length_take]; omega
  rw [htl] at hEl hSl hend
  by_cases hlt : i < fs.length
  · obtain ⟨f, hf⟩ : ∃ f, fs[i]? = some f := ⟨_, List.getElem?_eq_getElem hlt⟩
    obtain ⟨blk, off, arr, el, fr, rfl, hX, hsz, hcells⟩ := hin.at hf
    have hio : off + Int.toNat (i : Int) * 3 = off + i * 3 := by simp
    have hmem : f ∈ fs := List.mem_of_getElem? hf
    have hsm := hin.small f hmem
    have hB := refBytes_spec X f.kind
    have hE : elemsAt 0 (fs.take (i + 1)) = elemsAt 0 (fs.take i) ++ (List.range f.n).map (fun j => (f.kind, roundUp (endAt 0 (fs.take i)) f.w + f.w * j)) := by rw [take_snoc hf, elems_snoc]
    have hS : startsAt 0 (fs.take (i + 1)) = startsAt 0 (fs.take i) ++ [roundUp (endAt 0 (fs.take i)) f.w] := by rw [take_snoc hf, starts_snoc]
    have hA : endAt 0 (fs.take (i + 1)) = roundUp (endAt 0 (fs.take i)) f.w + f.w * f.n := by rw [take_snoc hf, end_snoc]
    have hG : greatW (fs.take (i + 1)) = max (greatW (fs.take i)) f.w := by rw [take_snoc hf, great_snoc]
    cases hok : f.ok with
    | false =>
      have hbad := layErr_bad h8 hmem hok
      unfold layR layBx
      rw [hbad, if_neg (by decide), if_neg (by decide)]
      clear hE hS hA hG
      generalize elemsAt 0 (fs.take i) = E at *
      generalize startsAt 0 (fs.take i) = S at *
      generalize endAt 0 (fs.take i) = a at *
      generalize greatW (fs.take i) = g at *
      by_cases h0 : kW f.kind = 0
      · rw [h0] at hB
        (refine LWP.seq <| LWP.seq <| LWP.region (by kernel_rfl) <| kmv rfl <| kmv rfl <| K.lenX rfl SliceT.h rfl .plain ?_; refine klt rfl rfl (decide_eq_true (by omega)) <| RunK.nil <| LWP.condT rfl ?_; refine LWP.skip ?_; refine LWP.seq <| LWP.block <| LWP.seq <| LWP.region (by kernel_rfl) <| kmv rfl <| kmv rfl <| K.indexX rfl rfl SliceT.h (by omega) hio .plain <| K.loadXagg rfl hX (by kernel_rfl) hsz hcells .plain <| K.alloc rfl .plain ?_; refine K.storeAll rfl rfl rfl rfl rfl rfl .plain ?_; refine RunK.nil <| LWP.seq <| LWP.region (by kernel_rfl) <| kfa rfl rfl ?_; refine kl1 rfl rfl rfl <| kca rfl rfl (hB) <| kas rfl <| RunK.nil <| LWP.seq <| LWP.seq <| LWP.region (by kernel_rfl) <| kmv rfl <| keq rfl rfl (beq_iff_eq.2 (by omega)) <| kmv rfl <| RunK.passed rfl rfl rfl <| RunK.passed rfl rfl rfl <| RunK.passed rfl rfl rfl <| kpt rfl rfl ?_; refine kmv rfl <| RunK.passed rfl rfl rfl <| RunK.passed rfl rfl rfl <| RunK.passed rfl rfl rfl <| kpt rfl rfl <| RunK.nil <| LWP.condT rfl ?_; refine LWP.seq <| LWP.region (by kernel_rfl) <| kas rfl <| kas rfl <| kas rfl <| kas rfl <| RunK.nil <| LWP.ret ?_)
        exact ⟨[], ⟨[_, _, _, _], ⟨rfl, rfl, rfl, rfl, trivial⟩, rfl⟩, trivial, rfl, rfl⟩
      · have hk : kK f.kind = true := by
          cases e : kK f.kind with
          | true => rfl
          | false => exact absurd ((kW_zero f.kind).2 e) h0
        by_cases h1 : f.count < 1
        · (refine LWP.seq <| LWP.seq <| LWP.region (by kernel_rfl) <| kmv rfl <| kmv rfl <| K.lenX rfl SliceT.h rfl .plain ?_; refine klt rfl rfl (decide_eq_true (by omega)) <| RunK.nil <| LWP.condT rfl ?_; refine LWP.skip ?_; refine LWP.seq <| LWP.block <| LWP.seq <| LWP.region (by kernel_rfl) <| kmv rfl <| kmv rfl <| K.indexX rfl rfl SliceT.h (by omega) hio .plain <| K.loadXagg rfl hX (by kernel_rfl) hsz hcells .plain <| K.alloc rfl .plain ?_; refine K.storeAll rfl rfl rfl rfl rfl rfl .plain ?_; refine RunK.nil <| LWP.seq <| LWP.region (by kernel_rfl) <| kfa rfl rfl ?_; refine kl1 rfl rfl rfl <| kca rfl rfl (hB) <| kas rfl <| RunK.nil <| LWP.seq <| LWP.seq <| LWP.region (by kernel_rfl) <| kmv rfl <| keq rfl rfl (beq_eq_false_iff_ne.2 (by omega)) <| kmv rfl <| K.fieldAddr rfl rfl (.taken rfl rfl) ?_; refine K.loadOne rfl rfl rfl (.taken rfl rfl) ?_; refine K.lss rfl rfl (decide_eq_true (by omega)) (.taken rfl rfl) ?_; refine kpf rfl rfl <| kmv rfl <| RunK.passed rfl rfl rfl <| RunK.passed rfl rfl rfl <| RunK.passed rfl rfl rfl <| kpt rfl rfl <| RunK.nil <| LWP.condT rfl ?_; refine LWP.seq <| LWP.region (by kernel_rfl) <| kas rfl <| kas rfl <| kas rfl <| kas rfl <| RunK.nil <| LWP.ret ?_)
          exact ⟨[], ⟨[_, _, _, _], ⟨rfl, rfl, rfl, rfl, trivial⟩, rfl⟩, trivial, rfl, rfl⟩
        · have h2 : 8 < f.count := by
            unfold Fl.ok at hok
            rw [hk, decide_eq_true (show 1 ≤ f.count by omega)] at hok
            simpa using hok
          (refine LWP.seq <| LWP.seq <| LWP.region (by kernel_rfl) <| kmv rfl <| kmv rfl <| K.lenX rfl SliceT.h rfl .plain ?_; refine klt rfl rfl (decide_eq_true (by omega)) <| RunK.nil <| LWP.condT rfl ?_; refine LWP.skip ?_; refine LWP.seq <| LWP.block <| LWP.seq <| LWP.region (by kernel_rfl) <| kmv rfl <| kmv rfl <| K.indexX rfl rfl SliceT.h (by omega) hio .plain <| K.loadXagg rfl hX (by kernel_rfl) hsz hcells .plain <| K.alloc rfl .plain ?_; refine K.storeAll rfl rfl rfl rfl rfl rfl .plain ?_; refine RunK.nil <| LWP.seq <| LWP.region (by kernel_rfl) <| kfa rfl rfl ?_; refine kl1 rfl rfl rfl <| kca rfl rfl (hB) <| kas rfl <| RunK.nil <| LWP.seq <| LWP.seq <| LWP.region (by kernel_rfl) <| kmv rfl <| keq rfl rfl (beq_eq_false_iff_ne.2 (by omega)) <| kmv rfl <| K.fieldAddr rfl rfl (.taken rfl rfl) ?_; refine K.loadOne rfl rfl rfl (.taken rfl rfl) ?_; refine K.lss rfl rfl (decide_eq_false (by omega)) (.taken rfl rfl) ?_; refine kpf rfl rfl <| kmv rfl <| K.fieldAddr rfl rfl (.taken rfl rfl) ?_; refine K.loadOne rfl rfl rfl (.taken rfl rfl) ?_; refine K.gtr rfl rfl (decide_eq_true (by omega)) (.taken rfl rfl) ?_; refine kpf rfl rfl <| RunK.nil <| LWP.condT rfl ?_; refine LWP.seq <| LWP.region (by kernel_rfl) <| kas rfl <| kas rfl <| kas rfl <| kas rfl <| RunK.nil <| LWP.ret ?_)
          exact ⟨[], ⟨[_, _, _, _], ⟨rfl, rfl, rfl, rfl, trivial⟩, rfl⟩, trivial, rfl, rfl⟩
    | true =>
      have hall' := take_all hall hf hok
      obtain ⟨hw, hn1, hn8, hnc⟩ := ok_w hok
      have hR := round_facts hw (endAt 0 (fs.take i))
      have hwk : kW f.kind = f.w := rfl
      have hw8 : 1 ≤ f.w ∧ f.w ≤ 8 := by rcases hw with e | e | e | e <;> omega
      have hg8 : greatW (fs.take i) ≤ 8 := by rcases hgw with e | e | e | e <;> omega
      rw [hwk] at hB
      generalize elemsAt 0 (fs.take i) = E at *
      generalize startsAt 0 (fs.take i) = S at *
      generalize endAt 0 (fs.take i) = a at *
      generalize greatW (fs.take i) = g at *
      have hfc : f.vals.map CV.val = [.val (.string ⟨f.nm.toArray⟩), .val (.int .i64 f.kind), .val (.int .i64 (f.n : Nat))] := by rw [hnc]; rfl
      rw [hfc] at hcells
      generalize f.w = w at *
      generalize hT : roundUp a w = T at *
      generalize f.n = n at *
      (refine LWP.seq <| LWP.seq <| LWP.region (by kernel_rfl) <| kmv rfl <| kmv rfl <| K.lenX rfl SliceT.h rfl .plain ?_; refine klt rfl rfl (decide_eq_true (by omega)) <| RunK.nil <| LWP.condT rfl ?_; refine LWP.skip ?_; refine LWP.seq <| LWP.block <| LWP.seq <| LWP.region (by kernel_rfl) <| kmv rfl <| kmv rfl <| K.indexX rfl rfl SliceT.h (by omega) hio .plain <| K.loadXagg rfl hX (by kernel_rfl) hsz hcells .plain <| K.alloc rfl .plain ?_; refine K.storeAll rfl rfl rfl rfl rfl rfl .plain ?_; refine RunK.nil <| LWP.seq <| LWP.region (by kernel_rfl) <| kfa rfl rfl ?_; refine kl1 rfl rfl rfl <| kca rfl rfl (hB) <| kas rfl <| RunK.nil <| LWP.seq <| LWP.seq <| LWP.region (by kernel_rfl) <| kmv rfl <| keq rfl rfl (beq_eq_false_iff_ne.2 (by omega)) <| kmv rfl <| K.fieldAddr rfl rfl (.taken rfl rfl) ?_; refine K.loadOne rfl rfl rfl (.taken rfl rfl) ?_; refine K.lss rfl rfl (decide_eq_false (by omega)) (.taken rfl rfl) ?_; refine kpf rfl rfl <| kmv rfl <| K.fieldAddr rfl rfl (.taken rfl rfl) ?_; refine K.loadOne rfl rfl rfl (.taken rfl rfl) ?_; refine K.gtr rfl rfl (decide_eq_false (by omega)) (.taken rfl rfl) ?_; refine kpf rfl rfl <| RunK.nil <| LWP.condF rfl ?_; refine LWP.skip ?_; refine LWP.seq <| LWP.seq ?_)
      generalize hmx : max g w = mx at *
      refine LWP.cut (fun σ => σ = ⟨[(0, Lx (some ⟨blk, off, none⟩) fs.length cap), (6, .sv (.one (.slc 500 0 (E.length) 2))), (7, .sv (.one (.slc 501 0 (i) 1))), (8, Ln .i64 (a : Nat)), (9, Ln .i64 (mx : Nat)), (10, Ln .i64 (i : Nat)), (11, .sv (.one (.ptr 11 0))), (12, Ln .i64 (w : Nat))], [(500, some ⟨106, (elVs E).map .val, Nat.blt 0 E.length⟩), (501, some ⟨3, (ntV (S)).map .val, Nat.blt 0 i⟩), (11, some ⟨57, [.val (.string ⟨f.nm.toArray⟩), .val (.int .i64 f.kind), .val (.int .i64 (n : Nat))], false⟩)], X⟩) ?_ ?_
      · by_cases hgl : g < w
        · have e : mx = w := by omega
          (refine LWP.region (by kernel_rfl) <| kmv rfl <| kmv rfl <| K.gtr rfl rfl (decide_eq_true (by omega)) .plain <| RunK.nil <| LWP.condT rfl ?_; refine LWP.region (by kernel_rfl) <| kmv rfl <| kas rfl <| RunK.nil ?_)
          exact ⟨_, Le.of (by exact ⟨rfl, rfl, rfl, rfl, by rw [e]; rfl, rfl, rfl, rfl, trivial⟩) (by exact ⟨rfl, rfl, rfl, trivial⟩) (by exact rfl) (by exact rfl) (by repeat' (first | refine all_cons_true ?_ ?_ | rfl | exact bytes_inUse | exact vals_inUse | exact mid_inUse rfl)), rfl⟩
        · have e : mx = g := by omega
          (refine LWP.region (by kernel_rfl) <| kmv rfl <| kmv rfl <| K.gtr rfl rfl (decide_eq_false (by omega)) .plain <| RunK.nil <| LWP.condF rfl ?_; refine LWP.skip ?_)
          exact ⟨_, Le.of (by exact ⟨rfl, rfl, rfl, rfl, by rw [e]; rfl, rfl, rfl, rfl, trivial⟩) (by exact ⟨rfl, rfl, rfl, trivial⟩) (by exact rfl) (by exact rfl) (by repeat' (first | refine all_cons_true ?_ ?_ | rfl | exact bytes_inUse | exact vals_inUse | exact mid_inUse rfl)), rfl⟩
      rintro σ rfl
      (refine LWP.seq <| LWP.block ?_)
      refine LWP.loop (fun m σ => ∃ b : Nat, a ≤ b ∧ b ≤ T ∧ m = T - b ∧ σ = ⟨[(0, Lx (some ⟨blk, off, none⟩) fs.length cap), (6, .sv (.one (.slc 500 0 (E.length) 2))), (7, .sv (.one (.slc 501 0 (i) 1))), (8, Ln .i64 (b : Nat)), (9, Ln .i64 (mx : Nat)), (10, Ln .i64 (i : Nat)), (11, .sv (.one (.ptr 11 0))), (12, Ln .i64 (w : Nat))], [(500, some ⟨106, (elVs E).map .val, Nat.blt 0 E.length⟩), (501, some ⟨3, (ntV (S)).map .val, Nat.blt 0 i⟩), (11, some ⟨57, [.val (.string ⟨f.nm.toArray⟩), .val (.int .i64 f.kind), .val (.int .i64 (n : Nat))], false⟩)], X⟩) (T - a)
        ⟨_, Le.of (by exact ⟨rfl, rfl, rfl, rfl, rfl, rfl, rfl, rfl, trivial⟩) (by exact ⟨rfl, rfl, rfl, trivial⟩) (by exact rfl) (by exact rfl) (by repeat' (first | refine all_cons_true ?_ ?_ | rfl | exact bytes_inUse | exact vals_inUse | exact mid_inUse rfl)), a, Nat.le_refl _, hR.2.1, rfl, rfl⟩ ?_
      rintro m σ ⟨b, hb1, hb2, rfl, rfl⟩
      have hrem : ((b : Nat) : Int).tmod ((w : Nat) : Int) = ((b % w : Nat) : Int) := by rw [Int.tmod_eq_emod_of_nonneg (by omega)]; exact (Int.natCast_emod b w).symm
      by_cases hz : b % w = 0
      · have hbT := hR.2.2.2 b hb1 hb2 hz
        subst hbT
        rw [hz] at hrem
        have hcl : ((ntV S).map CV.val).length = i * 1 := by simp [ntV, hSl]
        have hnc1 : (ntV S).map CV.val ++ [.val (.int .i64 (b : Nat))] = (ntV (S ++ [b])).map CV.val := by simp [ntV]
        (refine LWP.seq <| LWP.seq <| LWP.region (by kernel_rfl) <| kmv rfl <| kmv rfl <| K.rem rfl rfl (by omega) hrem .plain <| kne rfl rfl ((bne_eq_false_iff_eq.2 (by omega))) <| RunK.nil <| LWP.condF rfl ?_; refine LWP.exit <| LWP.seq <| LWP.region (by kernel_rfl) <| kmv rfl <| kmv rfl <| K.buildSlc (zs := [.int .i64 0]) (sz := 1) (e := 3) (by kernel_rfl) rfl rfl rfl rfl rfl rfl .plain <| K.appendSlc (by_ := 8) (e2 := 3) (l2 := [.val (.int .i64 (b : Nat))]) rfl rfl hcl rfl rfl (Nat.le_refl _) rfl rfl (by kernel_rfl) (by kernel_rfl) (by omega) (by omega) rfl rfl hnc1 .plain <| kas rfl <| RunK.nil <| LWP.seq <| LWP.region (by kernel_rfl) <| kas rfl <| RunK.nil <| LWP.block ?_)
        refine LWP.loop (fun m σ => ∃ j : Nat, j ≤ n ∧ m = n - j ∧ σ = ⟨[(0, Lx (some ⟨blk, off, none⟩) fs.length cap), (6, .sv (.one (.slc 500 0 (E.length + j) 2))), (7, .sv (.one (.slc 501 0 (i + 1) 1))), (8, Ln .i64 (b + w * j : Nat)), (9, Ln .i64 (mx : Nat)), (10, Ln .i64 (i : Nat)), (11, .sv (.one (.ptr 11 0))), (12, Ln .i64 (w : Nat)), (13, Ln .i64 (j : Nat))], [(500, some ⟨106, (elVs (E ++ (List.range j).map (fun q => (f.kind, b + w * q)))).map .val, Nat.blt 0 (E.length + j)⟩), (501, some ⟨3, (ntV (S ++ [b])).map .val, true⟩), (11, some ⟨57, [.val (.string ⟨f.nm.toArray⟩), .val (.int .i64 f.kind), .val (.int .i64 (n : Nat))], false⟩)], X⟩) n
          ⟨_, Le.ofR [(501, 57)] (by exact ⟨rfl, rfl, rfl, rfl, rfl, rfl, rfl, rfl, rfl, trivial⟩) (by rw [List.range_zero, List.map_nil, List.append_nil]; exact (by repeat' (first | exact trivial | refine And.intro ⟨_, rfl, ?_⟩ ?_ | refine And.intro ⟨_, rfl⟩ ?_ | rfl | exact Box.ren_bytes _ _ _ _ | exact Box.ren_vals _ _ _ _ | exact Box.ren_mid rfl))) (by exact rfl) (by exact rfl) (by repeat' (first | refine all_cons_true ?_ ?_ | rfl | exact bytes_inUse | exact vals_inUse | exact mid_inUse rfl)) (by exact rfl) (by exact rfl), 0, by omega, rfl, rfl⟩ ?_
        rintro m σ ⟨j, hj, rfl, rfl⟩
        have hwj : w * j ≤ 64 := Nat.le_trans (Nat.mul_le_mul hw8.2 (Nat.le_trans hj hn8)) (by decide)
        by_cases hjn : j < n
        · have hrg : (List.range (j + 1)).map (fun q => (f.kind, b + w * q)) = (List.range j).map (fun q => (f.kind, b + w * q)) ++ [(f.kind, b + w * j)] := by rw [List.range_succ, List.map_append]; rfl
          have hcl2 : ((elVs (E ++ (List.range j).map (fun q => (f.kind, b + w * q)))).map CV.val).length = (E.length + j) * 2 := by rw [List.length_map, elVs_len]; simp
          have hnc2 : (elVs (E ++ (List.range j).map (fun q => (f.kind, b + w * q)))).map CV.val ++ [.val (.int .i64 f.kind), .val (.int .i64 (b + w * j : Nat))] = (elVs (E ++ (List.range (j + 1)).map (fun q => (f.kind, b + w * q)))).map CV.val := by
            rw [hrg, ← List.append_assoc, elVs_app (E ++ _) [_], List.map_append]
            rfl
          have hadd : ((b + w * j : Nat) : Int) + ((w : Nat) : Int) = ((b + w * (j + 1) : Nat) : Int) := by rw [Nat.mul_add, Nat.mul_one]; omega
          have hwr : IntKind.i64.wrap (((b + w * j : Nat) : Int) + ((w : Nat) : Int)) = ((b + w * (j + 1) : Nat) : Int) := by rw [wrap_i64 (by omega)]; exact hadd
          (refine LWP.seq <| LWP.seq <| LWP.region (by kernel_rfl) <| kmv rfl <| kfa rfl rfl ?_; refine kl1 rfl rfl rfl <| klt rfl rfl (decide_eq_true (by omega)) <| RunK.nil <| LWP.condT rfl ?_; refine LWP.skip ?_; refine LWP.seq <| LWP.block <| LWP.seq <| LWP.region (by kernel_rfl) <| kmv rfl <| kfa rfl rfl ?_; refine kl1 rfl rfl rfl <| kmv rfl <| K.build rfl rfl (by exact rfl) (by exact nl2 rfl rfl rfl) .plain ?_; refine K.buildSlc (zs := [.int .i64 0, .int .i64 0]) (sz := 2) (e := 106) (by kernel_rfl) rfl rfl rfl rfl rfl rfl .plain <| K.appendSlc (by_ := 16) (e2 := 106) (l2 := [.val (.int .i64 f.kind), .val (.int .i64 (b + w * j : Nat))]) (nl := E.length + (j + 1)) rfl rfl hcl2 rfl rfl (Nat.le_refl _) rfl rfl (by kernel_rfl) (by kernel_rfl) (by omega) (by omega) rfl rfl hnc2 .plain <| kas rfl <| RunK.nil <| LWP.region (by kernel_rfl) <| kmv rfl <| kmv rfl <| kad rfl rfl hwr <| kas rfl <| RunK.nil <| LWP.region (by kernel_rfl) <| kmv rfl <| kad rfl rfl (wrap_i64 (by omega)) <| kas rfl ?_; refine RunK.nil ?_)
          exact ⟨_, _, by omega, Le.ofR [(500, 70)] (by exact ⟨rfl, rfl, rfl, rfl, rfl, rfl, rfl, rfl, rfl, trivial⟩) (by repeat' (first | exact trivial | refine And.intro ⟨_, rfl, ?_⟩ ?_ | refine And.intro ⟨_, rfl⟩ ?_ | rfl | exact Box.ren_bytes _ _ _ _ | exact Box.ren_vals _ _ _ _ | exact Box.ren_mid rfl)) (by exact rfl) (by exact rfl) (by repeat' (first | refine all_cons_true ?_ ?_ | rfl | exact bytes_inUse | exact vals_inUse | exact mid_inUse rfl)) (by exact rfl) (by exact rfl), j + 1, by omega, rfl, rfl⟩
        · have e : j = n := by omega
          subst e
          have hEn : (E ++ (List.range j).map (fun q => (f.kind, b + w * q))).length = E.length + j := by simp
          (refine LWP.seq <| LWP.seq <| LWP.region (by kernel_rfl) <| kmv rfl <| kfa rfl rfl ?_; refine kl1 rfl rfl rfl <| klt rfl rfl (decide_eq_false (by omega)) <| RunK.nil <| LWP.condF rfl ?_; refine LWP.exit <| LWP.region (by kernel_rfl) <| kmv rfl <| kad rfl rfl (wrap_i64 (by omega)) <| kas rfl <| RunK.nil ?_)
          exact ⟨_, _, by omega, Le.ofR [] (by exact ⟨rfl, by rw [hE, hEn]; rfl, rfl, by rw [hA]; rfl, by rw [hG]; rfl, rfl, trivial⟩) (by rw [hE, hS, hEn]; exact (by repeat' (first | exact trivial | refine And.intro ⟨_, rfl, ?_⟩ ?_ | refine And.intro ⟨_, rfl⟩ ?_ | rfl | exact Box.ren_bytes _ _ _ _ | exact Box.ren_vals _ _ _ _ | exact Box.ren_mid rfl))) (by exact rfl) (by exact rfl) (by repeat' (first | refine all_cons_true ?_ ?_ | rfl | exact bytes_inUse | exact vals_inUse | exact mid_inUse rfl)) (by exact rfl) (by exact rfl), i + 1, by omega, rfl, hall', rfl⟩
      · have hbT : b ≠ T := fun e => hz (by rw [e]; exact hR.1)
        (refine LWP.seq <| LWP.seq <| LWP.region (by kernel_rfl) <| kmv rfl <| kmv rfl <| K.rem rfl rfl (by omega) hrem .plain <| kne rfl rfl (bne_iff_ne.2 (by omega)) <| RunK.nil <| LWP.condT rfl ?_; refine LWP.skip ?_; refine LWP.block <| LWP.region (by kernel_rfl) <| kmv rfl <| kad rfl rfl (wrap_i64 (by omega)) <| kas rfl <| RunK.nil ?_)
        exact ⟨_, _, by omega, Le.of (by exact ⟨rfl, rfl, rfl, rfl, rfl, rfl, rfl, rfl, trivial⟩) (by exact ⟨rfl, rfl, rfl, trivial⟩) (by exact rfl) (by exact rfl) (by repeat' (first | refine all_cons_true ?_ ?_ | rfl | exact bytes_inUse | exact vals_inUse | exact mid_inUse rfl)), b + 1, by omega, by omega, rfl, rfl⟩
  · have e : i = fs.length := by omega
    subst e
    rw [List.take_length] at *
    have hR := round_facts hgw (endAt 0 fs)
    have hg8 : 1 ≤ greatW fs ∧ greatW fs ≤ 8 := by rcases hgw with e | e | e | e <;> omega
    have hrs : roundUp (endAt 0 fs) (greatW fs) = rowSize fs := rfl
    have hle := layErr_all h8 hall
    (refine LWP.seq <| LWP.seq <| LWP.region (by kernel_rfl) <| kmv rfl <| kmv rfl <| K.lenX rfl SliceT.h rfl .plain ?_; refine klt rfl rfl (decide_eq_false (by omega)) <| RunK.nil <| LWP.condF rfl ?_; refine LWP.exit <| LWP.seq <| LWP.block ?_)
    refine LWP.loop (fun m σ => ∃ b : Nat, endAt 0 fs ≤ b ∧ b ≤ rowSize fs ∧ m = rowSize fs - b ∧ σ = ⟨[(6, .sv (.one (.slc 500 0 (elemsAt 0 fs).length 2))), (7, .sv (.one (.slc 501 0 fs.length 1))), (8, Ln .i64 (b : Nat)), (9, Ln .i64 (greatW fs : Nat))], [(500, some ⟨106, (elVs (elemsAt 0 fs)).map .val, Nat.blt 0 (elemsAt 0 fs).length⟩), (501, some ⟨3, (ntV (startsAt 0 fs)).map .val, Nat.blt 0 fs.length⟩)], X⟩) (rowSize fs - endAt 0 fs)
      ⟨_, Le.of (by exact ⟨rfl, rfl, rfl, rfl, trivial⟩) (by exact ⟨rfl, rfl, trivial⟩) (by exact rfl) (by exact rfl) (by repeat' (first | refine all_cons_true ?_ ?_ | rfl | exact bytes_inUse | exact vals_inUse | exact mid_inUse rfl)), endAt 0 fs, Nat.le_refl _, hR.2.1, rfl, rfl⟩ ?_
    rintro m σ ⟨b, hb1, hb2, rfl, rfl⟩
    rw [hrs] at hR
    unfold layR layBx
    rw [hle]
    generalize rowSize fs = T at *
    generalize endAt 0 fs = a at *
    generalize elemsAt 0 fs = E at *
    generalize startsAt 0 fs = S at *
    generalize greatW fs = w at *
    have hrem : ((b : Nat) : Int).tmod ((w : Nat) : Int) = ((b % w : Nat) : Int) := by rw [Int.tmod_eq_emod_of_nonneg (by omega)]; exact (Int.natCast_emod b w).symm
    by_cases hz : b % w = 0
    · have hbT := hR.2.2.2 b hb1 hb2 hz
      subst hbT
      rw [hz] at hrem
      by_cases h256 : 256 < b
      · rw [if_pos h256, if_neg (by decide), if_neg (by decide)]
        (refine LWP.seq <| LWP.seq <| LWP.region (by kernel_rfl) <| kmv rfl <| kmv rfl <| K.rem rfl rfl (by omega) hrem .plain <| kne rfl rfl ((bne_eq_false_iff_eq.2 (by omega))) <| RunK.nil <| LWP.condF rfl ?_; refine LWP.exit <| LWP.seq <| LWP.seq <| LWP.region (by kernel_rfl) <| kmv rfl <| K.gtr rfl rfl (decide_eq_true (by omega)) .plain <| RunK.nil <| LWP.condT rfl ?_; refine LWP.seq <| LWP.region (by kernel_rfl) <| kas rfl <| kas rfl <| kas rfl <| kas rfl <| RunK.nil <| LWP.ret ?_)
        exact ⟨[], ⟨[_, _, _, _], ⟨rfl, rfl, rfl, rfl, trivial⟩, rfl⟩, trivial, rfl, rfl⟩
      · rw [if_neg h256, if_pos rfl, if_pos rfl]
        (refine LWP.seq <| LWP.seq <| LWP.region (by kernel_rfl) <| kmv rfl <| kmv rfl <| K.rem rfl rfl (by omega) hrem .plain <| kne rfl rfl ((bne_eq_false_iff_eq.2 (by omega))) <| RunK.nil <| LWP.condF rfl ?_; refine LWP.exit <| LWP.seq <| LWP.seq <| LWP.region (by kernel_rfl) <| kmv rfl <| K.gtr rfl rfl (decide_eq_false (by omega)) .plain <| RunK.nil <| LWP.condF rfl ?_; refine LWP.skip ?_; refine LWP.seq <| LWP.region (by kernel_rfl) <| kmv rfl <| kmv rfl <| kmv rfl <| kas rfl <| kas rfl <| kas rfl <| kas rfl <| RunK.nil <| LWP.ret ?_)
        exact ⟨[(1000001, 500), (1000002, 501)], ⟨[_, _, _, _], ⟨rfl, rfl, rfl, rfl, trivial⟩, rfl⟩, (by repeat' (first | exact trivial | refine And.intro ⟨_, rfl, ?_⟩ ?_ | refine And.intro ⟨_, rfl⟩ ?_ | rfl | exact Box.ren_bytes _ _ _ _ | exact Box.ren_vals _ _ _ _ | exact Box.ren_mid rfl)), rfl, rfl⟩
    · have hbT : b ≠ T := fun e => hz (by rw [e]; exact hR.1)
      (refine LWP.seq <| LWP.seq <| LWP.region (by kernel_rfl) <| kmv rfl <| kmv rfl <| K.rem rfl rfl (by omega) hrem .plain <| kne rfl rfl (bne_iff_ne.2 (by omega)) <| RunK.nil <| LWP.condT rfl ?_; refine LWP.skip ?_; refine LWP.block <| LWP.region (by kernel_rfl) <| kmv rfl <| kad rfl rfl (wrap_i64 (by omega)) <| kas rfl <| RunK.nil ?_)
      exact ⟨_, _, by omega, Le.of (by exact ⟨rfl, rfl, rfl, rfl, trivial⟩) (by exact ⟨rfl, rfl, trivial⟩) (by exact rfl) (by exact rfl) (by repeat' (first | refine all_cons_true ?_ ?_ | rfl | exact bytes_inUse | exact vals_inUse | exact mid_inUse rfl)), b + 1, by omega, by omega, rfl, rfl⟩
end Go.Proofs.YtnomcmklhbjfjaaGreatDoor
end
section
namespace Go.Lg.Fld
open Go Go.Lg
theorem elVs_at : ∀ {l : List (Int × Nat)} {i : Nat} {e : Int × Nat}, l[i]? = some e → ((elVs l).map CV.val)[i * 2]? = some (.val (.int .i64 e.1)) ∧ ((elVs l).map CV.val)[i * 2 + 1]? = some (.val (.int .i64 (e.2 : Nat)))
  | [], i, e, h => by simp at h
  | d :: t, 0, e, h => by
    simp only [List.getElem?_cons_zero, Option.some.injEq] at h
    subst h
    exact ⟨rfl, rfl⟩
  | d :: t, i + 1, e, h => by
    have ih := elVs_at (l := t) (i := i) (e := e) (by simpa using h)
    have e1 : (elVs (d :: t)).map CV.val = .val (.int .i64 d.1) :: .val (.int .i64 (d.2 : Nat)) :: (elVs t).map CV.val := rfl
    rw [e1, Nat.add_mul, Nat.one_mul]
    exact ih
def nmV (n : Bool × Int) : List Value := [.bool n.1, .int .u64 (n.2 / 18446744073709551616), .int .u64 (n.2 % 18446744073709551616)]
end Go.Lg.Fld
namespace Go.Proofs.YtnomcmklhbjfjaaGreatDoor
open Go Go.Lg Go.Lg.Fld
set_option maxRecDepth 100000
variable (X : Nat → Option Obj)
structure NumsIn (X : Nat → Option Obj) (ad : Option Addr) (ns : List (Bool × Int)) : Prop where
  rows : Go.Lg.RowsIn X ad 3 (ns.map nmV)
  in2 : ∀ n ∈ ns, In2 n.2
theorem NumsIn.at {X : Nat → Option Obj} {ad : Option Addr} {ns : List (Bool × Int)} (h : NumsIn X ad ns) {i : Nat} {b : Bool} {N : Int} (hf : ns[i]? = some (b, N)) :
    In2 N ∧ ∃ (blk off : Nat) (arr : Array Value) (el : TypeId) (fr : Nat × Nat), ad = some ⟨blk, off, none⟩ ∧ X blk = some (.cells arr el fr) ∧ off + i * 3 + 3 ≤ arr.size ∧ ((arr.toList.drop (off + i * 3)).take 3).map CV.val = cI b N := by
  obtain ⟨blk, off, arr, el, fr, h1, h2, h3, h4⟩ := h.rows i (nmV (b, N)) (by rw [List.getElem?_map, hf]; rfl)
  exact ⟨h.in2 (b, N) (List.mem_of_getElem? hf), blk, off, arr, el, fr, h1, h2, h3, by rw [h4]; rfl⟩
theorem Lay_ok (ad : Option Addr) (cap : Nat) (fs : List Fl) (hin : FieldsIn X ad fs) (hbig : fs.length < 4611686018427387904) (h : layErr fs = 0) :
    MSpec Tryz.prog X 28 [Lx ad fs.length cap] [] (.tup [.one (.slc 1000001 0 (elemsAt 0 fs).length 2), Sn .i64 (rowSize fs : Nat), .one (.slc 1000002 0 fs.length 1), Sn .i64 0])
      [(1000001, some ⟨106, (elVs (elemsAt 0 fs)).map .val, Nat.blt 0 (elemsAt 0 fs).length⟩), (1000002, some ⟨3, (ntV (startsAt 0 fs)).map .val, Nat.blt 0 fs.length⟩)] := by
  have := Lay_spec X ad cap fs hin hbig
  unfold layR layBx at this
  rw [if_pos h, if_pos h] at this
  exact this
theorem Lay_no (ad : Option Addr) (cap : Nat) (fs : List Fl) (hin : FieldsIn X ad fs) (hbig : fs.length < 4611686018427387904) (h : layErr fs ≠ 0) :
    MSpec Tryz.prog X 28 [Lx ad fs.length cap] [] (.tup [Vnil, Sn .i64 0, Vnil, Sn .i64 (layErr fs)]) [] := by
  have := Lay_spec X ad cap fs hin hbig
  unfold layR layBx at this
  rw [if_neg h, if_neg h] at this
  exact this
theorem layErr_facts {fs : List Fl} (h : layErr fs = 0) : fs.length ≤ 8 ∧ fs.all Fl.ok = true ∧ rowSize fs ≤ 256 := by
  unfold layErr at h
  split at h
  · cases h
  · split at h
    · split at h
      · cases h
      · rename_i h1 h2 h3; exact ⟨by omega, h2, by omega⟩
    · cases h
def fitAll (es : List (Int × Nat)) (ns : List (Bool × Int)) : Bool := (es.zip ns).all fun p => fitB p.1.1 p.2.1 p.2.2
def fitErr (fs : List Fl) (ns : List (Bool × Int)) : Int := if layErr fs = 0 then (if (elemsAt 0 fs).length = ns.length then (if fitAll (elemsAt 0 fs) ns = true then 0 else 3) else 4) else layErr fs
theorem zip_at {α β : Type} {es : List α} {ns : List β} {i : Nat} {e : α} {n : β} (h1 : es[i]? = some e) (h2 : ns[i]? = some n) : (es.zip ns)[i]? = some (e, n) := List.getElem?_zip_eq_some.2 ⟨h1, h2⟩
set_option maxHeartbeats 1600000 in
theorem refFit_spec (ad ad2 : Option Addr) (cap cap2 : Nat) (fs : List Fl) (ns : List (Bool × Int)) (hin : FieldsIn X ad fs) (hbig : fs.length < 4611686018427387904) (hns : NumsIn X ad2 ns) (hnb : ns.length < 4611686018427387904) :
    PSpec Tryz.prog X 78 [Lx ad fs.length cap, Lx ad2 ns.length cap2] (Ln .i64 (fitErr fs ns)) := by
  refine PSpec.intro Tryz.func78 rfl (by kernel_rfl) rfl rfl ?_
  intro C
  unfold fitErr
  by_cases hl : layErr fs = 0
  · have hL := Lay_ok X ad cap fs hin hbig hl
    obtain ⟨h8, hall, _⟩ := layErr_facts hl
    have hEl := elems_len fs 0 hall
    rw [if_pos hl]
    generalize elemsAt 0 fs = E at *
    generalize startsAt 0 fs = S at *
    generalize rowSize fs = T at *
    by_cases hn : E.length = ns.length
    · rw [if_pos hn]
      (refine LWP.seq <| LWP.region (by kernel_rfl) <| kas rfl <| RunK.nil <| LWP.seq <| LWP.region (by kernel_rfl) <| kmv rfl <| K.callMp [(1000001, 501), (1000002, 502)] (.tup [.one (.slc 501 0 E.length 2), Sn .i64 (T : Nat), .one (.slc 502 0 fs.length 1), Sn .i64 0]) [(501, some ⟨106, (elVs E).map .val, Nat.blt 0 E.length⟩), (502, some ⟨3, (ntV S).map .val, Nat.blt 0 fs.length⟩)] (hL) rfl rfl (by exact trivial) rfl rfl rfl rfl rfl (by exact (.box rfl (Box.ren_vals _ _ _ _) (.box rfl (Box.ren_vals _ _ _ _) .nil))) .plain <| kmv rfl <| kex rfl rfl <| kex rfl rfl <| kex rfl rfl <| kex rfl rfl <| kas rfl ?_; refine kas rfl <| kas rfl <| kas rfl <| RunK.nil <| LWP.seq <| LWP.seq <| LWP.region (by kernel_rfl) <| kmv rfl <| kne rfl rfl ((bne_eq_false_iff_eq.2 (by omega))) <| RunK.nil <| LWP.condF rfl ?_; refine LWP.skip ?_; refine LWP.seq <| LWP.seq <| LWP.region (by kernel_rfl) <| kmv rfl <| K.lenSlc rfl SliceT.h rfl .plain ?_; refine kmv rfl <| K.lenX rfl SliceT.h rfl .plain ?_; refine kne rfl rfl ((bne_eq_false_iff_eq.2 (by omega))) <| RunK.nil <| LWP.condF rfl ?_; refine LWP.skip ?_; refine LWP.seq <| LWP.seq <| LWP.region (by kernel_rfl) <| kas rfl <| RunK.nil <| LWP.block ?_)
      refine LWP.loop (fun m σ => ∃ i : Nat, i ≤ E.length ∧ m = E.length - i ∧ ((E.zip ns).take i).all (fun p => fitB p.1.1 p.2.1 p.2.2) = true ∧ σ = ⟨[(1, Lx ad2 ns.length cap2), (5, .sv (.one (.slc 501 0 E.length 2))), (9, Ln .i64 (i : Nat))], [(501, some ⟨106, (elVs E).map .val, Nat.blt 0 E.length⟩)], X⟩) E.length
        ⟨_, Le.of (by exact ⟨rfl, rfl, rfl, trivial⟩) (by exact ⟨rfl, trivial⟩) (by exact rfl) (by exact rfl) (by repeat' (first | refine all_cons_true ?_ ?_ | rfl | exact bytes_inUse | exact vals_inUse | exact mid_inUse rfl)), 0, by omega, rfl, rfl, rfl⟩ ?_
      rintro m σ ⟨i, hi, rfl, hpre, rfl⟩
      by_cases hlt : i < E.length
      · obtain ⟨e, he⟩ : ∃ e, E[i]? = some e := ⟨_, List.getElem?_eq_getElem hlt⟩
        obtain ⟨⟨b, N⟩, hv⟩ : ∃ v, ns[i]? = some v := ⟨_, List.getElem?_eq_getElem (by omega)⟩
        obtain ⟨hN, blk, off, arr, el, fr, rfl, hX, hsz, hcells⟩ := hns.at hv
        have hio : off + Int.toNat (i : Int) * 3 = off + i * 3 := by simp
        have hie : 0 + Int.toNat (i : Int) * 2 = i * 2 := by simp
        have hc := (elVs_at he).1
        have hzip := zip_at he hv
        have hF := refFits_spec X e.1 b N hN
        cases hf : fitB e.1 b N with
        | true =>
          have hF' := hF true hf
          (refine LWP.seq <| LWP.seq <| LWP.region (by kernel_rfl) <| kmv rfl <| kmv rfl <| K.lenSlc rfl SliceT.h rfl .plain ?_; refine klt rfl rfl (decide_eq_true (by omega)) <| RunK.nil <| LWP.condT rfl ?_; refine LWP.skip ?_; refine LWP.seq <| LWP.block <| LWP.seq <| LWP.draws mixed (by kernel_rfl) <| kmv rfl <| kmv rfl <| K.indexSlc rfl rfl (by omega) hie .plain ?_; refine kfa rfl rfl ?_; refine kl1 rfl rfl hc <| kmv rfl <| kmv rfl <| K.indexX rfl rfl SliceT.h (by omega) hio .plain <| K.loadXagg rfl hX (by kernel_rfl) hsz hcells .plain <| kca rfl rfl (hF') <| K.not rfl rfl .plain <| RunK.nil <| And.intro (by kernel_rfl) ?_; refine LWP.condF rfl ?_; refine LWP.skip ?_; refine LWP.region (by kernel_rfl) <| kmv rfl <| kad rfl rfl (wrap_i64 (by omega)) <| kas rfl <| RunK.nil ?_)
          exact ⟨_, _, by omega, Le.of (by exact ⟨rfl, rfl, rfl, trivial⟩) (by exact ⟨rfl, trivial⟩) (by exact rfl) (by exact rfl) (by repeat' (first | refine all_cons_true ?_ ?_ | rfl | exact bytes_inUse | exact vals_inUse | exact mid_inUse rfl)), i + 1, by omega, rfl, by rw [take_snoc hzip, List.all_append, hpre]; simp [hf], rfl⟩
        | false =>
          have hF' := hF false hf
          have hno : fitAll E ns = false := by
            unfold fitAll
            cases h : (E.zip ns).all (fun p => fitB p.1.1 p.2.1 p.2.2) with
            | false => rfl
            | true => have := List.all_eq_true.1 h _ (List.mem_of_getElem? hzip); rw [hf] at this; cases this
          rw [hno]
          (refine LWP.seq <| LWP.seq <| LWP.region (by kernel_rfl) <| kmv rfl <| kmv rfl <| K.lenSlc rfl SliceT.h rfl .plain ?_; refine klt rfl rfl (decide_eq_true (by omega)) <| RunK.nil <| LWP.condT rfl ?_; refine LWP.skip ?_; refine LWP.seq <| LWP.block <| LWP.seq <| LWP.draws mixed (by kernel_rfl) <| kmv rfl <| kmv rfl <| K.indexSlc rfl rfl (by omega) hie .plain ?_; refine kfa rfl rfl ?_; refine kl1 rfl rfl hc <| kmv rfl <| kmv rfl <| K.indexX rfl rfl SliceT.h (by omega) hio .plain <| K.loadXagg rfl hX (by kernel_rfl) hsz hcells .plain <| kca rfl rfl (hF') <| K.not rfl rfl .plain <| RunK.nil <| And.intro (by kernel_rfl) ?_; refine LWP.condT rfl ?_; refine LWP.seq <| LWP.region (by kernel_rfl) <| kas rfl <| RunK.nil <| LWP.ret ?_)
          exact ⟨[_], ⟨rfl, trivial⟩, rfl⟩
      · have e : i = E.length := by omega
        subst e
        have hyes : fitAll E ns = true := by
          rw [List.take_of_length_le (by rw [List.length_zip]; omega)] at hpre
          exact hpre
        rw [hyes]
        (refine LWP.seq <| LWP.seq <| LWP.region (by kernel_rfl) <| kmv rfl <| kmv rfl <| K.lenSlc rfl SliceT.h rfl .plain ?_; refine klt rfl rfl (decide_eq_false (by omega)) <| RunK.nil <| LWP.condF rfl ?_; refine LWP.exit <| LWP.seq <| LWP.region (by kernel_rfl) <| kas rfl <| RunK.nil <| LWP.ret ?_)
        exact ⟨[_], ⟨rfl, trivial⟩, rfl⟩
    · rw [if_neg hn]
      (refine LWP.seq <| LWP.region (by kernel_rfl) <| kas rfl <| RunK.nil <| LWP.seq <| LWP.region (by kernel_rfl) <| kmv rfl <| K.callMp [(1000001, 501), (1000002, 502)] (.tup [.one (.slc 501 0 E.length 2), Sn .i64 (T : Nat), .one (.slc 502 0 fs.length 1), Sn .i64 0]) [(501, some ⟨106, (elVs E).map .val, Nat.blt 0 E.length⟩), (502, some ⟨3, (ntV S).map .val, Nat.blt 0 fs.length⟩)] (hL) rfl rfl (by exact trivial) rfl rfl rfl rfl rfl (by exact (.box rfl (Box.ren_vals _ _ _ _) (.box rfl (Box.ren_vals _ _ _ _) .nil))) .plain <| kmv rfl <| kex rfl rfl <| kex rfl rfl <| kex rfl rfl <| kex rfl rfl <| kas rfl ?_; refine kas rfl <| kas rfl <| kas rfl <| RunK.nil <| LWP.seq <| LWP.seq <| LWP.region (by kernel_rfl) <| kmv rfl <| kne rfl rfl ((bne_eq_false_iff_eq.2 (by omega))) <| RunK.nil <| LWP.condF rfl ?_; refine LWP.skip ?_; refine LWP.seq <| LWP.seq <| LWP.region (by kernel_rfl) <| kmv rfl <| K.lenSlc rfl SliceT.h rfl .plain ?_; refine kmv rfl <| K.lenX rfl SliceT.h rfl .plain ?_; refine kne rfl rfl (bne_iff_ne.2 (by omega)) <| RunK.nil <| LWP.condT rfl ?_; refine LWP.seq <| LWP.region (by kernel_rfl) <| kas rfl <| RunK.nil <| LWP.ret ?_)
      exact ⟨[_], ⟨rfl, trivial⟩, rfl⟩
  · have hL := Lay_no X ad cap fs hin hbig hl
    rw [if_neg hl]
    generalize layErr fs = e at *
    (refine LWP.seq <| LWP.region (by kernel_rfl) <| kas rfl <| RunK.nil <| LWP.seq <| LWP.region (by kernel_rfl) <| kmv rfl <| K.callM [] [] (hL) rfl rfl (by exact trivial) rfl rfl rfl rfl rfl (by exact .nil) .plain <| kmv rfl <| kex rfl rfl <| kex rfl rfl <| kex rfl rfl <| kex rfl rfl <| kas rfl ?_; refine kas rfl <| kas rfl <| kas rfl <| RunK.nil <| LWP.seq <| LWP.seq <| LWP.region (by kernel_rfl) <| kmv rfl <| kne rfl rfl (bne_iff_ne.2 (by omega)) <| RunK.nil <| LWP.condT rfl ?_; refine LWP.seq <| LWP.region (by kernel_rfl) <| kmv rfl <| kas rfl <| RunK.nil <| LWP.ret ?_)
    exact ⟨[_], ⟨rfl, trivial⟩, rfl⟩
end Go.Proofs.YtnomcmklhbjfjaaGreatDoor
end
section
namespace Go.Lg
open Go Go.RowKit
section
variable {P : Program} {n : Nat} {ops os : List Oper} {acc : List Eff} {K : List Eff → St → Prop} {s : List (Nat × LV)} {bx : List (Nat × Option Box)} {X : Nat → Option Obj} {σ : St}
theorem slcBuild_one {t e : TypeId} {m : Nat} {v : Value} (hu : P.underlying t = some (.slice e)) (hz : (P.info? e).map (fun i => (i.size, i.zero.map (fun z => z.cells))) = some (1, some #[v])) (hm : m ≤ 16777216) :
    slcBuild P t m = some (List.replicate m v, 1, e) := by
  unfold slcBuild
  rw [hu]
  simp only
  cases hi : P.info? e with
  | none => rw [hi] at hz; cases hz
  | some ie =>
    rw [hi] at hz
    simp only [Option.map_some, Option.some.injEq, Prod.mk.injEq] at hz
    obtain ⟨h1, h2⟩ := hz
    cases hzz : ie.zero with
    | none => rw [hzz] at h2; cases h2
    | some z =>
      rw [hzz] at h2
      simp only [Option.map_some, Option.some.injEq] at h2
      simp only [hzz, h1, h2]
      rw [if_neg (show ¬ m * 1 > 2 ^ 24 by omega)]
      have : ((List.range (m * 1)).map fun i => (#[v] : Array Value)[i % (#[v] : Array Value).size]!) = List.replicate m v := by
        rw [Nat.mul_one]
        apply List.ext_getElem
        · simp
        · intro i h1 h2
          have : i % 1 = 0 := Nat.mod_one i
          simp [this]
      rw [this]
structure ReadsX (X : Nat → Option Obj) (ad : Option Addr) (news : List Value) : Prop where
  cells : ∀ i u, news[i]? = some u → ∃ (blk off : Nat) (arr : Array Value) (el : TypeId) (fr : Nat × Nat), ad = some ⟨blk, off, none⟩ ∧ X blk = some (.cells arr el fr) ∧ arr[off + i]? = some u
theorem LOK.appendX {d k len m cap sz by_ : Nat} {ad : Addr} {t tx e e2 : TypeId} {x y : Operand} {ty : TypeId} {pos : String} {after_ : Array Edge} {g : Option (Nat × Bool)} {cells : List CV} {row : Bool} {news : List Value}
    (hx : σ.ev x = some (.sv (.one (.slc k 0 len sz)))) (hk : σ.stat k = some (some ⟨e, cells, row⟩)) (hcl : cells.length = len * sz) (hy : σ.ev y = some (.sv (.one (.val (.slice (some ad) m cap))))) (hX : ReadsX σ.X (some ad) news) (hnl : news.length = m * sz) (hone : ∀ u ∈ news, u.oneCell' = true)
    (hinf : slcInfo P t = some (e, sz, by_)) (htx : P.underlying tx = some (.slice e2)) (hfit : (len + m) * by_ ≤ 140737488355328) (h63 : len + m < 9223372036854775808) (hd : σ.fresh d = true) :
    LOK P n ops ⟨some d, .call ⟨.builtin .append, #[x, y], #[t, tx]⟩, ty, pos, after_, g⟩ σ ⟨[(d, .sv (.one (.slc d 0 (len + m) sz)))], [], [(d, some ⟨e, cells ++ news.map .val, true⟩), (k, none)]⟩ :=
  LOK.make fun σ' ha C ι a w hr => by
    have hk' : σ'.stat k = _ := (ha.stat k (.inr (by simp))).trans hk
    have hd' : σ'.stat d = none := (ha.stat d (.inr (by simp))).trans (St.fresh_none hd)
    have h1 := hr.ev ((ha.ev (x := x) (by simp [Op.operands, Call.operands])).trans hx)
    have h2 : a.eval y = .slice (some ad) m cap := hr.ev ((ha.ev (x := y) (by simp [Op.operands, Call.operands])).trans hy)
    simp only [LV.rel, SV.rel, CV.rel, hk'] at h1
    obtain ⟨c, h1, hle, hcs⟩ := h1
    have hsrc := Src.ofSlice (P := P) w (size := sz) htx ad m cap news hnl (fun j u hj => by
      obtain ⟨blk, off, arr, el, fr, e1, e2, e3⟩ := hX.cells j u hj
      have e1 : ad = ⟨blk, off, none⟩ := by simpa using e1
      subst e1
      have hw := hr.ext blk _ (by rw [ha.X]; exact e2)
      rw [addr_add]
      simp only [World.cell?, hw, Option.isSome_none, Bool.false_eq_true, if_false]
      exact e3) hone
    obtain ⟨v, w', ι', hrun, hrel, hv⟩ := append_core (ty := ty) hr hinf (xv := a.eval x) (yv := a.eval y) h1 hle hcs hk' hcl (by rw [h2]; exact hsrc) (CVs.rel_map_val news) hd' (St.fresh_lt hd) hfit h63
    exact ⟨v, w', ι', by simp [execOp, resolve, invoke, builtin, hrun], hrel, hv⟩
theorem K.appendX {d k len m cap sz by_ : Nat} {ad : Addr} {t tx e e2 : TypeId} {x y : Operand} {ty : TypeId} {pos : String} {after_ : Array Edge} {g : Option (Nat × Bool)} {cells : List CV} {row : Bool} {news : List Value}
    (hx : (⟨s, bx, X⟩ : St).ev x = some (.sv (.one (.slc k 0 len sz)))) (hk : (⟨s, bx, X⟩ : St).stat k = some (some ⟨e, cells, row⟩)) (hcl : cells.length = len * sz) (hy : (⟨s, bx, X⟩ : St).ev y = some (.sv (.one (.val (.slice (some ad) m cap))))) (hX : ReadsX X (some ad) news) (hnl : news.length = m * sz) (hone : ∀ u ∈ news, u.oneCell' = true)
    (hinf : slcInfo P t = some (e, sz, by_)) (htx : P.underlying tx = some (.slice e2)) (hfit : (len + m) * by_ ≤ 140737488355328) (h63 : len + m < 9223372036854775808) (hd : (⟨s, bx, X⟩ : St).fresh d = true) {nl : Nat} {nc : List CV} (hnl2 : len + m = nl) (hnc : cells ++ news.map .val = nc) (hw : Want ops s g)
    (kont : RunK P n ops os ⟨(d, .sv (.one (.slc d 0 nl sz))) :: s, (d, some ⟨e, nc, true⟩) :: (k, none) :: bx, X⟩ (⟨[(d, .sv (.one (.slc d 0 nl sz)))], [], [(d, some ⟨e, nc, true⟩), (k, none)]⟩ :: acc) K) :
    RunK P n ops (⟨some d, .call ⟨.builtin .append, #[x, y], #[t, tx]⟩, ty, pos, after_, g⟩ :: os) ⟨s, bx, X⟩ acc K := by
  subst hnl2 hnc
  exact RunK.gen hw (LOK.appendX hx hk hcl hy hX hnl hone hinf htx hfit h63 hd) kont
end
end Go.Lg
end
section
namespace Go.Lg.Fld
open Go Go.Lg
def setAt (b : List UInt8) (p : Nat) (s : List UInt8) : List UInt8 := b.take p ++ s ++ b.drop (p + s.length)
theorem setAt_len {b s : List UInt8} {p : Nat} (h : p + s.length ≤ b.length) : (setAt b p s).length = b.length := by
  simp only [setAt, List.length_append, List.length_take, List.length_drop]; omega
theorem setAt_nil (b : List UInt8) (p : Nat) : setAt b p [] = b := by simp [setAt]
theorem setAt_step {b s : List UInt8} {p k : Nat} {c : UInt8} (h : p + s.length ≤ b.length) (hc : s[k]? = some c) : (setAt b p (s.take k)).set (p + k) c = setAt b p (s.take (k + 1)) := by
  have hk := (List.getElem?_eq_some_iff.1 hc).1
  have hl : (s.take k).length = k := by rw [List.length_take]; omega
  have hl2 : (s.take (k + 1)).length = k + 1 := by rw [List.length_take]; omega
  unfold setAt
  rw [hl, hl2, take_snoc hc]
  have hla : (b.take p ++ s.take k).length = p + k := by rw [List.length_append, List.length_take, hl]; omega
  obtain ⟨x, hx⟩ : ∃ x, b[p + k]? = some x := ⟨_, List.getElem?_eq_getElem (by omega)⟩
  have hd : b.drop (p + k) = x :: b.drop (p + (k + 1)) := by
    obtain ⟨hi, e⟩ := List.getElem?_eq_some_iff.1 hx
    rw [List.drop_eq_getElem_cons hi, e]
    rfl
  rw [hd, List.set_append_right _ _ (by omega), hla, Nat.sub_self, List.set_cons_zero]
  simp [List.append_assoc]
end Go.Lg.Fld
namespace Go.Proofs.YtnomcmklhbjfjaaGreatDoor
open Go Go.Lg Go.Lg.Fld
set_option maxRecDepth 100000
variable (X : Nat → Option Obj)
def numB (k : Int) (n : Bool × Int) : List UInt8 := leB (kW k) (wdK k (zv n.1 n.2))
def packE : List (Int × Nat) → List (Bool × Int) → List UInt8 → List UInt8
  | e :: t, v :: u, b => packE t u (setAt b e.2 (numB e.1 v))
  | _, _, b => b
theorem packE_snoc (e : Int × Nat) (v : Bool × Int) : ∀ (l : List (Int × Nat)) (m : List (Bool × Int)) (b : List UInt8), l.length = m.length → packE (l ++ [e]) (m ++ [v]) b = setAt (packE l m b) e.2 (numB e.1 v)
  | [], [], b, _ => rfl
  | e' :: t, v' :: u, b, h => packE_snoc e v t u _ (by simpa using h)
  | [], _ :: _, _, h => by simp at h
  | _ :: _, [], _, h => by simp at h
def Within (es : List (Int × Nat)) (T : Nat) : Prop := ∀ e ∈ es, kK e.1 = true ∧ e.2 + kW e.1 ≤ T
theorem elems_in : ∀ (l : List Fl) (a : Nat), l.all Fl.ok = true → ∀ e ∈ elemsAt a l, kK e.1 = true ∧ a ≤ e.2 ∧ e.2 + kW e.1 ≤ endAt a l
  | [], a, _, e, he => by simp [elemsAt] at he
  | f :: t, a, h, e, he => by
    simp only [List.all_cons, Bool.and_eq_true] at h
    obtain ⟨hw, h1, h8, hc⟩ := ok_w h.1
    have hr := round_facts hw a
    have hi := end_le t (roundUp a f.w + f.w * f.n) h.2
    simp only [elemsAt, List.mem_append, List.mem_map, List.mem_range] at he
    rcases he with ⟨i, hin, rfl⟩ | he
    · have hk : kK f.kind = true := by have := h.1; simp only [Fl.ok, Bool.and_eq_true] at this; exact this.1
      have hm : f.w * i + f.w ≤ f.w * f.n := by rw [← Nat.mul_succ]; exact Nat.mul_le_mul_left _ hin
      refine ⟨hk, by simp only; omega, ?_⟩
      show roundUp a f.w + f.w * i + f.w ≤ endAt (roundUp a f.w + f.w * f.n) t
      omega
    · have := elems_in t _ h.2 e he
      refine ⟨this.1, by omega, ?_⟩
      exact this.2.2
theorem within_row {fs : List Fl} (h : fs.all Fl.ok = true) : Within (elemsAt 0 fs) (rowSize fs) := fun e he => by
  have h1 := elems_in fs 0 h e he
  have h2 := round_facts (great_wd fs h) (endAt 0 fs)
  refine ⟨h1.1, Nat.le_trans h1.2.2 h2.2.1⟩
theorem numB_len (k : Int) (n : Bool × Int) : (numB k n).length = kW k := leB_length _ _
theorem packE_len {T : Nat} : ∀ {es : List (Int × Nat)} {ns : List (Bool × Int)} {b : List UInt8}, Within es T → b.length = T → (packE es ns b).length = T
  | [], _, b, _, hb => hb
  | _ :: _, [], b, _, hb => hb
  | e :: t, v :: u, b, hw, hb => by
    have h1 := (hw e (by simp)).2
    exact packE_len (es := t) (ns := u) (fun x hx => hw x (by simp [hx])) (by rw [setAt_len (by rw [numB_len]; omega)]; exact hb)
def packB (fs : List Fl) (ns : List (Bool × Int)) : List UInt8 := packE (elemsAt 0 fs) ns (List.replicate (rowSize fs) 0)
theorem fitErr_facts {fs : List Fl} {ns : List (Bool × Int)} (h : fitErr fs ns = 0) : layErr fs = 0 ∧ (elemsAt 0 fs).length = ns.length ∧ fitAll (elemsAt 0 fs) ns = true := by
  unfold fitErr at h
  split at h
  · rename_i h0
    split at h
    · rename_i h1
      split at h
      · rename_i h2; exact ⟨h0, h1, h2⟩
      · cases h
    · cases h
  · contradiction
theorem fitAll_at {es : List (Int × Nat)} {ns : List (Bool × Int)} (h : fitAll es ns = true) {i : Nat} {e : Int × Nat} {b : Bool} {N : Int} (he : es[i]? = some e) (hv : ns[i]? = some (b, N)) : formB b N = true ∧ kK e.1 = true ∧ fitZ e.1 (zv b N) = true := by
  have := List.all_eq_true.1 h _ (List.mem_of_getElem? (zip_at he hv))
  simp only [fitB, Bool.and_eq_true] at this
  exact ⟨this.2.1, this.1, this.2.2⟩
set_option maxHeartbeats 1600000 in
theorem refPack_spec (ad ad2 : Option Addr) (cap cap2 : Nat) (fs : List Fl) (ns : List (Bool × Int)) (hin : FieldsIn X ad fs) (hbig : fs.length < 4611686018427387904) (hns : NumsIn X ad2 ns) (h : fitErr fs ns = 0) :
    PSpec Tryz.prog X 41 [Lx ad fs.length cap, Lx ad2 ns.length cap2] (Ls (packB fs ns)) := by
  obtain ⟨hl, hn, hfit⟩ := fitErr_facts h
  have hL := Lay_ok X ad cap fs hin hbig hl
  obtain ⟨h8, hall, hT⟩ := layErr_facts hl
  have hW := within_row hall
  have hEl := elems_len fs 0 hall
  refine PSpec.intro Tryz.func41 rfl (by kernel_rfl) rfl rfl ?_
  intro C
  unfold packB
  generalize elemsAt 0 fs = E at *
  generalize startsAt 0 fs = S at *
  generalize rowSize fs = T at *
  have hmk : slcBuild Tryz.prog 52 T = some (List.replicate T (.int .u8 0), 1, 5) := slcBuild_one (by kernel_rfl) (by kernel_rfl) (by omega)
  have hz0 : (List.replicate T (Value.int .u8 0)).map CV.val = (List.replicate T (0 : UInt8)).map bc := by rw [List.map_replicate, List.map_replicate]; rfl
  (refine LWP.seq <| LWP.region (by kernel_rfl) <| kas rfl <| RunK.nil <| LWP.seq <| LWP.region (by kernel_rfl) <| kmv rfl <| K.callMp [(1000001, 501), (1000002, 502)] (.tup [.one (.slc 501 0 E.length 2), Sn .i64 (T : Nat), .one (.slc 502 0 fs.length 1), Sn .i64 0]) [(501, some ⟨106, (elVs E).map .val, Nat.blt 0 E.length⟩), (502, some ⟨3, (ntV S).map .val, Nat.blt 0 fs.length⟩)] (hL) rfl rfl (by exact trivial) rfl rfl rfl rfl rfl (by exact (.box rfl (Box.ren_vals _ _ _ _) (.box rfl (Box.ren_vals _ _ _ _) .nil))) .plain <| kmv rfl <| kex rfl rfl <| kex rfl rfl <| kex rfl rfl <| kex rfl rfl <| kas rfl ?_; refine kas rfl <| kas rfl <| kas rfl <| RunK.nil <| LWP.seq <| LWP.region (by kernel_rfl) <| kmv rfl <| K.makeSlc (m := T) (bytes := 1) rfl rfl hmk (by kernel_rfl) (by omega) hz0 rfl .plain <| kas rfl <| RunK.nil <| LWP.seq <| LWP.seq <| LWP.region (by kernel_rfl) <| kas rfl ?_; refine RunK.nil <| LWP.block ?_)
  refine LWP.loop (fun m σ => ∃ i : Nat, i ≤ E.length ∧ m = E.length - i ∧ σ = ⟨[(1, Lx ad2 ns.length cap2), (5, .sv (.one (.slc 501 0 E.length 2))), (9, .sv (.one (.slc 500 0 T 1))), (10, Ln .i64 (i : Nat))], [(501, some ⟨106, (elVs E).map .val, Nat.blt 0 E.length⟩), (500, some ⟨5, (packE (E.take i) (ns.take i) (List.replicate T 0)).map bc, false⟩)], X⟩) E.length
    ⟨_, Le.ofR [(500, 21)] (by exact ⟨rfl, rfl, rfl, rfl, trivial⟩) (by repeat' (first | exact trivial | refine And.intro ⟨_, rfl, ?_⟩ ?_ | refine And.intro ⟨_, rfl⟩ ?_ | rfl | exact Box.ren_bytes _ _ _ _ | exact Box.ren_vals _ _ _ _ | exact Box.ren_mid rfl)) (by exact rfl) (by exact rfl) (by repeat' (first | refine all_cons_true ?_ ?_ | rfl | exact bytes_inUse | exact vals_inUse | exact mid_inUse rfl)) (by exact rfl) (by exact rfl), 0, by omega, rfl, rfl⟩ ?_
  rintro m σ ⟨i, hi, rfl, rfl⟩
  have hbl : (packE (E.take i) (ns.take i) (List.replicate T 0)).length = T := packE_len (fun e he => hW e (List.mem_of_mem_take he)) (by rw [List.length_replicate])
  by_cases hlt : i < E.length
  · obtain ⟨e, he⟩ : ∃ e, E[i]? = some e := ⟨_, List.getElem?_eq_getElem hlt⟩
    obtain ⟨⟨b, N⟩, hv⟩ : ∃ v, ns[i]? = some v := ⟨_, List.getElem?_eq_getElem (by omega)⟩
    obtain ⟨hN, blk, off, arr, el, fr, rfl, hX, hsz, hcells⟩ := hns.at hv
    have hio : off + Int.toNat (i : Int) * 3 = off + i * 3 := by simp
    have hie : 0 + Int.toNat (i : Int) * 2 = i * 2 := by simp
    obtain ⟨hc1, hc2⟩ := elVs_at he
    obtain ⟨g1, g2, g3⟩ := fitAll_at hfit he hv
    have hP := refPut_spec X e.1 (zv b N) g2 g3
    rw [← LI_q hN g1] at hP
    have hnext : packE (E.take (i + 1)) (ns.take (i + 1)) (List.replicate T 0) = setAt (packE (E.take i) (ns.take i) (List.replicate T 0)) e.2 (numB e.1 (b, N)) := by
      rw [take_snoc he, take_snoc hv, packE_snoc]
      rw [List.length_take, List.length_take]; omega
    have hWe := (hW e (List.mem_of_getElem? he)).2
    have hsl : (leB (kW e.1) (wdK e.1 (zv b N))).length = kW e.1 := leB_length _ _
    have hnb : numB e.1 (b, N) = leB (kW e.1) (wdK e.1 (zv b N)) := rfl
    rw [hnb] at hnext
    have hw8 := (kfacts e.1).2.2.2.2
    generalize leB (kW e.1) (wdK e.1 (zv b N)) = s at *
    generalize packE (E.take i) (ns.take i) (List.replicate T 0) = B at *
    have hss : (⟨s.toArray⟩ : ByteArray).size = s.length := rfl
    (refine LWP.seq <| LWP.seq <| LWP.region (by kernel_rfl) <| kmv rfl <| kmv rfl <| K.lenSlc rfl SliceT.h rfl .plain ?_; refine klt rfl rfl (decide_eq_true (by omega)) <| RunK.nil <| LWP.condT rfl ?_; refine LWP.skip ?_; refine LWP.seq <| LWP.block <| LWP.seq <| LWP.draws mixed (by kernel_rfl) <| kmv rfl <| kmv rfl <| K.indexSlc rfl rfl (by omega) hie .plain ?_; refine kfa rfl rfl ?_; refine kl1 rfl rfl hc1 <| kmv rfl <| kmv rfl <| K.indexX rfl rfl SliceT.h (by omega) hio .plain <| K.loadXagg rfl hX (by kernel_rfl) hsz hcells .plain <| kca rfl rfl (hP) <| kas rfl <| RunK.nil <| And.intro (by kernel_rfl) ?_; refine LWP.seq <| LWP.region (by kernel_rfl) <| kas rfl <| RunK.nil <| LWP.block ?_)
    refine LWP.loop (fun m σ => ∃ k : Nat, k ≤ s.length ∧ m = s.length - k ∧ σ = ⟨[(1, Lx (some ⟨blk, off, none⟩) ns.length cap2), (5, .sv (.one (.slc 501 0 E.length 2))), (9, .sv (.one (.slc 500 0 T 1))), (10, Ln .i64 (i : Nat)), (11, Ls s), (12, Ln .i64 (k : Nat))], [(501, some ⟨106, (elVs E).map .val, Nat.blt 0 E.length⟩), (500, some ⟨5, (setAt B e.2 (s.take k)).map bc, false⟩)], X⟩) s.length
      ⟨_, Le.ofR [] (by exact ⟨rfl, rfl, rfl, rfl, rfl, rfl, trivial⟩) (by rw [List.take_zero, setAt_nil]; exact (by repeat' (first | exact trivial | refine And.intro ⟨_, rfl, ?_⟩ ?_ | refine And.intro ⟨_, rfl⟩ ?_ | rfl | exact Box.ren_bytes _ _ _ _ | exact Box.ren_vals _ _ _ _ | exact Box.ren_mid rfl))) (by exact rfl) (by exact rfl) (by repeat' (first | refine all_cons_true ?_ ?_ | rfl | exact bytes_inUse | exact vals_inUse | exact mid_inUse rfl)) (by exact rfl) (by exact rfl), 0, by omega, rfl, rfl⟩ ?_
    rintro m σ ⟨k, hk, rfl, rfl⟩
    by_cases hks : k < s.length
    · obtain ⟨c, hc⟩ : ∃ c, s[k]? = some c := ⟨_, List.getElem?_eq_getElem hks⟩
      have hstep := setAt_step (b := B) (p := e.2) (s := s) (by omega) hc
      have hadd : IntKind.i64.wrap (((e.2 : Nat) : Int) + ((k : Nat) : Int)) = ((e.2 + k : Nat) : Int) := by rw [wrap_i64 (by omega)]; omega
      have hip : 0 + Int.toNat ((e.2 + k : Nat) : Int) * 1 = e.2 + k := by rw [Int.toNat_natCast]; omega
      have hlen : (setAt B e.2 (s.take k)).length = T := by rw [setAt_len (by rw [List.length_take]; omega)]; exact hbl
      have hlt2 : Nat.blt (e.2 + k) ((setAt B e.2 (s.take k)).map bc).length = true := by rw [List.length_map, hlen, Nat.blt_eq]; omega
      have hset : ((setAt B e.2 (s.take k)).map bc).set (e.2 + k) (bc c) = (setAt B e.2 (s.take (k + 1))).map bc := by rw [← List.map_set, hstep]
      (refine LWP.seq <| LWP.seq <| LWP.region (by kernel_rfl) <| kmv rfl <| kmv rfl <| kln rfl <| klt rfl rfl (decide_eq_true (by omega)) <| RunK.nil <| LWP.condT rfl ?_; refine LWP.skip ?_; refine LWP.seq <| LWP.block <| LWP.draws mixed (by kernel_rfl) <| kmv rfl <| kmv rfl <| kmv rfl <| K.indexSlc rfl rfl (by omega) hie .plain ?_; refine kfa rfl rfl ?_; refine kl1 rfl rfl hc2 <| kmv rfl <| kad rfl rfl hadd <| kmv rfl <| kmv rfl <| K.indexStr rfl rfl (by omega) (str_at hc) .plain <| K.indexSlc rfl rfl (by omega) hip .plain ?_; refine K.storeOne rfl rfl rfl rfl hlt2 hset .plain <| RunK.nil <| And.intro (by kernel_rfl) ?_; refine LWP.region (by kernel_rfl) <| kmv rfl <| kad rfl rfl (wrap_i64 (by omega)) <| kas rfl <| RunK.nil ?_)
      exact ⟨_, _, by omega, Le.ofR [] (by exact ⟨rfl, rfl, rfl, rfl, rfl, rfl, trivial⟩) (by repeat' (first | exact trivial | refine And.intro ⟨_, rfl, ?_⟩ ?_ | refine And.intro ⟨_, rfl⟩ ?_ | rfl | exact Box.ren_bytes _ _ _ _ | exact Box.ren_vals _ _ _ _ | exact Box.ren_mid rfl)) (by exact rfl) (by exact rfl) (by repeat' (first | refine all_cons_true ?_ ?_ | rfl | exact bytes_inUse | exact vals_inUse | exact mid_inUse rfl)) (by exact rfl) (by exact rfl), k + 1, by omega, rfl, rfl⟩
    · have ek : k = s.length := by omega
      subst ek
      rw [List.take_length] at *
      (refine LWP.seq <| LWP.seq <| LWP.region (by kernel_rfl) <| kmv rfl <| kmv rfl <| kln rfl <| klt rfl rfl (decide_eq_false (by omega)) <| RunK.nil <| LWP.condF rfl ?_; refine LWP.exit <| LWP.region (by kernel_rfl) <| kmv rfl <| kad rfl rfl (wrap_i64 (by omega)) <| kas rfl <| RunK.nil ?_)
      exact ⟨_, _, by omega, Le.ofR [] (by exact ⟨rfl, rfl, rfl, rfl, trivial⟩) (by rw [hnext]; exact (by repeat' (first | exact trivial | refine And.intro ⟨_, rfl, ?_⟩ ?_ | refine And.intro ⟨_, rfl⟩ ?_ | rfl | exact Box.ren_bytes _ _ _ _ | exact Box.ren_vals _ _ _ _ | exact Box.ren_mid rfl))) (by exact rfl) (by exact rfl) (by repeat' (first | refine all_cons_true ?_ ?_ | rfl | exact bytes_inUse | exact vals_inUse | exact mid_inUse rfl)) (by exact rfl) (by exact rfl), i + 1, by omega, rfl, rfl⟩
  · have e : i = E.length := by omega
    subst e
    rw [List.take_length, List.take_of_length_le (Nat.le_of_eq hn.symm)] at *
    generalize packE E ns (List.replicate T 0) = B at *
    have hlen : 0 + T ≤ (B.map bc).length := by rw [List.length_map]; omega
    have hcut : ((B.map bc).drop 0).take T = B.map bc := by rw [List.drop_zero, List.take_of_length_le (by rw [List.length_map]; omega)]
    (refine LWP.seq <| LWP.seq <| LWP.region (by kernel_rfl) <| kmv rfl <| kmv rfl <| K.lenSlc rfl SliceT.h rfl .plain ?_; refine klt rfl rfl (decide_eq_false (by omega)) <| RunK.nil <| LWP.condF rfl ?_; refine LWP.exit <| LWP.seq <| LWP.region (by kernel_rfl) <| kmv rfl <| K.convStr rfl rfl (by kernel_rfl) StrT.u hlen hcut .plain <| kas rfl <| RunK.nil <| LWP.ret ?_)
    exact ⟨[_], ⟨rfl, trivial⟩, rfl⟩
end Go.Proofs.YtnomcmklhbjfjaaGreatDoor
end
section
namespace Go.Proofs.YtnomcmklhbjfjaaGreatDoor
open Go Go.Lg Go.Lg.Fld
set_option maxRecDepth 100000
variable (X : Nat → Option Obj)
def qn (z : Int) : Bool × Int := (decide (z < 0), mg z)
theorem zv_qn (z : Int) : zv (qn z).1 (qn z).2 = z := by
  unfold qn zv mg
  by_cases h : z < 0
  · simp [h]
  · simp [h]
def rdE (s : List UInt8) (e : Int × Nat) : Int := nbK e.1 (le ((s.drop e.2).take (kW e.1)))
def readOk (es : List (Int × Nat)) (s : List UInt8) : Bool := es.all fun e => fitZ e.1 (rdE s e)
def unpZ (fs : List Fl) (s : List UInt8) : List Int := (elemsAt 0 fs).map (rdE s)
def unpOk (fs : List Fl) (s : List UInt8) : Bool := decide (s.length = rowSize fs) && (readOk (elemsAt 0 fs) s && (packB fs ((unpZ fs s).map qn) == s))
def unpErr (fs : List Fl) (s : List UInt8) : Int := if layErr fs = 0 then (if unpOk fs s = true then 0 else 4) else layErr fs
def nsV (zs : List Int) : List Value := (zs.map fun z => nmV (qn z)).flatten
theorem nsV_len (zs : List Int) : (nsV zs).length = zs.length * 3 := by
  induction zs with
  | nil => rfl
  | cons z t ih => simp only [nsV, List.map_cons, List.flatten_cons, List.length_append] at ih ⊢; rw [ih]; simp [nmV]; omega
theorem nsV_snoc (zs : List Int) (z : Int) : (nsV (zs ++ [z])).map CV.val = (nsV zs).map CV.val ++ cQ z := by simp [nsV, nmV, qn]
theorem read_R {es : List (Int × Nat)} {s : List UInt8} {T : Nat} (hW : Within es T) (hs : s.length = T) {e : Int × Nat} (he : e ∈ es) : ((s.drop e.2).take (kW e.1)).length = kW e.1 ∧ R127 (rdE s e) := by
  have h := hW e he
  have hl : ((s.drop e.2).take (kW e.1)).length = kW e.1 := by rw [List.length_take, List.length_drop]; omega
  refine ⟨hl, ?_⟩
  have hb := le_lt ((s.drop e.2).take (kW e.1))
  rw [hl] at hb
  exact nb_R h.1 hb
theorem nums_in2 {zs : List Int} (h : ∀ z ∈ zs, R127 z) : ∀ n ∈ zs.map qn, In2 n.2 := fun n hn => by
  obtain ⟨z, hz, rfl⟩ := List.mem_map.1 hn
  exact mg_in2 (h z hz)
theorem fit_read {es : List (Int × Nat)} {s : List UInt8} {T : Nat} (hW : Within es T) (hs : s.length = T) (hok : readOk es s = true) : fitAll es ((es.map (rdE s)).map qn) = true := by
  unfold fitAll
  refine List.all_eq_true.2 fun p hp => ?_
  obtain ⟨i, hi⟩ := List.getElem?_of_mem hp
  obtain ⟨h1, h2⟩ := List.getElem?_zip_eq_some.1 hi
  rw [List.getElem?_map, List.getElem?_map, h1] at h2
  simp only [Option.map_some, Option.some.injEq] at h2
  have hm := List.mem_of_getElem? h1
  have hf := List.all_eq_true.1 hok _ hm
  have hR := (read_R hW hs hm).2
  rw [← h2]
  simp only [fitB, Bool.and_eq_true]
  refine ⟨(hW _ hm).1, formB_q hR, ?_⟩
  rw [zv_qn]; exact hf
theorem nums_frozen {X : Nat → Option Obj} {blk : Nat} {arr : Array Value} {el : TypeId} {fr : Nat × Nat} {zs : List Int} (h : ∀ z ∈ zs, R127 z) (hsp : ∃ sp, arr.toList = nsV zs ++ sp) :
    NumsIn (withBlock X blk (.cells arr el fr)) (some ⟨blk, 0, none⟩) (zs.map qn) :=
  ⟨rows_frozen (fun r hr => by obtain ⟨n, _, rfl⟩ := List.mem_map.1 hr; rfl) (by
    obtain ⟨sp, e⟩ := hsp
    exact ⟨sp, by rw [e, List.map_map]; rfl⟩), nums_in2 h⟩
theorem fields_more {X : Nat → Option Obj} {ad : Option Addr} {fs : List Fl} (h : FieldsIn X ad fs) {blk : Nat} {o : Obj} (hn : X blk = none) : FieldsIn (withBlock X blk o) ad fs := ⟨h.rows.mono (withBlock_old hn), h.small⟩
def unpR (fs : List Fl) (s : List UInt8) : LV := if unpErr fs s = 0 then .tup [.one (.slc 1000001 0 (unpZ fs s).length 3), Sn .i64 0] else .tup [Vnil, Sn .i64 (unpErr fs s)]
def unpBx (fs : List Fl) (s : List UInt8) : List (Nat × Option Box) := if unpErr fs s = 0 then [(1000001, some ⟨63, (nsV (unpZ fs s)).map .val, true⟩)] else []
set_option maxHeartbeats 3200000 in
theorem refUnpack_spec (ad : Option Addr) (cap : Nat) (fs : List Fl) (s : List UInt8) (hin : FieldsIn X ad fs) (hbig : fs.length < 4611686018427387904) :
    MSpec Tryz.prog X 43 [Lx ad fs.length cap, Ls s] [] (unpR fs s) (unpBx fs s) := by
  refine MSpec.intro Tryz.func43 rfl (by kernel_rfl) rfl (by unfold unpR unpBx; split <;> rfl) (by unfold unpBx; split <;> exact (by repeat' (first | refine all_cons_true ?_ ?_ | rfl | exact bytes_inUse | exact vals_inUse | exact mid_inUse rfl))) rfl rfl ?_
  intro C
  have hzs : (⟨s.toArray⟩ : ByteArray).size = s.length := rfl
  by_cases hl : layErr fs = 0
  · have hL := Lay_ok X ad cap fs hin hbig hl
    obtain ⟨h8, hall, hT⟩ := layErr_facts hl
    have hW := within_row hall
    have hEl := elems_len fs 0 hall
    have hP := fun (Y : Nat → Option Obj) (ad2 : Option Addr) (cap2 : Nat) (hY : FieldsIn Y ad fs) (hN : NumsIn Y ad2 ((unpZ fs s).map qn)) (hf : fitErr fs ((unpZ fs s).map qn) = 0) => refPack_spec Y ad ad2 cap cap2 fs ((unpZ fs s).map qn) hY hbig hN hf
    have hfe : fitAll (elemsAt 0 fs) ((unpZ fs s).map qn) = true → fitErr fs ((unpZ fs s).map qn) = 0 := fun h => by
      unfold fitErr
      rw [if_pos hl, if_pos (by simp [unpZ]), if_pos h]
    have hue : unpErr fs s = if unpOk fs s = true then 0 else 4 := if_pos hl
    unfold unpR unpBx
    rw [hue]
    unfold unpOk
    have hzl : (unpZ fs s).length = (elemsAt 0 fs).length := by simp [unpZ]
    have hzd : unpZ fs s = (elemsAt 0 fs).map (rdE s) := rfl
    generalize packB fs ((unpZ fs s).map qn) = B at *
    generalize unpZ fs s = Z at *
    generalize elemsAt 0 fs = E at *
    generalize startsAt 0 fs = S at *
    generalize rowSize fs = T at *
    by_cases hn : s.length = T
    · rw [decide_eq_true hn, Bool.true_and]
      (refine LWP.seq <| LWP.region (by kernel_rfl) <| kas rfl <| kas rfl <| RunK.nil <| LWP.seq <| LWP.region (by kernel_rfl) <| kmv rfl <| K.callMp [(1000001, 501), (1000002, 502)] (.tup [.one (.slc 501 0 E.length 2), Sn .i64 (T : Nat), .one (.slc 502 0 fs.length 1), Sn .i64 0]) [(501, some ⟨106, (elVs E).map .val, Nat.blt 0 E.length⟩), (502, some ⟨3, (ntV S).map .val, Nat.blt 0 fs.length⟩)] (hL) rfl rfl (by exact trivial) rfl rfl rfl rfl rfl (by exact (.box rfl (Box.ren_vals _ _ _ _) (.box rfl (Box.ren_vals _ _ _ _) .nil))) .plain <| kmv rfl <| kex rfl rfl <| kex rfl rfl <| kex rfl rfl <| kex rfl rfl ?_; refine kas rfl <| kas rfl <| kas rfl <| kas rfl <| RunK.nil <| LWP.seq <| LWP.seq <| LWP.region (by kernel_rfl) <| kmv rfl <| kne rfl rfl ((bne_eq_false_iff_eq.2 (by omega))) <| RunK.nil <| LWP.condF rfl ?_; refine LWP.skip ?_; refine LWP.seq <| LWP.seq <| LWP.region (by kernel_rfl) <| kmv rfl <| kln rfl <| kmv rfl <| kne rfl rfl ((bne_eq_false_iff_eq.2 (by omega))) <| RunK.nil <| LWP.condF rfl ?_; refine LWP.skip ?_; refine LWP.seq <| LWP.region (by kernel_rfl) <| K.buildSlc (zs := []) (sz := 3) (e := 63) (by kernel_rfl) rfl rfl rfl rfl rfl rfl .plain <| kas rfl <| RunK.nil <| LWP.seq <| LWP.seq <| LWP.region (by kernel_rfl) <| kas rfl <| RunK.nil <| LWP.block ?_)
      refine LWP.loop (fun m σ => ∃ i : Nat, i ≤ E.length ∧ m = E.length - i ∧ (E.take i).all (fun e => fitZ e.1 (rdE s e)) = true ∧ σ = ⟨[(0, Lx ad fs.length cap), (1, Ls s), (6, .sv (.one (.slc 501 0 E.length 2))), (10, .sv (.one (.slc 500 0 i 3))), (11, Ln .i64 (i : Nat))], [(501, some ⟨106, (elVs E).map .val, Nat.blt 0 E.length⟩), (500, some ⟨63, (nsV (Z.take i)).map .val, Nat.blt 0 i⟩)], X⟩) E.length
        ⟨_, Le.ofR [(500, 29)] (by exact ⟨rfl, rfl, rfl, rfl, rfl, trivial⟩) (by repeat' (first | exact trivial | refine And.intro ⟨_, rfl, ?_⟩ ?_ | refine And.intro ⟨_, rfl⟩ ?_ | rfl | exact Box.ren_bytes _ _ _ _ | exact Box.ren_vals _ _ _ _ | exact Box.ren_mid rfl)) (by exact rfl) (by exact rfl) (by repeat' (first | refine all_cons_true ?_ ?_ | rfl | exact bytes_inUse | exact vals_inUse | exact mid_inUse rfl)) (by exact rfl) (by exact rfl), 0, by omega, rfl, rfl, rfl⟩ ?_
      rintro m σ ⟨i, hi, rfl, hpre, rfl⟩
      by_cases hlt : i < E.length
      · obtain ⟨e, he⟩ : ∃ e, E[i]? = some e := ⟨_, List.getElem?_eq_getElem hlt⟩
        have hz : Z[i]? = some (rdE s e) := by rw [hzd, List.getElem?_map, he]; rfl
        have hm := List.mem_of_getElem? he
        have hie : 0 + Int.toNat (i : Int) * 2 = i * 2 := by simp
        obtain ⟨hc1, hc2⟩ := elVs_at he
        have hWe := hW e hm
        have hB := refBytes_spec X e.1
        have hrd := read_R hW hn hm
        have hG := refGet_q X e.1 ((s.drop e.2).take (kW e.1)) hWe.1 hrd.1
        have hcut : (⟨s.toArray⟩ : ByteArray).extract e.2 (e.2 + kW e.1) = ⟨((s.drop e.2).take (kW e.1)).toArray⟩ := by rw [str_cut, Nat.add_sub_cancel_left]
        have hw8 := (kfacts e.1).2.2.2.2
        have hadd : IntKind.i64.wrap (((e.2 : Nat) : Int) + ((kW e.1 : Nat) : Int)) = ((e.2 + kW e.1 : Nat) : Int) := by rw [wrap_i64 (by omega)]; omega
        unfold getR at hG
        rw [show nbK e.1 (le ((s.drop e.2).take (kW e.1))) = rdE s e from rfl] at hG
        have htz : nsV (Z.take (i + 1)) = nsV (Z.take i ++ [rdE s e]) := by rw [take_snoc hz]
        have hcl : ((nsV (Z.take i)).map CV.val).length = i * 3 := by rw [List.length_map, nsV_len, List.length_take, hzl]; omega
        cases hf : fitZ e.1 (rdE s e) with
        | true =>
          rw [hf, if_pos rfl] at hG
          have hnc : (nsV (Z.take i)).map CV.val ++ cQ (rdE s e) = (nsV (Z.take (i + 1))).map CV.val := by rw [htz, nsV_snoc]
          have hall2 : (E.take (i + 1)).all (fun e => fitZ e.1 (rdE s e)) = true := by rw [take_snoc he, List.all_append, hpre]; simp [hf]
          generalize (s.drop e.2).take (kW e.1) = t at *
          generalize kW e.1 = w at *
          generalize rdE s e = z at *
          (refine LWP.seq <| LWP.seq <| LWP.region (by kernel_rfl) <| kmv rfl <| kmv rfl <| K.lenSlc rfl SliceT.h rfl .plain ?_; refine klt rfl rfl (decide_eq_true (by omega)) <| RunK.nil <| LWP.condT rfl ?_; refine LWP.skip ?_; refine LWP.seq <| LWP.block <| LWP.seq <| LWP.region (by kernel_rfl) <| kmv rfl <| kmv rfl <| K.indexSlc rfl rfl (by omega) hie .plain ?_; refine kfa rfl rfl ?_; refine kl1 rfl rfl hc1 <| kca rfl rfl (hB) <| kas rfl <| RunK.nil <| LWP.seq <| LWP.draws mixed (by kernel_rfl) <| kmv rfl <| kmv rfl <| K.indexSlc rfl rfl (by omega) hie .plain ?_; refine kfa rfl rfl ?_; refine kl1 rfl rfl hc1 <| kmv rfl <| kmv rfl <| kmv rfl <| K.indexSlc rfl rfl (by omega) hie .plain ?_; refine kfa rfl rfl ?_; refine kl1 rfl rfl hc2 <| kmv rfl <| kmv rfl <| K.indexSlc rfl rfl (by omega) hie .plain ?_; refine kfa rfl rfl ?_; refine kl1 rfl rfl hc2 <| kmv rfl <| kad rfl rfl hadd <| K.sliceStr (l := e.2) (h := e.2 + w) (kl := .i64) (kh := .i64) rfl StrT.u rfl rfl ⟨(by omega), (by omega)⟩ hcut .plain <| kca rfl rfl (hG) <| kmv rfl <| kex rfl rfl <| kex rfl rfl <| K.alloc rfl .plain ?_; refine K.storeAll rfl rfl rfl rfl rfl rfl .plain ?_; refine kas rfl <| RunK.nil <| And.intro (by kernel_rfl) ?_; refine LWP.seq <| LWP.seq <| LWP.region (by kernel_rfl) <| kmv rfl <| K.not rfl rfl .plain <| RunK.nil <| LWP.condF rfl ?_; refine LWP.skip ?_; refine LWP.region (by kernel_rfl) <| kmv rfl <| K.loadAll rfl rfl rfl .plain ?_; refine K.buildSlc (zs := [.bool false, .int .u64 0, .int .u64 0]) (sz := 3) (e := 63) (by kernel_rfl) rfl rfl rfl rfl rfl rfl .plain <| K.appendSlc (by_ := 24) (e2 := 63) (l2 := cQ z) rfl rfl hcl rfl rfl (Nat.le_refl _) rfl rfl (by kernel_rfl) (by kernel_rfl) (by omega) (by omega) rfl rfl hnc .plain <| kas rfl <| RunK.nil <| LWP.region (by kernel_rfl) <| kmv rfl <| kad rfl rfl (wrap_i64 (by omega)) <| kas rfl <| RunK.nil ?_)
          exact ⟨_, _, by omega, Le.ofR [(500, 70)] (by exact ⟨rfl, rfl, rfl, rfl, rfl, trivial⟩) (by repeat' (first | exact trivial | refine And.intro ⟨_, rfl, ?_⟩ ?_ | refine And.intro ⟨_, rfl⟩ ?_ | rfl | exact Box.ren_bytes _ _ _ _ | exact Box.ren_vals _ _ _ _ | exact Box.ren_mid rfl)) (by exact rfl) (by exact rfl) (by repeat' (first | refine all_cons_true ?_ ?_ | rfl | exact bytes_inUse | exact vals_inUse | exact mid_inUse rfl)) (by exact rfl) (by exact rfl), i + 1, by omega, rfl, hall2, rfl⟩
        | false =>
          rw [hf, if_neg (by simp)] at hG
          have hno : readOk E s = false := by
            unfold readOk
            cases h : E.all (fun e => fitZ e.1 (rdE s e)) with
            | false => rfl
            | true => have := List.all_eq_true.1 h _ hm; rw [hf] at this; cases this
          rw [hno, Bool.false_and, if_neg (by simp), if_neg (by decide), if_neg (by decide)]
          generalize (s.drop e.2).take (kW e.1) = t at *
          generalize kW e.1 = w at *
          (refine LWP.seq <| LWP.seq <| LWP.region (by kernel_rfl) <| kmv rfl <| kmv rfl <| K.lenSlc rfl SliceT.h rfl .plain ?_; refine klt rfl rfl (decide_eq_true (by omega)) <| RunK.nil <| LWP.condT rfl ?_; refine LWP.skip ?_; refine LWP.seq <| LWP.block <| LWP.seq <| LWP.region (by kernel_rfl) <| kmv rfl <| kmv rfl <| K.indexSlc rfl rfl (by omega) hie .plain ?_; refine kfa rfl rfl ?_; refine kl1 rfl rfl hc1 <| kca rfl rfl (hB) <| kas rfl <| RunK.nil <| LWP.seq <| LWP.draws mixed (by kernel_rfl) <| kmv rfl <| kmv rfl <| K.indexSlc rfl rfl (by omega) hie .plain ?_; refine kfa rfl rfl ?_; refine kl1 rfl rfl hc1 <| kmv rfl <| kmv rfl <| kmv rfl <| K.indexSlc rfl rfl (by omega) hie .plain ?_; refine kfa rfl rfl ?_; refine kl1 rfl rfl hc2 <| kmv rfl <| kmv rfl <| K.indexSlc rfl rfl (by omega) hie .plain ?_; refine kfa rfl rfl ?_; refine kl1 rfl rfl hc2 <| kmv rfl <| kad rfl rfl hadd <| K.sliceStr (l := e.2) (h := e.2 + w) (kl := .i64) (kh := .i64) rfl StrT.u rfl rfl ⟨(by omega), (by omega)⟩ hcut .plain <| kca rfl rfl (hG) <| kmv rfl <| kex rfl rfl <| kex rfl rfl <| K.alloc rfl .plain ?_; refine K.storeAll rfl rfl rfl rfl rfl rfl .plain ?_; refine kas rfl <| RunK.nil <| And.intro (by kernel_rfl) ?_; refine LWP.seq <| LWP.seq <| LWP.region (by kernel_rfl) <| kmv rfl <| K.not rfl rfl .plain <| RunK.nil <| LWP.condT rfl ?_; refine LWP.seq <| LWP.region (by kernel_rfl) <| kas rfl <| kas rfl <| RunK.nil <| LWP.ret ?_)
          exact ⟨[], ⟨[_, _], ⟨rfl, rfl, trivial⟩, rfl⟩, trivial, rfl, rfl⟩
      · have e : i = E.length := by omega
        subst e
        rw [List.take_length] at *
        rw [List.take_of_length_le (by omega)]
        have hok : readOk E s = true := hpre
        rw [hok, Bool.true_and]
        have hfa := hfe (by rw [hzd]; exact fit_read hW hn hok)
        have hR : ∀ z ∈ Z, R127 z := fun z hz => by
          rw [hzd] at hz
          obtain ⟨e, he, rfl⟩ := List.mem_map.1 hz
          exact (read_R hW hn he).2
        (refine LWP.seq <| LWP.seq <| LWP.region (by kernel_rfl) <| kmv rfl <| kmv rfl <| K.lenSlc rfl SliceT.h rfl .plain ?_; refine klt rfl rfl (decide_eq_false (by omega)) <| RunK.nil <| LWP.condF rfl ?_; refine LWP.exit <| LWP.seq <| LWP.seq ?_)
        refine LWP.le (σ' := ⟨[(10, .sv (.one (.slc 500 0 E.length 3))), (0, Lx ad fs.length cap), (1, Ls s)], [(500, some ⟨63, (nsV Z).map .val, Nat.blt 0 E.length⟩)], X⟩) (Le.of (by exact ⟨rfl, rfl, rfl, trivial⟩) (by exact ⟨rfl, trivial⟩) (by exact rfl) (by exact rfl) (by repeat' (first | refine all_cons_true ?_ ?_ | rfl | exact bytes_inUse | exact vals_inUse | exact mid_inUse rfl))) ?_
        refine LWP.freeze rfl rfl rfl ?_
        intro blk cp arr fr hXn hFz hcp hfit2 hsp
        have hin' := fields_more hin (o := .cells arr 63 fr) hXn
        have hns := nums_frozen (X := X) (blk := blk) (el := 63) (fr := fr) hR hsp
        have hPk := hP _ _ cp hin' hns hfa
        rw [List.length_map, hzl] at hPk
        cases hq : (B == s) with
        | false =>
          rw [if_neg (by simp), if_neg (by decide), if_neg (by decide)]
          (refine LWP.region (by kernel_rfl) <| kmv rfl <| kmv rfl <| kca rfl rfl (hPk) <| kmv rfl <| K.strNe rfl rfl (strs_ne (r := true) (by rw [hq]; rfl)) .plain <| RunK.nil <| LWP.condT rfl ?_; refine LWP.seq <| LWP.region (by kernel_rfl) <| kas rfl <| kas rfl <| RunK.nil <| LWP.ret ?_)
          exact ⟨[], ⟨[_, _], ⟨rfl, rfl, trivial⟩, rfl⟩, trivial, rfl, rfl⟩
        | true =>
          rw [if_pos rfl, if_pos rfl, if_pos rfl]
          (refine LWP.region (by kernel_rfl) <| kmv rfl <| kmv rfl <| kca rfl rfl (hPk) <| kmv rfl <| K.strNe rfl rfl (strs_ne (r := false) (by rw [hq]; rfl)) .plain <| RunK.nil <| LWP.condF rfl ?_; refine LWP.skip ?_; refine LWP.seq ?_)
          refine LWP.le (σ' := ⟨[(10, .sv (.one (.val (.slice (some ⟨blk, 0, none⟩) E.length cp))))], [], withBlock X blk (.cells arr 63 fr)⟩) (Le.of (by exact ⟨rfl, trivial⟩) (by exact trivial) (by exact rfl) (by exact rfl) (by exact rfl)) ?_
          refine LWP.thaw (k := 500) (sz := 3) (vals := nsV Z) hXn hFz hcp hfit2 hsp rfl rfl rfl (by decide) ?_
          (refine LWP.region (by kernel_rfl) <| kmv rfl <| kas rfl <| kas rfl <| RunK.nil <| LWP.ret ?_)
          exact ⟨[(1000001, 500)], ⟨[_, _], ⟨rfl, rfl, trivial⟩, by rw [hzl]; rfl⟩, (by repeat' (first | exact trivial | refine And.intro ⟨_, rfl, ?_⟩ ?_ | refine And.intro ⟨_, rfl⟩ ?_ | rfl | exact Box.ren_bytes _ _ _ _ | exact Box.ren_vals _ _ _ _ | exact Box.ren_mid rfl)), rfl, rfl⟩
    · rw [decide_eq_false hn, Bool.false_and, if_neg (by simp), if_neg (by decide), if_neg (by decide)]
      (refine LWP.seq <| LWP.region (by kernel_rfl) <| kas rfl <| kas rfl <| RunK.nil <| LWP.seq <| LWP.region (by kernel_rfl) <| kmv rfl <| K.callMp [(1000001, 501), (1000002, 502)] (.tup [.one (.slc 501 0 E.length 2), Sn .i64 (T : Nat), .one (.slc 502 0 fs.length 1), Sn .i64 0]) [(501, some ⟨106, (elVs E).map .val, Nat.blt 0 E.length⟩), (502, some ⟨3, (ntV S).map .val, Nat.blt 0 fs.length⟩)] (hL) rfl rfl (by exact trivial) rfl rfl rfl rfl rfl (by exact (.box rfl (Box.ren_vals _ _ _ _) (.box rfl (Box.ren_vals _ _ _ _) .nil))) .plain <| kmv rfl <| kex rfl rfl <| kex rfl rfl <| kex rfl rfl <| kex rfl rfl ?_; refine kas rfl <| kas rfl <| kas rfl <| kas rfl <| RunK.nil <| LWP.seq <| LWP.seq <| LWP.region (by kernel_rfl) <| kmv rfl <| kne rfl rfl ((bne_eq_false_iff_eq.2 (by omega))) <| RunK.nil <| LWP.condF rfl ?_; refine LWP.skip ?_; refine LWP.seq <| LWP.seq <| LWP.region (by kernel_rfl) <| kmv rfl <| kln rfl <| kmv rfl <| kne rfl rfl (bne_iff_ne.2 (by omega)) <| RunK.nil <| LWP.condT rfl ?_; refine LWP.seq <| LWP.region (by kernel_rfl) <| kas rfl <| kas rfl <| RunK.nil <| LWP.ret ?_)
      exact ⟨[], ⟨[_, _], ⟨rfl, rfl, trivial⟩, rfl⟩, trivial, rfl, rfl⟩
  · have hL := Lay_no X ad cap fs hin hbig hl
    have hue : unpErr fs s = layErr fs := if_neg hl
    unfold unpR unpBx
    rw [hue, if_neg hl, if_neg hl]
    generalize layErr fs = e at *
    (refine LWP.seq <| LWP.region (by kernel_rfl) <| kas rfl <| kas rfl <| RunK.nil <| LWP.seq <| LWP.region (by kernel_rfl) <| kmv rfl <| K.callM [] [] (hL) rfl rfl (by exact trivial) rfl rfl rfl rfl rfl (by exact .nil) .plain <| kmv rfl <| kex rfl rfl <| kex rfl rfl <| kex rfl rfl <| kex rfl rfl ?_; refine kas rfl <| kas rfl <| kas rfl <| kas rfl <| RunK.nil <| LWP.seq <| LWP.seq <| LWP.region (by kernel_rfl) <| kmv rfl <| kne rfl rfl (bne_iff_ne.2 (by omega)) <| RunK.nil <| LWP.condT rfl ?_; refine LWP.seq <| LWP.region (by kernel_rfl) <| kmv rfl <| kas rfl <| kas rfl <| RunK.nil <| LWP.ret ?_)
    exact ⟨[], ⟨[_, _], ⟨rfl, rfl, trivial⟩, rfl⟩, trivial, rfl, rfl⟩
end Go.Proofs.YtnomcmklhbjfjaaGreatDoor
end
section
namespace Go.Lg
open Go Go.RowKit
section
variable {P : Program} {n : Nat} {C : Ctx} {c y x z : Code} {Q Q1 Q2 : Exit → St → Prop} {X : Nat → Option Obj} {σ : St}
structure Leads (n : Nat) (C : Ctx) (Mid : St → Prop) (σ : St) : Prop where
  out : ∀ ι a w, Rel n C ι σ a w → ∃ ι' σ', Mid σ' ∧ Rel n C ι' σ' a w
theorem Leads.here {Mid : St → Prop} {σ' : St} (hle : Le n C σ σ') (h : Mid σ') : Leads n C Mid σ := ⟨fun ι a w hr => by
  obtain ⟨ι', hr'⟩ := hle.out ι a w hr
  exact ⟨ι', σ', h, hr'⟩⟩
theorem Leads.le {Mid : St → Prop} {σ' : St} (hle : Le n C σ σ') (h : Leads n C Mid σ') : Leads n C Mid σ := ⟨fun ι a w hr => by
  obtain ⟨ι', hr'⟩ := hle.out ι a w hr
  exact h.out ι' a w hr'⟩
theorem LWP.ofLeads {Mid : St → Prop} (h : Leads n C Mid σ) (hm : ∀ σ, Mid σ → LWP P n C y Q σ) : LWP P n C y Q σ := by
  refine ⟨fun ι a w hr => ?_⟩
  obtain ⟨ι', σ', hM, hr'⟩ := h.out ι a w hr
  exact (hm σ' hM).out ι' a w hr'
theorem Leads.freeze {Mid : St → Prop} {s : List (Nat × LV)} {bx : List (Nat × Option Box)} {d k off len sz : Nat} {el : TypeId} {vals : List Value} {row : Bool}
    (hs : s.all (fun p => p.2.inUse bx) = true) (hb : bx.all (fun p => match p.2 with | some b => b.cells.all (CV.inUse bx) | none => true) = true) (hk : look k bx = none)
    (h : ∀ (blk cap : Nat) (arr : Array Value) (fr : Nat × Nat), X blk = none → Frozen C blk arr fr → len ≤ cap → off + cap * sz ≤ arr.size → (∃ sp, arr.toList = vals ++ sp) →
      Leads n C Mid ⟨(d, .sv (.one (.val (.slice (some ⟨blk, off, none⟩) len cap)))) :: s, bx, withBlock X blk (.cells arr el fr)⟩) :
    Leads n C Mid ⟨(d, .sv (.one (.slc k off len sz))) :: s, (k, some ⟨el, vals.map .val, row⟩) :: bx, X⟩ := ⟨fun ι a w hr => by
  obtain ⟨blk, cap, arr, fr, h1, h2, h3, h4, h5, h6⟩ := hr.freeze hs hb hk
  exact (h blk cap arr fr h1 h2 h3 h4 h5).out ι a w h6⟩
theorem LWP.meetL (Mid : St → Prop) (h : LWP P n C c (thenQ (Leads n C Mid) (fun _ _ => False)) σ) (hm : ∀ σ, Mid σ → LWP P n C y Q σ) : LWP P n C c (thenQ (LWP P n C y Q) Q2) σ := by
  refine h.mono ?_
  intro e σ' hq
  cases e with
  | normal => exact LWP.ofLeads hq hm
  | exit id' => exact hq.elim
  | goto l => exact hq.elim
  | ret => exact hq.elim
  | panic c => exact hq.elim
  | outgrown => exact hq.elim
theorem rel_mid {S : Nat → Option (Option Box)} {ι : Nat → Nat × Nat} : ∀ {A : List CV} {c : CV} {B : List CV} {vs : List Value}, CVs.rel S ι (A ++ c :: B) vs → ∃ va v vb, vs = va ++ v :: vb ∧ CVs.rel S ι A va ∧ c.rel S ι v ∧ CVs.rel S ι B vb
  | [], c, B, [], h => h.elim
  | [], c, B, v :: vs, h => ⟨[], v, vs, rfl, trivial, h.1, h.2⟩
  | a :: A, c, B, [], h => h.elim
  | a :: A, c, B, v :: vs, h => by
    obtain ⟨va, u, vb, e, h1, h2, h3⟩ := rel_mid (A := A) (c := c) (B := B) h.2
    exact ⟨v :: va, u, vb, by rw [e]; rfl, ⟨h.1, h1⟩, h2, h3⟩
theorem Rel.freezeCell {ι : Nat → Nat × Nat} {a : Act} {w : World} {s : List (Nat × LV)} {bx : List (Nat × Option Box)} {j k off len sz : Nat} {el el2 : TypeId} {A B : List CV} {row2 : Bool} {vals : List Value} {row : Bool}
    (hs : s.all (fun p => p.2.inUse ((j, none) :: bx)) = true) (hA : A.all (CV.inUse ((j, none) :: bx)) = true) (hB : B.all (CV.inUse ((j, none) :: bx)) = true) (hb : bx.all (fun p => match p.2 with | some b => b.cells.all (CV.inUse ((j, none) :: bx)) | none => true) = true) (hk : look k bx = none) (hjk : Nat.beq j k = false)
    (hr : Rel n C ι ⟨s, (j, some ⟨el2, A ++ .slc k off len sz :: B, row2⟩) :: (k, some ⟨el, vals.map .val, row⟩) :: bx, X⟩ a w) :
    ∃ (blk cap : Nat) (arr : Array Value) (fr : Nat × Nat), X blk = none ∧ Frozen C blk arr fr ∧ len ≤ cap ∧ off + cap * sz ≤ arr.size ∧ (∃ sp, arr.toList = vals ++ sp) ∧
      Rel n C ι ⟨s, (j, some ⟨el2, A ++ .val (.slice (some ⟨blk, off, none⟩) len cap) :: B, row2⟩) :: bx, withBlock X blk (.cells arr el fr)⟩ a w := by
  have hjk' : j ≠ k := fun e => by rw [e, Nat.beq_refl] at hjk; cases hjk
  have hst : (⟨s, (j, some ⟨el2, A ++ .slc k off len sz :: B, row2⟩) :: (k, some ⟨el, vals.map .val, row⟩) :: bx, X⟩ : St).stat k = some (some ⟨el, vals.map .val, row⟩) := by
    simp [St.stat, look, hjk]
  have hstj : (⟨s, (j, some ⟨el2, A ++ .slc k off len sz :: B, row2⟩) :: (k, some ⟨el, vals.map .val, row⟩) :: bx, X⟩ : St).stat j = some (some ⟨el2, A ++ .slc k off len sz :: B, row2⟩) := by
    simp [St.stat, look]
  have hlk : ∀ k' x, look k' bx = some x → k' ≠ k := fun k' x h' e => by rw [e, hk] at h'; cases h'
  have hstb : ∀ k', k' ≠ j → ∀ x, look k' bx = some x → (⟨s, (j, some ⟨el2, A ++ .slc k off len sz :: B, row2⟩) :: (k, some ⟨el, vals.map .val, row⟩) :: bx, X⟩ : St).stat k' = some x := fun k' hne x h' => by
    simp only [St.stat, look]
    cases e : Nat.beq j k' with
    | true => exact absurd (Nat.eq_of_beq_eq_true e).symm hne
    | false =>
      cases e2 : Nat.beq k k' with
      | true => exact absurd (Nat.eq_of_beq_eq_true e2).symm (hlk k' x h')
      | false => exact h'
  obtain ⟨arr, fr, harr, hth, hsz, hbr⟩ := hr.boxes k _ hst rfl
  obtain ⟨arrj, frj, harrj, hthj, hszj, hbrj⟩ := hr.boxes j _ hstj rfl
  have hXn : X (ι k).1 = none := (hr.own k _ hst).2
  have hsp : ∃ sp, arr.toList = vals ++ sp := by
    unfold Box.rel at hbr
    cases hrow : row with
    | false =>
      rw [hrow] at hbr
      exact ⟨[], by rw [List.append_nil]; exact rel_vals hbr⟩
    | true =>
      rw [hrow] at hbr
      obtain ⟨us, sp, e, hl⟩ := hbr
      exact ⟨sp, by rw [e, rel_vals hl]⟩
  have hcell : ∃ us sp va v vb, arrj.toList = us ++ sp ∧ (row2 = false → sp = []) ∧ us = va ++ v :: vb ∧ CVs.rel (⟨s, (j, some ⟨el2, A ++ .slc k off len sz :: B, row2⟩) :: (k, some ⟨el, vals.map .val, row⟩) :: bx, X⟩ : St).stat ι A va ∧ (CV.slc k off len sz).rel (⟨s, (j, some ⟨el2, A ++ .slc k off len sz :: B, row2⟩) :: (k, some ⟨el, vals.map .val, row⟩) :: bx, X⟩ : St).stat ι v ∧ CVs.rel (⟨s, (j, some ⟨el2, A ++ .slc k off len sz :: B, row2⟩) :: (k, some ⟨el, vals.map .val, row⟩) :: bx, X⟩ : St).stat ι B vb := by
    generalize (⟨s, (j, some ⟨el2, A ++ .slc k off len sz :: B, row2⟩) :: (k, some ⟨el, vals.map .val, row⟩) :: bx, X⟩ : St).stat = S at hbrj ⊢
    unfold Box.rel at hbrj
    cases row2 with
    | false =>
      obtain ⟨va, v, vb, e, h1, h2, h3⟩ := rel_mid hbrj
      exact ⟨arrj.toList, [], va, v, vb, by simp, fun _ => rfl, e, h1, h2, h3⟩
    | true =>
      obtain ⟨us, sp, e0, hl⟩ := hbrj
      obtain ⟨va, v, vb, e, h1, h2, h3⟩ := rel_mid hl
      exact ⟨us, sp, va, v, vb, e0, fun h => (by cases h), e, h1, h2, h3⟩
  obtain ⟨us, sp2, va, v, vb, eus, hsp2, evs, h1, h2, h3⟩ := hcell
  simp only [CV.rel] at h2
  rw [hst] at h2
  obtain ⟨cap, rfl, hcap, hfit⟩ := h2
  refine ⟨(ι k).1, cap, arr, fr, hXn, ⟨(hr.own k _ hst).1, hth⟩, hcap, by omega, hsp, ?_⟩
  have hon : ∀ k', (look k' ((j, (none : Option Box)) :: bx)).isSome = true → k' ≠ k := fun k' hk' e => by
    subst e
    simp only [look, hjk, cond_false, hk] at hk'
    cases hk'
  have hnew : ∀ k', (⟨s, (j, some ⟨el2, A ++ .val (.slice (some ⟨(ι k).1, off, none⟩) len cap) :: B, row2⟩) :: bx, withBlock X (ι k).1 (.cells arr el fr)⟩ : St).stat k' = if k' = j then some (some ⟨el2, A ++ .val (.slice (some ⟨(ι k).1, off, none⟩) len cap) :: B, row2⟩) else look k' bx := fun k' => by
    simp only [St.stat, look]
    cases e : Nat.beq j k' with
    | true => rw [if_pos (Nat.eq_of_beq_eq_true e).symm]; rfl
    | false => rw [if_neg (fun h => by rw [h, Nat.beq_refl] at e; cases e)]; rfl
  have hstat : ∀ k', k' ≠ k → ∀ x, (⟨s, (j, some ⟨el2, A ++ .val (.slice (some ⟨(ι k).1, off, none⟩) len cap) :: B, row2⟩) :: bx, withBlock X (ι k).1 (.cells arr el fr)⟩ : St).stat k' = some (some x) → ∃ y, (⟨s, (j, some ⟨el2, A ++ .slc k off len sz :: B, row2⟩) :: (k, some ⟨el, vals.map .val, row⟩) :: bx, X⟩ : St).stat k' = some (some y) := fun k' hne x hx => by
    rw [hnew] at hx
    by_cases e : k' = j
    · rw [e]; exact ⟨_, hstj⟩
    · rw [if_neg e] at hx
      exact ⟨x, hstb k' e _ hx⟩
  have hmean : ∀ {c : CV} {v : Value}, c.inUse ((j, none) :: bx) = true → c.rel (⟨s, (j, some ⟨el2, A ++ .slc k off len sz :: B, row2⟩) :: (k, some ⟨el, vals.map .val, row⟩) :: bx, X⟩ : St).stat ι v →
      c.rel (⟨s, (j, some ⟨el2, A ++ .val (.slice (some ⟨(ι k).1, off, none⟩) len cap) :: B, row2⟩) :: bx, withBlock X (ι k).1 (.cells arr el fr)⟩ : St).stat ι v := fun {c v} hu hc => by
    have key : ∀ k', (look k' ((j, (none : Option Box)) :: bx)).isSome = true → (k' = j) ∨ (k' ≠ j ∧ ∃ x, look k' bx = some x ∧ (⟨s, (j, some ⟨el2, A ++ .slc k off len sz :: B, row2⟩) :: (k, some ⟨el, vals.map .val, row⟩) :: bx, X⟩ : St).stat k' = some x) := fun k' hk' => by
      by_cases e : k' = j
      · exact .inl e
      · right
        have e2 : Nat.beq j k' = false := by
          cases h : Nat.beq j k' with
          | false => rfl
          | true => exact absurd (Nat.eq_of_beq_eq_true h).symm e
        simp only [look, e2, cond_false] at hk'
        obtain ⟨x, hx⟩ := Option.isSome_iff_exists.1 hk'
        exact ⟨e, x, hx, hstb k' e x hx⟩
    cases c with
    | val u => exact hc
    | junk => trivial
    | ptr k' o =>
      simp only [CV.rel] at hc ⊢
      rw [hnew]
      rcases key k' hu with e | ⟨e, x, hx, hx2⟩
      · subst e
        rw [hstj] at hc
        rw [if_pos rfl]; exact hc
      · rw [hx2] at hc
        rw [if_neg e, hx]; exact hc
    | slc k' o n' z' =>
      simp only [CV.rel] at hc ⊢
      rw [hnew]
      rcases key k' hu with e | ⟨e, x, hx, hx2⟩
      · subst e
        rw [hstj] at hc
        rw [if_pos rfl]; exact hc
      · rw [hx2] at hc
        rw [if_neg e, hx]; exact hc
    | mp k' =>
      simp only [CV.rel] at hc ⊢
      rw [hnew]
      rcases key k' hu with e | ⟨e, x, hx, hx2⟩
      · subst e
        rw [hstj] at hc
        rw [if_pos rfl]; exact hc
      · rw [hx2] at hc
        rw [if_neg e, hx]; exact hc
  have hmeans : ∀ {l : List CV} {vs : List Value}, l.all (CV.inUse ((j, none) :: bx)) = true → CVs.rel (⟨s, (j, some ⟨el2, A ++ .slc k off len sz :: B, row2⟩) :: (k, some ⟨el, vals.map .val, row⟩) :: bx, X⟩ : St).stat ι l vs →
      CVs.rel (⟨s, (j, some ⟨el2, A ++ .val (.slice (some ⟨(ι k).1, off, none⟩) len cap) :: B, row2⟩) :: bx, withBlock X (ι k).1 (.cells arr el fr)⟩ : St).stat ι l vs := by
    intro l
    induction l with
    | nil => intro vs _ h; cases vs with
      | nil => trivial
      | cons => exact h.elim
    | cons c l ih => intro vs hu h; cases vs with
      | nil => exact h.elim
      | cons v vs =>
        simp only [List.all_cons, Bool.and_eq_true] at hu
        exact ⟨hmean hu.1 h.1, ih hu.2 h.2⟩
  have hsv : ∀ {l : SV} {v : Value}, l.inUse ((j, none) :: bx) = true → l.rel (⟨s, (j, some ⟨el2, A ++ .slc k off len sz :: B, row2⟩) :: (k, some ⟨el, vals.map .val, row⟩) :: bx, X⟩ : St).stat ι v →
      l.rel (⟨s, (j, some ⟨el2, A ++ .val (.slice (some ⟨(ι k).1, off, none⟩) len cap) :: B, row2⟩) :: bx, withBlock X (ι k).1 (.cells arr el fr)⟩ : St).stat ι v := fun {l v} hu h => by
    cases l with
    | one c => exact hmean hu h
    | agg l => obtain ⟨arr', e, hl⟩ := h; exact ⟨arr', e, hmeans hu hl⟩
  exact {
    defers := hr.defers, size := hr.size
    slots := fun d' lv hd => by
      obtain ⟨v', hv', hr'⟩ := hr.slots d' lv hd
      refine ⟨v', hv', ?_⟩
      have hu : lv.inUse ((j, none) :: bx) = true := List.all_eq_true.1 hs _ (look_mem hd)
      cases lv with
      | sv l => exact hsv hu hr'
      | tup l =>
        obtain ⟨arr', e, hl⟩ := hr'
        refine ⟨arr', e, ?_⟩
        generalize arr'.toList = vs at hl
        have hu2 : l.all (SV.inUse ((j, none) :: bx)) = true := hu
        clear hu hd hv'
        induction l generalizing vs with
        | nil => cases vs with
          | nil => trivial
          | cons => exact hl.elim
        | cons c l ih => cases vs with
          | nil => exact hl.elim
          | cons v vs =>
            simp only [List.all_cons, Bool.and_eq_true] at hu2
            exact ⟨hsv hu2.1 hl.1, ih vs hl.2 hu2.2⟩
    res := by
      obtain ⟨F, hF⟩ := hr.res
      refine hF.keep (fun i e cs R hi => ?_) (fun _ _ _ _ _ hj => hj) (fun _ _ ho => ho) (fun b _ hx hne _ => ?_) (fun i bi hi => ?_)
      · rw [hnew] at hi
        by_cases e : i = j
        · rw [if_pos e] at hi; cases hi
        · rw [if_neg e] at hi; exact ⟨hstb i e _ hi, rfl⟩
      · show withBlock X (ι k).1 _ b = none
        unfold withBlock
        rw [if_neg (fun e => hne k _ hst rfl e.symm)]
        exact hx
      · have hne : i ≠ k := fun e => by
          rw [hnew, e] at hi
          by_cases e2 : k = j
          · exact hjk' e2.symm
          · rw [if_neg e2, hk] at hi; cases hi
        obtain ⟨y, hy⟩ := hstat i hne bi hi
        exact .inl ⟨y, hy, rfl⟩
    boxes := fun k' b hb' hbk => by
      rw [hnew] at hb'
      by_cases e : k' = j
      · subst e
        rw [if_pos rfl] at hb'
        cases hb'
        refine ⟨arrj, frj, harrj, hthj, hszj, ?_⟩
        have hnewcells : CVs.rel (⟨s, (k', some ⟨el2, A ++ .val (.slice (some ⟨(ι k).1, off, none⟩) len cap) :: B, row2⟩) :: bx, withBlock X (ι k).1 (.cells arr el fr)⟩ : St).stat ι (A ++ .val (.slice (some ⟨(ι k).1, off, none⟩) len cap) :: B) us := by
          rw [evs]
          exact CVs.rel_append (hmeans hA h1) ⟨rfl, hmeans hB h3⟩
        unfold Box.rel
        cases row2 with
        | false => rw [hsp2 rfl, List.append_nil] at eus; rw [eus]; exact hnewcells
        | true => exact ⟨us, sp2, eus, hnewcells⟩
      · rw [if_neg e] at hb'
        obtain ⟨arr', fr', g1, g2, g3, g4⟩ := hr.boxes k' b (hstb k' e _ hb') hbk
        refine ⟨arr', fr', g1, g2, g3, ?_⟩
        have hu : b.cells.all (CV.inUse ((j, none) :: bx)) = true := by simpa using List.all_eq_true.1 hb _ (look_mem hb')
        unfold Box.rel at g4 ⊢
        cases hrow : b.row with
        | res R => rw [hrow] at g4; exact g4.elim
        | bool r =>
          cases r with
          | false => rw [hrow] at g4; exact hmeans hu g4
          | true => rw [hrow] at g4; obtain ⟨us', sp', e', hl'⟩ := g4; exact ⟨us', sp', e', hmeans hu hl'⟩
    own := fun k' b hb' => by
      have hne : k' ≠ k := fun e => by
        rw [hnew, e] at hb'
        by_cases e2 : k = j
        · exact hjk' e2.symm
        · rw [if_neg e2, hk] at hb'; cases hb'
      obtain ⟨b0, hb0⟩ := hstat k' hne b hb'
      obtain ⟨g1, g2⟩ := hr.own k' b0 hb0
      refine ⟨g1, ?_⟩
      show withBlock X (ι k).1 _ (ι k').1 = none
      unfold withBlock
      rw [if_neg (fun e => hne (hr.inj k' k b0 _ hb0 hst e))]
      exact g2
    inj := fun k1 k2 b1 b2 g1 g2 he => by
      have hne : ∀ k' b, (⟨s, (j, some ⟨el2, A ++ .val (.slice (some ⟨(ι k).1, off, none⟩) len cap) :: B, row2⟩) :: bx, withBlock X (ι k).1 (.cells arr el fr)⟩ : St).stat k' = some (some b) → k' ≠ k := fun k' b hb' e => by
        rw [hnew, e] at hb'
        by_cases e2 : k = j
        · exact hjk' e2.symm
        · rw [if_neg e2, hk] at hb'; cases hb'
      obtain ⟨c1, hc1⟩ := hstat k1 (hne k1 b1 g1) b1 g1
      obtain ⟨c2, hc2⟩ := hstat k2 (hne k2 b2 g2) b2 g2
      exact hr.inj k1 k2 c1 c2 hc1 hc2 he
    keep := fun k' b hb' hge => by
      have hne : k' ≠ k := fun e => by
        rw [hnew, e] at hb'
        by_cases e2 : k = j
        · exact hjk' e2.symm
        · rw [if_neg e2, hk] at hb'; cases hb'
      obtain ⟨b0, hb0⟩ := hstat k' hne b hb'
      exact hr.keep k' b0 hb0 hge
    ext := fun b o hbo => by
      have hbo : withBlock X (ι k).1 (.cells arr el fr) b = some o := hbo
      unfold withBlock at hbo
      by_cases e : b = (ι k).1
      · rw [if_pos e] at hbo
        rw [e, harr]; exact hbo
      · rw [if_neg e] at hbo
        exact hr.ext b o hbo
    frame := hr.frame, big := hr.big, os := hr.os, tape := hr.tape, output := hr.output }
theorem Leads.freezeCell {Mid : St → Prop} {s : List (Nat × LV)} {bx : List (Nat × Option Box)} {j k off len sz : Nat} {el el2 : TypeId} {A B : List CV} {row2 : Bool} {vals : List Value} {row : Bool}
    (hs : s.all (fun p => p.2.inUse ((j, none) :: bx)) = true) (hA : A.all (CV.inUse ((j, none) :: bx)) = true) (hB : B.all (CV.inUse ((j, none) :: bx)) = true) (hb : bx.all (fun p => match p.2 with | some b => b.cells.all (CV.inUse ((j, none) :: bx)) | none => true) = true) (hk : look k bx = none) (hjk : Nat.beq j k = false)
    (h : ∀ (blk cap : Nat) (arr : Array Value) (fr : Nat × Nat), X blk = none → Frozen C blk arr fr → len ≤ cap → off + cap * sz ≤ arr.size → (∃ sp, arr.toList = vals ++ sp) →
      Leads n C Mid ⟨s, (j, some ⟨el2, A ++ .val (.slice (some ⟨blk, off, none⟩) len cap) :: B, row2⟩) :: bx, withBlock X blk (.cells arr el fr)⟩) :
    Leads n C Mid ⟨s, (j, some ⟨el2, A ++ .slc k off len sz :: B, row2⟩) :: (k, some ⟨el, vals.map .val, row⟩) :: bx, X⟩ := ⟨fun ι a w hr => by
  obtain ⟨blk, cap, arr, fr, h1, h2, h3, h4, h5, h6⟩ := hr.freezeCell hs hA hB hb hk hjk
  exact (h blk cap arr fr h1 h2 h3 h4 h5).out ι a w h6⟩
end
end Go.Lg
end
section
namespace Go.Lg
open Go Go.RowKit
theorem args_rel : ∀ (vals : List Value), LVs.rel noS (fun _ => (0, 0)) (vals.map toLV) vals
  | [] => trivial
  | v :: vs => ⟨toLV_rel _ _ v, args_rel vs⟩
section
variable {P : Program} {n : Nat} {ops os : List Oper} {acc : List Eff} {K : List Eff → St → Prop} {s : List (Nat × LV)} {bx : List (Nat × Option Box)} {X : Nat → Option Obj} {σ : St}
theorem LOK.fieldAddrX {d : Nat} {s i : Nat} {x : Operand} {ty : TypeId} {pos : String} {after : Array Edge} {g : Option (Nat × Bool)} {b off o m : Nat} {off' : Nat} (hx : σ.ev x = some (.sv (.one (.val (.pointer (some ⟨b, off, none⟩))))))
    (hf : fieldOf P s i = some (o, m + 1)) (ho : off + o = off') :
    LOK P n ops ⟨some d, .fieldAddr s x i, ty, pos, after, g⟩ σ ⟨[(d, .sv (.one (.val (.pointer (some ⟨b, off', none⟩)))))], [], []⟩ :=
  LOK.value fun σ' ha C ι a w hr => by
    have h1 : a.eval x = _ := hr.ev ((ha.ev (x := x) (by simp [Op.operands])).trans hx)
    subst ho
    unfold fieldOf at hf
    cases hu : P.underlying s with
    | none => simp [hu] at hf
    | some dd =>
      cases dd <;> simp only [hu] at hf <;> try (simp at hf; done)
      rename_i fs
      cases hfi : fs[i]? with
      | none => simp [hfi] at hf
      | some f =>
        cases hin : P.info? f.type with
        | none => simp [hfi, hin] at hf
        | some inf =>
          simp only [hfi, hin, Option.map_some, Option.some.injEq, Prod.mk.injEq] at hf
          obtain ⟨e1, e2⟩ := hf
          refine ⟨_, ?_, rfl⟩
          simp [execOp, Instr.fieldAt, run_underlying hu, hfi, Instr.sureAddr, h1, fieldPlace, sizeOf, typeInfo, hin, e2, addr_add, e1]
theorem K.fieldAddrX {d : Nat} {t : TypeId} {x : Operand} {ty : TypeId} {pos : String} {after : Array Edge} {g : Option (Nat × Bool)} {i b off o m : Nat} [f : FieldT P t i o m] (hx : (⟨s, bx, X⟩ : St).ev x = some (.sv (.one (.val (.pointer (some ⟨b, off, none⟩)))))) {off' : Nat} (ho : Nat.add off o = off') (hw : Want ops s g)
    (kont : RunK P n ops os ⟨(d, .sv (.one (.val (.pointer (some ⟨b, off', none⟩))))) :: s, bx, X⟩ (⟨[(d, .sv (.one (.val (.pointer (some ⟨b, off', none⟩)))))], [], []⟩ :: acc) K) :
    RunK P n ops (⟨some d, .fieldAddr t x i, ty, pos, after, g⟩ :: os) ⟨s, bx, X⟩ acc K := RunK.g1 (LOK.fieldAddrX hx f.h ho) hw kont
end
end Go.Lg
end
section
namespace Go.Lg
open Go Go.RowKit
section
variable {P : Program} {n : Nat} {ops os : List Oper} {acc : List Eff} {K : List Eff → St → Prop} {s : List (Nat × LV)} {bx : List (Nat × Option Box)} {X : Nat → Option Obj} {σ : St}
end
end Go.Lg
end
